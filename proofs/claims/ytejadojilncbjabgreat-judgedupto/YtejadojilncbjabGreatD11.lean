import Derived.Test.YtejadojilncbjabGreatD10
namespace Go.Proofs.YtejadojilncbjabGreat
set_option linter.unusedVariables false
def Wrt (h : Th) (s : Int) : Prop := match h.st with
 | .cLeave _ => s ∈ h.x.held
 | .cWord _ _ => s ∈ h.x.held
 | .cOpen _ r => s ∈ r
 | .cOwn _ r => s ∈ r.tail
 | _ => False
theorem wrt_shuts {h : Th} {s : Int} (a : Wrt h s) : Shuts h s := by
 unfold Wrt at a
 unfold Shuts
 cases hst : h.st <;> rw [hst] at a <;> simp only at a ⊢ <;> first
  | exact a.elim
  | exact a
structure Phys (K : Cx) (G : Gh) (m : Int → Int) : Prop where
 opn : ∀ s, 0 ≤ s → s < K.c.s → m (3 + s) ≠ -1 → G.nv s = m (3 + s) ∧ m (3 + s) ≤ m 0 ∧ ∀ a, 0 ≤ a → a < K.c.wd → a.tmod K.c.s = s → ∀ n, G.nv s ≤ n → G.W n a = m (hWrd K a)
 late : ∀ n, m 0 ≤ n → ∀ a, 0 ≤ a → a < K.c.wd → G.W n a = G.W (m 0) a
 pos : 0 ≤ m 0
theorem Phys.stab {K : Cx} {G : Gh} {m : Int → Int} (P : Phys K G m) {s : Int} (s0 : 0 ≤ s) (s1 : s < K.c.s) (ho : m (3 + s) ≠ -1) (n : Int) : Stab K G s (m (3 + s)) n := by
 obtain ⟨e, _, w⟩ := P.opn s s0 s1 ho
 intro a a0 a1 ea i h1 h2
 rw [w a a0 a1 ea i (by omega), w a a0 a1 ea (m (3 + s)) (by omega)]
theorem si_got {K : Cx} {G : Gh} {m : Int → Int} {k : Int} {h : Th} {i : InsD} {a v : Int} (A : Onn K k h) (R : Go1 K G m h) (ha : 0 ≤ a) (ha1 : a < K.c.wd) (v0 : 0 ≤ v) (v1 : v ≤ 65535) (hv : overW h.x.writes (G.W h.x.valid) a = v)
  (hn : (∃ e ∈ h.x.reads, e.what = a.tmod K.c.s ∧ e.val ≤ h.x.valid) ∨ (a.tmod K.c.s ∈ h.x.held ∧ ¬ NoSk (a.tmod K.c.s))) : SI K G m (hGot K i a v h) :=
 si_go ((A.setx _ (A.x.setReg _ _ v0 v1)).noted _ _ _) ⟨R.1.read ha ha1 hv hn, R.2⟩
theorem si_wrote {K : Cx} {G : Gh} {m : Int → Int} {k : Int} {h : Th} {i : InsD} {a : Int} (A : Onn K k h) (R : Go1 K G m h) (ha : AOk K i a) (hh : a.tmod K.c.s ∈ h.x.held) : SI K G m (hWrote K i a h) := by
 have A1 := put_ok (i := i) A ha.1 ha.2.1
 have R1 : Go1 K G m (hPut i a h) := ⟨R.1.put ha.1 ha.2.1 hh (fun f => f), R.2⟩
 unfold hWrote
 split
 ·exact si_go A1 R1
 ·exact go1_of R1 rfl rfl rfl rfl rfl
theorem agree {K : Cx} {G : Gh} {m : Int → Int} {sk : Int → Prop} {h : Th} {c k : Int} (X : XOk K k h.x) (P : Phys K G m) (R : Run K G (m 0) sk h) (hvc : h.x.valid ≤ c) (ho : ∀ s ∈ h.x.held, m (3 + s) ≠ -1) (hst : ∀ e ∈ h.x.reads, e.what ∈ h.x.held ∧ ¬ sk e.what ∨ Stab K G e.what e.val c) :
  ∀ n ∈ (cur h.list).notes, G.W h.x.valid n.addr = G.W c n.addr := by
 intro n hn
 have A := (R.li _ (cur_mem R.ne)).inn n hn
 have held : ∀ s, n.addr.tmod K.c.s = s → s ∈ h.x.held → ¬ sk s → G.W h.x.valid n.addr = G.W c n.addr := fun s e hs hk => by
  obtain ⟨_, _, w⟩ := P.opn s (X.hd s hs).1 (X.hd s hs).2 (ho s hs)
  have := R.hd s hs hk
  rw [w _ A.2.1 A.2.2 e _ this, w _ A.2.1 A.2.2 e c (by omega)]
 rcases R.nt n hn with ⟨e, he, e1, e2⟩ | ⟨x, y⟩
 ·rcases hst e he with ⟨x, y⟩ | x
  ·exact held e.what e1.symm x y
  ·rw [x _ A.2.1 A.2.2 e1.symm h.x.valid e2 hvc, x _ A.2.1 A.2.2 e1.symm c (by omega) (Int.le_refl _)]
 ·exact held _ rfl x y
theorem si_exdone {K : Cx} {G : Gh} {m : Int → Int} {k : Int} {h : Th} {x : Ex} {c : Int} (A : Onn K k h) (P : Phys K G m) (hx : ExOk K x) (hck : 0 ≤ c ∧ c ≤ k) (hh : exHeld K h x) (X : XI K G m h c x) (hvc : h.x.valid ≤ c) (hcm : c ≤ m 0) (ho : ∀ s ∈ h.x.held, m (3 + s) ≠ -1)
  (Q : ∀ e ∈ h.x.reads, Stab K G e.what e.val c ∧ (G.nv e.what = e.val ∨ c < G.nv e.what) ∧ Chk K h e x) : SI K G m (hExDone K x c h) := by
 have core : ∀ (sk : Int → Prop), Run K G (m 0) sk h → (∀ s ∈ h.x.held, sk s → G.nv s ≤ c) → (∀ e ∈ h.x.reads, e.val ≤ c) → Go1 K G m { h with list := modLast h.list (fun t => { t with valid := c }), x := { h.x with valid := c } } := by
  intro sk R hsk hle
  have hag := agree A.x P R hvc ho (fun e he => Or.inr (Q e he).1)
  have hcur : cur (modLast h.list fun t => { t with valid := c }) = { cur h.list with valid := c } := cur_mod R.ne _
  have Ac := R.li _ (cur_mem R.ne)
  refine ⟨⟨R.wh, ?_, mod_ne R.ne _, ?_, ?_, ?_, fun e he => (Q e he).2.1, fun e he => (Q e he).1, fun s hs _ => ?_, ?_⟩, hle⟩
  ·refine all_mod R.li ⟨Ac.inn, hck.1, Or.inl ⟨R.sp, hcm, ?_⟩⟩
   exact fOk_congr _ _ _ hag R.ok.1
  ·rw [hcur]
  ·rw [hcur]; exact R.sp
  ·rw [hcur]; exact R.ov
  ·by_cases q : sk s
   ·exact hsk s hs q
   ·have := R.hd s hs q
    show _ ≤ c
    omega
  ·rw [hcur]
   intro n hn
   rcases R.nt n hn with ⟨e, he, e1, e2⟩ | ⟨x, y⟩
   ·exact Or.inl ⟨e, he, e1, by show e.val ≤ c; omega⟩
   ·exact Or.inr ⟨x, fun f => f⟩
 have A1 : Onn K k { h with list := modLast h.list (fun t => { t with valid := c }), x := { h.x with valid := c } } := ⟨A.rank, ⟨A.x.four, A.x.rg, A.x.wr, A.x.rd, A.x.hd, A.x.wn, A.x.rn, A.x.hn, hck, A.x.way, A.x.plc, A.x.bg⟩⟩
 cases x with
 | rd i a w =>
  obtain ⟨R, nw, ⟨e, he, ee⟩, one, x1, x2, x3, x4, x5⟩ := X
  have G1 := core NoSk R (fun s _ f => f.elim) (fun e he => by rcases x5 e he with q | q; · omega
                                                               ·omega)
  have hval : e.val = one := by
   have q := (Q e he).2.2 ee
   rcases x5 e he with y | y
   ·omega
   ·exact y.2
  refine si_got A1 G1 hx.1.1 hx.1.2.1 hx.2.1 hx.2.2 ?_ (Or.inl ⟨e, he, ee, by show e.val ≤ c; omega⟩)
  show overW h.x.writes (G.W c) a = w
  rw [overW_none _ _ _ nw, x4]
  have q := (Q e he).1 a hx.1.1 hx.1.2.1 ee.symm c (by omega) (Int.le_refl _)
  rw [q, hval]
 | wr i a =>
  obtain ⟨R, l, x1⟩ := X
  have G1 := core _ R (fun s _ f => by rw [f]; exact x1) (fun e he => by have := l e he; omega)
  exact si_wrote A1 G1 hx hh
theorem si_exstill {K : Cx} {G : Gh} {m : Int → Int} {k : Int} {h : Th} {x : Ex} {c : Int} (A : Onn K k h) (P : Phys K G m) (hx : ExOk K x) (hck : 0 ≤ c ∧ c ≤ k) (hh : exHeld K h x) (X : XI K G m h c x) (hvc : h.x.valid ≤ c) (hcm : c ≤ m 0) (ho : ∀ s ∈ h.x.held, m (3 + s) ≠ -1)
  (r pre : List EntD) (e : h.x.reads = pre ++ r) (Q : ∀ e ∈ pre, Stab K G e.what e.val c ∧ (G.nv e.what = e.val ∨ c < G.nv e.what) ∧ Chk K h e x) : SI K G m (hExStill K x c r h) := by
 cases r with
 | nil =>
  rw [List.append_nil] at e
  exact si_exdone A P hx hck hh X hvc hcm ho (by rw [e]; exact Q)
 | cons q r =>
  refine ⟨?_, hvc, hcm, pre, e, ?_⟩
  ·cases x with
   | rd i a w => exact ⟨X.1.of rfl rfl rfl rfl rfl, X.2⟩
   | wr i a => exact ⟨X.1.of rfl rfl rfl rfl rfl, X.2⟩
  ·cases x with
   | rd i a w => exact Q
   | wr i a => exact Q
theorem si_shut {K : Cx} {G : Gh} {m : Int → Int} {k : Int} {h : Th} {c : Int} (A : Onn K k h) (P : Phys K G m) (R : Go1 K G m h) (hvc : h.x.valid ≤ c) (ho : ∀ s ∈ h.x.held, m (3 + s) ≠ -1) (Q : ∀ e ∈ h.x.reads, e.what ∈ h.x.held ∨ Stab K G e.what e.val c) : SI K G m (hShutAt c h.x.held h) := by
 have hag := agree A.x P R.1 hvc ho (fun e he => (Q e he).imp (fun q => ⟨q, fun f => f⟩) id)
 have C : Cm K G m c h := ⟨R.1.li, R.1.ne, R.1.sp, by rw [R.1.va]; exact hvc, fOk_congr _ _ _ hag R.1.ok.1, R.1.ov⟩
 cases hh : h.x.held with
 | nil => exact ⟨⟨C.li, C.ne, C.sp, C.va, C.ok, C.ov⟩, fun s hs => by rw [show (hShutAt c [] h).x.held = h.x.held from rfl, hh] at hs; cases hs⟩
 | cons q r => exact ⟨⟨C.li, C.ne, C.sp, C.va, C.ok, C.ov⟩, fun s hs hr => by rw [show (hShutAt c (q :: r) h).x.held = h.x.held from rfl, hh] at hs; exact absurd hs hr⟩
theorem si_still {K : Cx} {G : Gh} {m : Int → Int} {k : Int} {h : Th} {c : Int} (A : Onn K k h) (P : Phys K G m) (R : Go1 K G m h) (hvc : h.x.valid ≤ c) (hcm : c ≤ m 0) (ho : ∀ s ∈ h.x.held, m (3 + s) ≠ -1) : ∀ (r pre : List EntD), h.x.reads = pre ++ r → (∀ e ∈ pre, e.what ∈ h.x.held ∨ Stab K G e.what e.val c) → SI K G m (hStillAt c r h)
 | [], pre, e, Q => by
  rw [List.append_nil] at e
  exact si_shut A P R hvc ho (by rw [e]; exact Q)
 | q :: r, pre, e, Q => by
  unfold hStillAt
  split
  ·rename_i hq
   refine si_still A P R hvc hcm ho r (pre ++ [q]) (by rw [e]; simp) (fun e he => ?_)
   rcases List.mem_append.1 he with he | he
   ·exact Q e he
   ·rw [List.mem_singleton.1 he]; exact Or.inl (held_true hq)
  ·exact ⟨go1_of R rfl rfl rfl rfl rfl, hvc, hcm, pre, e, Q⟩
theorem all_mod' {Q : AttD → Prop} {l : List AttD} {f : AttD → AttD} (h : ∀ t ∈ l, Q t) (hf : ∀ t, Q t → Q (f t)) : ∀ t ∈ modLast l f, Q t := by
 by_cases hl : l = []
 ·subst hl
  intro t ht
  simp [modLast] at ht
 ·exact all_mod h (hf _ (h _ (cur_mem hl)))
theorem li_ended {K : Cx} {G : Gh} {m : Int → Int} {h : Th} (L : LiOk K G m h) (n f : Int) : LiOk K G m (h.ended n f) := all_mod' L (fun t A => ⟨A.inn, A.va, A.snd⟩)
def Quiet (h : Th) : Prop := match h.st with
 | .cShut _ _ => False
 | .cStamp _ => False
 | .cWord _ _ => False
 | .cOpen _ _ => False
 | _ => True
theorem si_quiet {K : Cx} {G : Gh} {m : Int → Int} {k : Int} {h : Th} (hc : cfgB K.c = true) (hm : 0 ≤ K.me ∧ K.me < K.c.t) (A : ThOk K k h) (L : Loc K h) (P : Phys K G m) (O : ∀ s, 0 ≤ s → s < K.c.s → Holds h s → ¬ Shuts h s → m (3 + s) ≠ -1)
  (M : CellsOk K.c k m) (v : AnsD) (hv : (hOut K h).kind ≠ 0 → v.seen = m (hOut K h).cell) (S : SI K G m h) (hq : Quiet h) : SI K G m (hNext K h v) := by
 obtain ⟨⟨t1, t2⟩, ⟨w1, w2⟩, ⟨s1, s2⟩, _, _, _, ⟨f1, f2⟩⟩ := cfgB_true hc
 have hx := A.x
 have hs := A.step
 have N := A.on
 have S0 := S
 unfold StepOk at hs
 unfold hOut at hv
 unfold SI at S
 unfold Loc at L
 unfold Quiet at hq
 have st : ∀ {i : InsD} {a : Int}, AOk K i a → 0 ≤ a.tmod K.c.s ∧ a.tmod K.c.s < K.c.s := fun ha => tmodP s1 ha.1
 have wok : ∀ {a : Int}, 0 ≤ a → a < K.c.wd → 0 ≤ m (hWrd K a) ∧ m (hWrd K a) ≤ 65535 := fun {a} a0 a1 => (M (hWrd K a) (by unfold hWrd; omega) (by unfold total hWrd; omega)).wrd (by unfold hWrd; omega) (by unfold total hWrd; omega)
 have cok : 0 ≤ m 0 ∧ m 0 ≤ k := (M 0 (by omega) (by unfold total; omega)).cnt (Or.inl rfl)
 unfold hNext
 cases hst : h.st with
 | idle => exact S0
 | start =>
  rw [hst] at hv S
  have e : v.seen = m 0 := hv (by simp)
  rw [e]
  refine si_go (k := k) ⟨A.rank, new_ok (by omega) t1 _ cok⟩ ⟨⟨fun q hq => ?_, ?_, by simp, ?_, ?_, fun f a => ?_, fun q hq => ?_, fun q hq => ?_, fun q hq => ?_, fun q hq => ?_⟩, fun q hq => ?_⟩
  ·simp [newTS] at hq
  ·intro t ht
   rcases List.mem_append.1 ht with ht | ht
   ·exact S t ht
   ·rw [List.mem_singleton.1 ht]
    exact ⟨fun n hn => by simp at hn, cok.1, Or.inl ⟨rfl, Int.le_refl _, trivial⟩⟩
  ·show (cur (h.list ++ [_])).valid = _
   rw [cur_snoc]; rfl
  ·show (cur (h.list ++ [_])).stamp = _
   rw [cur_snoc]
  ·show overN (cur (h.list ++ [_])).notes f a = _
   rw [cur_snoc]; rfl
  ·simp [newTS] at hq
  ·simp [newTS] at hq
  ·simp [newTS] at hq
  ·have hq' : q ∈ (cur (h.list ++ [⟨K.me, h.job, v.num, 0, m 0, 0, 0, []⟩])).notes := hq
   rw [cur_snoc] at hq'
   simp at hq'
  ·simp [newTS] at hq
 | rHeld i a =>
  rw [hst] at hv S hs
  have e : v.seen = m (hWrd K a) := hv (by simp)
  rw [e]
  have b := wok hs.1 hs.2.1
  obtain ⟨R, nw, hh⟩ := S
  refine si_got N R hs.1 hs.2.1 b.1 b.2 ?_ (Or.inr ⟨hh, fun f => f⟩)
  rw [overW_none _ _ _ nw]
  have ho := O _ (st hs).1 (st hs).2 (by simp only [Holds, hst]; exact hh) (by simp [Shuts, hst])
  obtain ⟨_, _, w⟩ := P.opn _ (st hs).1 (st hs).2 ho
  exact w a hs.1 hs.2.1 rfl _ (R.1.hd _ hh (fun f => f))
 | rVer i a =>
  rw [hst] at hv S hs
  have e : v.seen = m (3 + a.tmod K.c.s) := hv (by simp)
  simp only
  split
  ·exact S0
  ·rename_i hn
   rw [e] at hn ⊢
   obtain ⟨p1, p2, _⟩ := P.opn _ (st hs).1 (st hs).2 hn
   exact ⟨go1_of S.1 rfl rfl rfl rfl rfl, S.2, p2, by omega, fun q => absurd q hn⟩
 | rWord i a one =>
  rw [hst] at hv S hs
  have e : v.seen = m (hWrd K a) := hv (by simp)
  rw [e]
  exact ⟨go1_of S.1 rfl rfl rfl rfl rfl, S.2.1, S.2.2, fun _ => rfl⟩
 | rAgain i a one w =>
  rw [hst] at hv S hs
  have e : v.seen = m (3 + a.tmod K.c.s) := hv (by simp)
  obtain ⟨R, nw, rm, hw⟩ := S
  simp only
  split
  ·exact ⟨go1_of R rfl rfl rfl rfl rfl, nw⟩
  ·rename_i hn
   have hone : m (3 + a.tmod K.c.s) = one := by rw [← e]; omega
   have ho : m (3 + a.tmod K.c.s) ≠ -1 := by have := hs.2.1.1; omega
   obtain ⟨p1, p2, pw⟩ := P.opn _ (st hs.1).1 (st hs.1).2 ho
   have hw' := hw (by omega)
   have sb := P.stab (st hs.1).1 (st hs.1).2 ho
   rw [hone] at sb
   have B : ∀ y : TS, y = (if (entIdx h.x.reads (a.tmod K.c.s)).isSome then h.x else { h.x with reads := h.x.reads ++ [⟨a.tmod K.c.s, one⟩] }) → XOk K k y ∧ Run K G (m 0) NoSk { h with x := y } ∧ (∃ e ∈ y.reads, e.what = a.tmod K.c.s ∧ (e.val ≤ h.x.valid ∨ e.val = one)) ∧ (∀ e ∈ y.reads, e.val ≤ h.x.valid ∨ (e.what = a.tmod K.c.s ∧ e.val = one)) ∧ y.valid = h.x.valid ∧ y.writes = h.x.writes := by
    intro y hy
    cases he : entIdx h.x.reads (a.tmod K.c.s) with
    | some j =>
     rw [he, if_pos (by rfl)] at hy
     subst hy
     exact ⟨hx, R.1.of rfl rfl rfl rfl rfl, ⟨_, (entIn he).2.2, (entIn he).2.1, Or.inl (R.2 _ (entIn he).2.2)⟩, fun e he => Or.inl (R.2 e he), rfl, rfl⟩
    | none =>
     rw [he, if_neg (by simp)] at hy
     subst hy
     refine ⟨⟨hx.four, hx.rg, hx.wr, fun e he' => ?_, hx.hd, hx.wn, ?_, hx.hn, hx.valid, hx.way, hx.plc, hx.bg⟩, ⟨R.1.wh, R.1.li, R.1.ne, R.1.va, R.1.sp, R.1.ov, fun e he' => ?_, fun e he' => ?_, R.1.hd, fun n hn => ?_⟩, ⟨⟨a.tmod K.c.s, one⟩, by simp, rfl, Or.inr rfl⟩, fun e he' => ?_, rfl, rfl⟩
     ·rcases List.mem_append.1 he' with h3 | h3
      ·exact hx.rd e h3
      ·rw [List.mem_singleton.1 h3]; exact ⟨(st hs.1).1, (st hs.1).2, hs.2.1.1, hs.2.1.2⟩
     ·show ((h.x.reads ++ [(⟨a.tmod K.c.s, one⟩ : EntD)]).map (fun e => e.what)).Nodup
      rw [List.map_append, List.nodup_append]
      refine ⟨hx.rn, by simp, fun p hp q hq => ?_⟩
      simp only [List.map_cons, List.map_nil] at hq
      rw [List.mem_singleton.1 hq]
      intro e
      rw [e] at hp
      exact entOut he hp
     ·rcases List.mem_append.1 he' with h3 | h3
      ·exact R.1.fr e h3
      ·rw [List.mem_singleton.1 h3]; exact Or.inl (by show G.nv (a.tmod K.c.s) = one; omega)
     ·rcases List.mem_append.1 he' with h3 | h3
      ·exact R.1.sb e h3
      ·rw [List.mem_singleton.1 h3]; exact sb _
     ·rcases R.1.nt n hn with ⟨e, he', x⟩ | x
      ·exact Or.inl ⟨e, List.mem_append_left _ he', x⟩
      ·exact Or.inr x
     ·rcases List.mem_append.1 he' with h3 | h3
      ·exact Or.inl (R.2 e h3)
      ·rw [List.mem_singleton.1 h3]; exact Or.inr ⟨rfl, rfl⟩
   obtain ⟨X1, R1, ⟨e1, m1, q1, q2⟩, l1, v1, wr1⟩ := B _ rfl
   generalize (if (entIdx h.x.reads (a.tmod K.c.s)).isSome then h.x else { h.x with reads := h.x.reads ++ [⟨a.tmod K.c.s, one⟩] }) = y at *
   have hWone : ∀ n, one ≤ n → G.W n a = w := fun n hn => by rw [pw a hs.1.1 hs.1.2.1 rfl n (by omega), hw']
   split
   ·rename_i hle
    refine si_got (h := { h with x := y, st := .rAgain i a one w }) (k := k) ⟨A.rank, X1⟩ ⟨R1.of rfl rfl rfl rfl rfl, fun e he => ?_⟩ hs.1.1 hs.1.2.1 hs.2.2.1 hs.2.2.2 ?_ (Or.inl ⟨e1, m1, q1, ?_⟩)
    ·show e.val ≤ y.valid
     rcases l1 e he with z | z
     ·omega
     ·omega
    ·show overW y.writes (G.W y.valid) a = w
     rw [overW_none _ _ _ (by rw [wr1]; exact nw)]
     exact hWone _ hle
    ·show e1.val ≤ y.valid
     omega
   ·rename_i hle
    refine ⟨R1.of rfl rfl rfl rfl rfl, ?_, ⟨e1, m1, q1⟩, one, by omega, by omega, ?_, (hWone one (Int.le_refl _)).symm, fun e he => ?_⟩
    ·show entIdx y.writes a = none
     rw [wr1]; exact nw
    ·show y.valid < one
     omega
    ·show e.val ≤ y.valid ∨ _
     rw [v1]; exact l1 e he
 | xClock x =>
  rw [hst] at hv S hs L
  have e : v.seen = m 0 := hv (by simp)
  rw [e]
  have ho : ∀ s ∈ h.x.held, m (3 + s) ≠ -1 := fun s hs' => O s (hx.hd s hs').1 (hx.hd s hs').2 (by simp only [Holds, hst]; exact hs') (by simp [Shuts, hst])
  have hvc : h.x.valid ≤ m 0 := by
   cases x with
   | rd i a w => exact S.1.ok.2.1
   | wr i a => exact S.1.ok.2.1
  exact si_exstill N P hs cok L.2 S hvc (Int.le_refl _) ho h.x.reads [] rfl (fun e he => by cases he)
 | xVer x c r =>
  rw [hst] at hv S hs L
  have ho : ∀ s ∈ h.x.held, m (3 + s) ≠ -1 := fun s hs' => O s (hx.hd s hs').1 (hx.hd s hs').2 (by simp only [Holds, hst]; exact hs') (by simp [Shuts, hst])
  cases r with
  | nil => exact absurd rfl hs.2.2.1
  | cons q r =>
   have e : v.seen = m (3 + q.what) := hv (by simp)
   obtain ⟨X, v1, v2, pre, er, Q⟩ := S
   have bq := hs.2.2.2 q List.mem_cons_self
   have hmem : q ∈ h.x.reads := by rw [er]; simp
   have bv := hx.rd q hmem
   simp only
   split
   ·refine si_fail ?_
    cases x with
    | rd i a w => exact X.1.li
    | wr i a => exact X.1.li
   ·rename_i hne
    have heq : m (3 + q.what) = q.val := by rw [← e]; omega
    have hop : m (3 + q.what) ≠ -1 := by omega
    obtain ⟨p1, p2, pw⟩ := P.opn q.what bq.1 bq.2 hop
    have sb := P.stab bq.1 bq.2 hop c
    rw [heq] at sb
    refine si_exstill N P hs.1 hs.2.1 L.2 X v1 v2 ho r (pre ++ [q]) (by rw [er]; simp) (fun e' he' => ?_)
    rcases List.mem_append.1 he' with he' | he'
    ·exact Q e' he'
    ·rw [List.mem_singleton.1 he']
     refine ⟨sb, Or.inl (by omega), ?_⟩
     cases x with
     | rd i a w =>
      intro ee
      obtain ⟨_, _, _, one, x1, x2, x3, _⟩ := X
      rw [← ee] at x1
      omega
     | wr i a => trivial
 | gStat i a =>
  rw [hst] at S
  simp only
  split
  ·exact si_fail S.1.li
  ·exact go1_of S rfl rfl rfl rfl rfl
 | gOwn i a =>
  rw [hst] at S hs
  simp only
  split
  ·have nh := held_false hs.2
   refine ⟨⟨fun e he => List.mem_append_left _ (S.1.wh e he), S.1.li, S.1.ne, S.1.va, S.1.sp, S.1.ov, S.1.fr, S.1.sb, fun s hs' hk => ?_, fun n hn => ?_⟩, S.2⟩
   ·rcases List.mem_append.1 hs' with h3 | h3
    ·exact S.1.hd s h3 (fun f => f)
    ·exact absurd (List.mem_singleton.1 h3) hk
   ·rcases S.1.nt n hn with x | ⟨x, y⟩
    ·exact Or.inl x
    ·exact Or.inr ⟨List.mem_append_left _ x, fun e => nh (by rw [← e]; exact x)⟩
  ·split
   ·exact si_fail S.1.li
   ·exact go1_of S rfl rfl rfl rfl rfl
 | gTheir i a u =>
  rw [hst] at S
  simp only
  split
  ·exact si_fail (show LiOk K G m { h with x := { h.x with way := u - 1 }, st := .gTheir i a u } from S.1.li)
  ·split
   ·exact go1_of S rfl rfl rfl rfl rfl
   ·exact go1_of S rfl rfl rfl rfl rfl
 | gMark i a u q =>
  rw [hst] at S
  exact go1_of S rfl rfl rfl rfl rfl
 | gVer i a =>
  rw [hst] at hv S hs L
  have e : v.seen = m (3 + a.tmod K.c.s) := hv (by simp)
  have ho := O _ (st hs).1 (st hs).2 (by simp only [Holds, hst]; exact L.2) (by simp [Shuts, hst])
  obtain ⟨p1, p2, pw⟩ := P.opn _ (st hs).1 (st hs).2 ho
  simp only
  split
  ·exact ⟨S.1.of rfl rfl rfl rfl rfl, S.2, by omega⟩
  ·rename_i hle
   refine si_wrote N ⟨⟨S.1.wh, S.1.li, S.1.ne, S.1.va, S.1.sp, S.1.ov, S.1.fr, S.1.sb, fun s hs' _ => ?_, fun n hn => ?_⟩, S.2⟩ hs L.2
   ·by_cases q : s = a.tmod K.c.s
    ·rw [q]; omega
    ·exact S.1.hd s hs' q
   ·rcases S.1.nt n hn with x | ⟨x, y⟩
    ·exact Or.inl x
    ·exact Or.inr ⟨x, fun f => f⟩
 | tTake =>
  rw [hst] at S
  exact go1_of S rfl rfl rfl rfl rfl
 | tShow =>
  rw [hst] at S
  simp only
  split
  ·exact si_fail S.1.li
  ·exact si_go N S
 | cStat =>
  rw [hst] at S
  simp only
  split
  ·exact si_fail S.1.li
  ·exact go1_of S rfl rfl rfl rfl rfl
 | cGate =>
  rw [hst] at S
  simp only
  by_cases h0 : v.seen = 0
  ·rw [if_pos h0]; exact go1_of S rfl rfl rfl rfl rfl
  ·rw [if_neg h0]; exact go1_of S rfl rfl rfl rfl rfl
 | cClock =>
  rw [hst] at hv S
  have e : v.seen = m 0 := hv (by simp)
  have ho : ∀ s ∈ h.x.held, m (3 + s) ≠ -1 := fun s hs' => O s (hx.hd s hs').1 (hx.hd s hs').2 (by simp only [Holds, hst]; exact hs') (by simp [Shuts, hst])
  have hvc : h.x.valid ≤ m 0 := S.1.ok.2.1
  simp only
  rw [e]
  split
  ·exact si_still N P S hvc (Int.le_refl _) ho h.x.reads [] rfl (fun e he => by cases he)
  ·rename_i heq
   have heq' : m 0 = h.x.valid := by omega
   rw [heq']
   exact si_shut N P S (Int.le_refl _) ho (fun e he => Or.inr (S.1.sb e he))
 | cVer c r =>
  rw [hst] at hv S hs
  have ho : ∀ s ∈ h.x.held, m (3 + s) ≠ -1 := fun s hs' => O s (hx.hd s hs').1 (hx.hd s hs').2 (by simp only [Holds, hst]; exact hs') (by simp [Shuts, hst])
  cases r with
  | nil => exact absurd rfl hs.2.1
  | cons q r =>
   have e : v.seen = m (3 + q.what) := hv (by simp)
   obtain ⟨R, v1, v2, pre, er, Q⟩ := S
   have bq := hs.2.2 q List.mem_cons_self
   have hmem : q ∈ h.x.reads := by rw [er]; simp
   have bv := hx.rd q hmem
   simp only
   split
   ·exact si_fail R.1.li
   ·rename_i hne
    have heq : m (3 + q.what) = q.val := by rw [← e]; omega
    have sb := P.stab bq.1 bq.2 (by omega) c
    rw [heq] at sb
    refine si_still N P R v1 v2 ho r (pre ++ [q]) (by rw [er]; simp) (fun e' he' => ?_)
    rcases List.mem_append.1 he' with he' | he'
    ·exact Q e' he'
    ·rw [List.mem_singleton.1 he']; exact Or.inr sb
 | cShut c r => rw [hst] at hq; exact hq.elim
 | cStamp c => rw [hst] at hq; exact hq.elim
 | cLeave c =>
  rw [hst] at S
  obtain ⟨l, l1, l2⟩ := S
  cases hw : h.x.writes with
  | nil =>
   rw [hw] at l2
   show SI K G m (hOpenAt c h.x.held h)
   cases hh : h.x.held with
   | nil => exact l
   | cons q r => exact ⟨l, l1, fun s hs' => l2 s (by rw [hh]; exact hs')⟩
  | cons q r =>
   refine ⟨l, l1, ?_, fun s hs' => ?_⟩
   ·have := hx.wn
    rw [hw] at this
    exact this
   ·have := l2 s hs'
    rw [hw] at this
    exact this
 | cWord c r => rw [hst] at hq; exact hq.elim
 | cOpen c r => rw [hst] at hq; exact hq.elim
 | cOwn c r =>
  rw [hst] at S hs
  obtain ⟨l, l1, l2⟩ := S
  cases r with
  | nil => exact absurd rfl hs.2.1
  | cons q r =>
   show SI K G m (hOpenAt c r h)
   cases r with
   | nil => exact l
   | cons p r => exact ⟨l, l1, l2⟩
 | free e r =>
  rw [hst] at S
  cases r with
  | nil => exact S0
  | cons q r => exact si_free S e r
 | fin e =>
  rw [hst] at S
  have := li_ended S v.num e
  simp only
  unfold hTo
  split
  ·exact this
  ·exact this
 | fGate => rw [hst] at S; exact si_failown S _
 | fOwn r =>
  rw [hst] at S
  cases r with
  | nil => exact S0
  | cons q r => exact si_failown S r
 | fTake => rw [hst] at S; exact S
 | fStat =>
  rw [hst] at S
  have := li_ended S v.num 5
  simp only
  generalize (if 0 < v.seen.tmod 8 then v.seen.tmod 8 - 1 else h.x.way) = win
  split
  ·exact this
  ·unfold hRest
   simp only
   generalize (v.draw.tmod ((if (h.ended v.num 5).fails < K.c.cp then (h.ended v.num 5).fails else K.c.cp) + 1)).toNat = n
   split
   ·exact this
   ·exact this
 | wait win =>
  rw [hst] at S
  simp only
  split
  ·exact S
  ·exact S0
 | rest n =>
  rw [hst] at S
  simp only
  split
  ·exact S
  ·exact S
end Go.Proofs.YtejadojilncbjabGreat
