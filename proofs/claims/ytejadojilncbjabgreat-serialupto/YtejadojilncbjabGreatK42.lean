import Derived.Test.YtejadojilncbjabGreatK41
namespace Go.Proofs.YtejadojilncbjabGreat
set_option linter.unusedVariables false
theorem sq_fail {K : Cx} (h : Th) : SQ K (hFail K h) := by
 unfold hFail hFailOwn hCount
 split
 ·trivial
 ·split
  ·split <;> trivial
  ·trivial
theorem sq_failown {K : Cx} (h : Th) (r : List Int) : SQ K (hFailOwn K r h) := by
 unfold hFailOwn hCount
 split
 ·split <;> trivial
 ·trivial
theorem nts_mod {l : List AttD} (f : AttD → AttD) (hf : ∀ t, (f t).notes = t.notes) (hl : l ≠ []) : (cur (modLast l f)).notes = (cur l).notes := by rw [cur_mod hl, hf]
theorem sq_exdone {K : Cx} {k : Int} {h : Th} {x : Ex} {c : Int} (A : Onn K k h) (O : OvX h) (w : Wh K h) (hx : ExOk K x) (hck : 0 ≤ c ∧ c ≤ k) (hh : exHeld K h x) (E : ExQ K h x) : SQ K (hExDone K x c h) := by
 have A1 : Onn K k { h with list := modLast h.list (fun t => { t with valid := c }), x := { h.x with valid := c } } := ⟨A.rank, ⟨A.x.four, A.x.rg, A.x.wr, A.x.rd, A.x.hd, A.x.wn, A.x.rn, A.x.hn, hck, A.x.way, A.x.plc, A.x.bg⟩⟩
 have en : nts { h with list := modLast h.list (fun t => { t with valid := c }), x := { h.x with valid := c } } = nts h := nts_mod _ (fun _ => rfl) O.1
 have O1 : OvX { h with list := modLast h.list (fun t => { t with valid := c }), x := { h.x with valid := c } } := ⟨mod_ne O.1 _, fun f a => by rw [en]; exact O.2 f a⟩
 cases x with
 | rd i a v => exact sq_got A1 O1 w (RdQ.of (h := h) E en rfl ⟨rfl, rfl, rfl, rfl, rfl⟩) hx.2.1 hx.2.2
 | wr i a => exact sq_wrote A1 O1 w (WrQ.of (h := h) E en rfl ⟨rfl, rfl, rfl, rfl, rfl⟩) hx hh
theorem sq_exstill {K : Cx} {k : Int} {h : Th} {x : Ex} {c : Int} (A : Onn K k h) (O : OvX h) (w : Wh K h) (hx : ExOk K x) (hck : 0 ≤ c ∧ c ≤ k) (hh : exHeld K h x) (E : ExQ K h x) (r : List EntD) : SQ K (hExStill K x c r h) := by
 cases r with
 | nil => exact sq_exdone A O w hx hck hh E
 | cons q r =>
  cases x with
  | rd i a v => exact RdQ.of (h := h) E rfl rfl (SimA.refl _)
  | wr i a => exact WrQ.of (h := h) E rfl rfl (SimA.refl _)
theorem sq_shut {K : Cx} {h : Th} {c : Int} (E : EndQ K h 1) (r : List Int) : SQ K (hShutAt c r h) := by
 cases r with
 | nil => exact E.of E.1.1 rfl rfl rfl rfl
 | cons q r => exact E.of E.1.1 rfl rfl rfl rfl
theorem sq_still {K : Cx} {h : Th} {c : Int} (E : EndQ K h 1) : ∀ r : List EntD, SQ K (hStillAt c r h)
 | [] => sq_shut E _
 | q :: r => by
  unfold hStillAt
  split
  ·exact sq_still E r
  ·exact E.of E.1.1 rfl rfl rfl rfl
theorem sq_open {K : Cx} {h : Th} {c : Int} (E : EndQ K h 1) (s : Sp h) (r : List Int) : SQ K (hOpenAt c r h) := by
 cases r with
 | nil => exact ⟨E.of E.1.1 rfl rfl rfl rfl, fun _ => Or.inr s⟩
 | cons q r => exact ⟨E.of E.1.1 rfl rfl rfl rfl, s⟩
theorem sq_word {K : Cx} {h : Th} {c : Int} (E : EndQ K h 1) (s : Sp h) (r : List EntD) : SQ K (hWordAt c r h) := by
 cases r with
 | nil => exact sq_open E s _
 | cons q r => exact ⟨E.of E.1.1 rfl rfl rfl rfl, s⟩
theorem go1_ov {K : Cx} {G : Gh} {m : Int → Int} {h : Th} {sk : Int → Prop} (R : Run K G (m 0) sk h) : OvX h := ⟨R.ne, R.ov⟩
theorem sq_next {K : Cx} {G : Gh} {m : Int → Int} {k : Int} {h : Th} (hc : cfgB K.c = true) (A : ThOk K k h) (L : Loc K h) (M : CellsOk K.c k m) (v : AnsD) (hv : (hOut K h).kind ≠ 0 → v.seen = m (hOut K h).cell) (S : SI K G m h) (Q : SQ K h) : SQ K (hNext K h v) := by
 obtain ⟨⟨t1, t2⟩, ⟨w1, w2⟩, ⟨s1, s2⟩, _, _, _, ⟨f1, f2⟩⟩ := cfgB_true hc
 have hx := A.x
 have hs := A.step
 have N := A.on
 have Q0 := Q
 unfold StepOk at hs
 unfold hOut at hv
 unfold SI at S
 unfold Loc at L
 unfold SQ at Q
 have wok : ∀ {a : Int}, 0 ≤ a → a < K.c.wd → 0 ≤ m (hWrd K a) ∧ m (hWrd K a) ≤ 65535 := fun {a} a0 a1 => (M (hWrd K a) (by unfold hWrd; omega) (by unfold total hWrd; omega)).wrd (by unfold hWrd; omega) (by unfold total hWrd; omega)
 have cok : 0 ≤ m 0 ∧ m 0 ≤ k := (M 0 (by omega) (by unfold total; omega)).cnt (Or.inl rfl)
 have sim : ∀ {x : TS}, SimA x x := fun {x} => SimA.refl x
 unfold hNext
 cases hst : h.st with
 | idle => exact Q0
 | start =>
  rw [hst] at hv
  have e : v.seen = m 0 := hv (by simp)
  rw [e]
  refine sq_go (k := k) (h := { h with list := h.list ++ [⟨K.me, h.job, v.num, 0, m 0, 0, 0, []⟩], x := newTS (K.jobs.getD h.job (0, [])).2 (m 0), st := .start }) ⟨fun W _ => goes_new (by omega) W _ _, ⟨by simp, fun f a => ?_⟩, ⟨A.rank, new_ok (by omega) t1 _ cok⟩, fun q hq => by simp [newTS] at hq⟩
  show overN (cur (h.list ++ [_])).notes f a = _
  rw [cur_snoc]
  rfl
 | rHeld i a =>
  rw [hst] at hv S hs Q
  have e : v.seen = m (hWrd K a) := hv (by simp)
  have b := wok hs.1 hs.2.1
  exact sq_got N (go1_ov S.1.1) S.1.1.wh Q (by omega) (by omega)
 | rVer i a =>
  rw [hst] at Q
  simp only
  split
  ·exact Q0
  ·exact RdQ.of (h := h) Q rfl rfl sim
 | rWord i a one => rw [hst] at Q; exact RdQ.of (h := h) Q rfl rfl sim
 | rAgain i a one w =>
  rw [hst] at S hs Q
  simp only
  split
  ·exact RdQ.of (h := h) Q rfl rfl sim
  ·have X1 : SimA (if (entIdx h.x.reads (a.tmod K.c.s)).isSome then h.x else { h.x with reads := h.x.reads ++ [⟨a.tmod K.c.s, one⟩] }) h.x ∧ XOk K k (if (entIdx h.x.reads (a.tmod K.c.s)).isSome then h.x else { h.x with reads := h.x.reads ++ [⟨a.tmod K.c.s, one⟩] }) ∧ (if (entIdx h.x.reads (a.tmod K.c.s)).isSome then h.x else { h.x with reads := h.x.reads ++ [⟨a.tmod K.c.s, one⟩] }).held = h.x.held := by
    split
    ·exact ⟨sim, hx, rfl⟩
    ·rename_i hn
     have hnn : entIdx h.x.reads (a.tmod K.c.s) = none := by
      cases e : entIdx h.x.reads (a.tmod K.c.s) with
      | none => rfl
      | some j => rw [e] at hn; exact absurd rfl hn
     have b := tmodP s1 hs.1.1
     refine ⟨⟨rfl, rfl, rfl, rfl, rfl⟩, ⟨hx.four, hx.rg, hx.wr, fun e he => ?_, hx.hd, hx.wn, ?_, hx.hn, hx.valid, hx.way, hx.plc, hx.bg⟩, rfl⟩
     ·rcases List.mem_append.1 he with h3 | h3
      ·exact hx.rd e h3
      ·rw [List.mem_singleton.1 h3]
       exact ⟨b.1, b.2, hs.2.1.1, hs.2.1.2⟩
     ·show ((h.x.reads ++ [(⟨a.tmod K.c.s, one⟩ : EntD)]).map (fun e => e.what)).Nodup
      rw [List.map_append, List.nodup_append]
      refine ⟨hx.rn, by simp, fun p hp q hq => ?_⟩
      simp only [List.map_cons, List.map_nil] at hq
      rw [List.mem_singleton.1 hq]
      intro e
      rw [e] at hp
      exact entOut hnn hp
   generalize (if (entIdx h.x.reads (a.tmod K.c.s)).isSome then h.x else { h.x with reads := h.x.reads ++ [⟨a.tmod K.c.s, one⟩] }) = y at *
   have O1 : OvX { h with x := y, st := .rAgain i a one w } := ⟨S.1.1.ne, fun f b => by show overN (nts h) f b = overW y.writes f b; rw [X1.1.writes]; exact S.1.1.ov f b⟩
   have wh1 : Wh K { h with x := y, st := .rAgain i a one w } := fun q hq => by
    show q.what.tmod K.c.s ∈ y.held
    rw [X1.2.2]
    exact S.1.1.wh q (by rw [← X1.1.writes]; exact hq)
   split
   ·exact sq_got (k := k) (h := { h with x := y, st := .rAgain i a one w }) ⟨A.rank, X1.2.1⟩ O1 wh1 (RdQ.of (h := h) Q rfl rfl X1.1) hs.2.2.1 hs.2.2.2
   ·exact RdQ.of (h := h) Q rfl rfl X1.1
 | xClock x =>
  rw [hst] at hv S hs L Q
  have e : v.seen = m 0 := hv (by simp)
  rw [e]
  have R : OvX h ∧ Wh K h := by
   cases x with
   | rd i a w => exact ⟨go1_ov S.1, S.1.wh⟩
   | wr i a => exact ⟨go1_ov S.1, S.1.wh⟩
  exact sq_exstill N R.1 R.2 hs cok L.2 Q _
 | xVer x c r =>
  rw [hst] at S hs L Q
  have R : OvX h ∧ Wh K h := by
   cases x with
   | rd i a w => exact ⟨go1_ov S.1.1, S.1.1.wh⟩
   | wr i a => exact ⟨go1_ov S.1.1, S.1.1.wh⟩
  cases r with
  | nil => exact Q0
  | cons q r =>
   simp only
   split
   ·exact sq_fail _
   ·exact sq_exstill N R.1 R.2 hs.1 hs.2.1 L.2 Q _
 | gStat i a =>
  rw [hst] at Q
  simp only
  split
  ·exact sq_fail _
  ·exact WrQ.of (h := h) Q rfl rfl sim
 | gOwn i a =>
  rw [hst] at Q
  simp only
  split
  ·exact WrQ.of (h := h) Q rfl rfl ⟨rfl, rfl, rfl, rfl, rfl⟩
  ·split
   ·exact sq_fail _
   ·exact WrQ.of (h := h) Q rfl rfl sim
 | gTheir i a u =>
  rw [hst] at Q
  simp only
  split
  ·exact sq_fail _
  ·split
   ·exact WrQ.of (h := h) Q rfl rfl sim
   ·exact WrQ.of (h := h) Q rfl rfl sim
 | gMark i a u q => rw [hst] at Q; exact WrQ.of (h := h) Q rfl rfl sim
 | gVer i a =>
  rw [hst] at Q S hs L
  simp only
  split
  ·exact WrQ.of (h := h) Q rfl rfl sim
  ·exact sq_wrote N (go1_ov S.1) S.1.wh Q hs L.2
 | tTake => rw [hst] at Q; exact QQ.of (h := h) Q rfl rfl sim
 | tShow =>
  rw [hst] at Q S
  simp only
  split
  ·exact sq_fail _
  ·exact sq_go ⟨Q, go1_ov S.1, N, S.1.wh⟩
 | cStat =>
  rw [hst] at Q
  simp only
  split
  ·exact sq_fail _
  ·exact EndQ.of (h := h) Q Q.1.1 rfl rfl rfl rfl
 | cGate =>
  rw [hst] at Q
  simp only
  by_cases h0 : v.seen = 0
  ·rw [if_pos h0]; exact EndQ.of (h := h) Q Q.1.1 rfl rfl rfl rfl
  ·rw [if_neg h0]; exact EndQ.of (h := h) Q Q.1.1 rfl rfl rfl rfl
 | cClock =>
  rw [hst] at Q
  simp only
  split
  ·exact sq_still Q _
  ·exact sq_shut Q _
 | cVer c r =>
  rw [hst] at Q
  cases r with
  | nil => exact Q0
  | cons q r =>
   simp only
   split
   ·exact sq_fail _
   ·exact sq_still Q _
 | cShut c r =>
  rw [hst] at Q
  cases r with
  | nil => exact Q0
  | cons q r => exact sq_shut Q _
 | cStamp c =>
  rw [hst] at Q hs
  refine ⟨EndQ.of (h := h) Q (mod_ne Q.1.1 _) (nts_mod _ (fun _ => rfl) Q.1.1) rfl rfl rfl, ?_⟩
  show (cur (modLast h.list _)).stamp ≠ 0
  rw [cur_mod Q.1.1]
  show c + 1 ≠ 0
  have := hs.1
  omega
 | cLeave c => rw [hst] at Q; exact sq_word Q.1 Q.2 _
 | cWord c r =>
  rw [hst] at Q
  cases r with
  | nil => exact Q0
  | cons q r => exact sq_word Q.1 Q.2 _
 | cOpen c r =>
  rw [hst] at Q
  cases r with
  | nil => exact Q0
  | cons q r => exact ⟨EndQ.of (h := h) Q.1 Q.1.1.1 rfl rfl rfl rfl, Q.2⟩
 | cOwn c r =>
  rw [hst] at Q
  cases r with
  | nil => exact Q0
  | cons q r => exact sq_open Q.1 Q.2 _
 | free e r =>
  rw [hst] at Q
  cases r with
  | nil => exact Q0
  | cons q r =>
   show SQ K (hFreeAt e r h)
   cases r with
   | nil => exact ⟨EndQ.of (h := h) Q.1 Q.1.1.1 rfl rfl rfl rfl, fun f => absurd f Q.2⟩
   | cons p r => exact ⟨EndQ.of (h := h) Q.1 Q.1.1.1 rfl rfl rfl rfl, Q.2⟩
 | fin e =>
  simp only
  unfold hTo
  split <;> trivial
 | fGate => exact sq_failown _ _
 | fOwn r =>
  cases r with
  | nil => exact Q0
  | cons q r => exact sq_failown _ _
 | fTake => trivial
 | fStat =>
  simp only
  generalize (if 0 < v.seen.tmod 8 then v.seen.tmod 8 - 1 else h.x.way) = win
  split
  ·trivial
  ·unfold hRest
   simp only
   generalize (v.draw.tmod ((if (h.ended v.num 5).fails < K.c.cp then (h.ended v.num 5).fails else K.c.cp) + 1)).toNat = n
   split <;> trivial
 | wait win =>
  simp only
  split
  ·trivial
  ·exact Q0
 | rest n =>
  simp only
  split <;> trivial
theorem sq_at {R : Rn} (O : R.Ok) (t : Int) (t0 : 0 ≤ t) (t1 : t < R.c.t) : ∀ k : Nat, SQ (R.K t) ((R.g k).th t)
 | 0 => by
  show SQ _ (hInit (R.K t))
  unfold hInit hTo
  split <;> trivial
 | k + 1 => by
  have ih := sq_at O t t0 t1 k
  by_cases hp : (R.pk k).thread = t
  ·rw [R.at k hp t0 t1]
   have S : SI (R.K t) (R.gh k) (R.g k).m ((R.g k).th t) := (pi_at O.c O.w O.m R.jobs R.ps k).th t t0 t1
   have M : CellsOk (R.K t).c k (R.g k).m := (gat_ok O.c O.w O.m R.jobs R.ps k).m
   have A := Rn.okT O k t t0 t1
   have L : Loc (R.K t) ((R.g k).th t) := (Rn.okL O k).loc t t0 t1
   have hcK : cfgB (R.K t).c = true := O.c
   have hv : (hOut (R.K t) ((R.g k).th t)).kind ≠ 0 → (⟨(accBy (R.g k).m (R.out k t)).seen, (R.pk k).draw, (k : Int) + 1⟩ : AnsD).seen = (R.g k).m (hOut (R.K t) ((R.g k).th t)).cell := fun h0 => acc_seen h0
   generalize (⟨(accBy (R.g k).m (R.out k t)).seen, (R.pk k).draw, (k : Int) + 1⟩ : AnsD) = v at *
   generalize (R.g k).th t = y at *
   exact sq_next hcK A L M v hv S ih
  ·rw [R.off k hp]; exact ih
structure Clo (P : Th → Prop) : Prop where
 x : ∀ h x, P h → P { h with x := x }
 st : ∀ h s, P h → P { h with st := s }
 rk : ∀ h r f, P h → P { h with rank := r, fails := f }
 md : ∀ h (f : AttD → AttD), (∀ t, (f t).fin = t.fin) → P h → P { h with list := modLast h.list f }
theorem Clo.noted {P : Th → Prop} (C : Clo P) {h : Th} (p : P h) (op a v : Int) : P (h.noted op a v) := C.md h _ (fun _ => rfl) p
theorem Clo.put {P : Th → Prop} (C : Clo P) {h : Th} (p : P h) (i : InsD) (a : Int) : P (hPut i a h) := C.noted (h := { h with x := { h.x with writes := putEnt h.x.writes a (regOf h.x i.b) } }) (C.x h _ p) _ _ _
theorem Clo.close {P : Th → Prop} (C : Clo P) {h : Th} (p : P h) (e : Int) : P (hClose e h) := by
 unfold hClose hFreeAt
 split
 ·exact C.st h _ p
 ·split
  ·exact C.st h _ p
  ·exact C.st h _ p
theorem Clo.step {P : Th → Prop} (C : Clo P) {K : Cx} {h : Th} (p : P h) : P (hStep K h).2 := by
 unfold hStep
 by_cases h1 : h.x.place = h.x.code.length
 ·rw [if_pos h1]; exact C.close p 1
 rw [if_neg h1]
 by_cases h2 : (h.x.begun : Int) = K.c.f
 ·rw [if_pos h2]; exact C.close p 4
 rw [if_neg h2]
 simp only
 generalize insAt h.x.code h.x.place = i at *
 by_cases h3 : formedB i h.x.code.length = false
 ·rw [if_pos h3]; exact C.close (C.x h _ p) 3
 rw [if_neg h3]
 by_cases o0 : i.op = 0
 ·rw [if_pos o0]; exact C.close (C.x h _ p) 1
 rw [if_neg o0]
 by_cases o1 : i.op = 1
 ·rw [if_pos o1]; exact C.close (C.x h _ p) 2
 rw [if_neg o1]
 by_cases o2 : i.op = 2
 ·rw [if_pos o2]; exact C.x h _ p
 rw [if_neg o2]
 by_cases o3 : i.op = 3
 ·rw [if_pos o3]; exact C.x h _ p
 rw [if_neg o3]
 by_cases o4 : i.op = 4
 ·rw [if_pos o4]; exact C.x h _ p
 rw [if_neg o4]
 by_cases o5 : i.op = 5
 ·rw [if_pos o5]; exact C.x h _ p
 rw [if_neg o5]
 by_cases o6 : i.op = 6
 ·rw [if_pos o6]; exact C.x h _ p
 rw [if_neg o6]
 by_cases o7 : i.op = 7
 ·rw [if_pos o7]
  have p2 := C.x h { h.x with begun := h.x.begun + 1, place := h.x.place + 1 } p
  generalize ({ h with x := { h.x with begun := h.x.begun + 1, place := h.x.place + 1 } } : Th) = y at *
  unfold hRead
  simp only
  split
  ·exact C.close p2 3
  ·split
   ·exact C.noted (C.x y _ p2) _ _ _
   ·split
    ·exact C.st y _ p2
    ·exact C.st y _ p2
 ·rw [if_neg o7]
  have p2 := C.x h { h.x with begun := h.x.begun + 1, place := h.x.place + 1 } p
  generalize ({ h with x := { h.x with begun := h.x.begun + 1, place := h.x.place + 1 } } : Th) = y at *
  unfold hWrite
  simp only
  split
  ·exact C.close p2 3
  ·split
   ·exact C.put p2 _ _
   ·exact C.st y _ p2
theorem Clo.adv {P : Th → Prop} (C : Clo P) {K : Cx} : ∀ (n : Nat) {h : Th}, P h → P (hAdv K n h)
 | 0, h, p => p
 | n + 1, h, p => by
  unfold hAdv
  split
  ·exact C.adv n (C.step p)
  ·exact C.step p
theorem Clo.go {P : Th → Prop} (C : Clo P) {K : Cx} {h : Th} (p : P h) : P (hGo K h) := C.adv _ p
theorem Clo.got {P : Th → Prop} (C : Clo P) {K : Cx} {h : Th} (p : P h) (i : InsD) (a v : Int) : P (hGot K i a v h) := C.go (C.noted (C.x h _ p) _ _ _)
theorem Clo.wrote {P : Th → Prop} (C : Clo P) {K : Cx} {h : Th} (p : P h) (i : InsD) (a : Int) : P (hWrote K i a h) := by
 unfold hWrote
 split
 ·exact C.go (C.put p _ _)
 ·exact C.st _ _ (C.put p _ _)
theorem Clo.exdone {P : Th → Prop} (C : Clo P) {K : Cx} {h : Th} (p : P h) (x : Ex) (c : Int) : P (hExDone K x c h) := by
 have p1 := C.x _ { h.x with valid := c } (C.md h (fun t => { t with valid := c }) (fun _ => rfl) p)
 cases x with
 | rd i a v => exact C.got p1 _ _ _
 | wr i a => exact C.wrote p1 _ _
theorem Clo.exstill {P : Th → Prop} (C : Clo P) {K : Cx} {h : Th} (p : P h) (x : Ex) (c : Int) (r : List EntD) : P (hExStill K x c r h) := by
 cases r with
 | nil => exact C.exdone p _ _
 | cons q r => exact C.st h _ p
theorem Clo.failown {P : Th → Prop} (C : Clo P) {K : Cx} {h : Th} (p : P h) (r : List Int) : P (hFailOwn K r h) := by
 unfold hFailOwn hCount
 split
 ·split
  ·exact C.st _ _ (C.rk h h.rank (h.fails + 1) p)
  ·exact C.st _ _ (C.rk h h.rank (h.fails + 1) p)
 ·exact C.st h _ p
theorem Clo.fail {P : Th → Prop} (C : Clo P) {K : Cx} {h : Th} (p : P h) : P (hFail K h) := by
 unfold hFail
 split
 ·exact C.st h _ p
 ·exact C.failown p _
theorem Clo.shut {P : Th → Prop} (C : Clo P) {h : Th} (p : P h) (c : Int) (r : List Int) : P (hShutAt c r h) := by
 cases r with
 | nil => exact C.st h _ p
 | cons q r => exact C.st h _ p
theorem Clo.still {P : Th → Prop} (C : Clo P) {h : Th} (p : P h) (c : Int) : ∀ r : List EntD, P (hStillAt c r h)
 | [] => C.shut p c _
 | q :: r => by
  unfold hStillAt
  split
  ·exact C.still p c r
  ·exact C.st h _ p
theorem Clo.opn {P : Th → Prop} (C : Clo P) {h : Th} (p : P h) (c : Int) (r : List Int) : P (hOpenAt c r h) := by
 cases r with
 | nil => exact C.st h _ p
 | cons q r => exact C.st h _ p
theorem Clo.word {P : Th → Prop} (C : Clo P) {h : Th} (p : P h) (c : Int) (r : List EntD) : P (hWordAt c r h) := by
 cases r with
 | nil => exact C.opn p c _
 | cons q r => exact C.st h _ p
theorem Clo.free {P : Th → Prop} (C : Clo P) {h : Th} (p : P h) (e : Int) (r : List Int) : P (hFreeAt e r h) := by
 cases r with
 | nil => exact C.st h _ p
 | cons q r => exact C.st h _ p
theorem Clo.next {P : Th → Prop} (C : Clo P) {K : Cx} {h : Th} (v : AnsD) (p : P h) (n1 : h.st ≠ .start) (n2 : ∀ e, h.st ≠ .fin e) (n3 : h.st ≠ .fStat) : P (hNext K h v) := by
 unfold hNext
 cases hst : h.st with
 | idle => exact p
 | start => exact absurd hst n1
 | rHeld i a => exact C.got p _ _ _
 | rVer i a => simp only; split; exact p; exact C.st h _ p
 | rWord i a one => exact C.st h _ p
 | rAgain i a one w =>
  simp only
  split
  ·exact C.st h _ p
  ·generalize (if (entIdx h.x.reads (a.tmod K.c.s)).isSome then h.x else { h.x with reads := h.x.reads ++ [⟨a.tmod K.c.s, one⟩] }) = y
   split
   ·exact C.got (C.st _ (.rAgain i a one w) (C.x h y p)) _ _ _
   ·exact C.st _ _ (C.x h y p)
 | xClock x => exact C.exstill p _ _ _
 | xVer x c r =>
  cases r with
  | nil => exact p
  | cons q r => simp only; split; exact C.fail p; exact C.exstill p _ _ _
 | gStat i a => simp only; split; exact C.fail p; exact C.st h _ p
 | gOwn i a =>
  simp only
  split
  ·exact C.st _ _ (C.x h { h.x with held := h.x.held ++ [a.tmod K.c.s] } p)
  ·split
   ·exact C.fail p
   ·exact C.st h _ p
 | gTheir i a u =>
  simp only
  split
  ·exact C.fail (C.st _ (.gTheir i a u) (C.x h { h.x with way := u - 1 } p))
  ·split
   ·exact C.st h _ p
   ·exact C.st h _ p
 | gMark i a u q => exact C.st h _ p
 | gVer i a => simp only; split; exact C.st h _ p; exact C.wrote p _ _
 | tTake => exact C.st _ _ (C.rk h (v.seen + 1) h.fails p)
 | tShow => simp only; split; exact C.fail p; exact C.go p
 | cStat => simp only; split; exact C.fail p; exact C.st h _ p
 | cGate => exact C.st _ _ (C.x h { h.x with inGate := v.seen == 0 } p)
 | cClock => simp only; split; exact C.still p _ _; exact C.shut p _ _
 | cVer c r =>
  cases r with
  | nil => exact p
  | cons q r => simp only; split; exact C.fail p; exact C.still p _ _
 | cShut c r =>
  cases r with
  | nil => exact p
  | cons q r => exact C.shut p _ _
 | cStamp c => exact C.st _ _ (C.md h (fun t => { t with stamp := c + 1 }) (fun _ => rfl) p)
 | cLeave c => exact C.word p _ _
 | cWord c r =>
  cases r with
  | nil => exact p
  | cons q r => exact C.word p _ _
 | cOpen c r =>
  cases r with
  | nil => exact p
  | cons q r => exact C.st h _ p
 | cOwn c r =>
  cases r with
  | nil => exact p
  | cons q r => exact C.opn p _ _
 | free e r =>
  cases r with
  | nil => exact p
  | cons q r => exact C.free p _ _
 | fin e => exact absurd hst (n2 e)
 | fGate => exact C.failown p _
 | fOwn r =>
  cases r with
  | nil => exact p
  | cons q r => exact C.failown p _
 | fTake => exact C.st _ _ (C.rk h (v.seen + 1) h.fails p)
 | fStat => exact absurd hst n3
 | wait win => simp only; split; exact C.st h _ p; exact p
 | rest n => simp only; split; exact C.st h _ p; exact C.st h _ p
def KpL (l : List AttD) (h : Th) : Prop := (∀ a ∈ h.list, a.fin ≠ 0 → a ∈ l) ∧ (h.list ≠ [] → (cur h.list).fin = 0)
theorem clo_kp (l : List AttD) : Clo (KpL l) := by
 refine ⟨fun _ _ p => p, fun _ _ p => p, fun _ _ _ p => p, fun h f hf p => ?_⟩
 refine ⟨fun a ha hn => ?_, fun hl => ?_⟩
 ·by_cases hl : h.list = []
  ·rw [show ({ h with list := modLast h.list f } : Th).list = modLast h.list f from rfl, hl] at ha
   simp [modLast] at ha
  ·have := all_mod (P := fun a => a.fin ≠ 0 → a ∈ l) (f := f) p.1 (fun hx => by
       rw [hf] at hx
       exact absurd (p.2 hl) hx) a ha
   exact this hn
 ·by_cases hl' : h.list = []
  ·rw [show ({ h with list := modLast h.list f } : Th).list = modLast h.list f from rfl, hl'] at hl
   simp [modLast] at hl
  ·show (cur (modLast h.list f)).fin = 0
   rw [cur_mod hl', hf]
   exact p.2 hl'
structure SerB (K : Cx) (a : AttD) (j : Nat) (e : Int) (res : ResD) : Prop where
 run : ∀ W, fOk a.notes W → (iRun K.c W (K.jobs.getD j (0, [])).2).1 = e ∧ (a.fate ≠ 0 → res = resOf e (iRun K.c W (K.jobs.getD j (0, [])).2).2.2.1) ∧ ∀ b, overW (iRun K.c W (K.jobs.getD j (0, [])).2).2.2.1.writes W b = overN a.notes W b
 no : a.stamp = 0 → e = 1 → ∀ f b, overN a.notes f b = f b
def SerE (K : Cx) (h : Th) : Prop := ∀ a ∈ h.list, a.fin ≠ 0 → a.fate ≠ 5 → ∀ j : Nat, a.job = (j : Int) → SerB K a j a.fate (endOf h j)
theorem resOf_regs {x y : TS} {e : Int} (h : x.regs = y.regs) : resOf e x = ⟨e, regOf y 0, regOf y 1, regOf y 2, regOf y 3⟩ := by unfold resOf regOf; rw [h]
theorem ser_at {R : Rn} (O : R.Ok) (t : Int) (t0 : 0 ≤ t) (t1 : t < R.c.t) : ∀ k : Nat, SerE (R.K t) ((R.g k).th t)
 | 0 => by
  have : (hInit (R.K t)).list = [] := by unfold hInit hTo; split <;> rfl
  intro a ha
  rw [show ((R.g 0).th t).list = [] from this] at ha
  cases ha
 | k + 1 => by
  have ih := ser_at O t t0 t1 k
  have T := ti_at O t t0 t1 k
  obtain ⟨_, _, ⟨s1, s2⟩, _, _, _, ⟨f1, f2⟩⟩ := cfgB_true O.c
  -- what had ended before
  have old : ∀ a ∈ ((R.g k).th t).list, a.fin ≠ 0 → a.fate ≠ 5 → ∀ j : Nat, a.job = (j : Int) → SerB (R.K t) a j a.fate (endOf ((R.g (k + 1)).th t) j) := fun a ha hn hf j hj => by
   have A := att_t O k t t0 t1 ha
   have hfate : 1 ≤ a.fate ∧ a.fate ≤ 4 := by
    rcases A.en with x | x
    ·exact absurd x.1 hn
    ·have := x.2.2.1; omega
   have he := T.fa (er a) (List.mem_map.2 ⟨a, ha, rfl⟩) j hj hfate.1 hfate.2
   rw [ends_step O k t t0 t1 j (by rw [he]; show a.fate ≠ 0; omega)]
   exact ih a ha hn hf j hj
  by_cases hp : (R.pk k).thread = t
  ·have Q := sq_at O t t0 t1 k
   have G := Rn.okT O k t t0 t1
   rw [R.at k hp t0 t1] at old ⊢
   generalize hv : (⟨(accBy (R.g k).m (R.out k t)).seen, (R.pk k).draw, (k : Int) + 1⟩ : AnsD) = v at *
   have hnum : v.num = (k : Int) + 1 := by rw [← hv]
   generalize (R.g k).th t = h at *
   by_cases h1 : h.st = .start
   ·have hn : hNext (R.K t) h v = hGo (R.K t) { h with list := h.list ++ [⟨(R.K t).me, h.job, v.num, 0, v.seen, 0, 0, []⟩], x := newTS ((R.K t).jobs.getD h.job (0, [])).2 v.seen } := by unfold hNext; rw [h1]
    have kp : KpL h.list (hNext (R.K t) h v) := by
     rw [hn]
     refine (clo_kp h.list).go ⟨fun a ha hx => ?_, fun _ => by rw [cur_snoc]⟩
     rcases List.mem_append.1 ha with ha | ha
     ·exact ha
     ·rw [List.mem_singleton.1 ha] at hx; exact absurd rfl hx
    exact fun a ha hx => old a (kp.1 a ha hx) hx
   ·by_cases h2 : ∃ e, h.st = .fin e
    ·obtain ⟨e, h2⟩ := h2
     have hn : hNext (R.K t) h v = hTo (R.K t) (h.job + 1) { h.ended v.num e with ends := h.ends.set h.job ⟨e, regOf h.x 0, regOf h.x 1, regOf h.x 2, regOf h.x 3⟩ } := by unfold hNext; rw [h2]
     have hl : (hNext (R.K t) h v).list = modLast h.list fun t => { t with fin := v.num, fate := e } := by rw [hn]; unfold hTo; split <;> rfl
     have En : (hNext (R.K t) h v).ends = h.ends.set h.job ⟨e, regOf h.x 0, regOf h.x 1, regOf h.x 2, regOf h.x 3⟩ := by rw [hn]; unfold hTo; split <;> rfl
     obtain ⟨l0, q, E0, q1, q2, q3, q4, q5⟩ := T.ne (by simp [Opn, h2])
     have ni : h.st ≠ .idle := fun f => by rw [h2] at f; cases f
     obtain ⟨j1, j2⟩ := T.jn ni
     have hne : h.list ≠ [] := fun f => by rw [f] at E0; simp at E0
     have hcur : (cur h.list).job = (h.job : Int) ∧ (cur h.list).stamp = q.stamp := by
      obtain ⟨m0, z, hm⟩ := snoc_of hne
      rw [hm, List.map_append] at E0
      have := List.append_inj_right' E0 rfl
      have ez : er z = q := by simpa using this
      rw [hm, cur_snoc]
      exact ⟨by rw [← q3, ← ez]; rfl, by rw [← ez]; rfl⟩
     unfold SQ at Q
     rw [h2] at Q
     obtain ⟨Q1, Q2⟩ := Q
     intro a ha hx hf5 j hj
     rw [hl] at ha
     by_cases hin : a ∈ h.list ∧ a.fin ≠ 0 ∧ a ≠ { cur h.list with fin := v.num, fate := e }
     ·exact old a hin.1 hx hf5 j hj
     ·have ea : a = { cur h.list with fin := v.num, fate := e } := by
       obtain ⟨m0, z, hm⟩ := snoc_of hne
       rw [hm, modLast_snoc] at ha
       rw [hm, cur_snoc]
       rcases List.mem_append.1 ha with ha | ha
       ·by_cases h3 : a = { z with fin := v.num, fate := e }
        ·exact h3
        ·exact absurd ⟨by rw [hm]; exact List.mem_append_left _ ha, hx, by rw [hm, cur_snoc]; exact h3⟩ hin
       ·exact List.mem_singleton.1 ha
      have hjj : j = h.job := by
       have : (cur h.list).job = (j : Int) := by rw [ea] at hj; exact hj
       omega
      have hend : endOf (hNext (R.K t) h v) h.job = ⟨e, regOf h.x 0, regOf h.x 1, regOf h.x 2, regOf h.x 3⟩ := by
       unfold endOf
       rw [En]
       have : h.job < h.ends.length := by rw [T.el]; exact j1
       simp [List.getD, this]
      rw [hjj, hend, ea]
      refine ⟨fun W hW => ?_, fun hs0 he1 f b => ?_⟩
      ·have F := Q1.2 W hW
       refine ⟨F.fate, fun _ => (resOf_regs F.regs).symm, fun b => ?_⟩
       show overW (iRun (R.K t).c W (codeOf (R.K t) h)).2.2.1.writes W b = overN (nts h) W b
       rw [F.writes, Q1.1.2]
      ·show overN (nts h) f b = f b
       rcases Q2 he1 with hw | hs
       ·rw [Q1.1.2, hw]; rfl
       ·exact absurd hs0 hs
    ·by_cases h3 : h.st = .fStat
     ·have hl : (hNext (R.K t) h v).list = modLast h.list fun t => { t with fin := v.num, fate := 5 } := by
       unfold hNext
       rw [h3]
       simp only
       generalize (if 0 < v.seen.tmod 8 then v.seen.tmod 8 - 1 else h.x.way) = win
       split
       ·rfl
       ·unfold hRest
        simp only
        generalize (v.draw.tmod ((if (h.ended v.num 5).fails < (R.K t).c.cp then (h.ended v.num 5).fails else (R.K t).c.cp) + 1)).toNat = n
        split <;> rfl
      intro a ha hx hf5
      rw [hl] at ha
      by_cases hne : h.list = []
      ·rw [hne] at ha; simp [modLast] at ha
      ·obtain ⟨m0, z, hm⟩ := snoc_of hne
       rw [hm, modLast_snoc] at ha
       rcases List.mem_append.1 ha with ha | ha
       ·exact old a (by rw [hm]; exact List.mem_append_left _ ha) hx hf5
       ·rw [List.mem_singleton.1 ha] at hf5
        exact absurd rfl hf5
     ·by_cases ho : Opn h = true
      ·obtain ⟨l0, q, E0, q1, q2, q3, q4, q5⟩ := T.ne ho
       have hne : h.list ≠ [] := fun f => by rw [f] at E0; simp at E0
       have kp0 : KpL h.list h := ⟨fun a ha _ => ha, fun _ => by
           obtain ⟨m0, z, hm⟩ := snoc_of hne
           rw [hm, List.map_append] at E0
           have := List.append_inj_right' E0 rfl
           have ez : er z = q := by simpa using this
           rw [hm, cur_snoc]
           rw [← ez] at q1
           exact q1⟩
       have kp := (clo_kp h.list).next (K := R.K t) v kp0 h1 (fun e x => h2 ⟨e, x⟩) h3
       exact fun a ha hx => old a (kp.1 a ha hx) hx
      ·have hl : (hNext (R.K t) h v).list = h.list := by
        unfold Opn at ho
        unfold hNext
        cases hst : h.st with
        | idle => rfl
        | start => exact absurd hst h1
        | wait win => simp only; split <;> rfl
        | rest n => simp only; split <;> rfl
        | _ => simp [hst] at ho
       intro a ha
       rw [hl] at ha
       exact old a ha
  ·rw [R.off k hp] at old ⊢
   exact old
end Go.Proofs.YtejadojilncbjabGreat
