import Derived.Test.YtejadojilncbjabGreatD15
import Derived.Test.YtejadojilncbjabGreatD25
namespace Go.Proofs.YtejadojilncbjabGreat
set_option linter.unusedVariables false
theorem overN_at {a : Int} : ∀ (l : List NoteD) (f g : Int → Int), f a = g a → overN l f a = overN l g a
 | [], f, g, h => h
 | n :: r, f, g, h => by
  unfold overN
  refine overN_at r _ _ ?_
  split
  ·exact h
  ·unfold upd
   split
   ·rfl
   ·exact h
theorem AttOk.st {K : Cx} {G : Gh} {b : Int} {x : AttD} (A : AttOk K G b x) : 0 ≤ x.stamp ∧ x.stamp ≤ b ∧ x.valid ≤ b ∧ (0 < x.stamp → x.valid < x.stamp) := by
 have := A.va
 rcases A.snd with ⟨p, q, r⟩ | ⟨p, q, r⟩
 ·omega
 ·omega
theorem real_time {R : Rn} (O : R.Ok) {x y : AttD} (hx : x ∈ R.hist) (hy : y ∈ R.hist) (h1 : 0 < y.fin) (h2 : y.fin < x.start) : Ahd y x := by
 obtain ⟨t, t0, t1, hx'⟩ := (hist_mem O).1 hx
 obtain ⟨u, u0, u1, hy'⟩ := (hist_mem O).1 hy
 have X := att_t O _ t t0 t1 hx'
 have Y := att_t O _ u u0 u1 hy'
 have AX : AttOk (R.K t) (R.gh R.ps.length) (R.clk R.ps.length) x := att_at O.c O.w O.m R.jobs R.ps _ t t0 t1 x hx'
 have AY : AttOk (R.K u) (R.gh R.ps.length) (R.clk R.ps.length) y := att_at O.c O.w O.m R.jobs R.ps _ u u0 u1 y hy'
 have sx := AX.st
 have sy := AY.st
 rcases Y.en with e | e
 ·omega
 ·have m := Rn.clk_mono O (j := (y.fin - 1).toNat) (k := (x.start - 1).toNat) (by omega)
  have v1 := X.vl
  have v2 := e.2.2.2.2.2.2
  have v3 := e.1
  have p1 : plA y ≤ x.valid := by unfold plA; split <;> omega
  have p2 : x.valid ≤ plA x ∧ (0 < x.stamp → x.valid < plA x) := by unfold plA; split <;> omega
  have p3 : 0 ≤ plB y ∧ plB y ≤ 1 := by unfold plB; split <;> omega
  have p4 : ¬ 0 < x.stamp → plB x = 1 := fun h => by unfold plB; rw [if_neg h]
  unfold Ahd Sooner
  by_cases hs : 0 < x.stamp
  ·have := p2.2 hs
   omega
  ·have := p4 hs
   omega
theorem stamp_un {R : Rn} (O : R.Ok) {x y : AttD} (hx : x ∈ R.hist) (hy : y ∈ R.hist) (h : x.stamp ≠ 0) (e : x.stamp = y.stamp) : x.start = y.start := by
 obtain ⟨t, t0, t1, hx'⟩ := (hist_mem O).1 hx
 obtain ⟨u, u0, u1, hy'⟩ := (hist_mem O).1 hy
 exact ((sti_at O R.ps.length).un t u t0 t1 u0 u1 (er x) (List.mem_map.2 ⟨x, hx', rfl⟩) (er y) (List.mem_map.2 ⟨y, hy', rfl⟩) h e).2
theorem stamp_ex {R : Rn} (O : R.Ok) {v : Int} (v1 : 1 ≤ v) (v2 : v ≤ R.clk R.ps.length) : ∃ x ∈ R.hist, x.stamp = v := by
 obtain ⟨t, t0, t1, a, ha, e⟩ := (sti_at O R.ps.length).ex v v1 v2
 obtain ⟨b, hb, e2⟩ := er_mem ha
 refine ⟨b, (hist_mem O).2 ⟨t, t0, t1, hb⟩, ?_⟩
 rw [← e, e2]
 rfl
theorem hist_ok {R : Rn} (O : R.Ok) {x : AttD} (hx : x ∈ R.hist) : AttOk (R.K 0) (R.gh R.ps.length) (R.clk R.ps.length) x := by
 obtain ⟨t, t0, t1, hx'⟩ := (hist_mem O).1 hx
 have A : AttOk (R.K t) (R.gh R.ps.length) (R.clk R.ps.length) x := att_at O.c O.w O.m R.jobs R.ps _ t t0 t1 x hx'
 exact ⟨A.inn, A.va, A.snd⟩
def Rn.res (R : Rn) (k j : Nat) : ResD := endOf ((R.g k).th (R.jobs.getD j (0, [])).1) j
def NfSt (K : Cx) (m : Int → Int) (h : Th) : Prop := match h.st with
 | .idle => True
 | .start => True
 | .rHeld _ _ => h.x.valid = m 0
 | .rVer _ _ => h.x.valid = m 0
 | .rWord _ a one => h.x.valid = m 0 ∧ m (3 + a.tmod K.c.s) = one
 | .rAgain _ a one _ => h.x.valid = m 0 ∧ m (3 + a.tmod K.c.s) = one
 | .gStat _ _ => h.x.valid = m 0
 | .gOwn _ _ => h.x.valid = m 0
 | .gVer _ _ => h.x.valid = m 0
 | .tTake => h.x.valid = m 0 ∧ m (hSta K K.me) = 0
 | .tShow => h.x.valid = m 0 ∧ m (hSta K K.me) = 0
 | .cStat => h.x.valid = m 0
 | .cGate => h.x.valid = m 0
 | .cClock => h.x.valid = m 0
 | .cShut _ _ => True
 | .cStamp _ => True
 | .cLeave _ => True
 | .cWord _ _ => True
 | .cOpen _ _ => True
 | .cOwn _ _ => True
 | .free _ _ => True
 | .fin _ => True
 | _ => False
structure Nf (K : Cx) (m : Int → Int) (h : Th) : Prop where
 rk : h.rank = 0 → m (hSta K K.me) = 0
 mr : (m (hSta K K.me)).tmod 8 = 0
 st : NfSt K m h
theorem Nf.same {K : Cx} {m m' : Int → Int} {h : Th} (e0 : m' 0 = m 0) (es : m' (hSta K K.me) = m (hSta K K.me)) (ev : ∀ s, 0 ≤ s → s < K.c.s → m' (3 + s) = m (3 + s)) (s1 : 1 ≤ K.c.s) {k : Int} (A : StepOk K k h) (N : Nf K m h) : Nf K m' h := by
 refine ⟨by rw [es]; exact N.rk, by rw [es]; exact N.mr, ?_⟩
 have S := N.st
 unfold NfSt at S ⊢
 unfold StepOk at A
 cases hst : h.st with
 | rWord i a one =>
  rw [hst] at S A
  have b := tmodP s1 A.1.1
  exact ⟨by rw [e0]; exact S.1, by rw [ev _ b.1 b.2]; exact S.2⟩
 | rAgain i a one w =>
  rw [hst] at S A
  have b := tmodP s1 A.1.1
  exact ⟨by rw [e0]; exact S.1, by rw [ev _ b.1 b.2]; exact S.2⟩
 | tTake => rw [hst] at S; exact ⟨by rw [e0]; exact S.1, by rw [es]; exact S.2⟩
 | tShow => rw [hst] at S; exact ⟨by rw [e0]; exact S.1, by rw [es]; exact S.2⟩
 | rHeld i a => rw [hst] at S; exact S.trans e0.symm
 | rVer i a => rw [hst] at S; exact S.trans e0.symm
 | gStat i a => rw [hst] at S; exact S.trans e0.symm
 | gOwn i a => rw [hst] at S; exact S.trans e0.symm
 | gVer i a => rw [hst] at S; exact S.trans e0.symm
 | cStat => rw [hst] at S; exact S.trans e0.symm
 | cGate => rw [hst] at S; exact S.trans e0.symm
 | cClock => rw [hst] at S; exact S.trans e0.symm
 | _ => rw [hst] at S; exact S
def Rn.One (R : Rn) (u : Int) : Prop := ∀ j, j < R.jobs.length → (R.jobs.getD j (0, [])).1 = u
structure SimA (x y : TS) : Prop where
 code : x.code = y.code
 regs : x.regs = y.regs
 place : x.place = y.place
 begun : x.begun = y.begun
 writes : x.writes = y.writes
def GoesA (c : Cfg) (W : Int → Int) (code : List InsD) (x : TS) : Prop := ∃ (N : Nat) (r : Int) (y : TS), (iRun c W code).1 = (iSteps c W N r y).1 ∧ (iRun c W code).2.2.1 = (iSteps c W N r y).2.2.1 ∧ SimA x y ∧ c.f < y.begun + N ∧ (y.begun : Int) ≤ c.f
structure FiniA (c : Cfg) (W : Int → Int) (code : List InsD) (e : Int) (x : TS) : Prop where
 fate : (iRun c W code).1 = e
 regs : (iRun c W code).2.2.1.regs = x.regs
 writes : (iRun c W code).2.2.1.writes = x.writes
theorem GoesA.of {c : Cfg} {W : Int → Int} {code : List InsD} {x x' : TS} (G : GoesA c W code x) (S : SimA x' x) : GoesA c W code x' := by
 obtain ⟨N, r, y, g1, g2, T, g3⟩ := G
 exact ⟨N, r, y, g1, g2, ⟨S.code.trans T.code, S.regs.trans T.regs, S.place.trans T.place, S.begun.trans T.begun, S.writes.trans T.writes⟩, g3⟩
theorem FiniA.of {c : Cfg} {W : Int → Int} {code : List InsD} {e : Int} {x x' : TS} (F : FiniA c W code e x) (h1 : x'.regs = x.regs) (h2 : x'.writes = x.writes) : FiniA c W code e x' := ⟨F.fate, by rw [h1]; exact F.regs, by rw [h2]; exact F.writes⟩
structure MidA (c : Cfg) (W : Int → Int) (code : List InsD) (i : InsD) (x : TS) : Prop where
 ex : ∃ x0, GoesA c W code x0 ∧ x0.place ≠ x0.code.length ∧ (x0.begun : Int) ≠ c.f ∧ formedB (insAt x0.code x0.place) x0.code.length = true ∧ insAt x0.code x0.place = i ∧ SimA x { x0 with begun := x0.begun + 1, place := x0.place + 1 }
theorem MidA.of {c : Cfg} {W : Int → Int} {code : List InsD} {i : InsD} {x x' : TS} (M : MidA c W code i x) (S : SimA x' x) : MidA c W code i x' := by
 obtain ⟨x0, a, b, d, e, f, T⟩ := M.ex
 exact ⟨x0, a, b, d, e, f, ⟨S.code.trans T.code, S.regs.trans T.regs, S.place.trans T.place, S.begun.trans T.begun, S.writes.trans T.writes⟩⟩
def notW (i : InsD) : Prop := i.op ≠ 0 ∧ i.op ≠ 1 ∧ i.op ≠ 2 ∧ i.op ≠ 3 ∧ i.op ≠ 4 ∧ i.op ≠ 5 ∧ i.op ≠ 6
def codeOf (K : Cx) (h : Th) : List InsD := (K.jobs.getD h.job (0, [])).2
def nts (h : Th) : List NoteD := (cur h.list).notes
def QQ (K : Cx) (h : Th) : Prop := ∀ W, fOk (nts h) W → GoesA K.c W (codeOf K h) h.x
def RdQ (K : Cx) (h : Th) (i : InsD) (a : Int) : Prop := (notW i ∧ i.op = 7 ∧ a = regOf h.x i.b ∧ ¬ K.c.wd ≤ a) ∧ ∀ W, fOk (nts h) W → MidA K.c W (codeOf K h) i h.x
def WrQ (K : Cx) (h : Th) (i : InsD) (a : Int) : Prop := (notW i ∧ i.op ≠ 7 ∧ a = regOf h.x i.a ∧ ¬ K.c.wd ≤ a) ∧ ∀ W, fOk (nts h) W → MidA K.c W (codeOf K h) i h.x
def OvX (h : Th) : Prop := h.list ≠ [] ∧ ∀ f a, overN (nts h) f a = overW h.x.writes f a
def EndQ (K : Cx) (h : Th) (e : Int) : Prop := OvX h ∧ ∀ W, fOk (nts h) W → FiniA K.c W (codeOf K h) e h.x
def Sp (h : Th) : Prop := (cur h.list).stamp ≠ 0
def ExQ (K : Cx) (h : Th) : Ex → Prop
 | .rd i a _ => RdQ K h i a
 | .wr i a => WrQ K h i a
def SQ (K : Cx) (h : Th) : Prop := match h.st with
 | .rHeld i a => RdQ K h i a
 | .rVer i a => RdQ K h i a
 | .rWord i a _ => RdQ K h i a
 | .rAgain i a _ _ => RdQ K h i a
 | .xClock x => ExQ K h x
 | .xVer x _ _ => ExQ K h x
 | .gStat i a => WrQ K h i a
 | .gOwn i a => WrQ K h i a
 | .gTheir i a _ => WrQ K h i a
 | .gMark i a _ _ => WrQ K h i a
 | .gVer i a => WrQ K h i a
 | .tTake => QQ K h
 | .tShow => QQ K h
 | .cStat => EndQ K h 1
 | .cGate => EndQ K h 1
 | .cClock => EndQ K h 1
 | .cVer _ _ => EndQ K h 1
 | .cShut _ _ => EndQ K h 1
 | .cStamp _ => EndQ K h 1
 | .cLeave _ => EndQ K h 1 ∧ Sp h
 | .cWord _ _ => EndQ K h 1 ∧ Sp h
 | .cOpen _ _ => EndQ K h 1 ∧ Sp h
 | .cOwn _ _ => EndQ K h 1 ∧ Sp h
 | .free e _ => EndQ K h e ∧ e ≠ 1
 | .fin e => EndQ K h e ∧ (e = 1 → h.x.writes = [] ∨ Sp h)
 | _ => True
theorem RdQ.of {K : Cx} {h h' : Th} {i : InsD} {a : Int} (R : RdQ K h i a) (e1 : nts h' = nts h) (e2 : h'.job = h.job) (S : SimA h'.x h.x) : RdQ K h' i a := by
 refine ⟨⟨R.1.1, R.1.2.1, ?_, R.1.2.2.2⟩, fun W hw => ?_⟩
 ·rw [R.1.2.2.1]; unfold regOf; rw [S.regs]
 ·rw [e1] at hw
  have := (R.2 W hw).of S
  unfold codeOf at this ⊢
  rw [e2]; exact this
theorem WrQ.of {K : Cx} {h h' : Th} {i : InsD} {a : Int} (R : WrQ K h i a) (e1 : nts h' = nts h) (e2 : h'.job = h.job) (S : SimA h'.x h.x) : WrQ K h' i a := by
 refine ⟨⟨R.1.1, R.1.2.1, ?_, R.1.2.2.2⟩, fun W hw => ?_⟩
 ·rw [R.1.2.2.1]; unfold regOf; rw [S.regs]
 ·rw [e1] at hw
  have := (R.2 W hw).of S
  unfold codeOf at this ⊢
  rw [e2]; exact this
theorem QQ.of {K : Cx} {h h' : Th} (R : QQ K h) (e1 : nts h' = nts h) (e2 : h'.job = h.job) (S : SimA h'.x h.x) : QQ K h' := fun W hw => by
 rw [e1] at hw
 have := (R W hw).of S
 unfold codeOf at this ⊢
 rw [e2]; exact this
theorem EndQ.of {K : Cx} {h h' : Th} {e : Int} (R : EndQ K h e) (e0 : h'.list ≠ []) (e1 : nts h' = nts h) (e2 : h'.job = h.job) (r : h'.x.regs = h.x.regs) (w : h'.x.writes = h.x.writes) : EndQ K h' e := by
 refine ⟨⟨e0, fun f a => ?_⟩, fun W hw => ?_⟩
 ·rw [e1, w]; exact R.1.2 f a
 ·rw [e1] at hw
  have := (R.2 W hw).of r w
  unfold codeOf at this ⊢
  rw [e2]; exact this
theorem SimA.refl (x : TS) : SimA x x := ⟨rfl, rfl, rfl, rfl, rfl⟩
def Did3 (K : Cx) (k : Int) (t : Bool × Th) : Prop := (t.1 = true → QQ K t.2 ∧ OvX t.2 ∧ Wh K t.2) ∧ (t.1 = false → SQ K t.2)
theorem Did3.off {K : Cx} {k : Int} {h' : Th} (A : SQ K h') : Did3 K k (false, h') := ⟨(fun e => nomatch e), fun _ => A⟩
theorem Did3.on {K : Cx} {k : Int} {h' : Th} (A : QQ K h') (B : OvX h') (C : Wh K h') : Did3 K k (true, h') := ⟨fun _ => ⟨A, B, C⟩, (fun e => nomatch e)⟩
structure Clo (P : Th → Prop) : Prop where
 x : ∀ h x, P h → P { h with x := x }
 st : ∀ h s, P h → P { h with st := s }
 rk : ∀ h r f, P h → P { h with rank := r, fails := f }
 md : ∀ h (f : AttD → AttD), (∀ t, (f t).fin = t.fin) → P h → P { h with list := modLast h.list f }
theorem Clo.noted {P : Th → Prop} (C : Clo P) {h : Th} (p : P h) (op a v : Int) : P (h.noted op a v) := C.md h _ (fun _ => rfl) p
theorem Clo.put {P : Th → Prop} (C : Clo P) {h : Th} (p : P h) (i : InsD) (a : Int) : P (hPut i a h) := C.noted (h := { h with x := { h.x with writes := putEnt h.x.writes a (regOf h.x i.b) } }) (C.x h _ p) _ _ _
theorem Clo.close {P : Th → Prop} (C : Clo P) {h : Th} (p : P h) (e : Int) : P (hClose e h) := by
 unfold hClose hFreeAt
 split
 ·exact C.st h _ p
 ·split
  ·exact C.st h _ p
  ·exact C.st h _ p
theorem Clo.step {P : Th → Prop} (C : Clo P) {K : Cx} {h : Th} (p : P h) : P (hStep K h).2 := by
 unfold hStep
 by_cases h1 : h.x.place = h.x.code.length
 ·rw [if_pos h1]; exact C.close p 1
 rw [if_neg h1]
 by_cases h2 : (h.x.begun : Int) = K.c.f
 ·rw [if_pos h2]; exact C.close p 4
 rw [if_neg h2]
 simp only
 generalize insAt h.x.code h.x.place = i at *
 by_cases h3 : formedB i h.x.code.length = false
 ·rw [if_pos h3]; exact C.close (C.x h _ p) 3
 rw [if_neg h3]
 by_cases o0 : i.op = 0
 ·rw [if_pos o0]; exact C.close (C.x h _ p) 1
 rw [if_neg o0]
 by_cases o1 : i.op = 1
 ·rw [if_pos o1]; exact C.close (C.x h _ p) 2
 rw [if_neg o1]
 by_cases o2 : i.op = 2
 ·rw [if_pos o2]; exact C.x h _ p
 rw [if_neg o2]
 by_cases o3 : i.op = 3
 ·rw [if_pos o3]; exact C.x h _ p
 rw [if_neg o3]
 by_cases o4 : i.op = 4
 ·rw [if_pos o4]; exact C.x h _ p
 rw [if_neg o4]
 by_cases o5 : i.op = 5
 ·rw [if_pos o5]; exact C.x h _ p
 rw [if_neg o5]
 by_cases o6 : i.op = 6
 ·rw [if_pos o6]; exact C.x h _ p
 rw [if_neg o6]
 by_cases o7 : i.op = 7
 ·rw [if_pos o7]
  have p2 := C.x h { h.x with begun := h.x.begun + 1, place := h.x.place + 1 } p
  generalize ({ h with x := { h.x with begun := h.x.begun + 1, place := h.x.place + 1 } } : Th) = y at *
  unfold hRead
  simp only
  split
  ·exact C.close p2 3
  ·split
   ·exact C.noted (C.x y _ p2) _ _ _
   ·split
    ·exact C.st y _ p2
    ·exact C.st y _ p2
 ·rw [if_neg o7]
  have p2 := C.x h { h.x with begun := h.x.begun + 1, place := h.x.place + 1 } p
  generalize ({ h with x := { h.x with begun := h.x.begun + 1, place := h.x.place + 1 } } : Th) = y at *
  unfold hWrite
  simp only
  split
  ·exact C.close p2 3
  ·split
   ·exact C.put p2 _ _
   ·exact C.st y _ p2
theorem Clo.adv {P : Th → Prop} (C : Clo P) {K : Cx} : ∀ (n : Nat) {h : Th}, P h → P (hAdv K n h)
 | 0, h, p => p
 | n + 1, h, p => by
  unfold hAdv
  split
  ·exact C.adv n (C.step p)
  ·exact C.step p
theorem Clo.go {P : Th → Prop} (C : Clo P) {K : Cx} {h : Th} (p : P h) : P (hGo K h) := C.adv _ p
theorem Clo.got {P : Th → Prop} (C : Clo P) {K : Cx} {h : Th} (p : P h) (i : InsD) (a v : Int) : P (hGot K i a v h) := C.go (C.noted (C.x h _ p) _ _ _)
theorem Clo.wrote {P : Th → Prop} (C : Clo P) {K : Cx} {h : Th} (p : P h) (i : InsD) (a : Int) : P (hWrote K i a h) := by
 unfold hWrote
 split
 ·exact C.go (C.put p _ _)
 ·exact C.st _ _ (C.put p _ _)
theorem Clo.exdone {P : Th → Prop} (C : Clo P) {K : Cx} {h : Th} (p : P h) (x : Ex) (c : Int) : P (hExDone K x c h) := by
 have p1 := C.x _ { h.x with valid := c } (C.md h (fun t => { t with valid := c }) (fun _ => rfl) p)
 cases x with
 | rd i a v => exact C.got p1 _ _ _
 | wr i a => exact C.wrote p1 _ _
theorem Clo.exstill {P : Th → Prop} (C : Clo P) {K : Cx} {h : Th} (p : P h) (x : Ex) (c : Int) (r : List EntD) : P (hExStill K x c r h) := by
 cases r with
 | nil => exact C.exdone p _ _
 | cons q r => exact C.st h _ p
theorem Clo.failown {P : Th → Prop} (C : Clo P) {K : Cx} {h : Th} (p : P h) (r : List Int) : P (hFailOwn K r h) := by
 unfold hFailOwn hCount
 split
 ·split
  ·exact C.st _ _ (C.rk h h.rank (h.fails + 1) p)
  ·exact C.st _ _ (C.rk h h.rank (h.fails + 1) p)
 ·exact C.st h _ p
theorem Clo.fail {P : Th → Prop} (C : Clo P) {K : Cx} {h : Th} (p : P h) : P (hFail K h) := by
 unfold hFail
 split
 ·exact C.st h _ p
 ·exact C.failown p _
theorem Clo.shut {P : Th → Prop} (C : Clo P) {h : Th} (p : P h) (c : Int) (r : List Int) : P (hShutAt c r h) := by
 cases r with
 | nil => exact C.st h _ p
 | cons q r => exact C.st h _ p
theorem Clo.still {P : Th → Prop} (C : Clo P) {h : Th} (p : P h) (c : Int) : ∀ r : List EntD, P (hStillAt c r h)
 | [] => C.shut p c _
 | q :: r => by
  unfold hStillAt
  split
  ·exact C.still p c r
  ·exact C.st h _ p
theorem Clo.opn {P : Th → Prop} (C : Clo P) {h : Th} (p : P h) (c : Int) (r : List Int) : P (hOpenAt c r h) := by
 cases r with
 | nil => exact C.st h _ p
 | cons q r => exact C.st h _ p
theorem Clo.word {P : Th → Prop} (C : Clo P) {h : Th} (p : P h) (c : Int) (r : List EntD) : P (hWordAt c r h) := by
 cases r with
 | nil => exact C.opn p c _
 | cons q r => exact C.st h _ p
theorem Clo.free {P : Th → Prop} (C : Clo P) {h : Th} (p : P h) (e : Int) (r : List Int) : P (hFreeAt e r h) := by
 cases r with
 | nil => exact C.st h _ p
 | cons q r => exact C.st h _ p
theorem Clo.next {P : Th → Prop} (C : Clo P) {K : Cx} {h : Th} (v : AnsD) (p : P h) (n1 : h.st ≠ .start) (n2 : ∀ e, h.st ≠ .fin e) (n3 : h.st ≠ .fStat) : P (hNext K h v) := by
 unfold hNext
 cases hst : h.st with
 | idle => exact p
 | start => exact absurd hst n1
 | rHeld i a => exact C.got p _ _ _
 | rVer i a => simp only; split; exact p; exact C.st h _ p
 | rWord i a one => exact C.st h _ p
 | rAgain i a one w =>
  simp only
  split
  ·exact C.st h _ p
  ·generalize (if (entIdx h.x.reads (a.tmod K.c.s)).isSome then h.x else { h.x with reads := h.x.reads ++ [⟨a.tmod K.c.s, one⟩] }) = y
   split
   ·exact C.got (C.st _ (.rAgain i a one w) (C.x h y p)) _ _ _
   ·exact C.st _ _ (C.x h y p)
 | xClock x => exact C.exstill p _ _ _
 | xVer x c r =>
  cases r with
  | nil => exact p
  | cons q r => simp only; split; exact C.fail p; exact C.exstill p _ _ _
 | gStat i a => simp only; split; exact C.fail p; exact C.st h _ p
 | gOwn i a =>
  simp only
  split
  ·exact C.st _ _ (C.x h { h.x with held := h.x.held ++ [a.tmod K.c.s] } p)
  ·split
   ·exact C.fail p
   ·exact C.st h _ p
 | gTheir i a u =>
  simp only
  split
  ·exact C.fail (C.st _ (.gTheir i a u) (C.x h { h.x with way := u - 1 } p))
  ·split
   ·exact C.st h _ p
   ·exact C.st h _ p
 | gMark i a u q => exact C.st h _ p
 | gVer i a => simp only; split; exact C.st h _ p; exact C.wrote p _ _
 | tTake => exact C.st _ _ (C.rk h (v.seen + 1) h.fails p)
 | tShow => simp only; split; exact C.fail p; exact C.go p
 | cStat => simp only; split; exact C.fail p; exact C.st h _ p
 | cGate => exact C.st _ _ (C.x h { h.x with inGate := v.seen == 0 } p)
 | cClock => simp only; split; exact C.still p _ _; exact C.shut p _ _
 | cVer c r =>
  cases r with
  | nil => exact p
  | cons q r => simp only; split; exact C.fail p; exact C.still p _ _
 | cShut c r =>
  cases r with
  | nil => exact p
  | cons q r => exact C.shut p _ _
 | cStamp c => exact C.st _ _ (C.md h (fun t => { t with stamp := c + 1 }) (fun _ => rfl) p)
 | cLeave c => exact C.word p _ _
 | cWord c r =>
  cases r with
  | nil => exact p
  | cons q r => exact C.word p _ _
 | cOpen c r =>
  cases r with
  | nil => exact p
  | cons q r => exact C.st h _ p
 | cOwn c r =>
  cases r with
  | nil => exact p
  | cons q r => exact C.opn p _ _
 | free e r =>
  cases r with
  | nil => exact p
  | cons q r => exact C.free p _ _
 | fin e => exact absurd hst (n2 e)
 | fGate => exact C.failown p _
 | fOwn r =>
  cases r with
  | nil => exact p
  | cons q r => exact C.failown p _
 | fTake => exact C.st _ _ (C.rk h (v.seen + 1) h.fails p)
 | fStat => exact absurd hst n3
 | wait win => simp only; split; exact C.st h _ p; exact p
 | rest n => simp only; split; exact C.st h _ p; exact C.st h _ p
def Rn.wl (R : Rn) (n : Int) : List Int := (List.range R.c.wd.toNat).map fun a : Nat => (R.gh R.ps.length).W n (a : Int)
structure PH (K : Cx) (G : Gh) (N n : Int) (l : List AttD) : Prop where
 n0 : 0 ≤ n
 nN : n ≤ N
 hs : l.Pairwise Ahd
 ha : ∀ x ∈ l, AttOk K G N x
 hu : l.Pairwise fun a b => a.stamp ≠ 0 → a.stamp ≠ b.stamp
 h1 : ∀ x ∈ l, 0 < x.stamp → n < x.stamp
 h2 : ∀ x ∈ l, x.stamp = 0 → n ≤ x.valid
 h3 : ∀ v, n < v → v ≤ N → ∃ x ∈ l, x.stamp = v
theorem PH.end {K : Cx} {G : Gh} {N n : Int} (P : PH K G N n []) : n = N := by
 have := P.nN
 by_cases h : n = N
 ·exact h
 ·obtain ⟨x, hx, _⟩ := P.h3 (n + 1) (by omega) (by omega)
  cases hx
theorem fold_stamps (K : Cx) (G : Gh) (N p : Int) : ∀ (l : List AttD) (n : Int) (f : Int → Int), 0 ≤ n → n ≤ p → (l.Pairwise fun a b => a.stamp < b.stamp) → (∀ x ∈ l, n < x.stamp ∧ x.stamp ≤ p ∧ AttOk K G N x) → (∀ v, n < v → v ≤ p → ∃ x ∈ l, x.stamp = v) → (∀ a, 0 ≤ a → a < K.c.wd → f a = G.W n a) →
  ∀ a, 0 ≤ a → a < K.c.wd → (l.foldl (fun f x => overN x.notes f) f) a = G.W p a
 | [], n, f, n0, np, _, _, h3, hf, a, a0, a1 => by
  have e : n = p := by
   by_cases h : n = p
   ·exact h
   ·obtain ⟨x, hx, _⟩ := h3 (n + 1) (by omega) (by omega)
    cases hx
  rw [← e]
  exact hf a a0 a1
 | x :: r, n, f, n0, np, hs, hx, h3, hf, a, a0, a1 => by
  have hsx := List.pairwise_cons.1 hs
  have X := hx x List.mem_cons_self
  have e : x.stamp = n + 1 := by
   obtain ⟨y, hy, e⟩ := h3 (n + 1) (by omega) (by omega)
   rcases List.mem_cons.1 hy with q | q
   ·rw [← q]; exact e
   ·have := hsx.1 y q
    omega
  rw [List.foldl_cons]
  refine fold_stamps K G N p r (n + 1) _ (by omega) (by omega) hsx.2 (fun y hy => ⟨by have := hsx.1 y hy; omega, (hx y (List.mem_cons_of_mem _ hy)).2⟩) (fun v v1 v2 => ?_) (fun b b0 b1 => ?_) a a0 a1
  ·obtain ⟨y, hy, e2⟩ := h3 v (by omega) v2
   rcases List.mem_cons.1 hy with q | q
   ·rw [q] at e2; omega
   ·exact ⟨y, q, e2⟩
  ·rw [overN_at x.notes f (G.W n) (hf b b0 b1)]
   rcases X.2.2.snd with q | q
   ·omega
   ·have := q.2.2.2 b b0 b1
    rw [show x.stamp - 1 = n from by omega, e] at this
    exact this
def plN (x : AttD) : Int := if 0 < x.stamp then x.stamp - 1 else x.valid
theorem ahd_stamp {x y : AttD} (hy : 0 < y.stamp) (hx : 0 ≤ x.stamp) (hne : x.stamp = y.stamp → ¬ y.start < x.start) : Ahd y x ↔ y.stamp ≤ plN x := by
 unfold Ahd Sooner plA plB plN
 rw [if_pos hy, if_pos hy]
 by_cases h : 0 < x.stamp
 ·rw [if_pos h, if_pos h, if_pos h]
  by_cases e : x.stamp = y.stamp
  ·have := hne e
   omega
  ·omega
 ·rw [if_neg h, if_neg h, if_neg h]
  omega
theorem ahead_words {R : Rn} (O : R.Ok) {x : AttD} (hx : x ∈ R.hist) (l : List AttD) (hl : ∀ y, y ∈ l ↔ (y ∈ R.hist ∧ 0 < y.stamp ∧ y.start ≠ x.start ∧ Ahd y x)) (hs : l.Pairwise Ahd) (f : Int → Int) (hf : ∀ a, 0 ≤ a → a < R.c.wd → f a = (R.gh R.ps.length).W 0 a) :
  ∀ a, 0 ≤ a → a < R.c.wd → (l.foldl (fun f x => overN x.notes f) f) a = (R.gh R.ps.length).W (plN x) a := by
 have AX := hist_ok O hx
 have sx := AX.st
 have vx := AX.va
 have p0 : 0 ≤ plN x := by unfold plN; split <;> omega
 have same : ∀ {y}, y ∈ R.hist → x.stamp = y.stamp → 0 < y.stamp → y.start = x.start := fun {y} hy e h => stamp_un O hy hx (by omega) e.symm
 refine fold_stamps (R.K 0) (R.gh R.ps.length) (R.clk R.ps.length) (plN x) l 0 f (Int.le_refl _) p0 ?_ (fun y hy => ?_) (fun v v1 v2 => ?_) hf
 ·refine hs.imp_of_mem fun {a b} ha hb h => ?_
  have A := (hl a).1 ha
  have B := (hl b).1 hb
  unfold Ahd Sooner plA plB at h
  rw [if_pos A.2.1, if_pos A.2.1, if_pos B.2.1, if_pos B.2.1] at h
  by_cases e : a.stamp = b.stamp
  ·have := stamp_un O A.1 B.1 (by omega) e
   omega
  ·omega
 ·have Y := (hl y).1 hy
  refine ⟨Y.2.1, ?_, hist_ok O Y.1⟩
  exact (ahd_stamp Y.2.1 sx.1 (fun e => by have := same Y.1 e Y.2.1; omega)).1 Y.2.2.2
 ·have hle : v ≤ R.clk R.ps.length := by
   have : plN x ≤ R.clk R.ps.length := by unfold plN; split <;> omega
   omega
  obtain ⟨y, hy, e⟩ := stamp_ex O (v := v) (by omega) hle
  refine ⟨y, (hl y).2 ⟨hy, by omega, fun es => ?_, ?_⟩, e⟩
  ·-- of one start there is one attempt
   have : y.stamp = x.stamp := by
    have hsr := hist_srt O
    have key : ∀ l : List AttD, (l.Pairwise fun a b => a.start < b.start) → y ∈ l → x ∈ l → y = x := by
     intro l
     induction l with
     | nil => intro _ h; cases h
     | cons z r ih =>
      intro hp h1 h2
      have hz := List.pairwise_cons.1 hp
      rcases List.mem_cons.1 h1 with e1 | e1
      ·rcases List.mem_cons.1 h2 with e2 | e2
       ·rw [e1, e2]
       ·have := hz.1 x e2; rw [e1] at es; omega
      ·rcases List.mem_cons.1 h2 with e2 | e2
       ·have := hz.1 y e1; rw [e2] at es; omega
       ·exact ih hz.2 e1 e2
    rw [key _ hsr hy hx]
   unfold plN at v2
   split at v2 <;> omega
  ·refine (ahd_stamp (by omega) sx.1 (fun e2 => ?_)).2 (by omega)
   have := same hy e2 (by omega)
   omega
theorem ahead_ok {R : Rn} (O : R.Ok) {x : AttD} (hx : x ∈ R.hist) (f : Int → Int) (hf : ∀ a, 0 ≤ a → a < R.c.wd → f a = (R.gh R.ps.length).W (plN x) a) : fOk x.notes f := by
 have AX := hist_ok O hx
 refine fOk_congr _ _ _ (fun n hn => (hf _ (AX.inn n hn).2.1 (AX.inn n hn).2.2).symm) ?_
 unfold plN
 have vx := AX.va
 rcases AX.snd with q | q
 ·rw [if_neg (by omega)]; exact q.2.2
 ·rw [if_pos (by omega)]; exact q.2.2.1
end Go.Proofs.YtejadojilncbjabGreat
