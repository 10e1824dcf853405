import Derived.Test.YtgdfmmfkdmhdgaaGreatH02
import Derived.Test.YtgdfmmfkdmhdgaaGreatH27
import Derived.Test.YtgdfmmfkdmhdgaaGreatH25
import Derived.Test.YtgdfmmfkdmhdgaaGreatH55
namespace Go.Proofs.YtgdfmmfkdmhdgaaGreat
set_option linter.unusedVariables false

/-! The program's thread does what the thread's machine does. -/

/-- The numbers of a thread's jobs, from place j on. -/
def mineF (me : Int) : Nat → List (Int × List InsD) → List Int
  | _, [] => []
  | j, b :: r => if b.1 = me then (j : Int) :: mineF me (j + 1) r else mineF me (j + 1) r

theorem drop_cons3 {α : Type} {l r : List α} {b : α} {j : Nat} (h : l.drop j = b :: r) : l.drop (j + 1) = r ∧ j < l.length ∧ l[j]? = some b := by
  have hj : j < l.length := by
    rcases Nat.lt_or_ge j l.length with h' | h'
    · exact h'
    · rw [List.drop_eq_nil_of_le h'] at h; cases h
  rw [List.drop_eq_getElem_cons hj] at h
  injection h with h1 h2
  exact ⟨h2, hj, by rw [List.getElem?_eq_getElem hj, h1]⟩

theorem mineF_cons (me : Int) (j : Nat) (b : Int × List InsD) (r : List (Int × List InsD)) : mineF me j (b :: r) = if b.1 = me then (j : Int) :: mineF me (j + 1) r else mineF me (j + 1) r := rfl
theorem seek_cons (me : Int) (j : Nat) (b : Int × List InsD) (r : List (Int × List InsD)) : seek me j (b :: r) = if b.1 = me then some j else seek me (j + 1) r := rfl
theorem seek_mine (me : Int) (jobs : List (Int × List InsD)) : ∀ (l : List (Int × List InsD)) (j : Nat), jobs.drop j = l →
    (seek me j l = none ∧ mineF me j l = []) ∨ ∃ k, seek me j l = some k ∧ k < jobs.length ∧ (jobs.getD k (0, [])).1 = me ∧ mineF me j l = (k : Int) :: mineF me (k + 1) (jobs.drop (k + 1))
  | [], j, h => Or.inl ⟨rfl, rfl⟩
  | b :: r, j, h => by
    obtain ⟨h1, h2, h3⟩ := drop_cons3 h
    rw [seek_cons, mineF_cons]
    by_cases hb : b.1 = me
    · rw [if_pos hb, if_pos hb]
      exact Or.inr ⟨j, rfl, h2, by simp [List.getD, h3, hb], by rw [h1]⟩
    · rw [if_neg hb, if_neg hb]
      exact seek_mine me jobs r (j + 1) h1

structure BasF (K : Cx) (c : Cfg) (num rank fails : Int) (mine : List Int) (cur : Nat) (hrank hfails : Int) (job : Nat) : Prop where
  c : c = K.c
  num : num = K.me
  rank : rank = hrank
  fails : fails = hfails
  jlt : job < K.jobs.length
  jme : (K.jobs.getD job (0, [])).1 = K.me
  mine : mine.drop cur = (job : Int) :: mineF K.me (job + 1) (K.jobs.drop (job + 1))

/-- The thread and its job. -/
def Bas (K : Cx) (t : PT) (h : Th) : Prop := BasF K t.c t.num t.rank t.fails t.mine t.cur h.rank h.fails h.job

structure BaxF (K : Cx) (m : MS) (valid : Int) (reads writes : List EntD) (held : List Int) (wayTo rest : Int) (job : Nat) (x : TS) : Prop where
  regs : m.regs = x.regs
  place : m.place = x.place
  begun : m.begun = x.begun
  valid : valid = x.valid
  reads : reads = x.reads
  writes : writes = x.writes
  held : held = x.held
  way : wayTo = x.way + 1
  rest : rest = 0
  code : x.code = (K.jobs.getD job (0, [])).2
/-- .. and its attempt. -/
def Bax (K : Cx) (t : PT) (h : Th) : Prop := Bas K t h ∧ BaxF K t.m t.valid t.reads t.writes t.held t.wayTo t.rest h.job h.x

def RdM (t : PT) (i : InsD) (a : Int) : Prop := t.turn.op = 7 ∧ t.turn.addr = a ∧ t.m.into = i.a
def WrM (t : PT) (h : Th) (i : InsD) (a : Int) : Prop := t.turn.op = 8 ∧ t.turn.addr = a ∧ t.turn.val = regOf h.x i.b
def ExM (t : PT) (h : Th) : Ex → Prop
  | .rd i a v => RdM t i a ∧ t.value = v
  | .wr i a => WrM t h i a

def SimS (K : Cx) (t : PT) (h : Th) : St → Prop
  | .idle => False
  | .start => False
  | .rest n => False
  | .wait win => False
  | .rHeld i a => h.x.inGate = false ∧ t.step = 3 ∧ RdM t i a
  | .rVer i a => h.x.inGate = false ∧ t.step = 4 ∧ RdM t i a
  | .rWord i a one => h.x.inGate = false ∧ t.step = 5 ∧ RdM t i a ∧ t.version = one
  | .rAgain i a one v => h.x.inGate = false ∧ t.step = 6 ∧ RdM t i a ∧ t.version = one ∧ t.value = v
  | .xClock k => h.x.inGate = false ∧ t.step = 12 ∧ ExM t h k
  | .xVer k c r => h.x.inGate = false ∧ t.step = 13 ∧ ExM t h k ∧ t.clock = c ∧ t.reads.drop t.at_ = r
  | .gStat i a => h.x.inGate = false ∧ t.step = 7 ∧ WrM t h i a
  | .gOwn i a => h.x.inGate = false ∧ t.step = 8 ∧ WrM t h i a
  | .gTheir i a u => h.x.inGate = false ∧ t.step = 9 ∧ WrM t h i a ∧ t.rival = u
  | .gMark i a u th => h.x.inGate = false ∧ t.step = 10 ∧ WrM t h i a
  | .gVer i a => h.x.inGate = false ∧ t.step = 11 ∧ WrM t h i a
  | .tTake => h.x.inGate = false ∧ t.step = 14
  | .tShow => h.x.inGate = false ∧ t.step = 15
  | .cStat => h.x.inGate = false ∧ t.step = 16
  | .cGate => h.x.inGate = false ∧ t.step = 17
  | .cClock => h.x.inGate = true ∧ t.step = 18
  | .cVer c r => h.x.inGate = true ∧ t.step = 19 ∧ t.clock = c ∧ c ≠ t.valid ∧ t.reads.drop t.at_ = r
  | .cShut c r => t.step = 20 ∧ t.clock = c ∧ t.held.drop t.at_ = r
  | .cStamp c => t.step = 21 ∧ t.clock = c
  | .cLeave c => t.step = 22 ∧ t.clock = c
  | .cWord c r => t.step = 23 ∧ t.clock = c ∧ t.writes.drop t.at_ = r
  | .cOpen c r => t.step = 24 ∧ t.clock = c ∧ t.held.drop t.at_ = r
  | .cOwn c r => t.step = 25 ∧ t.clock = c ∧ t.held.drop t.at_ = r
  | .free e r => t.step = 26 ∧ t.held.drop t.at_ = r
  | .fin e => t.step = 27
  | .fGate => t.step = 28
  | .fOwn r => t.step = 29 ∧ t.held.drop t.at_ = r
  | .fTake => t.step = 30
  | .fStat => t.step = 31

/-- What a thread of the program is, where the machine is h. -/
def Sim (K : Cx) (t : PT) (h : Th) : Prop :=
  (h.st = .idle ∧ t.step = 0) ∨ (h.st = .start ∧ Bas K t h ∧ t.rest = 0 ∧ t.step = 2 ∧ t.order = ⟨1, 0, 0, 0⟩) ∨
  (∃ n : Nat, h.st = .rest n ∧ Bas K t h ∧ t.rest = n ∧ 0 < n ∧ t.step = 2 ∧ t.order = ⟨1, 0, 0, 0⟩) ∨
  (∃ win, h.st = .wait win ∧ Bas K t h ∧ t.rest = 0 ∧ t.step = 32 ∧ t.order = ⟨1, hSta K win, 0, 0⟩) ∨
  (Bax K t h ∧ t.order = hOut K h ∧ SimS K t h h.st)

theorem Sim.mk {K : Cx} {t : PT} {h : Th} (h1 : Bax K t h) (h2 : t.order = hOut K h) (h3 : SimS K t h h.st) : Sim K t h := Or.inr (Or.inr (Or.inr (Or.inr ⟨h1, h2, h3⟩)))

section
variable {K : Cx} {t : PT} {h : Th}

theorem Bax.c (b : Bax K t h) : t.c = K.c := b.1.c
theorem Bax.sta (b : Bax K t h) : t.sta = hSta K K.me := by unfold PT.sta cStaOf hSta; rw [b.1.c, b.1.num]
theorem Bas.sta (b : Bas K t h) : t.sta = hSta K K.me := by unfold PT.sta cStaOf hSta; rw [b.c, b.num]
theorem Bax.staOf (b : Bax K t h) (u : Int) : t.staOf u = hSta K (u - 1) := by unfold PT.staOf cStaOf hSta; rw [b.1.c]
theorem Bas.staOf (b : Bas K t h) (u : Int) : t.staOf u = hSta K (u - 1) := by unfold PT.staOf cStaOf hSta; rw [b.c]
theorem Bax.own (b : Bax K t h) (s : Int) : cOwnOf t.c s = hOwn K s := by unfold cOwnOf hOwn; rw [b.1.c]
theorem Bax.wrd (b : Bax K t h) (a : Int) : cWrdOf t.c a = hWrd K a := by unfold cWrdOf hWrd; rw [b.1.c]
theorem Bax.stripe (b : Bax K t h) : t.stripe = t.turn.addr.tmod K.c.s := by unfold PT.stripe; rw [b.1.c]
theorem Bax.holds (b : Bax K t h) (s : Int) : t.holds s = heldB h.x s := by unfold PT.holds heldB; rw [b.2.held]
theorem getD_drop {α : Type} {l r : List α} {a d : α} {j : Nat} (hd : l.drop j = a :: r) : l.getD j d = a := by
  obtain ⟨_, _, h3⟩ := drop_cons3 hd
  simp [List.getD, h3]
theorem drop_nil {α : Type} {l : List α} {j : Nat} (hd : l.drop j = []) : ¬ j < l.length := by
  intro hj
  rw [List.drop_eq_getElem_cons hj] at hd
  cases hd

theorem yBegin_bas (b : Bas K t h) : yBegin t = yLoad 2 0 t := by
  unfold yBegin
  rw [if_pos (drop_cons3 b.mine).2.1]

theorem sim_start (b : Bas K t h) (hr : t.rest = 0) : Sim K (yBegin t) { h with st := .start } := by
  rw [yBegin_bas b]
  exact Or.inr (Or.inl ⟨rfl, b, hr, rfl, rfl⟩)

theorem sim_end (b : Bax K t h) (e : Int) : Sim K (yEnd t) { h with st := .fin e } := by
  refine Sim.mk b ?_ rfl
  show AskD.mk 2 t.sta 0 0 = ⟨2, hSta K K.me, 0, 0⟩
  rw [b.sta]

theorem sim_letgo (b : Bax K t h) (e : Int) (r : List Int) (hr : t.held.drop t.at_ = r) : Sim K (yLetGo t) (hFreeAt e r h) := by
  unfold yLetGo hFreeAt
  cases r with
  | nil =>
    rw [if_neg (drop_nil hr)]
    exact sim_end b e
  | cons s r =>
    rw [if_pos (drop_cons3 hr).2.1]
    refine Sim.mk b ?_ ⟨rfl, hr⟩
    show AskD.mk 2 (cOwnOf t.c (t.held.getD t.at_ 0)) 0 0 = ⟨2, hOwn K s, 0, 0⟩
    rw [getD_drop hr, b.own]

theorem sim_close (b : Bax K t h) (hg : h.x.inGate = false) (e : Int) (he : e ≠ 0) : Sim K (if e = 1 then yFinish t else yLetGo { t with at_ := 0 }) (hClose e h) := by
  unfold hClose
  by_cases h1 : e = 1
  · rw [if_pos h1]
    unfold yFinish
    rw [b.2.held]
    by_cases hh : h.x.held = []
    · rw [if_pos (by rw [hh]; rfl), if_neg (by simp [hh]), hh]
      exact sim_end b e
    · rw [if_neg (by simp [hh]), if_pos ⟨h1, hh⟩]
      refine Sim.mk b ?_ ⟨hg, rfl⟩
      show AskD.mk 1 t.sta 0 0 = ⟨1, hSta K K.me, 0, 0⟩
      rw [b.sta]
  · rw [if_neg h1, if_neg (fun q => h1 q.1)]
    exact sim_letgo (t := { t with at_ := 0 }) b e h.x.held b.2.held

theorem sim_show (b : Bax K t h) : Sim K (yShow t) { h with st := .fStat } := by
  refine Sim.mk b ?_ rfl
  show AskD.mk 2 t.sta 0 (8 * t.rank) = ⟨2, hSta K K.me, 0, 8 * h.rank⟩
  rw [b.sta, b.1.rank]

theorem sim_count (b : Bax K t h) : Sim K (yCount t) (hCount K h) := by
  have b1 : Bax K { t with fails := t.fails + 1 } { h with fails := h.fails + 1 } := ⟨⟨b.1.c, b.1.num, b.1.rank, by show t.fails + 1 = h.fails + 1; rw [b.1.fails], b.1.jlt, b.1.jme, b.1.mine⟩, b.2⟩
  have e : (t.rank = 0 ∧ t.c.r < t.fails + 1) ↔ (h.rank = 0 ∧ K.c.r < h.fails + 1) := by rw [b.1.rank, b.1.c, b.1.fails]
  unfold yCount hCount
  by_cases hc : h.rank = 0 ∧ K.c.r < h.fails + 1
  · rw [if_pos (e.2 hc), if_pos hc]
    exact Sim.mk (t := yTake 30 1 { t with fails := t.fails + 1 }) (h := { h with fails := h.fails + 1, st := .fTake }) b1 rfl rfl
  · rw [if_neg (fun q => hc (e.1 q)), if_neg hc]
    exact sim_show b1

theorem sim_undo (b : Bax K t h) (r : List Int) (hr : t.held.drop t.at_ = r) : Sim K (yUndo t) (hFailOwn K r h) := by
  unfold yUndo hFailOwn
  cases r with
  | nil =>
    rw [if_neg (drop_nil hr)]
    exact sim_count b
  | cons s r =>
    rw [if_pos (drop_cons3 hr).2.1]
    refine Sim.mk b ?_ ⟨rfl, hr⟩
    show AskD.mk 2 (cOwnOf t.c (t.held.getD t.at_ 0)) 0 0 = ⟨2, hOwn K s, 0, 0⟩
    rw [getD_drop hr, b.own]

theorem sim_failed (b : Bax K t h) : Sim K (yFail t) (hFailOwn K h.x.held h) := sim_undo (t := { t with at_ := 0 }) b _ b.2.held
theorem sim_fail (b : Bax K t h) (hg : h.x.inGate = false) : Sim K (yFail t) (hFail K h) := by
  unfold hFail
  rw [if_neg (by rw [hg]; decide)]
  exact sim_failed b

theorem sim_shut (b : Bax K t h) (r : List Int) (hr : t.held.drop t.at_ = r) : Sim K (yShut t) (hShutAt t.clock r h) := by
  unfold yShut hShutAt
  cases r with
  | nil =>
    rw [if_neg (drop_nil hr)]
    exact Sim.mk b rfl ⟨rfl, rfl⟩
  | cons s r =>
    rw [if_pos (drop_cons3 hr).2.1]
    refine Sim.mk b ?_ ⟨rfl, rfl, hr⟩
    show AskD.mk 2 (hVer (t.held.getD t.at_ 0)) 0 (-1) = ⟨2, hVer s, 0, -1⟩
    rw [getD_drop hr]

theorem sim_release (b : Bax K t h) (r : List Int) (hr : t.held.drop t.at_ = r) : Sim K (yRelease t) (hOpenAt t.clock r h) := by
  unfold yRelease hOpenAt
  cases r with
  | nil =>
    rw [if_neg (drop_nil hr)]
    exact sim_end b 1
  | cons s r =>
    rw [if_pos (drop_cons3 hr).2.1]
    refine Sim.mk b ?_ ⟨rfl, rfl, hr⟩
    show AskD.mk 2 (hVer (t.held.getD t.at_ 0)) 0 (t.clock + 1) = ⟨2, hVer s, 0, t.clock + 1⟩
    rw [getD_drop hr]

theorem sim_put (b : Bax K t h) (r : List EntD) (hr : t.writes.drop t.at_ = r) : Sim K (yPut t) (hWordAt t.clock r h) := by
  unfold yPut hWordAt
  cases r with
  | nil =>
    rw [if_neg (drop_nil hr)]
    exact sim_release (t := { t with at_ := 0 }) b _ b.2.held
  | cons s r =>
    rw [if_pos (drop_cons3 hr).2.1]
    refine Sim.mk b ?_ ⟨rfl, rfl, hr⟩
    show AskD.mk 2 (cWrdOf t.c (t.writes.getD t.at_ ⟨0, 0⟩).what) 0 (t.writes.getD t.at_ ⟨0, 0⟩).val = ⟨2, hWrd K s.what, 0, s.val⟩
    rw [getD_drop hr, b.wrd]

theorem sim_check : ∀ (n : Nat) (t : PT) (r : List EntD), Bax K t h → h.x.inGate = true → t.clock ≠ t.valid → t.reads.drop t.at_ = r → r.length = n → Sim K (yCheckN n t) (hStillAt t.clock r h)
  | 0, t, r, b, hg, hv, hr, hn => by
    have : r = [] := List.eq_nil_of_length_eq_zero hn
    subst this
    exact sim_shut (t := { t with at_ := 0 }) b _ b.2.held
  | n + 1, t, [], b, hg, hv, hr, hn => by simp at hn
  | n + 1, t, e :: r, b, hg, hv, hr, hn => by
    unfold yCheckN hStillAt
    rw [if_pos hv, getD_drop hr, b.holds]
    split
    · exact sim_check n { t with at_ := t.at_ + 1 } r b hg hv (drop_cons3 hr).1 (by simpa using hn)
    · exact Sim.mk b rfl ⟨hg, rfl, rfl, hv, hr⟩
theorem sim_checked (b : Bax K t h) (hg : h.x.inGate = true) (hv : t.clock ≠ t.valid) (r : List EntD) (hr : t.reads.drop t.at_ = r) : Sim K (yCheck t) (hStillAt t.clock r h) := by
  unfold yCheck
  exact sim_check _ t r b hg hv hr (by rw [← hr, List.length_drop])
theorem sim_check0 (b : Bax K t h) (hv : t.clock = t.valid) : Sim K (yCheck t) (hShutAt t.clock h.x.held h) := by
  unfold yCheck
  cases t.reads.length - t.at_ with
  | zero => exact sim_shut (t := { t with at_ := 0 }) b _ b.2.held
  | succ n =>
    unfold yCheckN
    rw [if_neg (fun q => q hv)]
    exact sim_shut (t := { t with at_ := 0 }) b _ b.2.held
end

end Go.Proofs.YtgdfmmfkdmhdgaaGreat

namespace Go.Proofs.YtgdfmmfkdmhdgaaGreat
set_option linter.unusedVariables false

/-! The program's machine goes the ideal thread's steps. -/

theorem mReg_range {m : MS} (h : MOk m) (i : Int) : 0 ≤ mReg m i ∧ mReg m i ≤ 65535 := by
  unfold mReg
  by_cases hk : i.toNat < m.regs.length
  · rw [show m.regs.getD i.toNat 0 = m.regs[i.toNat] from by simp [List.getD, List.getElem?_eq_getElem hk]]
    exact h.2 _ (List.getElem_mem hk)
  · rw [show m.regs.getD i.toNat 0 = 0 from by simp [List.getD, List.getElem?_eq_none (Nat.le_of_not_lt hk)]]
    omega

theorem inB_wd {v wd : Int} (h : 0 ≤ v) : inB v 0 (wd - 1) = decide (¬ wd ≤ v) := by
  unfold inB
  by_cases h2 : wd ≤ v
  · simp [h2]; omega
  · simp [h2]; omega

end Go.Proofs.YtgdfmmfkdmhdgaaGreat
