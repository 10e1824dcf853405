import Derived.Test.YtejadojilncbjabGreatD16
import Derived.Test.YtejadojilncbjabGreatD07
import Derived.Test.YtejadojilncbjabGreatD17
import Derived.Test.YtejadojilncbjabGreatD06
import Derived.Test.YtejadojilncbjabGreatD05
import Derived.Test.YtejadojilncbjabGreatD01
namespace Go.Proofs.YtejadojilncbjabGreat
set_option linter.unusedVariables false
def mineF (me : Int) : Nat → List (Int × List InsD) → List Int
 | _, [] => []
 | j, b :: r => if b.1 = me then (j : Int) :: mineF me (j + 1) r else mineF me (j + 1) r
theorem drop_cons3 {α : Type} {l r : List α} {b : α} {j : Nat} (h : l.drop j = b :: r) : l.drop (j + 1) = r ∧ j < l.length ∧ l[j]? = some b := by
 have hj : j < l.length := by
  rcases Nat.lt_or_ge j l.length with h' | h'
  ·exact h'
  ·rw [List.drop_eq_nil_of_le h'] at h; cases h
 rw [List.drop_eq_getElem_cons hj] at h
 injection h with h1 h2
 exact ⟨h2, hj, by rw [List.getElem?_eq_getElem hj, h1]⟩
theorem mineF_cons (me : Int) (j : Nat) (b : Int × List InsD) (r : List (Int × List InsD)) : mineF me j (b :: r) = if b.1 = me then (j : Int) :: mineF me (j + 1) r else mineF me (j + 1) r := rfl
theorem seek_cons (me : Int) (j : Nat) (b : Int × List InsD) (r : List (Int × List InsD)) : seek me j (b :: r) = if b.1 = me then some j else seek me (j + 1) r := rfl
theorem seek_mine (me : Int) (jobs : List (Int × List InsD)) : ∀ (l : List (Int × List InsD)) (j : Nat), jobs.drop j = l →
  (seek me j l = none ∧ mineF me j l = []) ∨ ∃ k, seek me j l = some k ∧ k < jobs.length ∧ (jobs.getD k (0, [])).1 = me ∧ mineF me j l = (k : Int) :: mineF me (k + 1) (jobs.drop (k + 1))
 | [], j, h => Or.inl ⟨rfl, rfl⟩
 | b :: r, j, h => by
  obtain ⟨h1, h2, h3⟩ := drop_cons3 h
  rw [seek_cons, mineF_cons]
  by_cases hb : b.1 = me
  ·rw [if_pos hb, if_pos hb]
   exact Or.inr ⟨j, rfl, h2, by simp [List.getD, h3, hb], by rw [h1]⟩
  ·rw [if_neg hb, if_neg hb]
   exact seek_mine me jobs r (j + 1) h1
theorem mineF_ge (me : Int) : ∀ (l : List (Int × List InsD)) (j : Nat), ∀ v ∈ mineF me j l, (j : Int) ≤ v
 | [], j, v, hv => by cases hv
 | b :: r, j, v, hv => by
  rw [mineF_cons] at hv
  split at hv
  ·rcases List.mem_cons.1 hv with h | h
   ·omega
   ·have := mineF_ge me r (j + 1) v h; omega
  ·have := mineF_ge me r (j + 1) v hv; omega
theorem mineF_pair (me : Int) : ∀ (l : List (Int × List InsD)) (j : Nat), (mineF me j l).Pairwise (· < ·)
 | [], j => List.Pairwise.nil
 | b :: r, j => by
  rw [mineF_cons]
  split
  ·exact List.Pairwise.cons (fun v hv => by have := mineF_ge me r (j + 1) v hv; omega) (mineF_pair me r (j + 1))
  ·exact mineF_pair me r (j + 1)
theorem pair_lt {l : List Int} (h : l.Pairwise (· < ·)) {i j : Nat} (hij : i < j) (hj : j < l.length) : l.getD i 0 < l.getD j 0 := by
 have h1 : l.getD i 0 = l[i]'(by omega) := by simp [List.getD, List.getElem?_eq_getElem (show i < l.length by omega)]
 have h2 : l.getD j 0 = l[j] := by simp [List.getD, List.getElem?_eq_getElem hj]
 rw [h1, h2]
 exact (List.pairwise_iff_getElem.1 h) i j (by omega) hj hij
def noRes : ResD := ⟨0, 0, 0, 0, 0⟩
structure TolF (K : Cx) (mine : List Int) (cur : Nat) (res : List ResD) (told : AttD) (list : List AttD) (ends : List ResD) : Prop where
 mi : mine = mineF K.me 0 K.jobs
 cu : cur ≤ mine.length
 tl : list = [] ∨ list.getLast? = some told
 el : ends.length = K.jobs.length
 rl : res.length = cur
 rs : ∀ i, i < cur → ends.getD (mine.getD i 0).toNat noRes = res.getD i noRes
 rz : ∀ j, (∀ i, i < cur → (mine.getD i 0).toNat ≠ j) → ends.getD j noRes = noRes
def Tol (K : Cx) (t : PT) (h : Th) : Prop := TolF K t.mine t.cur t.res t.told h.list h.ends
theorem last_mod {l : List AttD} {a : AttD} (f : AttD → AttD) (h : l.getLast? = some a) : (modLast l f).getLast? = some (f a) := by
 obtain ⟨l', rfl⟩ := List.getLast?_eq_some_iff.1 h
 unfold modLast
 have : (l' ++ [a]).modify ((l' ++ [a]).length - 1) f = l' ++ [f a] := by
  rw [show (l' ++ [a]).length - 1 = l'.length by simp]
  apply List.ext_getElem?
  intro i
  rw [List.getElem?_modify]
  rcases Nat.lt_trichotomy i l'.length with h' | h' | h'
  ·rw [List.getElem?_append_left h', List.getElem?_append_left h', show (fun a => if l'.length = i then f a else a) = id from by funext a; rw [if_neg (by omega)]; rfl]; simp
  ·subst h'; simp
  ·rw [List.getElem?_eq_none (by simp; omega), List.getElem?_eq_none (by simp; omega)]; rfl
 rw [this]
 simp
theorem TolF.mod {K : Cx} {mine : List Int} {cur : Nat} {res : List ResD} {told : AttD} {list : List AttD} {ends : List ResD} (h : TolF K mine cur res told list ends) (f : AttD → AttD) (hl : list.getLast? = some told) : TolF K mine cur res (f told) (modLast list f) ends :=
 ⟨h.mi, h.cu, Or.inr (last_mod f hl), h.el, h.rl, h.rs, h.rz⟩
structure BasF (K : Cx) (c : Cfg) (num rank fails : Int) (ml : List Int) (cur : Nat) (hrank hfails : Int) (job : Nat) (res : List ResD) (told : AttD) (list : List AttD) (ends : List ResD) : Prop where
 c : c = K.c
 num : num = K.me
 rank : rank = hrank
 fails : fails = hfails
 jlt : job < K.jobs.length
 jme : (K.jobs.getD job (0, [])).1 = K.me
 mine : ml.drop cur = (job : Int) :: mineF K.me (job + 1) (K.jobs.drop (job + 1))
 tol : TolF K ml cur res told list ends
def Bas (K : Cx) (t : PT) (h : Th) : Prop := BasF K t.c t.num t.rank t.fails t.mine t.cur h.rank h.fails h.job t.res t.told h.list h.ends
structure BaxF (K : Cx) (m : MS) (valid : Int) (reads writes : List EntD) (held : List Int) (wayTo rest : Int) (job : Nat) (x : TS) (told : AttD) (list : List AttD) : Prop where
 regs : m.regs = x.regs
 place : m.place = x.place
 begun : m.begun = x.begun
 valid : valid = x.valid
 reads : reads = x.reads
 writes : writes = x.writes
 held : held = x.held
 way : wayTo = x.way + 1
 rest : rest = 0
 code : x.code = (K.jobs.getD job (0, [])).2
 tl : list.getLast? = some told
def Bax (K : Cx) (t : PT) (h : Th) : Prop := Bas K t h ∧ BaxF K t.m t.valid t.reads t.writes t.held t.wayTo t.rest h.job h.x t.told h.list
def RdM (t : PT) (i : InsD) (a : Int) : Prop := t.turn.op = 7 ∧ t.turn.addr = a ∧ t.m.into = i.a
def WrM (t : PT) (h : Th) (i : InsD) (a : Int) : Prop := t.turn.op = 8 ∧ t.turn.addr = a ∧ t.turn.val = regOf h.x i.b
def ExM (t : PT) (h : Th) : Ex → Prop
 | .rd i a v => RdM t i a ∧ t.value = v
 | .wr i a => WrM t h i a
def SimS (K : Cx) (t : PT) (h : Th) : St → Prop
 | .idle => False
 | .start => False
 | .rest n => False
 | .wait win => False
 | .rHeld i a => h.x.inGate = false ∧ t.step = 3 ∧ RdM t i a
 | .rVer i a => h.x.inGate = false ∧ t.step = 4 ∧ RdM t i a
 | .rWord i a one => h.x.inGate = false ∧ t.step = 5 ∧ RdM t i a ∧ t.version = one
 | .rAgain i a one v => h.x.inGate = false ∧ t.step = 6 ∧ RdM t i a ∧ t.version = one ∧ t.value = v
 | .xClock k => h.x.inGate = false ∧ t.step = 12 ∧ ExM t h k
 | .xVer k c r => h.x.inGate = false ∧ t.step = 13 ∧ ExM t h k ∧ t.clock = c ∧ t.reads.drop t.at_ = r
 | .gStat i a => h.x.inGate = false ∧ t.step = 7 ∧ WrM t h i a
 | .gOwn i a => h.x.inGate = false ∧ t.step = 8 ∧ WrM t h i a
 | .gTheir i a u => h.x.inGate = false ∧ t.step = 9 ∧ WrM t h i a ∧ t.rival = u
 | .gMark i a u th => h.x.inGate = false ∧ t.step = 10 ∧ WrM t h i a
 | .gVer i a => h.x.inGate = false ∧ t.step = 11 ∧ WrM t h i a
 | .tTake => h.x.inGate = false ∧ t.step = 14
 | .tShow => h.x.inGate = false ∧ t.step = 15
 | .cStat => h.x.inGate = false ∧ t.step = 16 ∧ t.turn.fate = 1
 | .cGate => h.x.inGate = false ∧ t.step = 17 ∧ t.turn.fate = 1
 | .cClock => h.x.inGate = true ∧ t.step = 18 ∧ t.turn.fate = 1
 | .cVer c r => h.x.inGate = true ∧ t.step = 19 ∧ t.turn.fate = 1 ∧ t.clock = c ∧ c ≠ t.valid ∧ t.reads.drop t.at_ = r
 | .cShut c r => t.step = 20 ∧ t.turn.fate = 1 ∧ t.clock = c ∧ t.held.drop t.at_ = r
 | .cStamp c => t.step = 21 ∧ t.turn.fate = 1 ∧ t.clock = c
 | .cLeave c => t.step = 22 ∧ t.turn.fate = 1 ∧ t.clock = c
 | .cWord c r => t.step = 23 ∧ t.turn.fate = 1 ∧ t.clock = c ∧ t.writes.drop t.at_ = r
 | .cOpen c r => t.step = 24 ∧ t.turn.fate = 1 ∧ t.clock = c ∧ t.held.drop t.at_ = r
 | .cOwn c r => t.step = 25 ∧ t.turn.fate = 1 ∧ t.clock = c ∧ t.held.drop t.at_ = r
 | .free e r => t.step = 26 ∧ t.turn.fate = e ∧ t.held.drop t.at_ = r
 | .fin e => t.step = 27 ∧ t.turn.fate = e
 | .fGate => t.step = 28
 | .fOwn r => t.step = 29 ∧ t.held.drop t.at_ = r
 | .fTake => t.step = 30
 | .fStat => t.step = 31
def Sim (K : Cx) (t : PT) (h : Th) : Prop :=
 (h.st = .idle ∧ t.step = 0 ∧ Tol K t h) ∨ (h.st = .start ∧ Bas K t h ∧ t.rest = 0 ∧ t.step = 2 ∧ t.order = ⟨1, 0, 0, 0⟩) ∨
 (∃ n : Nat, h.st = .rest n ∧ Bas K t h ∧ t.rest = n ∧ 0 < n ∧ t.step = 2 ∧ t.order = ⟨1, 0, 0, 0⟩) ∨
 (∃ win, h.st = .wait win ∧ Bas K t h ∧ t.rest = 0 ∧ t.step = 32 ∧ t.order = ⟨1, hSta K win, 0, 0⟩) ∨
 (Bax K t h ∧ t.order = hOut K h ∧ SimS K t h h.st)
theorem Sim.mk {K : Cx} {t : PT} {h : Th} (h1 : Bax K t h) (h2 : t.order = hOut K h) (h3 : SimS K t h h.st) : Sim K t h := Or.inr (Or.inr (Or.inr (Or.inr ⟨h1, h2, h3⟩)))
section
variable {K : Cx} {t : PT} {h : Th}
theorem Bax.c (b : Bax K t h) : t.c = K.c := b.1.c
theorem Bax.sta (b : Bax K t h) : t.sta = hSta K K.me := by unfold PT.sta cStaOf hSta; rw [b.1.c, b.1.num]
theorem Bas.sta (b : Bas K t h) : t.sta = hSta K K.me := by unfold PT.sta cStaOf hSta; rw [b.c, b.num]
theorem Bax.staOf (b : Bax K t h) (u : Int) : t.staOf u = hSta K (u - 1) := by unfold PT.staOf cStaOf hSta; rw [b.1.c]
theorem Bas.staOf (b : Bas K t h) (u : Int) : t.staOf u = hSta K (u - 1) := by unfold PT.staOf cStaOf hSta; rw [b.c]
theorem Bax.own (b : Bax K t h) (s : Int) : cOwnOf t.c s = hOwn K s := by unfold cOwnOf hOwn; rw [b.1.c]
theorem Bax.wrd (b : Bax K t h) (a : Int) : cWrdOf t.c a = hWrd K a := by unfold cWrdOf hWrd; rw [b.1.c]
theorem Bax.stripe (b : Bax K t h) : t.stripe = t.turn.addr.tmod K.c.s := by unfold PT.stripe; rw [b.1.c]
theorem Bax.holds (b : Bax K t h) (s : Int) : t.holds s = heldB h.x s := by unfold PT.holds heldB; rw [b.2.held]
theorem getD_drop {α : Type} {l r : List α} {a d : α} {j : Nat} (hd : l.drop j = a :: r) : l.getD j d = a := by
 obtain ⟨_, _, h3⟩ := drop_cons3 hd
 simp [List.getD, h3]
theorem drop_nil {α : Type} {l : List α} {j : Nat} (hd : l.drop j = []) : ¬ j < l.length := by
 intro hj
 rw [List.drop_eq_getElem_cons hj] at hd
 cases hd
theorem yBegin_bas (b : Bas K t h) : yBegin t = yLoad 2 0 t := by
 unfold yBegin
 rw [if_pos (drop_cons3 b.mine).2.1]
theorem sim_start (b : Bas K t h) (hr : t.rest = 0) : Sim K (yBegin t) { h with st := .start } := by
 rw [yBegin_bas b]
 exact Or.inr (Or.inl ⟨rfl, b, hr, rfl, rfl⟩)
theorem sim_end (b : Bax K t h) (e : Int) (hfe : t.turn.fate = e) : Sim K (yEnd t) { h with st := .fin e } := by
 refine Sim.mk b ?_ ⟨rfl, hfe⟩
 show AskD.mk 2 t.sta 0 0 = ⟨2, hSta K K.me, 0, 0⟩
 rw [b.sta]
theorem sim_letgo (b : Bax K t h) (e : Int) (hfe : t.turn.fate = e) (r : List Int) (hr : t.held.drop t.at_ = r) : Sim K (yLetGo t) (hFreeAt e r h) := by
 unfold yLetGo hFreeAt
 cases r with
 | nil =>
  rw [if_neg (drop_nil hr)]
  exact sim_end b e hfe
 | cons s r =>
  rw [if_pos (drop_cons3 hr).2.1]
  refine Sim.mk b ?_ ⟨rfl, hfe, hr⟩
  show AskD.mk 2 (cOwnOf t.c (t.held.getD t.at_ 0)) 0 0 = ⟨2, hOwn K s, 0, 0⟩
  rw [getD_drop hr, b.own]
theorem sim_close (b : Bax K t h) (hg : h.x.inGate = false) (e : Int) (he : e ≠ 0) (hfe : t.turn.fate = e) : Sim K (if e = 1 then yFinish t else yLetGo { t with at_ := 0 }) (hClose e h) := by
 unfold hClose
 by_cases h1 : e = 1
 ·rw [if_pos h1]
  unfold yFinish
  rw [b.2.held]
  by_cases hh : h.x.held = []
  ·rw [if_pos (by rw [hh]; rfl), if_neg (by simp [hh]), hh]
   exact sim_end b e hfe
  ·rw [if_neg (by simp [hh]), if_pos ⟨h1, hh⟩]
   refine Sim.mk b ?_ ⟨hg, rfl, hfe.trans h1⟩
   show AskD.mk 1 t.sta 0 0 = ⟨1, hSta K K.me, 0, 0⟩
   rw [b.sta]
 ·rw [if_neg h1, if_neg (fun q => h1 q.1)]
  exact sim_letgo (t := { t with at_ := 0 }) b e hfe h.x.held b.2.held
theorem sim_show (b : Bax K t h) : Sim K (yShow t) { h with st := .fStat } := by
 refine Sim.mk b ?_ rfl
 show AskD.mk 2 t.sta 0 (8 * t.rank) = ⟨2, hSta K K.me, 0, 8 * h.rank⟩
 rw [b.sta, b.1.rank]
theorem sim_count (b : Bax K t h) : Sim K (yCount t) (hCount K h) := by
 have b1 : Bax K { t with fails := t.fails + 1 } { h with fails := h.fails + 1 } := ⟨⟨b.1.c, b.1.num, b.1.rank, by show t.fails + 1 = h.fails + 1; rw [b.1.fails], b.1.jlt, b.1.jme, b.1.mine, b.1.tol⟩, b.2⟩
 have e : (t.rank = 0 ∧ t.c.r < t.fails + 1) ↔ (h.rank = 0 ∧ K.c.r < h.fails + 1) := by rw [b.1.rank, b.1.c, b.1.fails]
 unfold yCount hCount
 by_cases hc : h.rank = 0 ∧ K.c.r < h.fails + 1
 ·rw [if_pos (e.2 hc), if_pos hc]
  exact Sim.mk (t := yTake 30 1 { t with fails := t.fails + 1 }) (h := { h with fails := h.fails + 1, st := .fTake }) b1 rfl rfl
 ·rw [if_neg (fun q => hc (e.1 q)), if_neg hc]
  exact sim_show b1
theorem sim_undo (b : Bax K t h) (r : List Int) (hr : t.held.drop t.at_ = r) : Sim K (yUndo t) (hFailOwn K r h) := by
 unfold yUndo hFailOwn
 cases r with
 | nil =>
  rw [if_neg (drop_nil hr)]
  exact sim_count b
 | cons s r =>
  rw [if_pos (drop_cons3 hr).2.1]
  refine Sim.mk b ?_ ⟨rfl, hr⟩
  show AskD.mk 2 (cOwnOf t.c (t.held.getD t.at_ 0)) 0 0 = ⟨2, hOwn K s, 0, 0⟩
  rw [getD_drop hr, b.own]
theorem sim_failed (b : Bax K t h) : Sim K (yFail t) (hFailOwn K h.x.held h) := sim_undo (t := { t with at_ := 0 }) b _ b.2.held
theorem sim_fail (b : Bax K t h) (hg : h.x.inGate = false) : Sim K (yFail t) (hFail K h) := by
 unfold hFail
 rw [if_neg (by rw [hg]; decide)]
 exact sim_failed b
theorem sim_shut (b : Bax K t h) (hfe : t.turn.fate = 1) (r : List Int) (hr : t.held.drop t.at_ = r) : Sim K (yShut t) (hShutAt t.clock r h) := by
 unfold yShut hShutAt
 cases r with
 | nil =>
  rw [if_neg (drop_nil hr)]
  exact Sim.mk b rfl ⟨rfl, hfe, rfl⟩
 | cons s r =>
  rw [if_pos (drop_cons3 hr).2.1]
  refine Sim.mk b ?_ ⟨rfl, hfe, rfl, hr⟩
  show AskD.mk 2 (hVer (t.held.getD t.at_ 0)) 0 (-1) = ⟨2, hVer s, 0, -1⟩
  rw [getD_drop hr]
theorem sim_release (b : Bax K t h) (hfe : t.turn.fate = 1) (r : List Int) (hr : t.held.drop t.at_ = r) : Sim K (yRelease t) (hOpenAt t.clock r h) := by
 unfold yRelease hOpenAt
 cases r with
 | nil =>
  rw [if_neg (drop_nil hr)]
  exact sim_end b 1 hfe
 | cons s r =>
  rw [if_pos (drop_cons3 hr).2.1]
  refine Sim.mk b ?_ ⟨rfl, hfe, rfl, hr⟩
  show AskD.mk 2 (hVer (t.held.getD t.at_ 0)) 0 (t.clock + 1) = ⟨2, hVer s, 0, t.clock + 1⟩
  rw [getD_drop hr]
theorem sim_put (b : Bax K t h) (hfe : t.turn.fate = 1) (r : List EntD) (hr : t.writes.drop t.at_ = r) : Sim K (yPut t) (hWordAt t.clock r h) := by
 unfold yPut hWordAt
 cases r with
 | nil =>
  rw [if_neg (drop_nil hr)]
  exact sim_release (t := { t with at_ := 0 }) b hfe _ b.2.held
 | cons s r =>
  rw [if_pos (drop_cons3 hr).2.1]
  refine Sim.mk b ?_ ⟨rfl, hfe, rfl, hr⟩
  show AskD.mk 2 (cWrdOf t.c (t.writes.getD t.at_ ⟨0, 0⟩).what) 0 (t.writes.getD t.at_ ⟨0, 0⟩).val = ⟨2, hWrd K s.what, 0, s.val⟩
  rw [getD_drop hr, b.wrd]
theorem sim_check : ∀ (n : Nat) (t : PT) (r : List EntD), Bax K t h → t.turn.fate = 1 → h.x.inGate = true → t.clock ≠ t.valid → t.reads.drop t.at_ = r → r.length = n → Sim K (yCheckN n t) (hStillAt t.clock r h)
 | 0, t, r, b, hfe, hg, hv, hr, hn => by
  have : r = [] := List.eq_nil_of_length_eq_zero hn
  subst this
  exact sim_shut (t := { t with at_ := 0 }) b hfe _ b.2.held
 | n + 1, t, [], b, hfe, hg, hv, hr, hn => by simp at hn
 | n + 1, t, e :: r, b, hfe, hg, hv, hr, hn => by
  unfold yCheckN hStillAt
  rw [if_pos hv, getD_drop hr, b.holds]
  split
  ·exact sim_check n { t with at_ := t.at_ + 1 } r b hfe hg hv (drop_cons3 hr).1 (by simpa using hn)
  ·exact Sim.mk b rfl ⟨hg, rfl, hfe, rfl, hv, hr⟩
theorem sim_checked (b : Bax K t h) (hfe : t.turn.fate = 1) (hg : h.x.inGate = true) (hv : t.clock ≠ t.valid) (r : List EntD) (hr : t.reads.drop t.at_ = r) : Sim K (yCheck t) (hStillAt t.clock r h) := by
 unfold yCheck
 exact sim_check _ t r b hfe hg hv hr (by rw [← hr, List.length_drop])
theorem sim_check0 (b : Bax K t h) (hfe : t.turn.fate = 1) (hv : t.clock = t.valid) : Sim K (yCheck t) (hShutAt t.clock h.x.held h) := by
 unfold yCheck
 cases t.reads.length - t.at_ with
 | zero => exact sim_shut (t := { t with at_ := 0 }) b hfe _ b.2.held
 | succ n =>
  unfold yCheckN
  rw [if_neg (fun q => q hv)]
  exact sim_shut (t := { t with at_ := 0 }) b hfe _ b.2.held
end
theorem mReg_range {m : MS} (h : MOk m) (i : Int) : 0 ≤ mReg m i ∧ mReg m i ≤ 65535 := by
 unfold mReg
 by_cases hk : i.toNat < m.regs.length
 ·rw [show m.regs.getD i.toNat 0 = m.regs[i.toNat] from by simp [List.getD, List.getElem?_eq_getElem hk]]
  exact h.2 _ (List.getElem_mem hk)
 ·rw [show m.regs.getD i.toNat 0 = 0 from by simp [List.getD, List.getElem?_eq_none (Nat.le_of_not_lt hk)]]
  omega
theorem inB_wd {v wd : Int} (h : 0 ≤ v) : inB v 0 (wd - 1) = decide (¬ wd ≤ v) := by
 unfold inB
 by_cases h2 : wd ≤ v
 ·simp [h2]; omega
 ·simp [h2]; omega
def thM (h : Th) (m : MS) : Th := { h with x := { h.x with regs := m.regs, place := m.place, begun := m.begun } }
theorem hAdv_succ (K : Cx) (N : Nat) (h : Th) : hAdv K (N + 1) h = if (hStep K h).1 then hAdv K N (hStep K h).2 else (hStep K h).2 := rfl
def hOn (K : Cx) (N : Nat) (r : Bool × Th) : Th := if r.1 then hAdv K N r.2 else r.2
structure AdvTo (K : Cx) (code : List InsD) (h : Th) (N : Nat) (m : MS) (u : TurnD × MS) : Prop where
 ok : MOk u.2
 place : u.2.place ≤ code.length
 begun : (u.2.begun : Int) ≤ K.c.f
 cs : (u.1.fate ≠ 0 ∧ hAdv K N (thM h m) = hClose u.1.fate (thM h u.2)) ∨
  (u.1.fate = 0 ∧ ∃ (i : InsD) (N1 : Nat), m.begun + 1 ≤ u.2.begun ∧ K.c.f < u.2.begun + N1 ∧ (0 ≤ i.a ∧ i.a ≤ 3) ∧ (0 ≤ i.b ∧ i.b ≤ 3) ∧ 0 ≤ u.1.addr ∧ u.1.addr < K.c.wd ∧
      ((u.1.op = 7 ∧ u.2.into = i.a ∧ u.1.addr = mReg u.2 i.b ∧ hAdv K N (thM h m) = hOn K N1 (hRead K i (thM h u.2))) ∨
          (u.1.op = 8 ∧ u.1.addr = mReg u.2 i.a ∧ u.1.val = mReg u.2 i.b ∧ hAdv K N (thM h m) = hOn K N1 (hWrite K i (thM h u.2)))))
theorem pComp_place {m : MS} {i : InsD} {n : Nat} (hf : formedB i n = true) (ho : 2 ≤ i.op ∧ i.op ≤ 6) (hp : m.place ≤ n) : (pComp m i).place ≤ n := by
 unfold pComp
 split
 ·exact hp
 split
 ·exact hp
 split
 ·exact hp
 split
 ·rename_i h5
  have := formed5 hf h5
  show i.c.toNat ≤ n
  omega
 ·have := (formed6 hf (by omega)).2.2
  split
  ·show i.c.toNat ≤ n
   omega
  ·exact hp
theorem hStep_comp (K : Cx) (h : Th) (m : MS) (i : InsD) (hc1 : ¬ m.place = h.x.code.length) (hc2 : ¬ (m.begun : Int) = K.c.f) (hi : i = insAt h.x.code m.place) (hf : formedB i h.x.code.length = true) (ho : 2 ≤ i.op ∧ i.op ≤ 6) :
  hStep K (thM h m) = (true, thM h (pComp { m with begun := m.begun + 1, place := m.place + 1 } i)) := by
 unfold hStep
 rw [if_neg (show ¬ (thM h m).x.place = (thM h m).x.code.length from hc1), if_neg (show ¬ ((thM h m).x.begun : Int) = K.c.f from hc2)]
 rw [show insAt (thM h m).x.code (thM h m).x.place = i from hi.symm]
 simp only
 rw [if_neg (by rw [show formedB i ((thM h m).x.code.length : Int) = true from hf]; decide), if_neg (by omega), if_neg (by omega)]
 unfold pComp
 by_cases o2 : i.op = 2
 ·rw [if_pos o2, if_pos o2]; rfl
 rw [if_neg o2, if_neg o2]
 by_cases o3 : i.op = 3
 ·rw [if_pos o3, if_pos o3]; rfl
 rw [if_neg o3, if_neg o3]
 by_cases o4 : i.op = 4
 ·rw [if_pos o4, if_pos o4]; rfl
 rw [if_neg o4, if_neg o4]
 by_cases o5 : i.op = 5
 ·rw [if_pos o5, if_pos o5]; rfl
 rw [if_neg o5, if_neg o5, if_pos (show i.op = 6 by omega)]
 by_cases hl : mReg { m with begun := m.begun + 1, place := m.place + 1 } i.a < mReg { m with begun := m.begun + 1, place := m.place + 1 } i.b
 ·rw [if_pos hl]
  rw [if_pos (show regOf { (thM h m).x with begun := (thM h m).x.begun + 1, place := (thM h m).x.place + 1 } i.a < regOf { (thM h m).x with begun := (thM h m).x.begun + 1, place := (thM h m).x.place + 1 } i.b from hl)]
  rfl
 ·rw [if_neg hl]
  rw [if_neg (show ¬ regOf { (thM h m).x with begun := (thM h m).x.begun + 1, place := (thM h m).x.place + 1 } i.a < regOf { (thM h m).x with begun := (thM h m).x.begun + 1, place := (thM h m).x.place + 1 } i.b from hl)]
  rfl
theorem adv_sim (K : Cx) (code : List InsD) (h : Th) (hc : h.x.code = code) : ∀ (n : Nat) (m : MS) (N : Nat), MOk m → m.place ≤ code.length → (m.begun : Int) ≤ K.c.f → K.c.f < m.begun + n → K.c.f < m.begun + N →
  AdvTo K code h N m (pNext K.c.f K.c.wd code n m)
 | 0, m, N, hM, hp, hb, hn, hN => by omega
 | n + 1, m, N, hM, hp, hb, hn, hN => by
  obtain ⟨N', rfl⟩ : ∃ N', N = N' + 1 := ⟨N - 1, by omega⟩
  rw [pNext]
  by_cases h1 : m.place = code.length
  ·rw [if_pos (by omega)]
   refine ⟨hM, hp, hb, Or.inl ⟨by simp, ?_⟩⟩
   rw [hAdv_succ]
   unfold hStep
   rw [if_pos (show (thM h m).x.place = (thM h m).x.code.length by show m.place = h.x.code.length; rw [hc]; exact h1)]
   rfl
  rw [if_neg (by omega)]
  have hs1 : ¬ (thM h m).x.place = (thM h m).x.code.length := by show ¬ m.place = h.x.code.length; rw [hc]; exact h1
  by_cases h2 : (m.begun : Int) = K.c.f
  ·rw [if_pos (by omega)]
   refine ⟨hM, hp, hb, Or.inl ⟨by simp, ?_⟩⟩
   rw [hAdv_succ]
   unfold hStep
   rw [if_neg hs1, if_pos (show ((thM h m).x.begun : Int) = K.c.f from h2)]
   rfl
  rw [if_neg (by omega)]
  have hs2 : ¬ ((thM h m).x.begun : Int) = K.c.f := h2
  simp only
  have hia : insAt (thM h m).x.code (thM h m).x.place = insAt code m.place := by show insAt h.x.code m.place = _; rw [hc]
  have hln : ((thM h m).x.code.length : Int) = code.length := by show (h.x.code.length : Int) = _; rw [hc]
  generalize hi : insAt code m.place = i at *
  by_cases h3 : formedB i code.length = false
  ·rw [if_pos h3]
   refine ⟨hM, hp, by show ((m.begun + 1 : Nat) : Int) ≤ _; push_cast; omega, Or.inl ⟨by simp, ?_⟩⟩
   rw [hAdv_succ]
   unfold hStep
   rw [if_neg hs1, if_neg hs2, hia, hln]
   simp only
   rw [if_pos h3]
   rfl
  rw [if_neg h3]
  have h3' : formedB i code.length = true := by simpa using h3
  have hop := formed_op h3'
  by_cases o0 : i.op = 0
  ·rw [if_pos o0]
   refine ⟨hM, by show m.place + 1 ≤ _; omega, by show ((m.begun + 1 : Nat) : Int) ≤ _; push_cast; omega, Or.inl ⟨by simp, ?_⟩⟩
   rw [hAdv_succ]
   unfold hStep
   rw [if_neg hs1, if_neg hs2, hia, hln]
   simp only
   rw [if_neg h3, if_pos o0]
   rfl
  rw [if_neg o0]
  by_cases o1 : i.op = 1
  ·rw [if_pos o1]
   refine ⟨hM, by show m.place + 1 ≤ _; omega, by show ((m.begun + 1 : Nat) : Int) ≤ _; push_cast; omega, Or.inl ⟨by simp, ?_⟩⟩
   rw [hAdv_succ]
   unfold hStep
   rw [if_neg hs1, if_neg hs2, hia, hln]
   simp only
   rw [if_neg h3, if_neg o0, if_pos o1]
   rfl
  rw [if_neg o1]
  by_cases o7 : i.op = 7 ∨ i.op = 8
  ·rw [if_pos o7]
   obtain ⟨ra, rb⟩ := formed78 h3' o7
   have hst : hStep K (thM h m) = if i.op = 7 then hRead K i (thM h { m with begun := m.begun + 1, place := m.place + 1 }) else hWrite K i (thM h { m with begun := m.begun + 1, place := m.place + 1 }) := by
    unfold hStep
    rw [if_neg hs1, if_neg hs2, hia, hln]
    simp only
    rw [if_neg h3, if_neg o0, if_neg o1, if_neg (by omega), if_neg (by omega), if_neg (by omega), if_neg (by omega), if_neg (by omega)]
    rfl
   have hadv : hAdv K (N' + 1) (thM h m) = hOn K N' (hStep K (thM h m)) := rfl
   unfold pWord
   by_cases q7 : i.op = 7
   ·rw [if_pos q7]
    rw [if_pos q7] at hst
    have hr : 0 ≤ mReg { m with begun := m.begun + 1, place := m.place + 1 } i.b := (mReg_range (m := { m with begun := m.begun + 1, place := m.place + 1 }) hM i.b).1
    rw [inB_wd hr]
    refine ⟨hM, by show m.place + 1 ≤ _; omega, by show ((m.begun + 1 : Nat) : Int) ≤ _; push_cast; omega, ?_⟩
    by_cases hw : K.c.wd ≤ mReg { m with begun := m.begun + 1, place := m.place + 1 } i.b
    ·refine Or.inl ⟨by simp [hw], ?_⟩
     rw [hadv, hst]
     unfold hRead
     simp only
     rw [if_pos (show K.c.wd ≤ regOf (thM h { m with begun := m.begun + 1, place := m.place + 1 }).x i.b from hw)]
     simp [hw, hOn]
     rfl
    ·refine Or.inr ⟨by simp [hw], i, N', by show m.begun + 1 ≤ m.begun + 1; omega, by show K.c.f < ((m.begun + 1 : Nat) : Int) + N'; push_cast at hN ⊢; omega, ra, rb, by simpa [hw] using hr, by simp [hw]; omega, Or.inl ⟨by simp [hw], rfl, by simp [hw]; rfl, ?_⟩⟩
     rw [hadv, hst]
     rfl
   ·rw [if_neg q7]
    rw [if_neg q7] at hst
    have hr : 0 ≤ mReg { m with begun := m.begun + 1, place := m.place + 1 } i.a := (mReg_range (m := { m with begun := m.begun + 1, place := m.place + 1 }) hM i.a).1
    rw [inB_wd hr]
    refine ⟨hM, by show m.place + 1 ≤ _; omega, by show ((m.begun + 1 : Nat) : Int) ≤ _; push_cast; omega, ?_⟩
    by_cases hw : K.c.wd ≤ mReg { m with begun := m.begun + 1, place := m.place + 1 } i.a
    ·refine Or.inl ⟨by simp [hw], ?_⟩
     rw [hadv, hst]
     unfold hWrite
     simp only
     rw [if_pos (show K.c.wd ≤ regOf (thM h { m with begun := m.begun + 1, place := m.place + 1 }).x i.a from hw)]
     simp [hw, hOn]
    ·refine Or.inr ⟨by simp [hw], i, N', by show m.begun + 1 ≤ m.begun + 1; omega, by show K.c.f < ((m.begun + 1 : Nat) : Int) + N'; push_cast at hN ⊢; omega, ra, rb, by simpa [hw] using hr, by simp [hw]; omega, Or.inr ⟨by simp [hw], by simp [hw], by simp [hw], ?_⟩⟩
     rw [hadv, hst]
  rw [if_neg o7]
  have ho : 2 ≤ i.op ∧ i.op ≤ 6 := by omega
  have hbg : (pComp { m with begun := m.begun + 1, place := m.place + 1 } i).begun = m.begun + 1 := pComp_begun _ _
  have hst := hStep_comp K h m i (by rw [hc]; exact h1) h2 (by rw [hc]; exact hi.symm) (by rw [hc]; exact h3') ho
  have ih := adv_sim K code h hc n (pComp { m with begun := m.begun + 1, place := m.place + 1 } i) N' (MOk.comp (m := { m with begun := m.begun + 1, place := m.place + 1 }) hM h3' ho)
   (pComp_place (m := { m with begun := m.begun + 1, place := m.place + 1 }) h3' ho (by show m.place + 1 ≤ _; omega)) (by rw [hbg]; push_cast; omega) (by rw [hbg]; push_cast at hn ⊢; omega) (by rw [hbg]; push_cast at hN ⊢; omega)
  have hadv : hAdv K (N' + 1) (thM h m) = hAdv K N' (thM h (pComp { m with begun := m.begun + 1, place := m.place + 1 } i)) := by
   rw [hAdv_succ, hst]
   rfl
  refine ⟨ih.ok, ih.place, ih.begun, ?_⟩
  rw [hadv]
  rcases ih.cs with hx | ⟨hx, j, N1, y1, y2⟩
  ·exact Or.inl hx
  ·exact Or.inr ⟨hx, j, N1, by omega, y2⟩
theorem turns_stop (code : List InsD) (n : Nat) (t : PT) (h : t.step ≠ 1) : yTurns code n t = t := by
 cases n with
 | zero => rfl
 | succ n => unfold yTurns; rw [if_neg h]
theorem Sim.step_ne {K : Cx} {t : PT} {h : Th} (S : Sim K t h) : t.step ≠ 1 := by
 rcases S with ⟨_, q, _⟩ | ⟨_, _, _, q, _⟩ | ⟨n, _, _, _, _, q, _⟩ | ⟨n, _, _, _, q, _⟩ | ⟨_, _, q⟩
 ·omega
 ·omega
 ·omega
 ·omega
 ·cases hst : h.st <;> rw [hst] at q <;> simp only [SimS] at q <;> first
   | exact q.elim
   | omega
theorem Sim.turns {K : Cx} {t : PT} {h : Th} (S : Sim K t h) (code : List InsD) (n : Nat) : Sim K (yTurns code n t) h := by
 rw [turns_stop _ _ _ S.step_ne]; exact S
theorem thM_self {K : Cx} {t : PT} {h : Th} (b : Bax K t h) : thM h t.m = h := by
 unfold thM
 rw [b.2.regs, b.2.place, b.2.begun]
theorem bax_m {K : Cx} {t : PT} {h : Th} (b : Bax K t h) (u : MS) (v : TurnD) : Bax K { t with m := u, turn := v } (thM h u) :=
 ⟨b.1, ⟨rfl, rfl, rfl, b.2.valid, b.2.reads, b.2.writes, b.2.held, b.2.way, b.2.rest, b.2.code, b.2.tl⟩⟩
theorem onn_m {K : Cx} {k : Int} {h : Th} (A : Onn K k h) (u : MS) (ok : MOk u) (hp : u.place ≤ h.x.code.length) (hb : (u.begun : Int) ≤ K.c.f) : Onn K k (thM h u) :=
 ⟨A.rank, ⟨ok.1, ok.2, A.x.wr, A.x.rd, A.x.hd, A.x.wn, A.x.rn, A.x.hn, A.x.valid, A.x.way, hp, hb⟩⟩
theorem bax_mod {K : Cx} {t t' : PT} {h : Th} (b : Bas K t h) (f : AttD → AttD) (hl : h.list.getLast? = some t.told) (h1 : t'.told = f t.told) (h2 : t'.c = t.c) (h3 : t'.num = t.num) (h4 : t'.rank = t.rank) (h5 : t'.fails = t.fails) (h6 : t'.mine = t.mine) (h7 : t'.cur = t.cur) (h8 : t'.res = t.res) : Bas K t' { h with list := modLast h.list f } := by
 unfold Bas at *
 rw [h1, h2, h3, h4, h5, h6, h7, h8]
 exact ⟨b.c, b.num, b.rank, b.fails, b.jlt, b.jme, b.mine, b.tol.mod f hl⟩
theorem bax_give {K : Cx} {t : PT} {h : Th} (b : Bax K t h) (i v : Int) (hi : t.m.into = i) (op a : Int) (ho : t.turn.op = op) (ha : t.turn.addr = a) : Bax K (yGive v t) (({ h with x := setReg h.x i v } : Th).noted op a v) := by
 have e : (yGive v t).told = (fun q : AttD => { q with notes := q.notes ++ [⟨op, a, v⟩] }) t.told := by subst ho; subst ha; rfl
 refine ⟨bax_mod (h := { h with x := setReg h.x i v }) b.1 _ b.2.tl e rfl rfl rfl rfl rfl rfl rfl, ⟨by show t.m.regs.set t.m.into.toNat v = h.x.regs.set i.toNat v; rw [b.2.regs, hi], b.2.place, b.2.begun, b.2.valid, b.2.reads, b.2.writes, b.2.held, b.2.way, b.2.rest, b.2.code, ?_⟩⟩
 rw [e]
 exact last_mod _ b.2.tl
theorem bax_log {K : Cx} {t : PT} {h : Th} (b : Bax K t h) (i : InsD) (a : Int) (ho : t.turn.op = 8) (h1 : t.turn.addr = a) (h2 : t.turn.val = regOf h.x i.b) : Bax K (yLog t.turn.addr t.turn.val t) (hPut i a h) := by
 have e : (yLog t.turn.addr t.turn.val t).told = (fun q : AttD => { q with notes := q.notes ++ [⟨8, a, regOf h.x i.b⟩] }) t.told := by rw [← h2]; subst h1; unfold yLog; rw [ho]; rfl
 refine ⟨bax_mod (h := { h with x := { h.x with writes := putEnt h.x.writes a (regOf h.x i.b) } }) b.1 _ b.2.tl e rfl rfl rfl rfl rfl rfl rfl, ⟨b.2.regs, b.2.place, b.2.begun, b.2.valid, b.2.reads, by show putEnt t.writes t.turn.addr t.turn.val = putEnt h.x.writes a (regOf h.x i.b); rw [b.2.writes, h1, h2], b.2.held, b.2.way, b.2.rest, b.2.code, ?_⟩⟩
 rw [e]
 exact last_mod _ b.2.tl
theorem w_read {K : Cx} {t : PT} {h : Th} (b : Bax K t h) (hg : h.x.inGate = false) (i : InsD) (hop : t.turn.op = 7) (hin : t.m.into = i.a) (ha : regOf h.x i.b = t.turn.addr) (haw : t.turn.addr < K.c.wd) :
  (∃ v, (∃ e ∈ h.x.writes, v = e.val) ∧ yRead t = yGive v t ∧ hRead K i h = (true, ({ h with x := setReg h.x i.a v } : Th).noted 7 t.turn.addr v)) ∨ (∃ h', hRead K i h = (false, h') ∧ Sim K (yRead t) h') := by
 unfold yRead hRead
 simp only
 rw [ha, if_neg (show ¬ K.c.wd ≤ t.turn.addr by omega), b.2.writes, b.stripe, b.holds, b.wrd]
 cases hE : entIdx h.x.writes t.turn.addr with
 | some j =>
  simp only
  exact Or.inl ⟨_, ⟨_, (entIn hE).2.2, rfl⟩, rfl, rfl⟩
 | none =>
  simp only
  refine Or.inr ⟨_, rfl, ?_⟩
  cases hH : heldB h.x (t.turn.addr.tmod K.c.s) with
  | true =>
   simp only [if_true]
   exact Sim.mk (t := yLoad 3 _ t) (h := { h with st := .rHeld i t.turn.addr }) b rfl ⟨hg, rfl, hop, rfl, hin⟩
  | false =>
   simp only [Bool.false_eq_true, if_false]
   exact Sim.mk (t := yLoad 4 _ t) (h := { h with st := .rVer i t.turn.addr }) b rfl ⟨hg, rfl, hop, rfl, hin⟩
theorem w_write {K : Cx} {t : PT} {h : Th} (b : Bax K t h) (hg : h.x.inGate = false) (i : InsD) (hop : t.turn.op = 8) (ha : regOf h.x i.a = t.turn.addr) (hv : t.turn.val = regOf h.x i.b) (haw : t.turn.addr < K.c.wd) :
  (yWrite t = { yLog t.turn.addr t.turn.val t with step := 1 } ∧ hWrite K i h = (true, hPut i t.turn.addr h)) ∨ (∃ h', hWrite K i h = (false, h') ∧ Sim K (yWrite t) h') := by
 unfold yWrite hWrite
 simp only
 rw [ha, if_neg (show ¬ K.c.wd ≤ t.turn.addr by omega), b.stripe, b.holds]
 cases hH : heldB h.x (t.turn.addr.tmod K.c.s) with
 | true =>
  simp only [if_true]
  exact Or.inl ⟨trivial, trivial⟩
 | false =>
  simp only [Bool.false_eq_true, if_false]
  refine Or.inr ⟨_, rfl, Sim.mk (t := yGet t) (h := { h with st := .gStat i t.turn.addr }) b ?_ ⟨hg, rfl, hop, rfl, hv⟩⟩
  show AskD.mk 1 t.sta 0 0 = ⟨1, hSta K K.me, 0, 0⟩
  rw [b.sta]
theorem w_run (K : Cx) (hc : cfgB K.c = true) (code : List InsD) : ∀ (n : Nat) (t : PT) (h : Th) (N : Nat) (k : Int), Bax K t h → t.step = 1 → h.x.inGate = false → Onn K k h → h.x.code = code →
  K.c.f < h.x.begun + n → K.c.f < h.x.begun + N → Sim K (yTurns code n t) (hAdv K N h)
 | 0, t, h, N, k, b, hs, hg, A, hcd, hn, hN => by have := A.x.bg; omega
 | n + 1, t, h, N, k, b, hs, hg, A, hcd, hn, hN => by
  obtain ⟨⟨t1, t2⟩, ⟨w1, w2⟩, ⟨s1, s2⟩, ⟨g1, g2⟩, _, _, ⟨f1, f2⟩⟩ := cfgB_true hc
  unfold yTurns
  rw [if_pos hs]
  unfold yTurn
  rw [b.1.c]
  have V := adv_sim K code h hcd yRounds t.m N ⟨by rw [b.2.regs]; exact A.x.four, by rw [b.2.regs]; exact A.x.rg⟩ (by rw [b.2.place, ← hcd]; exact A.x.plc) (by rw [b.2.begun]; exact A.x.bg) (by unfold yRounds; omega) (by rw [b.2.begun]; exact hN)
  have V1 := V.cs
  have Vo := V.ok
  have Vp := V.place
  have Vb := V.begun
  clear V
  rw [thM_self b] at V1
  generalize pNext K.c.f K.c.wd code yRounds t.m = u at *
  have b1 := bax_m b u.2 u.1
  have A1 := onn_m A u.2 Vo (by rw [hcd]; exact Vp) Vb
  unfold yTurned
  rcases V1 with ⟨h0, h1⟩ | ⟨h0, i, N1, q1, q2, qa, qb, a0, a1, hcs⟩
  ·rw [if_neg h0, h1]
   exact (sim_close (t := { t with m := u.2, turn := u.1 }) (h := thM h u.2) b1 hg _ h0 rfl).turns code n
  ·rw [if_pos h0]
   rw [b.2.begun] at q1
   obtain ⟨th, hth⟩ : ∃ th, th = ({ t with m := u.2, turn := u.1 } : PT) := ⟨_, rfl⟩
   obtain ⟨hh, hhh⟩ : ∃ hh, hh = thM h u.2 := ⟨_, rfl⟩
   have e1 : th.turn = u.1 := by rw [hth]
   have e2 : th.m = u.2 := by rw [hth]
   have e3 : hh.x.begun = u.2.begun := by rw [hhh]; rfl
   have e4 : hh.x.inGate = false := by rw [hhh]; exact hg
   have e5 : hh.x.code = code := by rw [hhh]; exact hcd
   have e6 : ∀ r, mReg u.2 r = regOf hh.x r := fun r => by rw [hhh]; rfl
   rw [← hth, ← hhh] at b1
   rw [← hhh] at A1 hcs
   rw [← hth]
   clear hth hhh
   have hnn : K.c.f < (u.2.begun : Int) + n := by omega
   rw [← e1] at hcs a0 a1
   rw [← e2] at hcs
   unfold yTouch
   rcases hcs with ⟨o7, hi, ha, he⟩ | ⟨o8, ha, hv, he⟩
   ·rw [he, if_pos o7]
    rw [e2, e6] at ha
    rcases w_read b1 e4 i o7 hi ha.symm a1 with ⟨v, ⟨e, hem, hev⟩, r1, r2⟩ | ⟨h', r1, r2⟩
    ·rw [r1, r2]
     have hval := A1.x.wr _ hem
     rw [← hev] at hval
     exact w_run K hc code n _ _ N1 k (bax_give b1 i.a v hi 7 th.turn.addr o7 rfl) rfl e4 ((A1.setx _ (A1.x.setReg _ _ hval.2.2.1 hval.2.2.2)).noted _ _ _) e5 (by show K.c.f < (hh.x.begun : Int) + n; rw [e3]; exact hnn) (by show K.c.f < (hh.x.begun : Int) + N1; rw [e3]; exact q2)
    ·rw [r1]
     exact r2.turns code n
   ·rw [he, if_neg (by omega)]
    rw [e2, e6] at ha hv
    rcases w_write b1 e4 i o8 ha.symm hv a1 with ⟨r1, r2⟩ | ⟨h', r1, r2⟩
    ·rw [r1, r2]
     exact w_run K hc code n _ _ N1 k (bax_log b1 i _ o8 rfl hv) rfl e4 (put_ok A1 a0 a1) e5 (by show K.c.f < (hh.x.begun : Int) + n; rw [e3]; exact hnn) (by show K.c.f < (hh.x.begun : Int) + N1; rw [e3]; exact q2)
    ·rw [r1]
     exact r2.turns code n
structure RunI (K : Cx) (code : List InsD) (k : Int) (t : PT) (h : Th) : Prop where
 b : Bax K t h
 g : h.x.inGate = false
 a : Onn K k h
 c : h.x.code = code
def SimG (K : Cx) (k : Int) (code : List InsD) (t : PT) (h' : Th) : Prop := Sim K t h' ∨ (t.step = 1 ∧ ∃ h, RunI K code k t h ∧ h' = hGo K h)
theorem Sim.toG {K : Cx} {k : Int} {code : List InsD} {t : PT} {h : Th} (S : Sim K t h) : SimG K k code t h := Or.inl S
theorem SimG.sim {K : Cx} {k : Int} {code : List InsD} {t : PT} {h : Th} (hc : cfgB K.c = true) (S : SimG K k code t h) : Sim K (yTurns code yRounds t) h := by
 rcases S with S | ⟨hs, g, r, rfl⟩
 ·exact S.turns _ _
 ·obtain ⟨_, _, _, _, _, _, ⟨f1, f2⟩⟩ := cfgB_true hc
  have := r.a.x.bg
  unfold hGo
  exact w_run K hc code yRounds t g _ k r.b hs r.g r.a r.c (by unfold yRounds; omega) (by omega)
theorem w_goes {K : Cx} (hc : cfgB K.c = true) {code : List InsD} {t : PT} {h : Th} {k : Int} (b : Bax K t h) (hs : t.step = 1) (hg : h.x.inGate = false) (A : Onn K k h) (hcd : code = (K.jobs.getD h.job (0, [])).2) : SimG K k code t (hGo K h) :=
 Or.inr ⟨hs, h, ⟨b, hg, A, by rw [hcd]; exact b.2.code⟩, rfl⟩
theorem w_got {K : Cx} (hc : cfgB K.c = true) {code : List InsD} {t : PT} {h : Th} {k : Int} (b : Bax K t h) (hg : h.x.inGate = false) (A : Onn K k h) (hcd : code = (K.jobs.getD h.job (0, [])).2) (i : InsD) (a v : Int) (hr : RdM t i a) (v0 : 0 ≤ v) (v1 : v ≤ 65535) :
  SimG K k code (yGive v t) (hGot K i a v h) := w_goes hc (bax_give b i.a v hr.2.2 7 a hr.1 hr.2.1) rfl hg ((A.setx _ (A.x.setReg _ _ v0 v1)).noted _ _ _) hcd
theorem w_wrote {K : Cx} (hc : cfgB K.c = true) {code : List InsD} {t : PT} {h : Th} {k : Int} (b : Bax K t h) (hg : h.x.inGate = false) (A : Onn K k h) (hcd : code = (K.jobs.getD h.job (0, [])).2) (i : InsD) (a : Int) (hr : WrM t h i a) (ha : AOk K i a) :
  SimG K k code (yWriteGot t) (hWrote K i a h) := by
 obtain ⟨_, _, _, ⟨g1, g2⟩, _⟩ := cfgB_true hc
 have bl := bax_log b i a hr.1 hr.2.1 hr.2.2
 unfold yWriteGot hWrote
 rw [b.1.rank, b.1.c, b.2.held]
 by_cases hd : h.rank ≠ 0 ∨ K.c.g = 0 ∨ (h.x.held.length : Int) ≠ K.c.g
 ·rw [if_pos hd, if_neg (by omega)]
  exact w_goes hc (t := { yLog t.turn.addr t.turn.val t with step := 1 }) bl rfl hg (put_ok A ha.1 ha.2.1) hcd
 ·rw [if_neg hd, if_pos (by omega)]
  exact (Sim.mk (t := yTake 14 1 (yLog t.turn.addr t.turn.val t)) (h := { hPut i a h with st := .tTake }) bl rfl ⟨hg, rfl⟩).toG
theorem w_exdone {K : Cx} (hc : cfgB K.c = true) {code : List InsD} {t : PT} {h : Th} {k : Int} (b : Bax K t h) (hg : h.x.inGate = false) (A : Onn K k h) (hcd : code = (K.jobs.getD h.job (0, [])).2) (e : Ex) (hr : ExM t h e) (he : ExOk K e) (hcl : 0 ≤ t.clock ∧ t.clock ≤ k) :
  SimG K k code (yEndExt { t with valid := t.clock }) (hExDone K e t.clock h) := by
 have b1 : Bax K { t with valid := t.clock } { h with list := modLast h.list (fun q => { q with valid := t.clock }), x := { h.x with valid := t.clock } } := ⟨bax_mod (h := { h with x := { h.x with valid := t.clock } }) b.1 _ b.2.tl rfl rfl rfl rfl rfl rfl rfl rfl, ⟨b.2.regs, b.2.place, b.2.begun, rfl, b.2.reads, b.2.writes, b.2.held, b.2.way, b.2.rest, b.2.code, last_mod (fun q => { q with valid := t.clock }) b.2.tl⟩⟩
 have A1 : Onn K k { h with list := modLast h.list (fun q => { q with valid := t.clock }), x := { h.x with valid := t.clock } } := ⟨A.rank, ⟨A.x.four, A.x.rg, A.x.wr, A.x.rd, A.x.hd, A.x.wn, A.x.rn, A.x.hn, hcl, A.x.way, A.x.plc, A.x.bg⟩⟩
 unfold yEndExt hExDone
 cases e with
 | rd i a v =>
  obtain ⟨hr1, hr2⟩ := hr
  rw [if_pos (show ({ t with valid := t.clock } : PT).turn.op = 7 from hr1.1)]
  subst hr2
  exact w_got hc b1 hg A1 hcd i a _ hr1 he.2.1 he.2.2
 | wr i a =>
  rw [if_neg (show ¬ ({ t with valid := t.clock } : PT).turn.op = 7 by show ¬ t.turn.op = 7; rw [hr.1]; decide)]
  exact w_wrote hc b1 hg A1 hcd i a hr he
theorem w_exstill {K : Cx} (hc : cfgB K.c = true) {code : List InsD} {t : PT} {h : Th} {k : Int} (b : Bax K t h) (hg : h.x.inGate = false) (A : Onn K k h) (hcd : code = (K.jobs.getD h.job (0, [])).2) (e : Ex) (hr : ExM t h e) (he : ExOk K e) (hcl : 0 ≤ t.clock ∧ t.clock ≤ k) (r : List EntD) (hd : t.reads.drop t.at_ = r) :
  SimG K k code (yExtNext t) (hExStill K e t.clock r h) := by
 unfold yExtNext hExStill
 cases r with
 | nil =>
  rw [if_neg (drop_nil hd)]
  exact w_exdone hc b hg A hcd e hr he hcl
 | cons s r =>
  rw [if_pos (drop_cons3 hd).2.1]
  refine (Sim.mk (t := yLoad 13 _ t) (h := { h with st := .xVer e t.clock (s :: r) }) b ?_ ⟨hg, rfl, ?_, rfl, hd⟩).toG
  ·show AskD.mk 1 (hVer (t.reads.getD t.at_ ⟨0, 0⟩).what) 0 0 = ⟨1, hVer s.what, 0, 0⟩
   rw [getD_drop hd]
  ·cases e with
   | rd i a v => exact hr
   | wr i a => exact hr
end Go.Proofs.YtejadojilncbjabGreat
