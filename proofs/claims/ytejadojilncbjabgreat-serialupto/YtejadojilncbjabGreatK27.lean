import Derived.Test.YtejadojilncbjabGreatK19
import Derived.Test.YtejadojilncbjabGreatK07
import Derived.Test.YtejadojilncbjabGreatK18
import Derived.Test.YtejadojilncbjabGreatK06
import Derived.Test.YtejadojilncbjabGreatK05
namespace Go.Proofs.YtejadojilncbjabGreat
set_option linter.unusedVariables false
def mineF (me : Int) : Nat → List (Int × List InsD) → List Int
 | _, [] => []
 | j, b :: r => if b.1 = me then (j : Int) :: mineF me (j + 1) r else mineF me (j + 1) r
theorem drop_cons3 {α : Type} {l r : List α} {b : α} {j : Nat} (h : l.drop j = b :: r) : l.drop (j + 1) = r ∧ j < l.length ∧ l[j]? = some b := by
 have hj : j < l.length := by
  rcases Nat.lt_or_ge j l.length with h' | h'
  ·exact h'
  ·rw [List.drop_eq_nil_of_le h'] at h; cases h
 rw [List.drop_eq_getElem_cons hj] at h
 injection h with h1 h2
 exact ⟨h2, hj, by rw [List.getElem?_eq_getElem hj, h1]⟩
theorem mineF_cons (me : Int) (j : Nat) (b : Int × List InsD) (r : List (Int × List InsD)) : mineF me j (b :: r) = if b.1 = me then (j : Int) :: mineF me (j + 1) r else mineF me (j + 1) r := rfl
theorem seek_cons (me : Int) (j : Nat) (b : Int × List InsD) (r : List (Int × List InsD)) : seek me j (b :: r) = if b.1 = me then some j else seek me (j + 1) r := rfl
theorem seek_mine (me : Int) (jobs : List (Int × List InsD)) : ∀ (l : List (Int × List InsD)) (j : Nat), jobs.drop j = l →
  (seek me j l = none ∧ mineF me j l = []) ∨ ∃ k, seek me j l = some k ∧ k < jobs.length ∧ (jobs.getD k (0, [])).1 = me ∧ mineF me j l = (k : Int) :: mineF me (k + 1) (jobs.drop (k + 1))
 | [], j, h => Or.inl ⟨rfl, rfl⟩
 | b :: r, j, h => by
  obtain ⟨h1, h2, h3⟩ := drop_cons3 h
  rw [seek_cons, mineF_cons]
  by_cases hb : b.1 = me
  ·rw [if_pos hb, if_pos hb]
   exact Or.inr ⟨j, rfl, h2, by simp [List.getD, h3, hb], by rw [h1]⟩
  ·rw [if_neg hb, if_neg hb]
   exact seek_mine me jobs r (j + 1) h1
theorem mineF_ge (me : Int) : ∀ (l : List (Int × List InsD)) (j : Nat), ∀ v ∈ mineF me j l, (j : Int) ≤ v
 | [], j, v, hv => by cases hv
 | b :: r, j, v, hv => by
  rw [mineF_cons] at hv
  split at hv
  ·rcases List.mem_cons.1 hv with h | h
   ·omega
   ·have := mineF_ge me r (j + 1) v h; omega
  ·have := mineF_ge me r (j + 1) v hv; omega
theorem mineF_pair (me : Int) : ∀ (l : List (Int × List InsD)) (j : Nat), (mineF me j l).Pairwise (· < ·)
 | [], j => List.Pairwise.nil
 | b :: r, j => by
  rw [mineF_cons]
  split
  ·exact List.Pairwise.cons (fun v hv => by have := mineF_ge me r (j + 1) v hv; omega) (mineF_pair me r (j + 1))
  ·exact mineF_pair me r (j + 1)
theorem pair_lt {l : List Int} (h : l.Pairwise (· < ·)) {i j : Nat} (hij : i < j) (hj : j < l.length) : l.getD i 0 < l.getD j 0 := by
 have h1 : l.getD i 0 = l[i]'(by omega) := by simp [List.getD, List.getElem?_eq_getElem (show i < l.length by omega)]
 have h2 : l.getD j 0 = l[j] := by simp [List.getD, List.getElem?_eq_getElem hj]
 rw [h1, h2]
 exact (List.pairwise_iff_getElem.1 h) i j (by omega) hj hij
def noRes : ResD := ⟨0, 0, 0, 0, 0⟩
structure TolF (K : Cx) (mine : List Int) (cur : Nat) (res : List ResD) (told : AttD) (list : List AttD) (ends : List ResD) : Prop where
 mi : mine = mineF K.me 0 K.jobs
 cu : cur ≤ mine.length
 tl : list = [] ∨ list.getLast? = some told
 el : ends.length = K.jobs.length
 rl : res.length = cur
 rs : ∀ i, i < cur → ends.getD (mine.getD i 0).toNat noRes = res.getD i noRes
 rz : ∀ j, (∀ i, i < cur → (mine.getD i 0).toNat ≠ j) → ends.getD j noRes = noRes
def Tol (K : Cx) (t : PT) (h : Th) : Prop := TolF K t.mine t.cur t.res t.told h.list h.ends
theorem last_mod {l : List AttD} {a : AttD} (f : AttD → AttD) (h : l.getLast? = some a) : (modLast l f).getLast? = some (f a) := by
 obtain ⟨l', rfl⟩ := List.getLast?_eq_some_iff.1 h
 unfold modLast
 have : (l' ++ [a]).modify ((l' ++ [a]).length - 1) f = l' ++ [f a] := by
  rw [show (l' ++ [a]).length - 1 = l'.length by simp]
  apply List.ext_getElem?
  intro i
  rw [List.getElem?_modify]
  rcases Nat.lt_trichotomy i l'.length with h' | h' | h'
  ·rw [List.getElem?_append_left h', List.getElem?_append_left h', show (fun a => if l'.length = i then f a else a) = id from by funext a; rw [if_neg (by omega)]; rfl]; simp
  ·subst h'; simp
  ·rw [List.getElem?_eq_none (by simp; omega), List.getElem?_eq_none (by simp; omega)]; rfl
 rw [this]
 simp
theorem TolF.mod {K : Cx} {mine : List Int} {cur : Nat} {res : List ResD} {told : AttD} {list : List AttD} {ends : List ResD} (h : TolF K mine cur res told list ends) (f : AttD → AttD) (hl : list.getLast? = some told) : TolF K mine cur res (f told) (modLast list f) ends :=
 ⟨h.mi, h.cu, Or.inr (last_mod f hl), h.el, h.rl, h.rs, h.rz⟩
structure BasF (K : Cx) (c : Cfg) (num rank fails : Int) (ml : List Int) (cur : Nat) (hrank hfails : Int) (job : Nat) (res : List ResD) (told : AttD) (list : List AttD) (ends : List ResD) : Prop where
 c : c = K.c
 num : num = K.me
 rank : rank = hrank
 fails : fails = hfails
 jlt : job < K.jobs.length
 jme : (K.jobs.getD job (0, [])).1 = K.me
 mine : ml.drop cur = (job : Int) :: mineF K.me (job + 1) (K.jobs.drop (job + 1))
 tol : TolF K ml cur res told list ends
def Bas (K : Cx) (t : PT) (h : Th) : Prop := BasF K t.c t.num t.rank t.fails t.mine t.cur h.rank h.fails h.job t.res t.told h.list h.ends
structure BaxF (K : Cx) (m : MS) (valid : Int) (reads writes : List EntD) (held : List Int) (wayTo rest : Int) (job : Nat) (x : TS) (told : AttD) (list : List AttD) : Prop where
 regs : m.regs = x.regs
 place : m.place = x.place
 begun : m.begun = x.begun
 valid : valid = x.valid
 reads : reads = x.reads
 writes : writes = x.writes
 held : held = x.held
 way : wayTo = x.way + 1
 rest : rest = 0
 code : x.code = (K.jobs.getD job (0, [])).2
 tl : list.getLast? = some told
def Bax (K : Cx) (t : PT) (h : Th) : Prop := Bas K t h ∧ BaxF K t.m t.valid t.reads t.writes t.held t.wayTo t.rest h.job h.x t.told h.list
def RdM (t : PT) (i : InsD) (a : Int) : Prop := t.turn.op = 7 ∧ t.turn.addr = a ∧ t.m.into = i.a
def WrM (t : PT) (h : Th) (i : InsD) (a : Int) : Prop := t.turn.op = 8 ∧ t.turn.addr = a ∧ t.turn.val = regOf h.x i.b
def ExM (t : PT) (h : Th) : Ex → Prop
 | .rd i a v => RdM t i a ∧ t.value = v
 | .wr i a => WrM t h i a
def SimS (K : Cx) (t : PT) (h : Th) : St → Prop
 | .idle => False
 | .start => False
 | .rest n => False
 | .wait win => False
 | .rHeld i a => h.x.inGate = false ∧ t.step = 3 ∧ RdM t i a
 | .rVer i a => h.x.inGate = false ∧ t.step = 4 ∧ RdM t i a
 | .rWord i a one => h.x.inGate = false ∧ t.step = 5 ∧ RdM t i a ∧ t.version = one
 | .rAgain i a one v => h.x.inGate = false ∧ t.step = 6 ∧ RdM t i a ∧ t.version = one ∧ t.value = v
 | .xClock k => h.x.inGate = false ∧ t.step = 12 ∧ ExM t h k
 | .xVer k c r => h.x.inGate = false ∧ t.step = 13 ∧ ExM t h k ∧ t.clock = c ∧ t.reads.drop t.at_ = r
 | .gStat i a => h.x.inGate = false ∧ t.step = 7 ∧ WrM t h i a
 | .gOwn i a => h.x.inGate = false ∧ t.step = 8 ∧ WrM t h i a
 | .gTheir i a u => h.x.inGate = false ∧ t.step = 9 ∧ WrM t h i a ∧ t.rival = u
 | .gMark i a u th => h.x.inGate = false ∧ t.step = 10 ∧ WrM t h i a
 | .gVer i a => h.x.inGate = false ∧ t.step = 11 ∧ WrM t h i a
 | .tTake => h.x.inGate = false ∧ t.step = 14
 | .tShow => h.x.inGate = false ∧ t.step = 15
 | .cStat => h.x.inGate = false ∧ t.step = 16 ∧ t.turn.fate = 1
 | .cGate => h.x.inGate = false ∧ t.step = 17 ∧ t.turn.fate = 1
 | .cClock => h.x.inGate = true ∧ t.step = 18 ∧ t.turn.fate = 1
 | .cVer c r => h.x.inGate = true ∧ t.step = 19 ∧ t.turn.fate = 1 ∧ t.clock = c ∧ c ≠ t.valid ∧ t.reads.drop t.at_ = r
 | .cShut c r => t.step = 20 ∧ t.turn.fate = 1 ∧ t.clock = c ∧ t.held.drop t.at_ = r
 | .cStamp c => t.step = 21 ∧ t.turn.fate = 1 ∧ t.clock = c
 | .cLeave c => t.step = 22 ∧ t.turn.fate = 1 ∧ t.clock = c
 | .cWord c r => t.step = 23 ∧ t.turn.fate = 1 ∧ t.clock = c ∧ t.writes.drop t.at_ = r
 | .cOpen c r => t.step = 24 ∧ t.turn.fate = 1 ∧ t.clock = c ∧ t.held.drop t.at_ = r
 | .cOwn c r => t.step = 25 ∧ t.turn.fate = 1 ∧ t.clock = c ∧ t.held.drop t.at_ = r
 | .free e r => t.step = 26 ∧ t.turn.fate = e ∧ t.held.drop t.at_ = r
 | .fin e => t.step = 27 ∧ t.turn.fate = e
 | .fGate => t.step = 28
 | .fOwn r => t.step = 29 ∧ t.held.drop t.at_ = r
 | .fTake => t.step = 30
 | .fStat => t.step = 31
def Sim (K : Cx) (t : PT) (h : Th) : Prop :=
 (h.st = .idle ∧ t.step = 0 ∧ Tol K t h) ∨ (h.st = .start ∧ Bas K t h ∧ t.rest = 0 ∧ t.step = 2 ∧ t.order = ⟨1, 0, 0, 0⟩) ∨
 (∃ n : Nat, h.st = .rest n ∧ Bas K t h ∧ t.rest = n ∧ 0 < n ∧ t.step = 2 ∧ t.order = ⟨1, 0, 0, 0⟩) ∨
 (∃ win, h.st = .wait win ∧ Bas K t h ∧ t.rest = 0 ∧ t.step = 32 ∧ t.order = ⟨1, hSta K win, 0, 0⟩) ∨
 (Bax K t h ∧ t.order = hOut K h ∧ SimS K t h h.st)
theorem Sim.mk {K : Cx} {t : PT} {h : Th} (h1 : Bax K t h) (h2 : t.order = hOut K h) (h3 : SimS K t h h.st) : Sim K t h := Or.inr (Or.inr (Or.inr (Or.inr ⟨h1, h2, h3⟩)))
section
variable {K : Cx} {t : PT} {h : Th}
theorem Bax.c (b : Bax K t h) : t.c = K.c := b.1.c
theorem Bax.sta (b : Bax K t h) : t.sta = hSta K K.me := by unfold PT.sta cStaOf hSta; rw [b.1.c, b.1.num]
theorem Bas.sta (b : Bas K t h) : t.sta = hSta K K.me := by unfold PT.sta cStaOf hSta; rw [b.c, b.num]
theorem Bax.staOf (b : Bax K t h) (u : Int) : t.staOf u = hSta K (u - 1) := by unfold PT.staOf cStaOf hSta; rw [b.1.c]
theorem Bas.staOf (b : Bas K t h) (u : Int) : t.staOf u = hSta K (u - 1) := by unfold PT.staOf cStaOf hSta; rw [b.c]
theorem Bax.own (b : Bax K t h) (s : Int) : cOwnOf t.c s = hOwn K s := by unfold cOwnOf hOwn; rw [b.1.c]
theorem Bax.wrd (b : Bax K t h) (a : Int) : cWrdOf t.c a = hWrd K a := by unfold cWrdOf hWrd; rw [b.1.c]
theorem Bax.stripe (b : Bax K t h) : t.stripe = t.turn.addr.tmod K.c.s := by unfold PT.stripe; rw [b.1.c]
theorem Bax.holds (b : Bax K t h) (s : Int) : t.holds s = heldB h.x s := by unfold PT.holds heldB; rw [b.2.held]
theorem getD_drop {α : Type} {l r : List α} {a d : α} {j : Nat} (hd : l.drop j = a :: r) : l.getD j d = a := by
 obtain ⟨_, _, h3⟩ := drop_cons3 hd
 simp [List.getD, h3]
theorem drop_nil {α : Type} {l : List α} {j : Nat} (hd : l.drop j = []) : ¬ j < l.length := by
 intro hj
 rw [List.drop_eq_getElem_cons hj] at hd
 cases hd
theorem yBegin_bas (b : Bas K t h) : yBegin t = yLoad 2 0 t := by
 unfold yBegin
 rw [if_pos (drop_cons3 b.mine).2.1]
theorem sim_start (b : Bas K t h) (hr : t.rest = 0) : Sim K (yBegin t) { h with st := .start } := by
 rw [yBegin_bas b]
 exact Or.inr (Or.inl ⟨rfl, b, hr, rfl, rfl⟩)
theorem sim_end (b : Bax K t h) (e : Int) (hfe : t.turn.fate = e) : Sim K (yEnd t) { h with st := .fin e } := by
 refine Sim.mk b ?_ ⟨rfl, hfe⟩
 show AskD.mk 2 t.sta 0 0 = ⟨2, hSta K K.me, 0, 0⟩
 rw [b.sta]
theorem sim_letgo (b : Bax K t h) (e : Int) (hfe : t.turn.fate = e) (r : List Int) (hr : t.held.drop t.at_ = r) : Sim K (yLetGo t) (hFreeAt e r h) := by
 unfold yLetGo hFreeAt
 cases r with
 | nil =>
  rw [if_neg (drop_nil hr)]
  exact sim_end b e hfe
 | cons s r =>
  rw [if_pos (drop_cons3 hr).2.1]
  refine Sim.mk b ?_ ⟨rfl, hfe, hr⟩
  show AskD.mk 2 (cOwnOf t.c (t.held.getD t.at_ 0)) 0 0 = ⟨2, hOwn K s, 0, 0⟩
  rw [getD_drop hr, b.own]
theorem sim_close (b : Bax K t h) (hg : h.x.inGate = false) (e : Int) (he : e ≠ 0) (hfe : t.turn.fate = e) : Sim K (if e = 1 then yFinish t else yLetGo { t with at_ := 0 }) (hClose e h) := by
 unfold hClose
 by_cases h1 : e = 1
 ·rw [if_pos h1]
  unfold yFinish
  rw [b.2.held]
  by_cases hh : h.x.held = []
  ·rw [if_pos (by rw [hh]; rfl), if_neg (by simp [hh]), hh]
   exact sim_end b e hfe
  ·rw [if_neg (by simp [hh]), if_pos ⟨h1, hh⟩]
   refine Sim.mk b ?_ ⟨hg, rfl, hfe.trans h1⟩
   show AskD.mk 1 t.sta 0 0 = ⟨1, hSta K K.me, 0, 0⟩
   rw [b.sta]
 ·rw [if_neg h1, if_neg (fun q => h1 q.1)]
  exact sim_letgo (t := { t with at_ := 0 }) b e hfe h.x.held b.2.held
theorem sim_show (b : Bax K t h) : Sim K (yShow t) { h with st := .fStat } := by
 refine Sim.mk b ?_ rfl
 show AskD.mk 2 t.sta 0 (8 * t.rank) = ⟨2, hSta K K.me, 0, 8 * h.rank⟩
 rw [b.sta, b.1.rank]
theorem sim_count (b : Bax K t h) : Sim K (yCount t) (hCount K h) := by
 have b1 : Bax K { t with fails := t.fails + 1 } { h with fails := h.fails + 1 } := ⟨⟨b.1.c, b.1.num, b.1.rank, by show t.fails + 1 = h.fails + 1; rw [b.1.fails], b.1.jlt, b.1.jme, b.1.mine, b.1.tol⟩, b.2⟩
 have e : (t.rank = 0 ∧ t.c.r < t.fails + 1) ↔ (h.rank = 0 ∧ K.c.r < h.fails + 1) := by rw [b.1.rank, b.1.c, b.1.fails]
 unfold yCount hCount
 by_cases hc : h.rank = 0 ∧ K.c.r < h.fails + 1
 ·rw [if_pos (e.2 hc), if_pos hc]
  exact Sim.mk (t := yTake 30 1 { t with fails := t.fails + 1 }) (h := { h with fails := h.fails + 1, st := .fTake }) b1 rfl rfl
 ·rw [if_neg (fun q => hc (e.1 q)), if_neg hc]
  exact sim_show b1
theorem sim_undo (b : Bax K t h) (r : List Int) (hr : t.held.drop t.at_ = r) : Sim K (yUndo t) (hFailOwn K r h) := by
 unfold yUndo hFailOwn
 cases r with
 | nil =>
  rw [if_neg (drop_nil hr)]
  exact sim_count b
 | cons s r =>
  rw [if_pos (drop_cons3 hr).2.1]
  refine Sim.mk b ?_ ⟨rfl, hr⟩
  show AskD.mk 2 (cOwnOf t.c (t.held.getD t.at_ 0)) 0 0 = ⟨2, hOwn K s, 0, 0⟩
  rw [getD_drop hr, b.own]
theorem sim_failed (b : Bax K t h) : Sim K (yFail t) (hFailOwn K h.x.held h) := sim_undo (t := { t with at_ := 0 }) b _ b.2.held
theorem sim_fail (b : Bax K t h) (hg : h.x.inGate = false) : Sim K (yFail t) (hFail K h) := by
 unfold hFail
 rw [if_neg (by rw [hg]; decide)]
 exact sim_failed b
theorem sim_shut (b : Bax K t h) (hfe : t.turn.fate = 1) (r : List Int) (hr : t.held.drop t.at_ = r) : Sim K (yShut t) (hShutAt t.clock r h) := by
 unfold yShut hShutAt
 cases r with
 | nil =>
  rw [if_neg (drop_nil hr)]
  exact Sim.mk b rfl ⟨rfl, hfe, rfl⟩
 | cons s r =>
  rw [if_pos (drop_cons3 hr).2.1]
  refine Sim.mk b ?_ ⟨rfl, hfe, rfl, hr⟩
  show AskD.mk 2 (hVer (t.held.getD t.at_ 0)) 0 (-1) = ⟨2, hVer s, 0, -1⟩
  rw [getD_drop hr]
theorem sim_release (b : Bax K t h) (hfe : t.turn.fate = 1) (r : List Int) (hr : t.held.drop t.at_ = r) : Sim K (yRelease t) (hOpenAt t.clock r h) := by
 unfold yRelease hOpenAt
 cases r with
 | nil =>
  rw [if_neg (drop_nil hr)]
  exact sim_end b 1 hfe
 | cons s r =>
  rw [if_pos (drop_cons3 hr).2.1]
  refine Sim.mk b ?_ ⟨rfl, hfe, rfl, hr⟩
  show AskD.mk 2 (hVer (t.held.getD t.at_ 0)) 0 (t.clock + 1) = ⟨2, hVer s, 0, t.clock + 1⟩
  rw [getD_drop hr]
theorem sim_put (b : Bax K t h) (hfe : t.turn.fate = 1) (r : List EntD) (hr : t.writes.drop t.at_ = r) : Sim K (yPut t) (hWordAt t.clock r h) := by
 unfold yPut hWordAt
 cases r with
 | nil =>
  rw [if_neg (drop_nil hr)]
  exact sim_release (t := { t with at_ := 0 }) b hfe _ b.2.held
 | cons s r =>
  rw [if_pos (drop_cons3 hr).2.1]
  refine Sim.mk b ?_ ⟨rfl, hfe, rfl, hr⟩
  show AskD.mk 2 (cWrdOf t.c (t.writes.getD t.at_ ⟨0, 0⟩).what) 0 (t.writes.getD t.at_ ⟨0, 0⟩).val = ⟨2, hWrd K s.what, 0, s.val⟩
  rw [getD_drop hr, b.wrd]
theorem sim_check : ∀ (n : Nat) (t : PT) (r : List EntD), Bax K t h → t.turn.fate = 1 → h.x.inGate = true → t.clock ≠ t.valid → t.reads.drop t.at_ = r → r.length = n → Sim K (yCheckN n t) (hStillAt t.clock r h)
 | 0, t, r, b, hfe, hg, hv, hr, hn => by
  have : r = [] := List.eq_nil_of_length_eq_zero hn
  subst this
  exact sim_shut (t := { t with at_ := 0 }) b hfe _ b.2.held
 | n + 1, t, [], b, hfe, hg, hv, hr, hn => by simp at hn
 | n + 1, t, e :: r, b, hfe, hg, hv, hr, hn => by
  unfold yCheckN hStillAt
  rw [if_pos hv, getD_drop hr, b.holds]
  split
  ·exact sim_check n { t with at_ := t.at_ + 1 } r b hfe hg hv (drop_cons3 hr).1 (by simpa using hn)
  ·exact Sim.mk b rfl ⟨hg, rfl, hfe, rfl, hv, hr⟩
theorem sim_checked (b : Bax K t h) (hfe : t.turn.fate = 1) (hg : h.x.inGate = true) (hv : t.clock ≠ t.valid) (r : List EntD) (hr : t.reads.drop t.at_ = r) : Sim K (yCheck t) (hStillAt t.clock r h) := by
 unfold yCheck
 exact sim_check _ t r b hfe hg hv hr (by rw [← hr, List.length_drop])
theorem sim_check0 (b : Bax K t h) (hfe : t.turn.fate = 1) (hv : t.clock = t.valid) : Sim K (yCheck t) (hShutAt t.clock h.x.held h) := by
 unfold yCheck
 cases t.reads.length - t.at_ with
 | zero => exact sim_shut (t := { t with at_ := 0 }) b hfe _ b.2.held
 | succ n =>
  unfold yCheckN
  rw [if_neg (fun q => q hv)]
  exact sim_shut (t := { t with at_ := 0 }) b hfe _ b.2.held
end
theorem iSteps_zero (c : Cfg) (W : Int → Int) (n : Nat) (r : Int) (x : TS) (h : (iStep c W r x).1 = 0) :
  (iSteps c W (n + 1) r x).1 = (iSteps c W n (iStep c W r x).2.1 (iStep c W r x).2.2.1).1 ∧ (iSteps c W (n + 1) r x).2.2.1 = (iSteps c W n (iStep c W r x).2.1 (iStep c W r x).2.2.1).2.2.1 := by
 rw [iSteps]
 simp only [h, if_true]
 exact ⟨trivial, trivial⟩
theorem iSteps_one (c : Cfg) (W : Int → Int) (n : Nat) (r : Int) (x : TS) (h : (iStep c W r x).1 ≠ 0) : iSteps c W (n + 1) r x = iStep c W r x := by
 rw [iSteps]
 simp only [h, if_false]
structure Like (code : List InsD) (m : MS) (x : TS) : Prop where
 code : x.code = code
 regs : m.regs = x.regs
 place : m.place = x.place
 begun : m.begun = x.begun
def Told (c : Cfg) (W : Int → Int) (code : List InsD) (N : Nat) (r : Int) (x : TS) (u : TurnD × MS) : Prop :=
 MOk u.2 ∧
 ((u.1.fate ≠ 0 ∧ (iSteps c W N r x).1 = u.1.fate ∧ (iSteps c W N r x).2.2.1.regs = u.2.regs ∧ (iSteps c W N r x).2.2.1.writes = x.writes) ∨
     (u.1.fate = 0 ∧ ∃ (x1 : TS) (r1 : Int) (N1 : Nat), (iSteps c W N r x).1 = (iSteps c W N1 r1 x1).1 ∧ (iSteps c W N r x).2.2.1 = (iSteps c W N1 r1 x1).2.2.1 ∧ x1.code = code ∧ x1.place ≤ code.length ∧ (x1.begun : Int) ≤ c.f ∧ c.f < x1.begun + N1 ∧
         x.begun + 1 ≤ x1.begun ∧ u.2.place = x1.place ∧ u.2.begun = x1.begun ∧ 0 ≤ u.1.addr ∧ u.1.addr < c.wd ∧
         ((u.1.op = 7 ∧ ∃ ki : Nat, u.2.into = (ki : Int) ∧ ki < 4 ∧ x1.regs = u.2.regs.set ki (vRead W x u.1.addr) ∧ x1.writes = x.writes) ∨
             (u.1.op = 8 ∧ 0 ≤ u.1.val ∧ u.1.val ≤ 65535 ∧ x1.regs = u.2.regs ∧ x1.writes = putEnt x.writes u.1.addr u.1.val))))
theorem mReg_eq {m : MS} {x : TS} (h : m.regs = x.regs) (i : Int) : mReg m i = regOf x i := by unfold mReg regOf; rw [h]
theorem mReg_range {m : MS} (h : MOk m) (i : Int) : 0 ≤ mReg m i ∧ mReg m i ≤ 65535 := by
 unfold mReg
 by_cases hk : i.toNat < m.regs.length
 ·rw [show m.regs.getD i.toNat 0 = m.regs[i.toNat] from by simp [List.getD, List.getElem?_eq_getElem hk]]
  exact h.2 _ (List.getElem_mem hk)
 ·rw [show m.regs.getD i.toNat 0 = 0 from by simp [List.getD, List.getElem?_eq_none (Nat.le_of_not_lt hk)]]
  omega
theorem inB_wd {v wd : Int} (h : 0 ≤ v) : inB v 0 (wd - 1) = decide (¬ wd ≤ v) := by
 unfold inB
 by_cases h2 : wd ≤ v
 ·simp [h2]; omega
 ·simp [h2]; omega
theorem iStep_eq (c : Cfg) (W : Int → Int) (r : Int) (x : TS) (h1 : ¬ x.place = x.code.length) (h2 : ¬ (x.begun : Int) = c.f) (h3 : formedB (insAt x.code x.place) x.code.length = true) (x2 : TS) (hx2 : x2 = { x with begun := x.begun + 1, place := x.place + 1 }) (i : InsD) (hi : i = insAt x.code x.place) :
  iStep c W r x = if i.op = 0 then (1, r, x2, []) else if i.op = 1 then (2, r, x2, []) else if i.op = 2 then (0, r, setReg x2 i.a i.b, []) else if i.op = 3 then (0, r, setReg x2 i.a ((regOf x2 i.b + regOf x2 i.c).tmod 65536), [])
   else if i.op = 4 then (0, r, setReg x2 i.a ((regOf x2 i.b + 65535 + 1 - regOf x2 i.c).tmod 65536), []) else if i.op = 5 then (0, r, { x2 with place := i.c.toNat }, [])
   else if i.op = 6 then (0, r, if regOf x2 i.a < regOf x2 i.b then { x2 with place := i.c.toNat } else x2, []) else if i.op = 7 then iRead c W r x2 i else iWrite c r x2 i := by
 subst hx2 hi
 unfold iStep
 rw [if_neg h1, if_neg h2]
 simp only
 rw [if_neg (by rw [h3]; decide)]
theorem iWrite_x (c : Cfg) (r : Int) (x : TS) (i : InsD) (h : ¬ c.wd ≤ regOf x i.a) : (iWrite c r x i).1 = 0 ∧ (iWrite c r x i).2.2.1.regs = x.regs ∧ (iWrite c r x i).2.2.1.code = x.code ∧ (iWrite c r x i).2.2.1.place = x.place ∧ (iWrite c r x i).2.2.1.begun = x.begun ∧ (iWrite c r x i).2.2.1.writes = putEnt x.writes (regOf x i.a) (regOf x i.b) := by
 have hw : ∀ (y : TS) (had : Bool), (iWrote c r y i (regOf x i.a) had).2.1 = { y with writes := putEnt y.writes (regOf x i.a) (regOf y i.b) } := fun y had => by unfold iWrote; simp only; split <;> rfl
 unfold iWrite
 rw [if_neg h]
 simp only
 split
 ·simp only
  rw [hw]
  exact ⟨trivial, rfl, rfl, rfl, rfl, rfl⟩
 ·simp only
  rw [hw]
  exact ⟨trivial, rfl, rfl, rfl, rfl, rfl⟩
theorem next_sim (c : Cfg) (W : Int → Int) (code : List InsD) : ∀ (n : Nat) (m : MS) (x : TS) (r : Int) (N : Nat), Like code m x → MOk m → x.place ≤ code.length → (x.begun : Int) ≤ c.f → c.f < x.begun + n → c.f < x.begun + N →
  Told c W code N r x (pNext c.f c.wd code n m)
 | 0, m, x, r, N, hL, hM, hp, hb, hn, hN => by omega
 | n + 1, m, x, r, N, hL, hM, hp, hb, hn, hN => by
  obtain ⟨N', rfl⟩ : ∃ N', N = N' + 1 := ⟨N - 1, by omega⟩
  have e1 := hL.place
  have e2 := hL.begun
  rw [pNext]
  by_cases h1 : x.place = code.length
  ·rw [if_pos (by omega)]
   have hs : iStep c W r x = (1, r, x, []) := by unfold iStep; rw [if_pos (by rw [hL.code]; exact h1)]
   refine ⟨hM, Or.inl ⟨by simp, ?_⟩⟩
   rw [iSteps_one _ _ _ _ _ (by rw [hs]; simp), hs]
   exact ⟨rfl, hL.regs.symm, rfl⟩
  rw [if_neg (by omega)]
  have h1' : ¬ x.place = x.code.length := by rw [hL.code]; exact h1
  by_cases h2 : (x.begun : Int) = c.f
  ·rw [if_pos (by omega)]
   have hs : iStep c W r x = (4, r, x, []) := by unfold iStep; rw [if_neg h1', if_pos h2]
   refine ⟨hM, Or.inl ⟨by simp, ?_⟩⟩
   rw [iSteps_one _ _ _ _ _ (by rw [hs]; simp), hs]
   exact ⟨rfl, hL.regs.symm, rfl⟩
  rw [if_neg (by omega)]
  simp only
  rw [e1, e2]
  cases h3 : formedB (insAt code x.place) code.length with
  | false =>
   rw [if_pos rfl]
   have hs : iStep c W r x = (3, r, { x with begun := x.begun + 1 }, []) := by unfold iStep; rw [if_neg h1', if_neg h2]; simp only; rw [hL.code, if_pos h3]
   refine ⟨hM, Or.inl ⟨by simp, ?_⟩⟩
   rw [iSteps_one _ _ _ _ _ (by rw [hs]; simp), hs]
   exact ⟨rfl, hL.regs.symm, rfl⟩
  | true =>
   rw [if_neg (by decide)]
   obtain ⟨x2, hx2⟩ : ∃ x2 : TS, x2 = { x with begun := x.begun + 1, place := x.place + 1 } := ⟨_, rfl⟩
   obtain ⟨i, hi⟩ : ∃ i, i = insAt code x.place := ⟨_, rfl⟩
   have hse := iStep_eq c W r x h1' h2 (by rw [hL.code]; exact h3) x2 hx2 i (by rw [hL.code]; exact hi)
   rw [← hi] at h3 ⊢
   have hx2w : x2.writes = x.writes := by rw [hx2]
   have hx2r : m.regs = x2.regs := by rw [hx2]; exact hL.regs
   have hx2c : x2.code = code := by rw [hx2]; exact hL.code
   have hx2p : x2.place = x.place + 1 := by rw [hx2]
   have hx2b : x2.begun = x.begun + 1 := by rw [hx2]
   obtain ⟨m2, hm2⟩ : ∃ m2 : MS, m2 = { m with begun := x.begun + 1, place := x.place + 1 } := ⟨_, rfl⟩
   have hm2' : ({ regs := m.regs, place := x.place + 1, begun := x.begun + 1, into := m.into } : MS) = m2 := by rw [hm2]
   rw [hm2']
   have hM2 : MOk m2 := by rw [hm2]; exact hM
   have hm2r : m2.regs = x2.regs := by rw [hm2]; exact hx2r
   have hm2p : m2.place = x.place + 1 := by rw [hm2]
   have hm2b : m2.begun = x.begun + 1 := by rw [hm2]
   have hop := formed_op h3
   clear hx2 hm2 hm2' hi
   by_cases o0 : i.op = 0
   ·rw [if_pos o0] at hse ⊢
    refine ⟨hM2, Or.inl ⟨by simp, ?_⟩⟩
    rw [iSteps_one _ _ _ _ _ (by rw [hse]; simp), hse]
    exact ⟨rfl, hm2r.symm, hx2w⟩
   rw [if_neg o0] at hse ⊢
   by_cases o1 : i.op = 1
   ·rw [if_pos o1] at hse ⊢
    refine ⟨hM2, Or.inl ⟨by simp, ?_⟩⟩
    rw [iSteps_one _ _ _ _ _ (by rw [hse]; simp), hse]
    exact ⟨rfl, hm2r.symm, hx2w⟩
   rw [if_neg o1] at hse ⊢
   by_cases o7 : i.op = 7 ∨ i.op = 8
   ·rw [if_pos o7]
    obtain ⟨⟨a0, a1⟩, ⟨b0, b1⟩⟩ := formed78 h3 o7
    rw [if_neg (by omega), if_neg (by omega), if_neg (by omega), if_neg (by omega), if_neg (by omega)] at hse
    unfold pWord
    by_cases p7 : i.op = 7
    ·rw [if_pos p7] at hse ⊢
     have hrg := mReg_range hM2 i.b
     rw [mReg_eq hm2r] at hrg ⊢
     rw [inB_wd hrg.1]
     unfold iRead at hse
     by_cases hw : c.wd ≤ regOf x2 i.b
     ·rw [if_pos hw] at hse
      simp only [hw, not_true_eq_false, decide_false, Bool.false_eq_true, if_false]
      refine ⟨hM2, Or.inl ⟨by simp, ?_⟩⟩
      rw [iSteps_one _ _ _ _ _ (by rw [hse]; simp), hse]
      exact ⟨rfl, hm2r.symm, hx2w⟩
     ·rw [if_neg hw] at hse
      simp only [hw, not_false_eq_true, decide_true, if_true]
      obtain ⟨z1, z2⟩ := iSteps_zero c W N' r x (by rw [hse])
      rw [hse] at z1 z2
      obtain ⟨_, g2, g3, g4, _, g6, g7, _⟩ := xRead_same c x2 (regOf x2 i.b)
      obtain ⟨ki, hki⟩ := Int.eq_ofNat_of_zero_le a0
      have hvr : vRead W x2 (regOf x2 i.b) = vRead W x (regOf x2 i.b) := by unfold vRead; rw [hx2w]
      refine ⟨hM2, Or.inr ⟨rfl, _, _, N', z1, z2, ?_, ?_, ?_, ?_, ?_, ?_, ?_, hrg.1, by simp only; omega, Or.inl ⟨rfl, ki, hki, by omega, ?_, ?_⟩⟩⟩
      ·exact g2.trans hx2c
      ·show (xRead c x2 (regOf x2 i.b)).place ≤ _; rw [g6, hx2p]; omega
      ·show ((xRead c x2 (regOf x2 i.b)).begun : Int) ≤ _; rw [g7, hx2b]; push_cast; omega
      ·show c.f < ((xRead c x2 (regOf x2 i.b)).begun : Int) + _; rw [g7, hx2b]; push_cast; push_cast at hN; omega
      ·show _ ≤ (xRead c x2 (regOf x2 i.b)).begun; rw [g7, hx2b]; omega
      ·show m2.place = (xRead c x2 (regOf x2 i.b)).place; rw [g6, hx2p, hm2p]
      ·show m2.begun = (xRead c x2 (regOf x2 i.b)).begun; rw [g7, hx2b, hm2b]
      ·show (xRead c x2 (regOf x2 i.b)).regs.set i.a.toNat (vRead W x2 (regOf x2 i.b)) = _
       rw [g3, hvr, hki]
       simp only
       rw [hm2r]
       rfl
      ·show (xRead c x2 (regOf x2 i.b)).writes = _; rw [g4, hx2w]
    ·have p8 : i.op = 8 := by omega
     rw [if_neg p7] at hse ⊢
     have hrg := mReg_range hM2 i.a
     have hrv := mReg_range hM2 i.b
     rw [mReg_eq hm2r] at hrg hrv
     rw [mReg_eq hm2r, mReg_eq hm2r]
     rw [inB_wd hrg.1]
     by_cases hw : c.wd ≤ regOf x2 i.a
     ·have hs2 : iWrite c r x2 i = (3, r, x2, []) := by unfold iWrite; rw [if_pos hw]
      rw [hs2] at hse
      simp only [hw, not_true_eq_false, decide_false, Bool.false_eq_true, if_false]
      refine ⟨hM2, Or.inl ⟨by simp, ?_⟩⟩
      rw [iSteps_one _ _ _ _ _ (by rw [hse]; simp), hse]
      exact ⟨rfl, hm2r.symm, hx2w⟩
     ·obtain ⟨y1, y2, y3, y4, y5, y6⟩ := iWrite_x c r x2 i hw
      rw [← hse] at y1 y2 y3 y4 y5 y6
      simp only [hw, not_false_eq_true, decide_true, if_true]
      obtain ⟨z1, z2⟩ := iSteps_zero c W N' r x y1
      refine ⟨hM2, Or.inr ⟨rfl, _, _, N', z1, z2, ?_, ?_, ?_, ?_, ?_, ?_, ?_, hrg.1, by simp only; omega, Or.inr ⟨rfl, hrv.1, hrv.2, ?_, ?_⟩⟩⟩
      ·exact y3.trans hx2c
      ·rw [y4, hx2p]; omega
      ·rw [y5, hx2b]; push_cast; omega
      ·rw [y5, hx2b]; push_cast; push_cast at hN; omega
      ·rw [y5, hx2b]; omega
      ·rw [y4, hx2p, hm2p]
      ·rw [y5, hx2b, hm2b]
      ·rw [y2, hm2r]
      ·rw [y6, hx2w]
   ·rw [if_neg o7]
    have ho26 : 2 ≤ i.op ∧ i.op ≤ 6 := by omega
    have hMc := MOk.comp hM2 h3 ho26
    have hbc := pComp_begun m2 i
    -- the thread's step
    have hst : ∃ x3 : TS, iStep c W r x = (0, r, x3, []) ∧ x3.writes = x.writes ∧ x3.code = code ∧ x3.regs = (pComp m2 i).regs ∧ x3.place = (pComp m2 i).place ∧ x3.begun = x.begun + 1 ∧ x3.place ≤ code.length := by
     unfold pComp
     by_cases q2 : i.op = 2
     ·rw [if_pos q2] at hse ⊢
      exact ⟨_, hse, hx2w, hx2c, by show _ = m2.regs.set _ _; rw [hm2r]; rfl, by show x2.place = m2.place; rw [hx2p, hm2p], hx2b, by show x2.place ≤ _; rw [hx2p]; omega⟩
     rw [if_neg q2] at hse ⊢
     by_cases q3 : i.op = 3
     ·rw [if_pos q3] at hse ⊢
      rw [mReg_eq hm2r, mReg_eq hm2r]
      exact ⟨_, hse, hx2w, hx2c, by show _ = m2.regs.set _ _; rw [hm2r]; rfl, by show x2.place = m2.place; rw [hx2p, hm2p], hx2b, by show x2.place ≤ _; rw [hx2p]; omega⟩
     rw [if_neg q3] at hse ⊢
     by_cases q4 : i.op = 4
     ·rw [if_pos q4] at hse ⊢
      rw [mReg_eq hm2r, mReg_eq hm2r]
      exact ⟨_, hse, hx2w, hx2c, by show _ = m2.regs.set _ _; rw [hm2r]; rfl, by show x2.place = m2.place; rw [hx2p, hm2p], hx2b, by show x2.place ≤ _; rw [hx2p]; omega⟩
     rw [if_neg q4] at hse ⊢
     by_cases q5 : i.op = 5
     ·rw [if_pos q5] at hse ⊢
      have := formed5 h3 q5
      exact ⟨_, hse, hx2w, hx2c, hm2r.symm, rfl, hx2b, by show i.c.toNat ≤ _; omega⟩
     rw [if_neg q5] at hse ⊢
     have q6 : i.op = 6 := by omega
     rw [if_pos q6] at hse
     have hf6 := formed6 h3 q6
     rw [mReg_eq hm2r, mReg_eq hm2r]
     by_cases hlt : regOf x2 i.a < regOf x2 i.b
     ·rw [if_pos hlt] at hse ⊢
      exact ⟨_, hse, hx2w, hx2c, hm2r.symm, rfl, hx2b, by show i.c.toNat ≤ _; omega⟩
     ·rw [if_neg hlt] at hse ⊢
      exact ⟨_, hse, hx2w, hx2c, hm2r.symm, by rw [hx2p, hm2p], hx2b, by rw [hx2p]; omega⟩
    obtain ⟨x3, s1, s2, s3, s4, s5, s6, s7⟩ := hst
    obtain ⟨z1, z2⟩ := iSteps_zero c W N' r x (by rw [s1])
    rw [s1] at z1 z2
    have ih := next_sim c W code n (pComp m2 i) x3 r N' ⟨s3, s4.symm, s5.symm, by rw [hbc, hm2b, s6]⟩ hMc s7 (by rw [s6]; push_cast; omega) (by rw [s6]; push_cast; push_cast at hn; omega) (by rw [s6]; push_cast; push_cast at hN; omega)
    obtain ⟨i1, i2⟩ := ih
    refine ⟨i1, ?_⟩
    simp only at z1 z2
    rcases i2 with ⟨j1, j2, j3, j4⟩ | ⟨j1, x1, r1, N1, j2, j3, j4, j5, j6, j7, j8, j9, j10, j11, j12, j13⟩
    ·exact Or.inl ⟨j1, z1.trans j2, by rw [z2]; exact j3, by rw [z2, j4, s2]⟩
    ·refine Or.inr ⟨j1, x1, r1, N1, z1.trans j2, z2.trans j3, j4, j5, j6, j7, by omega, j9, j10, j11, j12, ?_⟩
     rw [s2] at j13
     have hv : vRead W x3 = vRead W x := by funext a; unfold vRead; rw [s2]
     rw [hv] at j13
     exact j13
structure Head (c : Cfg) (W : Int → Int) (code : List InsD) (k : Nat) (t : TurnD) (m : MS) (D : List Int) : Prop where
 mok : MOk m
 dlen : (D.length : Int) = c.wd
 drng : ∀ v ∈ D, 0 ≤ v ∧ v ≤ 65535
 cs : (t.fate ≠ 0 ∧ (iRun c W code).1 = t.fate ∧ (iRun c W code).2.2.1.regs = m.regs ∧ ∀ a : Nat, a < D.length → D.getD a 0 = vRead W (iRun c W code).2.2.1 (a : Int)) ∨
  (t.fate = 0 ∧ ∃ (x1 : TS) (r1 : Int) (N1 : Nat), (iRun c W code).1 = (iSteps c W N1 r1 x1).1 ∧ (iRun c W code).2.2.1 = (iSteps c W N1 r1 x1).2.2.1 ∧ x1.code = code ∧ x1.place ≤ code.length ∧ (x1.begun : Int) ≤ c.f ∧ c.f < x1.begun + N1 ∧ c.f < x1.begun + k ∧
      m.place = x1.place ∧ m.begun = x1.begun ∧ 0 ≤ t.addr ∧ t.addr < c.wd ∧
      ((t.op = 7 ∧ ∃ ki : Nat, m.into = (ki : Int) ∧ ki < 4 ∧ x1.regs = m.regs.set ki (D.getD t.addr.toNat 0) ∧ ∀ a : Nat, a < D.length → D.getD a 0 = vRead W x1 (a : Int)) ∨
          (t.op = 8 ∧ 0 ≤ t.val ∧ t.val ≤ 65535 ∧ x1.regs = m.regs ∧ ∀ a : Nat, a < D.length → (D.set t.addr.toNat t.val).getD a 0 = vRead W x1 (a : Int))))
theorem vRead_put {W : Int → Int} {x y : TS} {a v b : Int} (hw : y.writes = putEnt x.writes a v) : vRead W y b = if b = a then v else vRead W x b := by
 unfold vRead
 rw [hw]
 unfold putEnt
 cases hk : entIdx x.writes a with
 | some k =>
  obtain ⟨e, he, hea⟩ := entIdx_some0 hk
  have hkl := (List.getElem?_eq_some_iff.1 he).1
  have hpres : ∀ d : Int, entIdx (x.writes.set k ⟨a, v⟩) d = entIdx x.writes d := fun d => by
   unfold entIdx
   have hmap : ∀ l : List EntD, l.findIdx? (fun e => e.what == d) = (l.map (·.what)).findIdx? (fun w => w == d) := fun l => by
    rw [List.findIdx?_map]
    rfl
   rw [hmap, hmap]
   congr 1
   rw [List.map_set]
   apply List.ext_getElem?
   intro j
   rw [List.getElem?_set]
   split
   ·rename_i hj
    subst hj
    rw [List.getElem?_map, he]
    simp [hea, hkl]
   ·rfl
  simp only
  rw [hpres]
  by_cases hb : b = a
  ·rw [if_pos hb, hb, hk]
   simp [List.getD, hkl]
  ·rw [if_neg hb]
   cases hj : entIdx x.writes b with
   | none => rfl
   | some j =>
    obtain ⟨d, hd, hdb⟩ := entIdx_some0 hj
    have hne : k ≠ j := fun h => by
     subst h
     rw [he] at hd
     cases hd
     exact hb (hdb.symm.trans hea)
    simp [List.getD, hne]
 | none =>
  have hnot := entIdx_none0 hk
  simp only
  by_cases hb : b = a
  ·rw [if_pos hb, hb]
   have : entIdx (x.writes ++ [⟨a, v⟩]) a = some x.writes.length := by
    unfold entIdx at *
    rw [List.findIdx?_append, hk]
    simp [List.findIdx?_cons]
   rw [this]
   simp [List.getD]
  ·rw [if_neg hb]
   have : entIdx (x.writes ++ [⟨a, v⟩]) b = entIdx x.writes b := by
    unfold entIdx
    rw [List.findIdx?_append]
    have : ([⟨a, v⟩] : List EntD).findIdx? (fun e => e.what == b) = none := by
     simp [List.findIdx?_cons]
     exact fun h => hb h.symm
    rw [this]
    simp
   rw [this]
   cases hj : entIdx x.writes b with
   | none => rfl
   | some j =>
    obtain ⟨d, hd, hdb⟩ := entIdx_some0 hj
    have hjl := (List.getElem?_eq_some_iff.1 hd).1
    simp [List.getD, List.getElem?_append_left hjl]
theorem set_get (D : List Int) (k a : Nat) (v : Int) (ha : a < D.length) : (D.set k v).getD a 0 = if a = k then v else D.getD a 0 := by
 simp only [List.getD, List.getElem?_set]
 by_cases h : k = a
 ·subst h
  simp [ha]
 ·simp [h, show ¬ a = k from fun e => h e.symm]
theorem head_of {c : Cfg} {W : Int → Int} {code : List InsD} {k N : Nat} {r : Int} {x : TS} {u : TurnD × MS} {D : List Int} (h : Told c W code N r x u) (he : (iRun c W code).1 = (iSteps c W N r x).1) (hx : (iRun c W code).2.2.1 = (iSteps c W N r x).2.2.1)
  (hk : c.f < x.begun + 1 + k) (hd : (D.length : Int) = c.wd) (hr : ∀ v ∈ D, 0 ≤ v ∧ v ≤ 65535) (hD : ∀ a : Nat, a < D.length → D.getD a 0 = vRead W x (a : Int)) : Head c W code k u.1 u.2 D := by
 obtain ⟨h1, h2⟩ := h
 refine ⟨h1, hd, hr, ?_⟩
 rcases h2 with ⟨j1, j2, j3, j4⟩ | ⟨j1, x1, r1, N1, j2, j3, j4, j5, j6, j7, j8, j9, j10, j11, j12, j13⟩
 ·refine Or.inl ⟨j1, he.trans j2, by rw [hx]; exact j3, fun a ha => ?_⟩
  rw [hD a ha, hx]
  unfold vRead
  rw [j4]
 ·refine Or.inr ⟨j1, x1, r1, N1, he.trans j2, hx.trans j3, j4, j5, j6, j7, by omega, j9, j10, j11, j12, ?_⟩
  rcases j13 with ⟨o, ki, k1, k2, k3, k4⟩ | ⟨o, k1, k2, k3, k4⟩
  ·refine Or.inl ⟨o, ki, k1, k2, ?_, fun a ha => ?_⟩
   ·rw [k3, hD _ (by omega), Int.toNat_of_nonneg j11]
   ·rw [hD a ha]
    unfold vRead
    rw [k4]
  ·refine Or.inr ⟨o, k1, k2, k3, fun a ha => ?_⟩
   rw [set_get _ _ _ _ ha, vRead_put k4]
   by_cases h : a = u.1.addr.toNat
   ·rw [if_pos h, if_pos (by omega)]
   ·rw [if_neg h, if_neg (by omega), hD a ha]
theorem head_first {c : Cfg} {mem : List Int} {code : List InsD} (hf0 : 0 ≤ c.f) (hd : (mem.length : Int) = c.wd) (hr : ∀ v ∈ mem, 0 ≤ v ∧ v ≤ 65535) :
  Head c (fun a => mem.getD a.toNat 0) code (c.f.toNat + 1) (pNext c.f c.wd code (c.f.toNat + 1) ⟨[0, 0, 0, 0], 0, 0, 0⟩).1 (pNext c.f c.wd code (c.f.toNat + 1) ⟨[0, 0, 0, 0], 0, 0, 0⟩).2 mem := by
 have h := next_sim c (fun a => mem.getD a.toNat 0) code (c.f.toNat + 1) ⟨[0, 0, 0, 0], 0, 0, 0⟩ (newTS code 0) 0 (c.f.toNat + 2) ⟨rfl, rfl, rfl, rfl⟩ ⟨rfl, by simp⟩ (by simp [newTS]) (by simp [newTS]; omega) (by simp [newTS]; omega) (by simp [newTS]; omega)
 exact head_of h rfl rfl (by simp [newTS]; omega) hd hr (fun a ha => by unfold vRead; simp [newTS, entIdx])
def effM (t : TurnD) (m : MS) (D : List Int) : MS := if t.op = 7 then { m with regs := m.regs.set m.into.toNat (D.getD t.addr.toNat 0) } else m
def effD (t : TurnD) (D : List Int) : List Int := if t.op = 7 then D else D.set t.addr.toNat t.val
theorem head_next {c : Cfg} {W : Int → Int} {code : List InsD} {k : Nat} {t : TurnD} {m : MS} {D : List Int} (hf0 : 0 ≤ c.f) (h : Head c W code (k + 1) t m D) (ht : t.fate = 0) :
  (0 ≤ t.addr ∧ t.addr < D.length ∧ (t.op = 7 → ∃ ki : Nat, m.into = (ki : Int) ∧ ki < 4) ∧ (t.op = 7 ∨ t.op = 8) ∧ MOk (effM t m D) ∧ (((effM t m D).begun : Int) ≤ c.f)) ∧
   Head c W code k (pNext c.f c.wd code (c.f.toNat + 1) (effM t m D)).1 (pNext c.f c.wd code (c.f.toNat + 1) (effM t m D)).2 (effD t D) := by
 obtain ⟨hm, hd, hr, hc⟩ := h
 rcases hc with ⟨h0, _⟩ | ⟨_, x1, r1, N1, j2, j3, j4, j5, j6, j7, j8, j9, j10, j11, j12, j13⟩
 ·exact absurd ht h0
 have hget : ∀ a : Nat, a < D.length → 0 ≤ D.getD a 0 ∧ D.getD a 0 ≤ 65535 := fun a ha => by
  rw [show D.getD a 0 = D[a] from by simp [List.getD, List.getElem?_eq_getElem ha]]
  exact hr _ (List.getElem_mem ha)
 rcases j13 with ⟨o, ki, k1, k2, k3, k4⟩ | ⟨o, k1, k2, k3, k4⟩
 ·have eM : effM t m D = { m with regs := m.regs.set ki (D.getD t.addr.toNat 0) } := by unfold effM; rw [if_pos o, k1]; rfl
  have eD : effD t D = D := by unfold effD; rw [if_pos o]
  have hMe : MOk (effM t m D) := by
   rw [eM]
   refine ⟨by simp [hm.1], fun u hu => ?_⟩
   rcases List.mem_or_eq_of_mem_set hu with h2 | h2
   ·exact hm.2 u h2
   ·rw [h2]; exact hget _ (by omega)
  have hbe : (effM t m D).begun = x1.begun := by rw [eM]; exact j10
  have hL : Like code (effM t m D) x1 := ⟨j4, by rw [eM]; exact k3.symm, by rw [eM]; exact j9, hbe⟩
  refine ⟨⟨j11, by omega, fun _ => ⟨ki, k1, k2⟩, Or.inl o, hMe, by rw [hbe]; exact j6⟩, ?_⟩
  have hs := next_sim c W code (c.f.toNat + 1) (effM t m D) x1 r1 N1 hL hMe j5 j6 (by omega) j7
  rw [eD]
  exact head_of hs j2 j3 (by push_cast at j8; omega) hd hr k4
 ·have eM : effM t m D = m := by unfold effM; rw [if_neg (by omega)]
  have eD : effD t D = D.set t.addr.toNat t.val := by unfold effD; rw [if_neg (by omega)]
  have hL : Like code m x1 := ⟨j4, k3.symm, j9, j10⟩
  rw [eM, eD]
  refine ⟨⟨j11, by omega, fun h => by omega, Or.inr o, hm, by rw [j10]; exact j6⟩, ?_⟩
  have hs := next_sim c W code (c.f.toNat + 1) m x1 r1 N1 hL hm j5 j6 (by omega) j7
  refine head_of hs j2 j3 (by push_cast at j8; omega) (by simpa using hd) (fun v hv => ?_) (fun a ha => k4 a (by simpa using ha))
  rcases List.mem_or_eq_of_mem_set hv with h2 | h2
  ·exact hr v h2
  ·omega
end Go.Proofs.YtejadojilncbjabGreat
