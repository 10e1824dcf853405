import Derived.Test.YtejadojilncbjabH15
import Derived.Test.YtejadojilncbjabH10
namespace Go.Proofs.Ytejadojilncbjab
set_option linter.unusedVariables false

/-! All jobs come to their end, part 1: what an attempt may still cost. -/

/-- While the code goes on. -/
def b0 (K : Cx) (h : Th) : Int := 12 * (K.c.f - (h.x.begun : Int)) + 20 * (8 - (h.x.held.length : Int)) + 240
def r0 (h : Th) : Int := if h.rank = 0 then 20 else 0

def att (K : Cx) (m : Int → Int) (h : Th) : Int := match h.st with
  | .idle => 0
  | .start => 881 + r0 h
  | .rHeld _ _ => b0 K h + 1 + r0 h
  | .rVer _ _ => b0 K h + 3 + r0 h
  | .rWord _ a one => b0 K h + (if m (3 + a.tmod K.c.s) = one then 2 else 5) + r0 h
  | .rAgain _ a one _ => b0 K h + (if m (3 + a.tmod K.c.s) = one then 1 else 4) + r0 h
  | .xClock _ => b0 K h + r0 h
  | .xVer _ _ r => b0 K h - 9 + (r.length : Int) + r0 h
  | .gStat _ _ => b0 K h + 4 + r0 h
  | .gOwn _ _ => b0 K h + 4 + r0 h
  | .gTheir _ _ _ => b0 K h + 4 + r0 h
  | .gMark _ _ _ _ => b0 K h + 4 + r0 h
  | .gVer _ _ => b0 K h + 3 + r0 h
  | .tTake => b0 K h + 2 + r0 h
  | .tShow => b0 K h + 21 + r0 h
  | .cStat => 230
  | .cGate => 229
  | .cClock => 228
  | .cVer _ r => 219 + (r.length : Int)
  | .cShut _ r => 200 + (r.length : Int)
  | .cStamp _ => 200
  | .cLeave _ => 199
  | .cWord _ r => 190 + (r.length : Int)
  | .cOpen _ r => 22 + 20 * (r.length : Int)
  | .cOwn _ r => 21 + 20 * (r.length : Int)
  | .free _ r => 22 + 20 * (r.length : Int)
  | .fin _ => 20
  | .fGate => 1080 + r0 h
  | .fOwn r => 912 + 20 * (r.length : Int) + r0 h
  | .fTake => 912 + r0 h
  | .fStat => 911 + r0 h
  | .wait _ => 882 + r0 h
  | .rest n => 882 + (n : Int) + r0 h

/-! The phase of a get. -/

def shn (c : Cfg) (m : Int → Int) (t : Int) : Int := m (3 + 2 * c.s + t) / 8
def mrk (c : Cfg) (m : Int → Int) (t : Int) : Int := m (3 + 2 * c.s + t) % 8

/-- Where in the loop: 0 gStat, 1 gOwn, 2 gTheir, 3 gMark. -/
def phv (K : Cx) (m : Int → Int) (h : Th) (s : Int) (w : Nat) (u th : Int) : Int :=
  if mrk K.c m K.me ≠ 0 then (if w = 0 then 1 else if w = 3 then 2 else if w = 2 then 3 else 4)
  else if m (hOwn K s) = 0 ∨ h.rank = 0 then (if w = 1 then 1 else if w = 0 then 2 else if w = 3 then 3 else 4)
  else if 0 < shn K.c m (m (hOwn K s) - 1) ∧ shn K.c m (m (hOwn K s) - 1) < h.rank then (if w = 2 then (if u = m (hOwn K s) then 1 else 5) else if w = 1 then 2 else if w = 0 then 3 else 4)
  else if mrk K.c m (m (hOwn K s) - 1) = 0 then (if w = 3 then (if u = m (hOwn K s) ∧ th = m (hSta K (u - 1)) then 1 else 5) else if w = 2 then (if u = m (hOwn K s) then 2 else 6) else if w = 1 then 3 else 4)
  else 0
def ph (K : Cx) (m : Int → Int) (h : Th) : Int := match h.st with
  | .gStat _ a => phv K m h (a.tmod K.c.s) 0 0 0
  | .gOwn _ a => phv K m h (a.tmod K.c.s) 1 0 0
  | .gTheir _ a u => phv K m h (a.tmod K.c.s) 2 u 0
  | .gMark _ a u th => phv K m h (a.tmod K.c.s) 3 u th
  | _ => 0

theorem phv_le (K : Cx) (m : Int → Int) (h : Th) (s : Int) (w : Nat) (u th : Int) : 0 ≤ phv K m h s w u th ∧ phv K m h s w u th ≤ 6 := by
  unfold phv
  repeat' split
  all_goals omega
theorem ph_le (K : Cx) (m : Int → Int) (h : Th) : 0 ≤ ph K m h ∧ ph K m h ≤ 6 := by
  unfold ph
  split
  · exact phv_le _ _ _ _ _ _ _
  · exact phv_le _ _ _ _ _ _ _
  · exact phv_le _ _ _ _ _ _ _
  · exact phv_le _ _ _ _ _ _ _
  · omega

/-- Where the code stops for a Read or a Write an instruction has begun. -/
theorem go_begun {K : Cx} {h : Th} (hb : (h.x.begun : Int) ≤ K.c.f) : (∃ i a, (hGo K h).st = .rHeld i a ∨ (hGo K h).st = .rVer i a ∨ (hGo K h).st = .gStat i a) → h.x.begun + 1 ≤ (hGo K h).x.begun := by
  have key := go_ind (K := K) (fun h' => h.x.begun ≤ h'.x.begun) (fun h' => (∃ i a, h'.st = .rHeld i a ∨ h'.st = .rVer i a ∨ h'.st = .gStat i a) → h.x.begun + 1 ≤ h'.x.begun) (fun h' p => ?_) h hb (Nat.le_refl _)
  · exact key
  · refine ⟨fun e => ?_, ?_⟩
    · have := hStep_begun K h' e
      omega
    · have cl : ∀ (e : Int) (y : Th), ¬ ∃ i a, (hClose e y).st = .rHeld i a ∨ (hClose e y).st = .rVer i a ∨ (hClose e y).st = .gStat i a := fun e y => by
        unfold hClose hFreeAt
        split
        · simp
        · split <;> simp
      unfold hStep
      by_cases h1 : h'.x.place = h'.x.code.length
      · rw [if_pos h1]; exact fun _ q => absurd q (cl _ _)
      rw [if_neg h1]
      by_cases h2 : (h'.x.begun : Int) = K.c.f
      · rw [if_pos h2]; exact fun _ q => absurd q (cl _ _)
      rw [if_neg h2]
      simp only
      generalize insAt h'.x.code h'.x.place = i at *
      by_cases h3 : formedB i h'.x.code.length = false
      · rw [if_pos h3]; exact fun _ q => absurd q (cl _ _)
      rw [if_neg h3]
      by_cases o0 : i.op = 0
      · rw [if_pos o0]; exact fun _ q => absurd q (cl _ _)
      rw [if_neg o0]
      by_cases o1 : i.op = 1
      · rw [if_pos o1]; exact fun _ q => absurd q (cl _ _)
      rw [if_neg o1]
      by_cases o2 : i.op = 2
      · rw [if_pos o2]; exact fun e => nomatch e
      rw [if_neg o2]
      by_cases o3 : i.op = 3
      · rw [if_pos o3]; exact fun e => nomatch e
      rw [if_neg o3]
      by_cases o4 : i.op = 4
      · rw [if_pos o4]; exact fun e => nomatch e
      rw [if_neg o4]
      by_cases o5 : i.op = 5
      · rw [if_pos o5]; exact fun e => nomatch e
      rw [if_neg o5]
      by_cases o6 : i.op = 6
      · rw [if_pos o6]; exact fun e => nomatch e
      rw [if_neg o6]
      by_cases o7 : i.op = 7
      · rw [if_pos o7]
        generalize hy : ({ h' with x := { h'.x with begun := h'.x.begun + 1, place := h'.x.place + 1 } } : Th) = y
        have eb : y.x.begun = h'.x.begun + 1 := by rw [← hy]
        unfold hRead
        simp only
        split
        · exact fun _ q => absurd q (cl _ _)
        · split
          · exact fun e => nomatch e
          · intro _ _
            split
            · show h.x.begun + 1 ≤ y.x.begun; omega
            · show h.x.begun + 1 ≤ y.x.begun; omega
      · rw [if_neg o7]
        generalize hy : ({ h' with x := { h'.x with begun := h'.x.begun + 1, place := h'.x.place + 1 } } : Th) = y
        have eb : y.x.begun = h'.x.begun + 1 := by rw [← hy]
        unfold hWrite
        simp only
        split
        · exact fun _ q => absurd q (cl _ _)
        · split
          · exact fun e => nomatch e
          · intro _ _
            show h.x.begun + 1 ≤ y.x.begun
            omega

theorem len_nodup : ∀ (n : Nat) (l : List Int), l.Nodup → (∀ x ∈ l, 0 ≤ x ∧ x < (n : Int)) → l.length ≤ n
  | 0, l, _, h => by
    cases l with
    | nil => simp
    | cons x r => have := h x List.mem_cons_self; omega
  | n + 1, l, hn, h => by
    by_cases hm : (n : Int) ∈ l
    · have h1 := List.length_erase_of_mem hm
      have h2 := len_nodup n (l.erase (n : Int)) (hn.erase _) (fun x hx => by
        have e := (hn.mem_erase_iff).1 hx
        have := h x e.2
        have := e.1
        omega)
      omega
    · have := len_nodup n l hn (fun x hx => by
        have := h x hx
        have : x ≠ (n : Int) := fun e => hm (by rw [← e]; exact hx)
        omega)
      omega

/-- How long the lists of a state are. -/
def LenOk (h : Th) : Prop := h.x.held.length ≤ 8 ∧ match h.st with
  | .xVer _ _ r => r.length ≤ 8
  | .cVer _ r => r.length ≤ 8
  | .cShut _ r => r.length ≤ 8
  | .cWord _ r => r.length ≤ 8
  | .cOpen _ r => r.length ≤ 8
  | .cOwn _ r => r.length ≤ 8
  | .free _ r => r.length ≤ 8
  | .fOwn r => r.length ≤ 8
  | .rest n => n ≤ 8
  | _ => True

/-- Without an access the code comes to something that costs less. -/
theorem att_go {K : Cx} {m : Int → Int} {h : Th} (hb : (h.x.begun : Int) ≤ K.c.f) (hl : LenOk (hGo K h)) : att K m (hGo K h) + ph K m (hGo K h) ≤ b0 K h - 2 + r0 h ∧ 0 ≤ r0 h := by
  obtain ⟨d, g⟩ := god_go (K := K) (h := h) hb
  have gb := go_begun (K := K) (h := h) hb
  have lim : ((hGo K h).x.held.length : Int) = h.x.held.length := by rw [d.held]
  have l1 := hl.1
  have l2 := hl.2
  have er : r0 (hGo K h) = r0 h := by unfold r0; rw [d.rank]
  have r1 : 0 ≤ r0 h := by unfold r0; split <;> omega
  have p := ph_le K m (hGo K h)
  refine ⟨?_, r1⟩
  unfold att
  unfold b0 at *
  cases hst : (hGo K h).st with
  | rHeld i a => have := gb ⟨i, a, Or.inl hst⟩; simp only; rw [er]; omega
  | rVer i a => have := gb ⟨i, a, Or.inr (Or.inl hst)⟩; simp only; rw [er]; omega
  | gStat i a => have := gb ⟨i, a, Or.inr (Or.inr hst)⟩; simp only; rw [er]; omega
  | cStat => have e : ph K m (hGo K h) = 0 := by unfold ph; rw [hst]
             rw [e]; simp only; omega
  | free e r => have e' : ph K m (hGo K h) = 0 := by unfold ph; rw [hst]
                rw [hst] at l2
                rw [e']; simp only; omega
  | fin e => have e' : ph K m (hGo K h) = 0 := by unfold ph; rw [hst]
             rw [e']; simp only; omega
  | _ => rw [hst] at g; exact g.elim
/-- A failure costs no more than this. -/
theorem att_fail {K : Cx} {m : Int → Int} {h : Th} (hl : LenOk (hFail K h)) : att K m (hFail K h) ≤ 1100 ∧ ph K m (hFail K h) = 0 := by
  have r1 : ∀ y : Th, 0 ≤ r0 y ∧ r0 y ≤ 20 := fun y => by unfold r0; split <;> omega
  unfold hFail at hl ⊢
  by_cases hg : h.x.inGate = true
  · rw [if_pos hg]
    refine ⟨?_, rfl⟩
    show 1080 + r0 _ ≤ 1100
    have := r1 { h with st := .fGate }
    omega
  · rw [if_neg hg] at hl ⊢
    cases hh : h.x.held with
    | nil =>
      show att K m (hCount K h) ≤ 1100 ∧ ph K m (hCount K h) = 0
      unfold hCount
      by_cases hr : h.rank = 0 ∧ K.c.r < h.fails + 1
      · rw [if_pos hr]
        refine ⟨?_, rfl⟩
        show 912 + r0 _ ≤ 1100
        have := r1 { h with fails := h.fails + 1, st := .fTake }
        omega
      · rw [if_neg hr]
        refine ⟨?_, rfl⟩
        show 911 + r0 _ ≤ 1100
        have := r1 { h with fails := h.fails + 1, st := .fStat }
        omega
    | cons q r =>
      rw [hh] at hl
      refine ⟨?_, rfl⟩
      have l2 : (q :: r).length ≤ 8 := hl.2
      show 912 + 20 * (((q :: r).length : Nat) : Int) + r0 _ ≤ 1100
      have := r1 (hFailOwn K (q :: r) h)
      omega

end Go.Proofs.Ytejadojilncbjab

namespace Go.Proofs.Ytejadojilncbjab
set_option linter.unusedVariables false

/-! All jobs come to their end, part 2: what a thread has to lose by its own access. -/

/-- Retries that are left, while it has no rank. -/
def ra (K : Cx) (h : Th) : Int := if h.rank = 0 then (match h.st with
  | .fGate => K.c.r - h.fails
  | .fOwn _ => K.c.r - h.fails
  | _ => K.c.r + 1 - h.fails) else 0
/-- Is the read log stale, while that still fells the attempt? -/
def stl (m : Int → Int) (h : Th) : Bool := h.x.reads.any fun e => m (3 + e.what) != e.val
def dd (m : Int → Int) (h : Th) : Int := match h.st with
  | .idle => 0
  | .start => 0
  | .cShut _ _ => 0
  | .cStamp _ => 0
  | .cLeave _ => 0
  | .cWord _ _ => 0
  | .cOpen _ _ => 0
  | .cOwn _ _ => 0
  | .free _ _ => 0
  | .fin _ => 0
  | .fGate => 0
  | .fOwn _ => 0
  | .fTake => 0
  | .fStat => 0
  | .wait _ => 0
  | .rest _ => 0
  | _ => if stl m h then 1 else 0
/-- Does it bear a mark that will fell it? -/
def mm (K : Cx) (m : Int → Int) (h : Th) : Int := match h.st with
  | .idle => 0
  | .cGate => 0
  | .cClock => 0
  | .cVer _ _ => 0
  | .cShut _ _ => 0
  | .cStamp _ => 0
  | .cLeave _ => 0
  | .cWord _ _ => 0
  | .cOpen _ _ => 0
  | .cOwn _ _ => 0
  | .free _ _ => 0
  | .fin _ => 0
  | .fGate => 0
  | .fOwn _ => 0
  | .fTake => 0
  | .fStat => 0
  | _ => if mrk K.c m K.me ≠ 0 then 1 else 0
/-- How many stripes it may still shut. -/
def shl (h : Th) : Int := match h.st with
  | .idle => 0
  | .cShut _ r => (r.length : Int)
  | .cStamp _ => 0
  | .cLeave _ => 0
  | .cWord _ _ => 0
  | .cOpen _ _ => 0
  | .cOwn _ _ => 0
  | .fin _ => 0
  | _ => 8

/-- What a thread has to lose by itself. -/
def ow (K : Cx) (m : Int → Int) (h : Th) : Int := att K m h + ph K m h + 1120 * ra K h + 1120 * dd m h + 1120 * mm K m h + 3370 * shl h - 13 * h.x.valid

/-- What it wants besides. -/
structure Zk (K : Cx) (m : Int → Int) (h : Th) : Prop where
  fl : 0 ≤ h.fails
  fr : h.rank = 0 → (h.st = .fTake → h.fails ≤ K.c.r + 1) ∧ (h.st ≠ .fTake → h.fails ≤ K.c.r)
  xc : ∀ k, h.st = .xClock k → h.x.valid < m 0
  xv : ∀ k c r, h.st = .xVer k c r → h.x.valid < c
  ts : h.st = .tShow → shn K.c m K.me = 0

theorem dd_le (m : Int → Int) (h : Th) : 0 ≤ dd m h ∧ dd m h ≤ 1 := by
  unfold dd
  split <;> first
    | omega
    | (split <;> omega)
theorem mm_le (K : Cx) (m : Int → Int) (h : Th) : 0 ≤ mm K m h ∧ mm K m h ≤ 1 := by
  unfold mm
  split <;> first
    | omega
    | (split <;> omega)

/-- The states where the code stops for an access, and what they have. -/
theorem go_parts {K : Cx} {m : Int → Int} {h : Th} (g : GoSt h.st) : 0 ≤ shl h ∧ shl h ≤ 8 ∧ dd m h ≤ (if stl m h then 1 else 0) ∧ mm K m h ≤ (if mrk K.c m K.me ≠ 0 then 1 else 0) ∧ (h.rank = 0 → ra K h = K.c.r + 1 - h.fails) ∧ (h.rank ≠ 0 → ra K h = 0) := by
  have s1 : (0 : Int) ≤ (if stl m h then 1 else 0) := by split <;> omega
  have s2 : (0 : Int) ≤ (if mrk K.c m K.me ≠ 0 then 1 else 0) := by split <;> omega
  refine ⟨?_, ?_, ?_, ?_, fun e => ?_, fun e => by unfold ra; rw [if_neg e]⟩
  · unfold shl; cases hst : h.st <;> rw [hst] at g <;> first | exact g.elim | (simp only; omega)
  · unfold shl; cases hst : h.st <;> rw [hst] at g <;> first | exact g.elim | (simp only; omega)
  · unfold dd; cases hst : h.st <;> rw [hst] at g <;> first | exact g.elim | exact s1 | exact Int.le_refl _
  · unfold mm; cases hst : h.st <;> rw [hst] at g <;> first | exact g.elim | exact s2 | exact Int.le_refl _
  · unfold ra; rw [if_pos e]; cases hst : h.st <;> rw [hst] at g <;> first | exact g.elim | rfl

/-- The code goes on behind an access. -/
theorem ow_go {K : Cx} {m : Int → Int} {h : Th} (hb : (h.x.begun : Int) ≤ K.c.f) (hl : LenOk (hGo K h)) : ow K m (hGo K h) ≤ b0 K h - 2 + r0 h + 1120 * (if h.rank = 0 then K.c.r + 1 - h.fails else 0) + 1120 * (if stl m h then 1 else 0) + 1120 * (if mrk K.c m K.me ≠ 0 then 1 else 0) + 3370 * 8 - 13 * h.x.valid := by
  obtain ⟨d, g⟩ := god_go (K := K) (h := h) hb
  have A := (att_go (m := m) hb hl).1
  obtain ⟨p1, p2, p3, p4, p5, p6⟩ := go_parts (K := K) (m := m) g
  have es : stl m (hGo K h) = stl m h := by unfold stl; rw [d.reads]
  rw [es] at p3
  rw [d.rank, d.fails] at p5
  rw [d.rank] at p6
  unfold ow
  rw [d.valid]
  by_cases hr : h.rank = 0
  · rw [if_pos hr, p5 hr]; omega
  · rw [if_neg hr, p6 hr]; omega

end Go.Proofs.Ytejadojilncbjab

namespace Go.Proofs.Ytejadojilncbjab
set_option linter.unusedVariables false

/-! Ranks: what a machine shows, and who may mark whom. -/

/-- Does its status show its rank? -/
def Vis (h : Th) : Bool := match h.st with
  | .idle => false
  | .tShow => false
  | .fGate => false
  | .fOwn _ => false
  | .fTake => false
  | .fStat => false
  | _ => true

def Loc2 (K : Cx) (h : Th) : Prop := match h.st with
  | .tTake => h.rank = 0
  | .fTake => h.rank = 0
  | .tShow => h.rank ≠ 0
  | .gTheir _ _ u => h.rank ≠ 0 ∧ u ≠ K.me + 1
  | .gMark _ _ u th => (h.rank ≠ 0 ∧ u ≠ K.me + 1) ∧ (th / 8 = 0 ∨ h.rank ≤ th / 8)
  | _ => True

structure RC (K : Cx) (r : Int) (h' : Th) : Prop where
  rank : h'.rank = r
  loc : Loc2 K h'

theorem rc_free {K : Cx} {h : Th} (e : Int) (r : List Int) : RC K h.rank (hFreeAt e r h) := by cases r <;> exact ⟨rfl, trivial⟩
theorem rc_close {K : Cx} {h : Th} (e : Int) : RC K h.rank (hClose e h) := by
  unfold hClose
  split
  · exact ⟨rfl, trivial⟩
  · exact rc_free e _
theorem rc_count {K : Cx} {h : Th} : RC K h.rank (hCount K h) := by
  unfold hCount
  split
  · rename_i hh
    exact ⟨rfl, hh.1⟩
  · exact ⟨rfl, trivial⟩
theorem rc_failown {K : Cx} {h : Th} (r : List Int) : RC K h.rank (hFailOwn K r h) := by
  cases r with
  | nil => exact rc_count
  | cons q r => exact ⟨rfl, trivial⟩
theorem rc_fail {K : Cx} {h : Th} : RC K h.rank (hFail K h) := by
  unfold hFail
  split
  · exact ⟨rfl, trivial⟩
  · exact rc_failown _
theorem vis_failown {K : Cx} {h : Th} (r : List Int) : Vis (hFailOwn K r h) = false := by
  cases r with
  | nil =>
    show Vis (hCount K h) = false
    unfold hCount
    split <;> rfl
  | cons q r => rfl
theorem vis_fail {K : Cx} {h : Th} : Vis (hFail K h) = false := by
  unfold hFail
  split
  · rfl
  · exact vis_failown _

def RD (K : Cx) (h : Th) (t : Bool × Th) : Prop := (t.1 = true → t.2.rank = h.rank) ∧ (t.1 = false → RC K h.rank t.2)
theorem RD.off {K : Cx} {h h' : Th} (A : RC K h.rank h') : RD K h (false, h') := ⟨(fun e => nomatch e), fun _ => A⟩
theorem RD.on {K : Cx} {h h' : Th} (A : h'.rank = h.rank) : RD K h (true, h') := ⟨fun _ => A, (fun e => nomatch e)⟩

theorem rd_step {K : Cx} {h : Th} : RD K h (hStep K h) := by
  unfold hStep
  by_cases h1 : h.x.place = h.x.code.length
  · rw [if_pos h1]; exact RD.off (rc_close 1)
  rw [if_neg h1]
  by_cases h2 : (h.x.begun : Int) = K.c.f
  · rw [if_pos h2]; exact RD.off (rc_close 4)
  rw [if_neg h2]
  simp only
  generalize insAt h.x.code h.x.place = i at *
  by_cases h3 : formedB i h.x.code.length = false
  · rw [if_pos h3]; exact RD.off (rc_close (h := { h with x := { h.x with begun := h.x.begun + 1 } }) 3)
  rw [if_neg h3]
  by_cases o0 : i.op = 0
  · rw [if_pos o0]; exact RD.off (rc_close (h := { h with x := { h.x with begun := h.x.begun + 1, place := h.x.place + 1 } }) 1)
  rw [if_neg o0]
  by_cases o1 : i.op = 1
  · rw [if_pos o1]; exact RD.off (rc_close (h := { h with x := { h.x with begun := h.x.begun + 1, place := h.x.place + 1 } }) 2)
  rw [if_neg o1]
  by_cases o2 : i.op = 2
  · rw [if_pos o2]; exact RD.on rfl
  rw [if_neg o2]
  by_cases o3 : i.op = 3
  · rw [if_pos o3]; exact RD.on rfl
  rw [if_neg o3]
  by_cases o4 : i.op = 4
  · rw [if_pos o4]; exact RD.on rfl
  rw [if_neg o4]
  by_cases o5 : i.op = 5
  · rw [if_pos o5]; exact RD.on rfl
  rw [if_neg o5]
  by_cases o6 : i.op = 6
  · rw [if_pos o6]; exact RD.on rfl
  rw [if_neg o6]
  by_cases o7 : i.op = 7
  · rw [if_pos o7]
    unfold hRead
    simp only
    split
    · exact RD.off (rc_close (h := { h with x := { h.x with begun := h.x.begun + 1, place := h.x.place + 1 } }) 3)
    · cases he : entIdx h.x.writes (regOf { h.x with begun := h.x.begun + 1, place := h.x.place + 1 } i.b) with
      | some j => exact RD.on rfl
      | none =>
        simp only
        refine RD.off ?_
        split <;> exact ⟨rfl, trivial⟩
  · rw [if_neg o7]
    unfold hWrite
    simp only
    split
    · exact RD.off (rc_close (h := { h with x := { h.x with begun := h.x.begun + 1, place := h.x.place + 1 } }) 3)
    · split
      · exact RD.on rfl
      · exact RD.off ⟨rfl, trivial⟩

theorem rc_go {K : Cx} : ∀ {h : Th}, (h.x.begun : Int) ≤ K.c.f → RC K h.rank (hGo K h) := by
  have H : ∀ (n : Nat) (h : Th), n = K.c.f.toNat - h.x.begun → (h.x.begun : Int) ≤ K.c.f → RC K h.rank (hGo K h) := by
    intro n
    induction n with
    | zero =>
      intro h hnn hb
      rw [hGo_eq K h hb]
      by_cases hs : (hStep K h).1 = true
      · have := hStep_begun K h hs
        omega
      · rw [if_neg hs]
        exact rd_step.2 (by simpa using hs)
    | succ n ih =>
      intro h hnn hb
      rw [hGo_eq K h hb]
      by_cases hs : (hStep K h).1 = true
      · rw [if_pos hs]
        have hbg := hStep_begun K h hs
        have := ih (hStep K h).2 (by omega) (by omega)
        rw [rd_step.1 hs] at this
        exact this
      · rw [if_neg hs]
        exact rd_step.2 (by simpa using hs)
  exact fun {h} hb => H _ h rfl hb
theorem rc_got {K : Cx} {h : Th} {i : InsD} {a v : Int} (hb : (h.x.begun : Int) ≤ K.c.f) : RC K h.rank (hGot K i a v h) := rc_go (h := ({ h with x := setReg h.x i.a v } : Th).noted 7 a v) hb
theorem rc_wrote {K : Cx} {h : Th} {i : InsD} {a : Int} (hb : (h.x.begun : Int) ≤ K.c.f) : RC K h.rank (hWrote K i a h) := by
  unfold hWrote
  split
  · exact rc_go (h := hPut i a h) hb
  · rename_i hh
    exact ⟨rfl, by show h.rank = 0; exact Decidable.byContradiction fun e => hh (Or.inl e)⟩
theorem rc_exdone {K : Cx} {h : Th} {e : Ex} {c : Int} (hb : (h.x.begun : Int) ≤ K.c.f) : RC K h.rank (hExDone K e c h) := by
  cases e with
  | rd i a v => exact rc_got (h := { h with list := modLast h.list (fun t => { t with valid := c }), x := { h.x with valid := c } }) hb
  | wr i a => exact rc_wrote (h := { h with list := modLast h.list (fun t => { t with valid := c }), x := { h.x with valid := c } }) hb
theorem rc_exstill {K : Cx} {h : Th} {e : Ex} {c : Int} (hb : (h.x.begun : Int) ≤ K.c.f) (r : List EntD) : RC K h.rank (hExStill K e c r h) := by
  cases r with
  | nil => exact rc_exdone hb
  | cons q r => exact ⟨rfl, trivial⟩
theorem rc_shut {K : Cx} {h : Th} {c : Int} (r : List Int) : RC K h.rank (hShutAt c r h) := by cases r <;> exact ⟨rfl, trivial⟩
theorem rc_still {K : Cx} {h : Th} {c : Int} : ∀ (r : List EntD), RC K h.rank (hStillAt c r h)
  | [] => rc_shut _
  | e :: r => by
    unfold hStillAt
    split
    · exact rc_still r
    · exact ⟨rfl, trivial⟩
theorem rc_open {K : Cx} {h : Th} {c : Int} (r : List Int) : RC K h.rank (hOpenAt c r h) := by cases r <;> exact ⟨rfl, trivial⟩
theorem rc_word {K : Cx} {h : Th} {c : Int} (r : List EntD) : RC K h.rank (hWordAt c r h) := by
  cases r with
  | nil => exact rc_open _
  | cons q r => exact ⟨rfl, trivial⟩
theorem rc_rest {K : Cx} {h : Th} (d : Int) : RC K h.rank (hRest K d h) := by
  unfold hRest
  simp only
  generalize (d.tmod ((if h.fails < K.c.cp then h.fails else K.c.cp) + 1)).toNat = n
  split <;> exact ⟨rfl, trivial⟩

/-- The tickets, the statuses. -/
def Rankish (K : Cx) (x : Int) : Prop := x = 1 ∨ (3 + 2 * K.c.s ≤ x ∧ x < 3 + 2 * K.c.s + K.c.t)

inductive REff (K : Cx) (m m' : Int → Int) (h h' : Th) (q : AskD) : Prop
  | same (Q : q.kind ≠ 4) (M : ∀ x, Rankish K x → m' x = m x) (R : h'.rank = h.rank) (V : Vis h' = true → Vis h = true)
  | take (Q : q.kind = 4) (e : h.rank = 0 ∧ (m (hSta K K.me) / 8 = 0 ∨ m (hSta K K.me) / 8 = h.rank)) (M : m' = upd m 1 (m 1 + 1)) (R : h'.rank = m 1 + 1) (V : Vis h' = false)
  | shows (Q : q.kind ≠ 4) (M : m' = upd m (hSta K K.me) (8 * h.rank)) (R : h'.rank = h.rank)
  | zero (Q : q.kind ≠ 4) (M : m' = upd m (hSta K K.me) 0) (R : h'.rank = 0 ∨ (h'.rank = h.rank ∧ Vis h' = false))
  | mark (Q : q.kind ≠ 4) (u th : Int) (b : 0 ≤ u ∧ u < K.c.t ∧ u ≠ K.me) (e : m (hSta K u) = th ∧ 0 ≤ th ∧ th % 8 = 0) (M : m' = upd m (hSta K u) (th + K.me + 1)) (R : h'.rank = h.rank) (V : Vis h' = true → Vis h = true)

theorem reff_step {K : Cx} {k : Int} {h : Th} (hc : cfgB K.c = true) (hm : 0 ≤ K.me ∧ K.me < K.c.t) (A : ThOk K k h) (L : Loc2 K h) (m : Int → Int) (v : AnsD) (hv : (hOut K h).kind ≠ 0 → v.seen = m (hOut K h).cell) (hvk : (hOut K h).kind ≠ 0 → VOk K.c k (hOut K h).cell v.seen)
    (hno : ∀ i a, h.st = .gOwn i a → m (hOwn K (a.tmod K.c.s)) ≠ K.me + 1) (hsh : h.rank = 0 → m (hSta K K.me) / 8 = 0 ∨ m (hSta K K.me) / 8 = h.rank) :
    Loc2 K (hNext K h v) ∧ REff K m (mNext m (hOut K h)) h (hNext K h v) (hOut K h) := by
  obtain ⟨⟨t1, t2⟩, ⟨w1, w2⟩, ⟨s1, s2⟩, _, _, _, ⟨f1, f2⟩⟩ := cfgB_true hc
  have hb := A.x.bg
  have hs := A.step
  unfold StepOk at hs
  unfold hOut at hv hvk ⊢
  unfold hNext
  unfold Loc2 at L
  have st : ∀ {i : InsD} {a : Int}, AOk K i a → 0 ≤ a.tmod K.c.s ∧ a.tmod K.c.s < K.c.s := fun ha => tmodP s1 ha.1
  have off : ∀ (q : AskD), ¬ Rankish K q.cell → ∀ y, Rankish K y → mNext m q y = m y := fun q hq y hy => mNext_off m q (fun e => hq (by rw [← e]; exact hy))
  have ld : ∀ x : Int, ∀ y, Rankish K y → mNext m ⟨1, x, 0, 0⟩ y = m y := fun x y _ => by rw [mNext_load]
  have nv : ∀ s, 0 ≤ s → s < K.c.s → ¬ Rankish K (hVer s) := fun s a b => by unfold Rankish hVer; omega
  have no : ∀ s, 0 ≤ s → s < K.c.s → ¬ Rankish K (hOwn K s) := fun s a b => by unfold Rankish hOwn; omega
  have nw : ∀ a, 0 ≤ a → ¬ Rankish K (hWrd K a) := fun s a => by unfold Rankish hWrd; omega
  have n2 : ¬ Rankish K 2 := by unfold Rankish; omega
  have n0 : ¬ Rankish K 0 := by unfold Rankish; omega
  have rc : ∀ {m' : Int → Int} {h' : Th} {q : AskD}, q.kind ≠ 4 → RC K h.rank h' → (∀ x, Rankish K x → m' x = m x) → Vis h = true → Loc2 K h' ∧ REff K m m' h h' q := fun Q C M V => ⟨C.loc, REff.same Q M C.rank (fun _ => V)⟩
  have tk : ∀ h' : Th, mNext m ⟨4, 1, 0, 0⟩ = upd m 1 (m 1 + 1) := fun h' => by
    unfold mNext
    rw [if_neg (by simp)]
    funext y
    unfold wr upd putV
    simp
  cases hst : h.st with
  | idle => exact ⟨by unfold Loc2; rw [hst]; trivial, .same (by simp) (fun x _ => by rw [mNext_none]) rfl (fun a => a)⟩
  | start => exact rc (by simp) (rc_go (h := { h with list := h.list ++ [⟨K.me, h.job, v.num, 0, v.seen, 0, 0, []⟩], x := newTS (K.jobs.getD h.job (0, [])).2 v.seen, st := .start }) (by show ((0 : Nat) : Int) ≤ _; omega)) (ld 0) (by simp [Vis, hst])
  | rHeld i a => exact rc (by simp) (rc_got hb) (ld _) (by simp [Vis, hst])
  | rVer i a =>
    simp only
    split
    · exact rc (by simp) ⟨rfl, by unfold Loc2; rw [hst]; trivial⟩ (ld _) (by simp [Vis, hst])
    · exact rc (by simp) ⟨rfl, trivial⟩ (ld _) (by simp [Vis, hst])
  | rWord i a one => exact rc (by simp) ⟨rfl, trivial⟩ (ld _) (by simp [Vis, hst])
  | rAgain i a one w =>
    simp only
    split
    · exact rc (by simp) ⟨rfl, trivial⟩ (ld _) (by simp [Vis, hst])
    · have e4 : (if (entIdx h.x.reads (a.tmod K.c.s)).isSome then h.x else { h.x with reads := h.x.reads ++ [⟨a.tmod K.c.s, one⟩] }).begun = h.x.begun := by split <;> rfl
      generalize (if (entIdx h.x.reads (a.tmod K.c.s)).isSome then h.x else { h.x with reads := h.x.reads ++ [⟨a.tmod K.c.s, one⟩] }) = x1 at *
      split
      · exact rc (by simp) (rc_got (h := { h with x := x1, st := .rAgain i a one w }) (by rw [e4]; exact hb)) (ld _) (by simp [Vis, hst])
      · exact rc (by simp) ⟨rfl, trivial⟩ (ld _) (by simp [Vis, hst])
  | xClock e => exact rc (by simp) (rc_exstill hb _) (ld _) (by simp [Vis, hst])
  | xVer e c r =>
    rw [hst] at hs
    cases r with
    | nil => exact absurd rfl hs.2.2.1
    | cons q r =>
      simp only
      split
      · exact rc (by simp) rc_fail (ld _) (by simp [Vis, hst])
      · exact rc (by simp) (rc_exstill hb _) (ld _) (by simp [Vis, hst])
  | gStat i a =>
    simp only
    split
    · exact rc (by simp) rc_fail (ld _) (by simp [Vis, hst])
    · exact rc (by simp) ⟨rfl, trivial⟩ (ld _) (by simp [Vis, hst])
  | gOwn i a =>
    rw [hst] at hs hv
    have b := st hs.1
    have hv' := hv (by simp)
    simp only at hv' ⊢
    split
    · exact rc (by simp) ⟨rfl, trivial⟩ (off _ (no _ b.1 b.2)) (by simp [Vis, hst])
    · split
      · exact rc (by simp) rc_fail (off _ (no _ b.1 b.2)) (by simp [Vis, hst])
      · rename_i hr
        refine rc (by simp) ⟨rfl, ⟨hr, ?_⟩⟩ (off _ (no _ b.1 b.2)) (by simp [Vis, hst])
        rw [hv']
        exact hno i a hst
  | gTheir i a u =>
    rw [hst] at L hs hvk
    have hu := (hvk (by simp)).sta (by show _ ≤ hSta K _; unfold hSta; have := hs.2.1; omega) (by show hSta K _ < _; unfold hSta; have := hs.2.2; omega)
    have hq := sok_mod hu
    simp only
    split
    · exact rc (by simp) (rc_fail (h := { h with x := { h.x with way := u - 1 }, st := .gTheir i a u })) (ld _) (by simp [Vis, hst])
    · rename_i hn
      rw [hq.2] at hn
      split
      · exact rc (by simp) ⟨rfl, ⟨L, by have h1 := hu.1; show v.seen / 8 = 0 ∨ h.rank ≤ v.seen / 8; omega⟩⟩ (ld _) (by simp [Vis, hst])
      · exact rc (by simp) ⟨rfl, trivial⟩ (ld _) (by simp [Vis, hst])
  | gMark i a u th =>
    rw [hst] at L hs hv
    obtain ⟨_, ⟨u0, u1⟩, ⟨q0, q1, q2⟩, q3⟩ := hs
    have hv' := hv (by simp)
    simp only at hv' ⊢
    refine ⟨trivial, ?_⟩
    by_cases he : m (hSta K (u - 1)) = th
    · exact .mark (by simp) (u - 1) th ⟨by omega, by omega, by have := L.1.2; omega⟩ ⟨he, q0, q3⟩ (mNext_swap m _ _ _ he) rfl (fun _ => by simp [Vis, hst])
    · exact .same (by simp) (fun x _ => by rw [mNext_miss m _ _ _ he]) rfl (fun _ => by simp [Vis, hst])
  | gVer i a =>
    simp only
    split
    · exact rc (by simp) ⟨rfl, trivial⟩ (ld _) (by simp [Vis, hst])
    · exact rc (by simp) (rc_wrote hb) (ld _) (by simp [Vis, hst])
  | tTake =>
    rw [hst] at L hv hvk
    have hv' := hv (by simp)
    have := (hvk (by simp)).cnt (Or.inr rfl)
    simp only at hv' ⊢
    exact ⟨by show v.seen + 1 ≠ 0; omega, .take (by simp) ⟨L, hsh L⟩ (tk h) (by show v.seen + 1 = _; rw [hv']) rfl⟩
  | tShow =>
    rw [hst] at L hv
    have hv' := hv (by simp)
    simp only at hv' ⊢
    by_cases h0 : v.seen ≠ 0
    · rw [if_pos h0]
      have C := rc_fail (K := K) (h := h)
      exact ⟨C.loc, .same (by simp) (fun x _ => by rw [mNext_miss m _ _ _ (by rw [← hv']; exact h0)]) C.rank (fun a => by rw [vis_fail] at a; cases a)⟩
    · rw [if_neg h0]
      have C := rc_go (K := K) (h := h) hb
      exact ⟨C.loc, .shows (by simp) (mNext_swap m _ _ _ (by rw [← hv']; omega)) C.rank⟩
  | cStat =>
    simp only
    split
    · exact rc (by simp) rc_fail (ld _) (by simp [Vis, hst])
    · exact rc (by simp) ⟨rfl, trivial⟩ (ld _) (by simp [Vis, hst])
  | cGate =>
    simp only
    refine rc (by simp) ⟨rfl, ?_⟩ (off _ n2) (by simp [Vis, hst])
    by_cases h0 : v.seen = 0
    · rw [if_pos h0]; trivial
    · rw [if_neg h0]; trivial
  | cClock =>
    simp only
    split
    · exact rc (by simp) (rc_still _) (ld _) (by simp [Vis, hst])
    · exact rc (by simp) (rc_shut _) (ld _) (by simp [Vis, hst])
  | cVer c r =>
    rw [hst] at hs
    cases r with
    | nil => exact absurd rfl hs.2.1
    | cons q r =>
      simp only
      split
      · exact rc (by simp) rc_fail (ld _) (by simp [Vis, hst])
      · exact rc (by simp) (rc_still _) (ld _) (by simp [Vis, hst])
  | cShut c r =>
    rw [hst] at hs
    cases r with
    | nil => exact absurd rfl hs.2.1
    | cons q r =>
      have b := hs.2.2 q List.mem_cons_self
      exact rc (by simp) (rc_shut _) (off _ (nv _ b.1 b.2)) (by simp [Vis, hst])
  | cStamp c => exact rc (by simp) ⟨rfl, trivial⟩ (off _ n0) (by simp [Vis, hst])
  | cLeave c => exact rc (by simp) (rc_word _) (off _ n2) (by simp [Vis, hst])
  | cWord c r =>
    rw [hst] at hs
    cases r with
    | nil => exact absurd rfl hs.2.1
    | cons q r => exact rc (by simp) (rc_word _) (off _ (nw _ (hs.2.2 q List.mem_cons_self).1)) (by simp [Vis, hst])
  | cOpen c r =>
    rw [hst] at hs
    cases r with
    | nil => exact absurd rfl hs.2.1
    | cons q r =>
      have b := hs.2.2 q List.mem_cons_self
      exact rc (by simp) ⟨rfl, trivial⟩ (off _ (nv _ b.1 b.2)) (by simp [Vis, hst])
  | cOwn c r =>
    rw [hst] at hs
    cases r with
    | nil => exact absurd rfl hs.2.1
    | cons q r =>
      have b := hs.2.2 q List.mem_cons_self
      exact rc (by simp) (rc_open _) (off _ (no _ b.1 b.2)) (by simp [Vis, hst])
  | free e r =>
    rw [hst] at hs
    cases r with
    | nil => exact absurd rfl hs.1
    | cons q r =>
      have b := hs.2 q List.mem_cons_self
      exact rc (by simp) (rc_free e _) (off _ (no _ b.1 b.2)) (by simp [Vis, hst])
  | fin e =>
    simp only
    have hto : ∀ g : Th, g.rank = h.rank → Loc2 K (hTo K (h.job + 1) g) ∧ ((hTo K (h.job + 1) g).rank = 0 ∨ ((hTo K (h.job + 1) g).rank = h.rank ∧ Vis (hTo K (h.job + 1) g) = false)) := fun g hg => by
      unfold hTo
      split
      · exact ⟨trivial, Or.inl rfl⟩
      · exact ⟨trivial, Or.inr ⟨hg, rfl⟩⟩
    have hz := hto { h.ended v.num e with ends := h.ends.set h.job ⟨e, regOf h.x 0, regOf h.x 1, regOf h.x 2, regOf h.x 3⟩ } rfl
    exact ⟨hz.1, .zero (by simp) (mNext_store m _ _) hz.2⟩
  | fGate =>
    have C := rc_failown (K := K) (h := h) h.x.held
    exact ⟨C.loc, .same (by simp) (off _ n2) C.rank (fun a => by rw [vis_failown] at a; cases a)⟩
  | fOwn r =>
    rw [hst] at hs
    cases r with
    | nil => exact absurd rfl hs.1
    | cons q r =>
      have b := hs.2 q List.mem_cons_self
      have C := rc_failown (K := K) (h := h) r
      exact ⟨C.loc, .same (by simp) (off _ (no _ b.1 b.2)) C.rank (fun a => by rw [vis_failown] at a; cases a)⟩
  | fTake =>
    rw [hst] at L hv
    have hv' := hv (by simp)
    simp only at hv' ⊢
    exact ⟨trivial, .take (by simp) ⟨L, hsh L⟩ (tk h) (by show v.seen + 1 = _; rw [hv']) rfl⟩
  | fStat =>
    simp only
    generalize (if 0 < v.seen.tmod 8 then v.seen.tmod 8 - 1 else h.x.way) = win
    split
    · exact ⟨trivial, .shows (by simp) (mNext_store m _ _) rfl⟩
    · have C := rc_rest (K := K) (h := h.ended v.num 5) v.draw
      exact ⟨C.loc, .shows (by simp) (mNext_store m _ _) C.rank⟩
  | wait win =>
    simp only
    split
    · exact rc (by simp) ⟨rfl, trivial⟩ (ld _) (by simp [Vis, hst])
    · exact rc (by simp) ⟨rfl, by unfold Loc2; rw [hst]; trivial⟩ (ld _) (by simp [Vis, hst])
  | rest n =>
    simp only
    split
    · exact rc (by simp) ⟨rfl, trivial⟩ (fun x _ => by rw [mNext_none]) (by simp [Vis, hst])
    · exact rc (by simp) ⟨rfl, trivial⟩ (fun x _ => by rw [mNext_none]) (by simp [Vis, hst])

end Go.Proofs.Ytejadojilncbjab
