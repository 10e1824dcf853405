import Derived.Test.YtejadojilncbjaaGreatG10
namespace Go.Proofs.YtejadojilncbjaaGreat
set_option linter.unusedVariables false

/-! Locks: which stripes a machine holds, whether it is in the gate, which stripes it has shut: and that the cells say so. -/

def Holds (h : Th) (s : Int) : Prop := match h.st with
  | .idle => False
  | .start => False
  | .fin _ => False
  | .fTake => False
  | .fStat => False
  | .wait _ => False
  | .rest _ => False
  | .cOpen _ r => s ∈ r
  | .cOwn _ r => s ∈ r
  | .free _ r => s ∈ r
  | .fOwn r => s ∈ r
  | _ => s ∈ h.x.held

def hGate (h : Th) : Bool := match h.st with
  | .cClock => true
  | .cVer _ _ => true
  | .cShut _ _ => true
  | .cStamp _ => true
  | .cLeave _ => true
  | .fGate => true
  | _ => false

def Shuts (h : Th) (s : Int) : Prop := match h.st with
  | .cShut _ r => s ∈ h.x.held ∧ s ∉ r
  | .cStamp _ => s ∈ h.x.held
  | .cLeave _ => s ∈ h.x.held
  | .cWord _ _ => s ∈ h.x.held
  | .cOpen _ r => s ∈ r
  | .cOwn _ r => s ∈ r.tail
  | _ => False

/-- What the clock was seen to be, as long as it cannot go on. -/
def hClk (h : Th) : Option Int := match h.st with
  | .cVer c _ => some c
  | .cShut c _ => some c
  | .cStamp c => some c
  | _ => none

/-- The stamp that it drew. -/
def hStmp (h : Th) : Option Int := match h.st with
  | .cLeave c => some (c + 1)
  | .cWord c _ => some (c + 1)
  | .cOpen c _ => some (c + 1)
  | .cOwn c _ => some (c + 1)
  | _ => none

def Wh (K : Cx) (h : Th) : Prop := ∀ e ∈ h.x.writes, e.what.tmod K.c.s ∈ h.x.held
def exHeld (K : Cx) (h : Th) : Ex → Prop
  | .rd _ _ _ => True
  | .wr _ a => a.tmod K.c.s ∈ h.x.held

/-- What is true of a machine by itself. -/
def Loc (K : Cx) (h : Th) : Prop := match h.st with
  | .idle => True
  | .start => True
  | .rHeld _ _ => Wh K h ∧ h.x.inGate = false
  | .rVer _ _ => Wh K h ∧ h.x.inGate = false
  | .rWord _ _ _ => Wh K h ∧ h.x.inGate = false
  | .rAgain _ _ _ _ => Wh K h ∧ h.x.inGate = false
  | .xClock k => (Wh K h ∧ h.x.inGate = false) ∧ exHeld K h k
  | .xVer k _ _ => (Wh K h ∧ h.x.inGate = false) ∧ exHeld K h k
  | .gStat _ _ => Wh K h ∧ h.x.inGate = false
  | .gOwn _ _ => Wh K h ∧ h.x.inGate = false
  | .gTheir _ _ _ => Wh K h ∧ h.x.inGate = false
  | .gMark _ _ _ _ => Wh K h ∧ h.x.inGate = false
  | .gVer _ a => (Wh K h ∧ h.x.inGate = false) ∧ a.tmod K.c.s ∈ h.x.held
  | .tTake => Wh K h ∧ h.x.inGate = false
  | .tShow => Wh K h ∧ h.x.inGate = false
  | .cStat => Wh K h ∧ h.x.inGate = false
  | .cGate => Wh K h ∧ h.x.inGate = false
  | .cClock => Wh K h ∧ h.x.inGate = true
  | .cVer _ _ => Wh K h ∧ h.x.inGate = true
  | .cShut _ r => Wh K h ∧ r.Nodup ∧ ∀ s ∈ r, s ∈ h.x.held
  | .cStamp _ => Wh K h
  | .cLeave _ => Wh K h
  | .cWord _ r => ∀ e ∈ r, e.what.tmod K.c.s ∈ h.x.held
  | .cOpen _ r => r.Nodup
  | .cOwn _ r => r.Nodup
  | .free _ r => r.Nodup
  | .fin _ => True
  | .fGate => True
  | .fOwn r => r.Nodup
  | .fTake => True
  | .fStat => True
  | .wait _ => True
  | .rest _ => True

/-- What follows without an access leaves the locks. -/
structure Cont (K : Cx) (held : List Int) (gate : Bool) (h' : Th) : Prop where
  holds : ∀ s, Holds h' s ↔ s ∈ held
  gate : hGate h' = gate
  shuts : ∀ s, ¬ Shuts h' s
  clk : hClk h' = none
  stmp : hStmp h' = none
  loc : Loc K h'

theorem cont_free {K : Cx} {h : Th} (hn : h.x.held.Nodup) (e : Int) : Cont K h.x.held false (hFreeAt e h.x.held h) := by
  cases hh : h.x.held with
  | nil => exact ⟨fun s => by simp [hFreeAt, Holds], rfl, fun s => by simp [hFreeAt, Shuts], rfl, rfl, trivial⟩
  | cons q r =>
    refine ⟨fun s => by simp [hFreeAt, Holds], rfl, fun s => by simp [hFreeAt, Shuts], rfl, rfl, ?_⟩
    show (q :: r).Nodup
    rw [← hh]; exact hn
theorem cont_close {K : Cx} {h : Th} (hn : h.x.held.Nodup) (hw : Wh K h) (hg : h.x.inGate = false) (e : Int) : Cont K h.x.held false (hClose e h) := by
  unfold hClose
  split
  · exact ⟨fun s => Iff.rfl, rfl, fun s => by simp [Shuts], rfl, rfl, hw, hg⟩
  · exact cont_free hn e
theorem cont_count {K : Cx} {h : Th} : Cont K [] false (hCount K h) := by
  unfold hCount
  split
  · exact ⟨fun s => by simp [Holds], rfl, fun s => by simp [Shuts], rfl, rfl, trivial⟩
  · exact ⟨fun s => by simp [Holds], rfl, fun s => by simp [Shuts], rfl, rfl, trivial⟩
theorem cont_failown {K : Cx} {h : Th} {r : List Int} (hn : r.Nodup) : Cont K r false (hFailOwn K r h) := by
  cases r with
  | nil => exact cont_count
  | cons q r => exact ⟨fun s => by simp [hFailOwn, Holds], rfl, fun s => by simp [hFailOwn, Shuts], rfl, rfl, hn⟩
theorem cont_fail {K : Cx} {h : Th} (hn : h.x.held.Nodup) : Cont K h.x.held h.x.inGate (hFail K h) := by
  unfold hFail
  by_cases hg : h.x.inGate = true
  · rw [if_pos hg, hg]
    exact ⟨fun s => Iff.rfl, rfl, fun s => by simp [Shuts], rfl, rfl, trivial⟩
  · rw [if_neg hg, show h.x.inGate = false from by simpa using hg]
    exact cont_failown hn

/-- What one instruction leaves. -/
structure Kept (K : Cx) (h h' : Th) : Prop where
  held : h'.x.held = h.x.held
  gate : h'.x.inGate = h.x.inGate
  wh : Wh K h'

theorem put_mem {l : List EntD} {a v : Int} {e : EntD} (h : e ∈ putEnt l a v) : e ∈ l ∨ e.what = a := by
  unfold putEnt at h
  split at h
  · rcases List.mem_or_eq_of_mem_set h with h3 | h3
    · exact Or.inl h3
    · exact Or.inr (by rw [h3])
  · rcases List.mem_append.1 h with h3 | h3
    · exact Or.inl h3
    · exact Or.inr (by rw [List.mem_singleton.1 h3])

theorem kept_put {K : Cx} {h : Th} {i : InsD} {a : Int} (hw : Wh K h) (ha : a.tmod K.c.s ∈ h.x.held) : Kept K h (hPut i a h) := by
  refine ⟨rfl, rfl, fun e he => ?_⟩
  rcases put_mem (show e ∈ putEnt h.x.writes a _ from he) with h1 | h1
  · exact hw e h1
  · rw [h1]; exact ha

theorem held_true {x : TS} {s : Int} (h : heldB x s = true) : s ∈ x.held := by
  unfold heldB at h
  rw [List.any_eq_true] at h
  obtain ⟨q, hq, e⟩ := h
  have : q = s := by simpa using e
  rw [← this]; exact hq

/-- One instruction: either the code goes on, or an access is due. -/
def Did1 (K : Cx) (h : Th) (t : Bool × Th) : Prop := (t.1 = true → Kept K h t.2) ∧ (t.1 = false → Cont K h.x.held false t.2)
theorem Did1.off {K : Cx} {h h' : Th} (A : Cont K h.x.held false h') : Did1 K h (false, h') := ⟨(fun e => nomatch e), fun _ => A⟩
theorem Did1.on {K : Cx} {h h' : Th} (A : Kept K h h') : Did1 K h (true, h') := ⟨fun _ => A, (fun e => nomatch e)⟩

theorem Did1.of {K : Cx} {h h1 : Th} {t : Bool × Th} (e1 : h1.x.held = h.x.held) (e2 : h1.x.inGate = h.x.inGate) (D : Did1 K h1 t) : Did1 K h t :=
  ⟨fun b => ⟨(D.1 b).held.trans e1, (D.1 b).gate.trans e2, (D.1 b).wh⟩, fun b => by rw [← e1]; exact D.2 b⟩

theorem did_read {K : Cx} {h : Th} {i : InsD} (hn : h.x.held.Nodup) (hw : Wh K h) (hg : h.x.inGate = false) : Did1 K h (hRead K i h) := by
  unfold hRead
  simp only
  split
  · exact Did1.off (cont_close hn hw hg 3)
  · cases he : entIdx h.x.writes (regOf h.x i.b) with
    | some j => exact Did1.on ⟨rfl, rfl, hw⟩
    | none =>
      simp only
      refine Did1.off ?_
      split
      · exact ⟨fun s => Iff.rfl, rfl, fun s => by simp [Shuts], rfl, rfl, hw, hg⟩
      · exact ⟨fun s => Iff.rfl, rfl, fun s => by simp [Shuts], rfl, rfl, hw, hg⟩
theorem did_write {K : Cx} {h : Th} {i : InsD} (hn : h.x.held.Nodup) (hw : Wh K h) (hg : h.x.inGate = false) : Did1 K h (hWrite K i h) := by
  unfold hWrite
  simp only
  split
  · exact Did1.off (cont_close hn hw hg 3)
  · split
    · rename_i hh
      exact Did1.on (kept_put hw (held_true hh))
    · exact Did1.off ⟨fun s => Iff.rfl, rfl, fun s => by simp [Shuts], rfl, rfl, hw, hg⟩

theorem did_step {K : Cx} {h : Th} (hn : h.x.held.Nodup) (hw : Wh K h) (hg : h.x.inGate = false) : Did1 K h (hStep K h) := by
  unfold hStep
  by_cases h1 : h.x.place = h.x.code.length
  · rw [if_pos h1]; exact Did1.off (cont_close hn hw hg 1)
  rw [if_neg h1]
  by_cases h2 : (h.x.begun : Int) = K.c.f
  · rw [if_pos h2]; exact Did1.off (cont_close hn hw hg 4)
  rw [if_neg h2]
  simp only
  generalize insAt h.x.code h.x.place = i at *
  by_cases h3 : formedB i h.x.code.length = false
  · rw [if_pos h3]; exact Did1.off (cont_close (h := { h with x := { h.x with begun := h.x.begun + 1 } }) hn hw hg 3)
  rw [if_neg h3]
  by_cases o0 : i.op = 0
  · rw [if_pos o0]; exact Did1.off (cont_close (h := { h with x := { h.x with begun := h.x.begun + 1, place := h.x.place + 1 } }) hn hw hg 1)
  rw [if_neg o0]
  by_cases o1 : i.op = 1
  · rw [if_pos o1]; exact Did1.off (cont_close (h := { h with x := { h.x with begun := h.x.begun + 1, place := h.x.place + 1 } }) hn hw hg 2)
  rw [if_neg o1]
  by_cases o2 : i.op = 2
  · rw [if_pos o2]; exact Did1.on ⟨rfl, rfl, hw⟩
  rw [if_neg o2]
  by_cases o3 : i.op = 3
  · rw [if_pos o3]; exact Did1.on ⟨rfl, rfl, hw⟩
  rw [if_neg o3]
  by_cases o4 : i.op = 4
  · rw [if_pos o4]; exact Did1.on ⟨rfl, rfl, hw⟩
  rw [if_neg o4]
  by_cases o5 : i.op = 5
  · rw [if_pos o5]; exact Did1.on ⟨rfl, rfl, hw⟩
  rw [if_neg o5]
  by_cases o6 : i.op = 6
  · rw [if_pos o6]
    split
    · exact Did1.on ⟨rfl, rfl, hw⟩
    · exact Did1.on ⟨rfl, rfl, hw⟩
  rw [if_neg o6]
  by_cases o7 : i.op = 7
  · rw [if_pos o7]; exact Did1.of (h1 := { h with x := { h.x with begun := h.x.begun + 1, place := h.x.place + 1 } }) rfl rfl (did_read hn hw hg)
  · rw [if_neg o7]; exact Did1.of (h1 := { h with x := { h.x with begun := h.x.begun + 1, place := h.x.place + 1 } }) rfl rfl (did_write hn hw hg)

theorem cont_go {K : Cx} : ∀ {h : Th}, (h.x.begun : Int) ≤ K.c.f → h.x.held.Nodup → Wh K h → h.x.inGate = false → Cont K h.x.held false (hGo K h) := by
  have H : ∀ (n : Nat) (h : Th), n = K.c.f.toNat - h.x.begun → (h.x.begun : Int) ≤ K.c.f → h.x.held.Nodup → Wh K h → h.x.inGate = false → Cont K h.x.held false (hGo K h) := by
    intro n
    induction n with
    | zero =>
      intro h hnn hb hn hw hg
      rw [hGo_eq K h hb]
      by_cases hs : (hStep K h).1 = true
      · have := hStep_begun K h hs
        omega
      · rw [if_neg hs]
        exact (did_step hn hw hg).2 (by simpa using hs)
    | succ n ih =>
      intro h hnn hb hn hw hg
      rw [hGo_eq K h hb]
      by_cases hs : (hStep K h).1 = true
      · rw [if_pos hs]
        have hbg := hStep_begun K h hs
        have k := (did_step hn hw hg).1 hs
        have := ih _ (by omega) (by omega) (by rw [k.held]; exact hn) k.wh (k.gate.trans hg)
        rw [k.held] at this
        exact this
      · rw [if_neg hs]
        exact (did_step hn hw hg).2 (by simpa using hs)
  exact fun {h} hb hn hw hg => H _ h rfl hb hn hw hg

theorem cont_got {K : Cx} {h : Th} {i : InsD} {a v : Int} (hb : (h.x.begun : Int) ≤ K.c.f) (hn : h.x.held.Nodup) (hw : Wh K h) (hg : h.x.inGate = false) : Cont K h.x.held false (hGot K i a v h) :=
  cont_go (h := ({ h with x := setReg h.x i.a v } : Th).noted 7 a v) hb hn hw hg
theorem cont_wrote {K : Cx} {h : Th} {i : InsD} {a : Int} (hb : (h.x.begun : Int) ≤ K.c.f) (hn : h.x.held.Nodup) (hw : Wh K h) (hg : h.x.inGate = false) (ha : a.tmod K.c.s ∈ h.x.held) : Cont K h.x.held false (hWrote K i a h) := by
  have k := kept_put (i := i) hw ha
  unfold hWrote
  split
  · exact cont_go (h := hPut i a h) hb hn k.wh hg
  · exact ⟨fun s => Iff.rfl, rfl, fun s => by simp [Shuts], rfl, rfl, k.wh, hg⟩
theorem cont_exdone {K : Cx} {h : Th} {e : Ex} {c : Int} (hb : (h.x.begun : Int) ≤ K.c.f) (hn : h.x.held.Nodup) (hw : Wh K h) (hg : h.x.inGate = false) (he : exHeld K h e) : Cont K h.x.held false (hExDone K e c h) := by
  cases e with
  | rd i a v => exact cont_got (h := { h with list := modLast h.list (fun t => { t with valid := c }), x := { h.x with valid := c } }) hb hn hw hg
  | wr i a => exact cont_wrote (h := { h with list := modLast h.list (fun t => { t with valid := c }), x := { h.x with valid := c } }) hb hn hw hg he
theorem cont_exstill {K : Cx} {h : Th} {e : Ex} {c : Int} (hb : (h.x.begun : Int) ≤ K.c.f) (hn : h.x.held.Nodup) (hw : Wh K h) (hg : h.x.inGate = false) (he : exHeld K h e) (r : List EntD) : Cont K h.x.held false (hExStill K e c r h) := by
  cases r with
  | nil => exact cont_exdone hb hn hw hg he
  | cons q r => exact ⟨fun s => Iff.rfl, rfl, fun s => by simp [hExStill, Shuts], rfl, rfl, ⟨hw, hg⟩, he⟩

end Go.Proofs.YtejadojilncbjaaGreat
