import Derived.Test.YtejadojilncbjabGreatD01
namespace Go.Proofs.YtejadojilncbjabGreat
set_option linter.unusedVariables false
abbrev Tr := List (AskD × Int)
def nilAsk : AskD × Int := (⟨0, 0, 0, 0⟩, 0)
def Agrees (E : Env) (p : Nat) (T : Tr) : Prop := ∀ i, i < T.length → p + i < E.seen.length → E.seen.getD (p + i) 0 = (T.getD i nilAsk).2
theorem getD_left {α : Type} {T U : List α} {d : α} {i : Nat} (h : i < T.length) : (T ++ U).getD i d = T.getD i d := by simp [List.getD, List.getElem?_append_left h]
theorem getD_right {α : Type} {T U : List α} {d : α} {i : Nat} (h : T.length ≤ i) : (T ++ U).getD i d = U.getD (i - T.length) d := by simp [List.getD, List.getElem?_append_right h]
theorem Agrees.left {E : Env} {p : Nat} {T U : Tr} (h : Agrees E p (T ++ U)) : Agrees E p T := fun i hi hl => by
 have := h i (by simp; omega) hl
 rwa [getD_left hi] at this
theorem Agrees.right {E : Env} {p : Nat} {T U : Tr} (h : Agrees E p (T ++ U)) : Agrees E (p + T.length) U := fun i hi hl => by
 have := h (T.length + i) (by simp; omega) (by omega)
 rw [getD_right (by omega), show T.length + i - T.length = i from by omega, ← Nat.add_assoc] at this
 exact this
structure Fed (E : Env) (s s' : LS) (T : Tr) : Prop where
 ends : s'.ends = s.ends
 live : s.pos + T.length ≤ E.seen.length → s'.over = false ∧ s'.pos = s.pos + T.length
 dead : E.seen.length < s.pos + T.length → s'.over = true ∧ s'.next = (T.getD (E.seen.length - s.pos) nilAsk).1
structure Stay (s s' : LS) : Prop where
 ends : s'.ends = s.ends
 over : s.over = true → s'.over = true ∧ s'.next = s.next
theorem Stay.refl (s : LS) : Stay s s := ⟨rfl, fun h => ⟨h, rfl⟩⟩
theorem Stay.trans {a b c : LS} (h : Stay a b) (k : Stay b c) : Stay a c := ⟨k.ends.trans h.ends, fun o => ⟨(k.over (h.over o).1).1, (k.over (h.over o).1).2.trans (h.over o).2⟩⟩
theorem mAsk_dead' {E : Env} {s : LS} (h : s.over = true) (q : AskD) : mAsk E s q = (0, s) := by simp [mAsk, h]
theorem Stay.ask (E : Env) (s : LS) (q : AskD) : Stay s (mAsk E s q).2 := by
 refine ⟨by unfold mAsk; split; rfl; split <;> rfl, fun h => by rw [mAsk_dead' h]; exact ⟨h, rfl⟩⟩
theorem Fed.nil {E : Env} {s : LS} (ho : s.over = false) (hp : s.pos ≤ E.seen.length) : Fed E s s [] := ⟨rfl, fun _ => ⟨ho, rfl⟩, fun h => by simp at h; omega⟩
theorem Fed.ask {E : Env} {s : LS} (q : AskD) (v : Int) (ho : s.over = false) (hp : s.pos ≤ E.seen.length) : Fed E s (mAsk E s q).2 [(q, v)] := by
 refine ⟨(Stay.ask E s q).ends, fun h => ?_, fun h => ?_⟩
 ·simp at h
  simp [mAsk, ho, show ¬ E.seen.length ≤ s.pos from by omega]
 ·simp at h
  have e : E.seen.length - s.pos = 0 := by omega
  simp [mAsk, ho, show E.seen.length ≤ s.pos from by omega, e]
theorem Fed.trans {E : Env} {s s1 s2 : LS} {T U : Tr} (hp : s.pos ≤ E.seen.length) (h : Fed E s s1 T) (k : s1.over = false → s1.pos = s.pos + T.length → s1.pos ≤ E.seen.length → Fed E s1 s2 U) (d : Stay s1 s2) : Fed E s s2 (T ++ U) := by
 refine ⟨d.ends.trans h.ends, fun hl => ?_, fun hl => ?_⟩
 ·simp at hl
  obtain ⟨a, b⟩ := h.live (by omega)
  obtain ⟨a2, b2⟩ := (k a b (by omega)).live (by omega)
  exact ⟨a2, by simp; omega⟩
 ·simp at hl
  by_cases h1 : E.seen.length < s.pos + T.length
  ·obtain ⟨a, b⟩ := h.dead h1
   obtain ⟨a2, b2⟩ := d.over a
   refine ⟨a2, b2.trans (b.trans ?_)⟩
   rw [getD_left (by omega)]
  ·obtain ⟨a, b⟩ := h.live (by omega)
   obtain ⟨a2, b2⟩ := (k a b (by omega)).dead (by omega)
   refine ⟨a2, b2.trans ?_⟩
   rw [getD_right (by omega), b, Nat.sub_add_eq]
structure Did (E : Env) (s : LS) (T : Tr) (e r : Int) (x' : TS) (out : Int × LS × TS) : Prop where
 fed : Fed E s out.2.1 T
 live : s.pos + T.length ≤ E.seen.length → out.1 = e ∧ out.2.2 = x' ∧ out.2.1.rank = r
 dead : E.seen.length < s.pos + T.length → out.1 = -1
def kStat (c : Cfg) : Int := 3 + 2 * c.s + 0
def kWord (c : Cfg) (a : Int) : Int := 3 + 2 * c.s + c.t + a
def ld (cell : Int) : AskD := ⟨1, cell, 0, 0⟩
def sto (cell to : Int) : AskD := ⟨2, cell, 0, to⟩
def tRead (c : Cfg) (W : Int → Int) (x : TS) (a : Int) : Tr :=
 match entIdx x.writes a with
 | some k => []
 | none => if heldB x (a.tmod c.s) then [(ld (kWord c a), W a)] else [(ld (3 + a.tmod c.s), 0), (ld (kWord c a), W a), (ld (3 + a.tmod c.s), 0)]
def vRead (W : Int → Int) (x : TS) (a : Int) : Int := match entIdx x.writes a with
 | some k => (x.writes.getD k ⟨0, 0⟩).val
 | none => W a
def xRead (c : Cfg) (x : TS) (a : Int) : TS := match entIdx x.writes a with
 | some k => x
 | none => if heldB x (a.tmod c.s) then x else if (entIdx x.reads (a.tmod c.s)).isSome then x else { x with reads := x.reads ++ [⟨a.tmod c.s, 0⟩] }
theorem Agrees.tail {E : Env} {p : Nat} {q : AskD × Int} {T : Tr} (h : Agrees E p (q :: T)) : Agrees E (p + 1) T := Agrees.right (T := [q]) h
theorem Did.nil {E : Env} {s : LS} {e r : Int} {x : TS} (ho : s.over = false) (hp : s.pos ≤ E.seen.length) (hr : s.rank = r) : Did E s [] e r x (e, s, x) :=
 ⟨Fed.nil ho hp, fun _ => ⟨rfl, rfl, hr⟩, fun h => by simp at h; omega⟩
def iRead (c : Cfg) (W : Int → Int) (r : Int) (x : TS) (i : InsD) : Int × Int × TS × Tr :=
 if c.wd ≤ regOf x i.b then (3, r, x, []) else (0, r, setReg (xRead c x (regOf x i.b)) i.a (vRead W x (regOf x i.b)), tRead c W x (regOf x i.b))
def tGet (c : Cfg) (r st : Int) : Tr := [(ld (kStat c), 8 * r), (⟨3, 3 + c.s + st, 0, 1⟩, 0), (ld (3 + st), 0)]
def iWrote (c : Cfg) (r : Int) (x : TS) (i : InsD) (a : Int) (had : Bool) : Int × TS × Tr :=
 let x1 := { x with writes := putEnt x.writes a (regOf x i.b) }
 if had = true ∨ r ≠ 0 ∨ c.g = 0 ∨ (x.held.length : Int) ≠ c.g then (r, x1, []) else (1, x1, [(⟨4, 1, 0, 0⟩, 0), (⟨3, kStat c, 0, 8⟩, 0)])
def iWrite (c : Cfg) (r : Int) (x : TS) (i : InsD) : Int × Int × TS × Tr :=
 if c.wd ≤ regOf x i.a then (3, r, x, []) else
  let st := (regOf x i.a).tmod c.s
  if heldB x st then (0, iWrote c r x i (regOf x i.a) true) else
   let u := iWrote c r { x with held := x.held ++ [st] } i (regOf x i.a) false
   (0, u.1, u.2.1, tGet c r st ++ u.2.2)
def iStep (c : Cfg) (W : Int → Int) (r : Int) (x : TS) : Int × Int × TS × Tr :=
 if x.place = x.code.length then (1, r, x, []) else if (x.begun : Int) = c.f then (4, r, x, []) else
  let i := insAt x.code x.place
  let x1 := { x with begun := x.begun + 1 }
  if formedB i x.code.length = false then (3, r, x1, []) else
   let x2 := { x1 with place := x.place + 1 }
   if i.op = 0 then (1, r, x2, [])
   else if i.op = 1 then (2, r, x2, [])
   else if i.op = 2 then (0, r, setReg x2 i.a i.b, [])
   else if i.op = 3 then (0, r, setReg x2 i.a ((regOf x2 i.b + regOf x2 i.c).tmod 65536), [])
   else if i.op = 4 then (0, r, setReg x2 i.a ((regOf x2 i.b + 65535 + 1 - regOf x2 i.c).tmod 65536), [])
   else if i.op = 5 then (0, r, { x2 with place := i.c.toNat }, [])
   else if i.op = 6 then (0, r, if regOf x2 i.a < regOf x2 i.b then { x2 with place := i.c.toNat } else x2, [])
   else if i.op = 7 then iRead c W r x2 i
   else iWrite c r x2 i
def RegsOk (x : TS) : Prop := x.regs.length = 4 ∧ ∀ v ∈ x.regs, 0 ≤ v ∧ v ≤ 65535
theorem RegsOk.of {x : TS} (h : RegsOk x) (i : Int) : 0 ≤ regOf x i ∧ regOf x i ≤ 65535 := by
 unfold regOf
 by_cases hi : i.toNat < x.regs.length
 ·rw [show x.regs.getD i.toNat 0 = x.regs[i.toNat] from by simp [List.getD, List.getElem?_eq_getElem hi]]
  exact h.2 _ (List.getElem_mem hi)
 ·rw [show x.regs.getD i.toNat 0 = 0 from by simp [List.getD, List.getElem?_eq_none (Nat.le_of_not_lt hi)]]
  omega
theorem RegsOk.set {x : TS} (h : RegsOk x) (i v : Int) (h0 : 0 ≤ v) (h1 : v ≤ 65535) : RegsOk (setReg x i v) := by
 refine ⟨by simp [setReg, h.1], fun u hu => ?_⟩
 rcases List.mem_or_eq_of_mem_set hu with h2 | h2
 ·exact h.2 u h2
 ·omega
structure Same0 (x x' : TS) : Prop where
 code : x'.code = x.code
 valid : x'.valid = x.valid
 reads : x'.reads = x.reads
 writes : x'.writes = x.writes
 held : x'.held = x.held
 gate : x'.inGate = x.inGate
 regs : RegsOk x → RegsOk x'
def iSteps (c : Cfg) (W : Int → Int) : Nat → Int → TS → Int × Int × TS × Tr
 | 0, r, x => (0, r, x, [])
 | n + 1, r, x => let t := iStep c W r x
  if t.1 = 0 then (let u := iSteps c W n t.2.1 t.2.2.1; (u.1, u.2.1, u.2.2.1, t.2.2.2 ++ u.2.2.2)) else t
def iRun (c : Cfg) (W : Int → Int) (code : List InsD) : Int × Int × TS × Tr := iSteps c W (c.f.toNat + 2) 0 (newTS code 0)
def putV (q : AskD) (v : Int) : Int := if q.kind = 2 then q.to else if q.kind = 4 then v + 1 else if q.kind = 3 then (if v = q.frm then q.to else v) else v
def wr (m : Int → Int) (q : AskD) : Int → Int := fun x => if x = q.cell then putV q (m q.cell) else m x
def after (m : Int → Int) (T : Tr) : Int → Int := T.foldl (fun m q => wr m q.1) m
def Good (c : Cfg) (q : AskD × Int) : Prop := q.1.kind ≠ 0 ∧ 0 ≤ q.1.cell ∧ q.1.cell < 3 + 2 * c.s + c.t + c.wd ∧ -1 ≤ q.2 ∧ q.2 ≤ 65535
def Sees (c : Cfg) (m : Int → Int) : Tr → Prop
 | [] => True
 | q :: T => m q.1.cell = q.2 ∧ Good c q ∧ Sees c (wr m q.1) T
theorem Sees.append {c : Cfg} : ∀ {T U : Tr} {m : Int → Int}, Sees c m T → Sees c (after m T) U → Sees c m (T ++ U)
 | [], U, m, h, k => k
 | q :: T, U, m, h, k => ⟨h.1, h.2.1, Sees.append (T := T) h.2.2 k⟩
theorem Sees.left {c : Cfg} : ∀ {T U : Tr} {m : Int → Int}, Sees c m (T ++ U) → Sees c m T
 | [], U, m, h => trivial
 | q :: T, U, m, h => ⟨h.1, h.2.1, Sees.left (T := T) h.2.2⟩
theorem Sees.right {c : Cfg} : ∀ {T U : Tr} {m : Int → Int}, Sees c m (T ++ U) → Sees c (after m T) U
 | [], U, m, h => h
 | q :: T, U, m, h => Sees.right (T := T) h.2.2
theorem wr_ld (m : Int → Int) (cell : Int) : wr m (ld cell) = m := by
 funext x
 unfold wr ld putV
 simp only
 split
 ·rename_i h
  rw [h]
  simp
 ·rfl
theorem wr_at (m : Int → Int) (q : AskD) : wr m q q.cell = putV q (m q.cell) := by simp [wr]
theorem wr_off {m : Int → Int} {q : AskD} {x : Int} (h : x ≠ q.cell) : wr m q x = m x := by simp [wr, h]
structure Xi (c : Cfg) (x : TS) : Prop where
 regs : RegsOk x
 hin : ∀ h ∈ x.held, 0 ≤ h ∧ h < c.s
 hnd : x.held.Nodup
 win : ∀ e ∈ x.writes, 0 ≤ e.what ∧ e.what < c.wd ∧ e.what.tmod c.s ∈ x.held
 wnd : (x.writes.map (·.what)).Nodup
 wval : ∀ e ∈ x.writes, 0 ≤ e.val ∧ e.val ≤ 65535
theorem entIdx_some0 {l : List EntD} {a : Int} {k : Nat} (h : entIdx l a = some k) : ∃ e, l[k]? = some e ∧ e.what = a := by
 unfold entIdx at h
 rw [List.findIdx?_eq_some_iff_getElem] at h
 obtain ⟨hk, h1, _⟩ := h
 exact ⟨l[k], List.getElem?_eq_getElem hk, by simpa using h1⟩
theorem entIdx_none0 {l : List EntD} {a : Int} (h : entIdx l a = none) : ∀ e ∈ l, e.what ≠ a := by
 unfold entIdx at h
 rw [List.findIdx?_eq_none_iff] at h
 intro e he
 have := h e he
 simpa using this
theorem Xi.same {c : Cfg} {x x' : TS} (h : Xi c x) (s : Same0 x x') : Xi c x' :=
 ⟨s.regs h.regs, by rw [s.held]; exact h.hin, by rw [s.held]; exact h.hnd, by rw [s.held, s.writes]; exact h.win, by rw [s.writes]; exact h.wnd, by rw [s.writes]; exact h.wval⟩
theorem Xi.put {c : Cfg} {x : TS} {a v : Int} (h : Xi c x) (h0 : 0 ≤ a) (h1 : a < c.wd) (hs : a.tmod c.s ∈ x.held) (hv : 0 ≤ v ∧ v ≤ 65535) : Xi c { x with writes := putEnt x.writes a v } := by
 have hw : ((putEnt x.writes a v).map (·.what)).Nodup ∧ ∀ e ∈ putEnt x.writes a v, e ∈ x.writes ∨ e = ⟨a, v⟩ := by
  unfold putEnt
  split
  ·rename_i k hk
   obtain ⟨e, he, hea⟩ := entIdx_some0 hk
   refine ⟨?_, fun u hu => List.mem_or_eq_of_mem_set hu⟩
   have : (x.writes.set k ⟨a, v⟩).map (·.what) = x.writes.map (·.what) := by
    rw [List.map_set]
    apply List.ext_getElem?
    intro i
    rw [List.getElem?_set]
    split
    ·rename_i hki
     subst hki
     rw [List.getElem?_map, he]
     simp [hea]
     exact (List.getElem?_eq_some_iff.1 he).1
    ·rfl
   rw [this]
   exact h.wnd
  ·rename_i hk
   refine ⟨?_, fun u hu => by simpa using hu⟩
   rw [List.map_append, List.nodup_append]
   refine ⟨h.wnd, by simp, fun u hu w hw => ?_⟩
   obtain ⟨e, he, rfl⟩ := List.mem_map.1 hu
   simp at hw
   rw [hw]
   exact entIdx_none0 hk e he
 refine ⟨h.regs, h.hin, h.hnd, fun e he => ?_, hw.1, fun e he => ?_⟩
 ·rcases hw.2 e he with h2 | h2
  ·exact h.win e h2
  ·subst h2
   exact ⟨h0, h1, hs⟩
 ·rcases hw.2 e he with h2 | h2
  ·exact h.wval e h2
  ·subst h2
   exact hv
end Go.Proofs.YtejadojilncbjabGreat
