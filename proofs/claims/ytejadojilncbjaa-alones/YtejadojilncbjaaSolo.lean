import Derived.Test.YtejadojilncbjaaModel
namespace Go.Proofs.Ytejadojilncbjaa
set_option linter.unusedVariables false

/-! One thread that has the cells to itself: what it asks, and what it sees. -/

abbrev Tr := List (AskD × Int)
def nilAsk : AskD × Int := (⟨0, 0, 0, 0⟩, 0)

/-- From here on the life has seen what the trace has, as far as both go. -/
def Agrees (E : Env) (p : Nat) (T : Tr) : Prop := ∀ i, i < T.length → p + i < E.seen.length → E.seen.getD (p + i) 0 = (T.getD i nilAsk).2

theorem getD_left {α : Type} {T U : List α} {d : α} {i : Nat} (h : i < T.length) : (T ++ U).getD i d = T.getD i d := by simp [List.getD, List.getElem?_append_left h]
theorem getD_right {α : Type} {T U : List α} {d : α} {i : Nat} (h : T.length ≤ i) : (T ++ U).getD i d = U.getD (i - T.length) d := by simp [List.getD, List.getElem?_append_right h]

theorem Agrees.left {E : Env} {p : Nat} {T U : Tr} (h : Agrees E p (T ++ U)) : Agrees E p T := fun i hi hl => by
  have := h i (by simp; omega) hl
  rwa [getD_left hi] at this
theorem Agrees.right {E : Env} {p : Nat} {T U : Tr} (h : Agrees E p (T ++ U)) : Agrees E (p + T.length) U := fun i hi hl => by
  have := h (T.length + i) (by simp; omega) (by omega)
  rw [getD_right (by omega), show T.length + i - T.length = i from by omega, ← Nat.add_assoc] at this
  exact this

/-- The trace was asked, or the life broke off in it. -/
structure Fed (E : Env) (s s' : LS) (T : Tr) : Prop where
  ends : s'.ends = s.ends
  live : s.pos + T.length ≤ E.seen.length → s'.over = false ∧ s'.pos = s.pos + T.length
  dead : E.seen.length < s.pos + T.length → s'.over = true ∧ s'.next = (T.getD (E.seen.length - s.pos) nilAsk).1

/-- A life that is over stays so. -/
structure Stay (s s' : LS) : Prop where
  ends : s'.ends = s.ends
  over : s.over = true → s'.over = true ∧ s'.next = s.next

theorem Stay.refl (s : LS) : Stay s s := ⟨rfl, fun h => ⟨h, rfl⟩⟩
theorem Stay.trans {a b c : LS} (h : Stay a b) (k : Stay b c) : Stay a c := ⟨k.ends.trans h.ends, fun o => ⟨(k.over (h.over o).1).1, (k.over (h.over o).1).2.trans (h.over o).2⟩⟩

theorem mAsk_dead' {E : Env} {s : LS} (h : s.over = true) (q : AskD) : mAsk E s q = (0, s) := by simp [mAsk, h]
theorem Stay.ask (E : Env) (s : LS) (q : AskD) : Stay s (mAsk E s q).2 := by
  refine ⟨by unfold mAsk; split; rfl; split <;> rfl, fun h => by rw [mAsk_dead' h]; exact ⟨h, rfl⟩⟩

theorem Fed.nil {E : Env} {s : LS} (ho : s.over = false) (hp : s.pos ≤ E.seen.length) : Fed E s s [] := ⟨rfl, fun _ => ⟨ho, rfl⟩, fun h => by simp at h; omega⟩

theorem Fed.ask {E : Env} {s : LS} (q : AskD) (v : Int) (ho : s.over = false) (hp : s.pos ≤ E.seen.length) : Fed E s (mAsk E s q).2 [(q, v)] := by
  refine ⟨(Stay.ask E s q).ends, fun h => ?_, fun h => ?_⟩
  · simp at h
    simp [mAsk, ho, show ¬ E.seen.length ≤ s.pos from by omega]
  · simp at h
    have e : E.seen.length - s.pos = 0 := by omega
    simp [mAsk, ho, show E.seen.length ≤ s.pos from by omega, e]

theorem Fed.trans {E : Env} {s s1 s2 : LS} {T U : Tr} (hp : s.pos ≤ E.seen.length) (h : Fed E s s1 T) (k : s1.over = false → s1.pos = s.pos + T.length → s1.pos ≤ E.seen.length → Fed E s1 s2 U) (d : Stay s1 s2) : Fed E s s2 (T ++ U) := by
  refine ⟨d.ends.trans h.ends, fun hl => ?_, fun hl => ?_⟩
  · simp at hl
    obtain ⟨a, b⟩ := h.live (by omega)
    obtain ⟨a2, b2⟩ := (k a b (by omega)).live (by omega)
    exact ⟨a2, by simp; omega⟩
  · simp at hl
    by_cases h1 : E.seen.length < s.pos + T.length
    · obtain ⟨a, b⟩ := h.dead h1
      obtain ⟨a2, b2⟩ := d.over a
      refine ⟨a2, b2.trans (b.trans ?_)⟩
      rw [getD_left (by omega)]
    · obtain ⟨a, b⟩ := h.live (by omega)
      obtain ⟨a2, b2⟩ := (k a b (by omega)).dead (by omega)
      refine ⟨a2, b2.trans ?_⟩
      rw [getD_right (by omega), b, Nat.sub_add_eq]

/-- The value that is seen. -/
theorem ask_val {E : Env} {s : LS} {q : AskD} {v : Int} {T : Tr} (ho : s.over = false) (ha : Agrees E s.pos ((q, v) :: T)) (hl : s.pos < E.seen.length) : mAsk E s q = (v, { s with pos := s.pos + 1 }) := by
  have := ha 0 (by simp) (by omega)
  simp at this
  simp [mAsk, ho, show ¬ E.seen.length ≤ s.pos from by omega, ← this, List.getD]
theorem ask_none {E : Env} {s : LS} {q : AskD} (ho : s.over = false) (hl : E.seen.length ≤ s.pos) : mAsk E s q = (0, { s with over := true, next := q }) := by
  simp [mAsk, ho, hl]

theorem Stay.fold {α : Type} (E : Env) (q : α → AskD) : ∀ (l : List α) (s : LS), Stay s (l.foldl (fun s h => (mAsk E s (q h)).2) s)
  | [], s => Stay.refl _
  | a :: r, s => (Stay.ask E s (q a)).trans (Stay.fold E q r _)

theorem Fed.fold {α : Type} {E : Env} (q : α → AskD) (v : α → Int) : ∀ (l : List α) (s : LS), s.over = false → s.pos ≤ E.seen.length → Fed E s (l.foldl (fun s h => (mAsk E s (q h)).2) s) (l.map fun h => (q h, v h))
  | [], s, ho, hp => Fed.nil ho hp
  | a :: r, s, ho, hp => Fed.trans (T := [(q a, v a)]) (U := r.map fun h => (q h, v h)) hp (Fed.ask (E := E) (q a) (v a) ho hp) (fun a1 a2 a3 => Fed.fold q v r _ a1 a3) (Stay.fold E q r _)

/-- What became of a call that tells a fate. -/
structure Did (E : Env) (s : LS) (T : Tr) (e r : Int) (x' : TS) (out : Int × LS × TS) : Prop where
  fed : Fed E s out.2.1 T
  live : s.pos + T.length ≤ E.seen.length → out.1 = e ∧ out.2.2 = x' ∧ out.2.1.rank = r
  dead : E.seen.length < s.pos + T.length → out.1 = -1

def kStat (c : Cfg) : Int := 3 + 2 * c.s + 0
def kWord (c : Cfg) (a : Int) : Int := 3 + 2 * c.s + c.t + a
def ld (cell : Int) : AskD := ⟨1, cell, 0, 0⟩
def sto (cell to : Int) : AskD := ⟨2, cell, 0, to⟩

def tRead (c : Cfg) (W : Int → Int) (x : TS) (a : Int) : Tr :=
  match entIdx x.writes a with
  | some k => []
  | none => if heldB x (a.tmod c.s) then [(ld (kWord c a), W a)] else [(ld (3 + a.tmod c.s), 0), (ld (kWord c a), W a), (ld (3 + a.tmod c.s), 0)]
def vRead (W : Int → Int) (x : TS) (a : Int) : Int := match entIdx x.writes a with
  | some k => (x.writes.getD k ⟨0, 0⟩).val
  | none => W a
def xRead (c : Cfg) (x : TS) (a : Int) : TS := match entIdx x.writes a with
  | some k => x
  | none => if heldB x (a.tmod c.s) then x else if (entIdx x.reads (a.tmod c.s)).isSome then x else { x with reads := x.reads ++ [⟨a.tmod c.s, 0⟩] }

theorem mStands_dead (E : Env) (x : TS) (a st : Int) (n : Nat) (s : LS) (h : s.over = true) : mStands E x a st n s = (0, -1, s, x) := by
  cases n with
  | zero => rfl
  | succ n => simp [mStands, h]

def adv (s : LS) (k : Nat) : LS := { s with pos := s.pos + k }
def brk (s : LS) (k : Nat) (q : AskD) : LS := { s with pos := s.pos + k, over := true, next := q }
theorem adv_over (s : LS) (k : Nat) : (adv s k).over = s.over := rfl
theorem brk_over (s : LS) (k : Nat) (q : AskD) : (brk s k q).over = true := rfl
theorem ask_adv {E : Env} {s : LS} {q : AskD} {v : Int} {T : Tr} {k : Nat} (ho : s.over = false) (ha : Agrees E (s.pos + k) ((q, v) :: T)) (hl : ¬ E.seen.length ≤ s.pos + k) : mAsk E (adv s k) q = (v, adv s (k + 1)) := by
  rw [ask_val (s := adv s k) ho ha (by show s.pos + k < _; omega)]
  rfl
theorem ask_brk {E : Env} {s : LS} {q : AskD} {k : Nat} (ho : s.over = false) (hl : E.seen.length ≤ s.pos + k) : mAsk E (adv s k) q = (0, brk s k q) := ask_none ho hl
theorem ask_dead {E : Env} {s : LS} {q q' : AskD} {k : Nat} : mAsk E (brk s k q) q' = (0, brk s k q) := mAsk_dead' rfl _
theorem Agrees.tail {E : Env} {p : Nat} {q : AskD × Int} {T : Tr} (h : Agrees E p (q :: T)) : Agrees E (p + 1) T := Agrees.right (T := [q]) h
theorem fed_adv {E : Env} {s : LS} {T : Tr} {k : Nat} (ho : s.over = false) (hk : T.length = k) (hl : s.pos + k ≤ E.seen.length) : Fed E s (adv s k) T := ⟨rfl, fun _ => ⟨ho, by rw [hk]; rfl⟩, fun h => by omega⟩
theorem fed_brk {E : Env} {s : LS} {T : Tr} {k : Nat} {q : AskD} (hk : k < T.length) (hl : E.seen.length = s.pos + k) (hq : (T.getD k nilAsk).1 = q) : Fed E s (brk s k q) T := ⟨rfl, fun h => by omega, fun h => ⟨rfl, by rw [hl, Nat.add_sub_cancel_left, hq]; rfl⟩⟩

/-- What a read of the cells tells. -/
theorem mReadV_did (E : Env) (W : Int → Int) (s : LS) (x : TS) (a : Int) (ho : s.over = false) (hp : s.pos ≤ E.seen.length) (hv : x.valid = 0) (ha : Agrees E s.pos (tRead E.c W x a)) :
    Fed E s (mReadV E s x a).2.2.1 (tRead E.c W x a) ∧
      (s.pos + (tRead E.c W x a).length ≤ E.seen.length → (mReadV E s x a).1 = vRead W x a ∧ (mReadV E s x a).2.1 = 0 ∧ (mReadV E s x a).2.2.2 = xRead E.c x a ∧ (mReadV E s x a).2.2.1.rank = s.rank) := by
  have hc : mReadV E s x a = (match entIdx x.writes a with
    | some k => ((x.writes.getD k ⟨0, 0⟩).val, 0, s, x)
    | none => if heldB x (a.tmod E.c.s) then ((mAsk E (adv s 0) (ld (kWord E.c a))).1, 0, (mAsk E (adv s 0) (ld (kWord E.c a))).2, x) else mStands E x a (a.tmod E.c.s) (E.seen.length - s.pos + 1 + 1) (adv s 0)) := rfl
  rw [hc]
  unfold tRead vRead xRead at *
  cases hw : entIdx x.writes a with
  | some k => exact ⟨Fed.nil ho hp, fun _ => ⟨rfl, rfl, rfl, rfl⟩⟩
  | none =>
    simp only [hw] at ha ⊢
    cases hh : heldB x (a.tmod E.c.s) with
    | true =>
      simp only [hh, if_true] at ha ⊢
      by_cases h0 : E.seen.length ≤ s.pos + 0
      · rw [ask_brk ho h0]
        exact ⟨fed_brk (by simp) (by omega) rfl, fun hl => by simp at hl; omega⟩
      · rw [ask_adv ho ha h0]
        exact ⟨fed_adv ho rfl (by omega), fun hl => ⟨by simp, by simp, by simp, rfl⟩⟩
    | false =>
      simp only [hh, Bool.false_eq_true, if_false] at ha ⊢
      generalize E.seen.length - s.pos + 1 = n
      have hf1 : ∀ s', mLoad E s' (cVersion E (a.tmod E.c.s)) = mAsk E s' (ld (3 + a.tmod E.c.s)) := fun _ => rfl
      have hf2 : ∀ s', mLoad E s' (cWord E a) = mAsk E s' (ld (kWord E.c a)) := fun _ => rfl
      rw [mStands]
      simp only [hf1, hf2, adv_over, ho, Bool.false_eq_true, if_false]
      by_cases h0 : E.seen.length ≤ s.pos + 0
      · simp only [ask_brk ho h0, ask_dead, brk_over, true_or, if_true]
        rw [if_neg (by decide), mStands_dead _ _ _ _ _ _ rfl]
        exact ⟨fed_brk (by simp) (by omega) rfl, fun hl => by simp at hl; omega⟩
      · simp only [ask_adv ho ha h0]
        by_cases h1 : E.seen.length ≤ s.pos + (0 + 1)
        · simp only [ask_brk ho h1, ask_dead, brk_over, true_or, if_true]
          rw [if_neg (by decide), mStands_dead _ _ _ _ _ _ rfl]
          exact ⟨fed_brk (by simp) (by omega) rfl, fun hl => by simp at hl; omega⟩
        · simp only [ask_adv ho ha.tail h1]
          by_cases h2 : E.seen.length ≤ s.pos + (0 + 1 + 1)
          · simp only [ask_brk ho h2, brk_over, true_or, if_true]
            rw [if_neg (by decide), mStands_dead _ _ _ _ _ _ rfl]
            exact ⟨fed_brk (by simp) (by omega) rfl, fun hl => by simp at hl; omega⟩
          · simp only [ask_adv ho ha.tail.tail h2, adv_over, ho]
            rw [if_neg (by decide), if_neg (by simp), if_pos (by split <;> simp [hv])]
            exact ⟨fed_adv ho rfl (by omega), fun hl => ⟨rfl, rfl, rfl, rfl⟩⟩

theorem Did.nil {E : Env} {s : LS} {e r : Int} {x : TS} (ho : s.over = false) (hp : s.pos ≤ E.seen.length) (hr : s.rank = r) : Did E s [] e r x (e, s, x) :=
  ⟨Fed.nil ho hp, fun _ => ⟨rfl, rfl, hr⟩, fun h => by simp at h; omega⟩

def iRead (c : Cfg) (W : Int → Int) (r : Int) (x : TS) (i : InsD) : Int × Int × TS × Tr :=
  if c.wd ≤ regOf x i.b then (3, r, x, []) else (0, r, setReg (xRead c x (regOf x i.b)) i.a (vRead W x (regOf x i.b)), tRead c W x (regOf x i.b))

theorem mRead_did (E : Env) (W : Int → Int) (s : LS) (x : TS) (i : InsD) (r : Int) (ho : s.over = false) (hp : s.pos ≤ E.seen.length) (hr : s.rank = r) (hv : x.valid = 0) (ha : Agrees E s.pos (iRead E.c W r x i).2.2.2) :
    Did E s (iRead E.c W r x i).2.2.2 (iRead E.c W r x i).1 (iRead E.c W r x i).2.1 (iRead E.c W r x i).2.2.1 (mRead E s x i) := by
  unfold iRead mRead at *
  by_cases h : E.c.wd ≤ regOf x i.b
  · simp only [h, if_true] at ha ⊢
    exact Did.nil ho hp hr
  · simp only [h, if_false] at ha ⊢
    obtain ⟨h1, h2⟩ := mReadV_did E W s x (regOf x i.b) ho hp hv ha
    generalize mReadV E s x (regOf x i.b) = t at *
    generalize tRead E.c W x (regOf x i.b) = T at *
    by_cases hl : s.pos + T.length ≤ E.seen.length
    · obtain ⟨a1, a2, a3, a4⟩ := h2 hl
      obtain ⟨b1, b2⟩ := h1.live hl
      rw [if_neg (by simp [b1]), if_neg (by simp [a2])]
      refine ⟨⟨h1.ends, h1.live, h1.dead⟩, fun _ => ⟨rfl, by rw [a1, a3], a4.trans hr⟩, fun h => by omega⟩
    · obtain ⟨b1, b2⟩ := h1.dead (by omega)
      rw [if_pos b1]
      exact ⟨h1, fun h => by omega, fun _ => rfl⟩

def tGet (c : Cfg) (r st : Int) : Tr := [(ld (kStat c), 8 * r), (⟨3, 3 + c.s + st, 0, 1⟩, 0), (ld (3 + st), 0)]

theorem mGet_did (E : Env) (hme : E.me = 0) (s : LS) (x : TS) (st r : Int) (n : Nat) (ho : s.over = false) (hp : s.pos ≤ E.seen.length) (hr : r = 0 ∨ r = 1) (hv : x.valid = 0) (ha : Agrees E s.pos (tGet E.c r st)) :
    Fed E s (mGet E x st (n + 1) s).2.1 (tGet E.c r st) ∧ (s.pos + 3 ≤ E.seen.length → mGet E x st (n + 1) s = (0, adv s 3, { x with held := x.held ++ [st] })) ∧ (E.seen.length < s.pos + 3 → (mGet E x st (n + 1) s).1 = -1) := by
  have hf1 : ∀ s', mLoad E s' (cStatus E E.me) = mAsk E s' (ld (kStat E.c)) := fun s' => by rw [hme]; rfl
  have hf2 : ∀ s', mAsk E s' ⟨3, cOwner E st, 0, E.me + 1⟩ = mAsk E s' ⟨3, 3 + E.c.s + st, 0, 1⟩ := fun s' => by rw [hme]; rfl
  have hf3 : ∀ s', mLoad E s' (cVersion E st) = mAsk E s' (ld (3 + st)) := fun _ => rfl
  have hr8 : ¬ 0 < (8 * r).tmod 8 := by rcases hr with rfl | rfl <;> decide
  rw [show mGet E x st (n + 1) s = mGet E x st (n + 1) (adv s 0) from rfl, mGet]
  simp only [hf1, hf2, hf3, adv_over, ho, Bool.false_eq_true, if_false]
  by_cases h0 : E.seen.length ≤ s.pos + 0
  · simp only [ask_brk ho h0, ask_dead, brk_over, if_true, Bool.true_eq_false, false_and, if_false]
    exact ⟨fed_brk (s := s) (by simp [tGet]) (by omega) rfl, fun h => by omega, fun _ => trivial⟩
  · simp only [ask_adv ho ha h0, adv_over, ho, true_and, hr8, if_false]
    by_cases h1 : E.seen.length ≤ s.pos + (0 + 1)
    · simp only [ask_brk ho h1, brk_over, if_true]
      exact ⟨fed_brk (s := s) (by simp [tGet]) (by omega) rfl, fun h => by omega, fun _ => trivial⟩
    · simp only [ask_adv ho ha.tail h1, adv_over, ho, Bool.false_eq_true, if_false, if_true]
      by_cases h2 : E.seen.length ≤ s.pos + (0 + 1 + 1)
      · simp only [ask_brk ho h2, brk_over, if_true]
        exact ⟨fed_brk (s := s) (by simp [tGet]) (by omega) rfl, fun h => by omega, fun _ => trivial⟩
      · simp only [ask_adv ho ha.tail.tail h2, adv_over, ho, Bool.false_eq_true, if_false, hv, Int.lt_irrefl]
        exact ⟨fed_adv (s := s) ho rfl (by omega), fun h => trivial, fun h => by omega⟩

def iWrote (c : Cfg) (r : Int) (x : TS) (i : InsD) (a : Int) (had : Bool) : Int × TS × Tr :=
  let x1 := { x with writes := putEnt x.writes a (regOf x i.b) }
  if had = true ∨ r ≠ 0 ∨ c.g = 0 ∨ (x.held.length : Int) ≠ c.g then (r, x1, []) else (1, x1, [(⟨4, 1, 0, 0⟩, 0), (⟨3, kStat c, 0, 8⟩, 0)])

theorem mWrote_did (E : Env) (hme : E.me = 0) (s : LS) (x : TS) (i : InsD) (a r : Int) (had : Bool) (ho : s.over = false) (hp : s.pos ≤ E.seen.length) (hr : s.rank = r) (ha : Agrees E s.pos (iWrote E.c r x i a had).2.2) :
    Did E s (iWrote E.c r x i a had).2.2 0 (iWrote E.c r x i a had).1 (iWrote E.c r x i a had).2.1 (mWrote E s x i a had) := by
  unfold iWrote mWrote at *
  have e1 : (mNoted s 8 a (regOf x i.b)).rank = r := hr
  simp only [e1] at ha ⊢
  by_cases h : had = true ∨ r ≠ 0 ∨ E.c.g = 0 ∨ (x.held.length : Int) ≠ E.c.g
  · rw [if_pos h] at ha ⊢
    rw [if_pos h]
    exact ⟨⟨rfl, fun _ => ⟨ho, rfl⟩, fun h => by simp at h; omega⟩, fun _ => ⟨rfl, rfl, hr⟩, fun h => by simp at h; omega⟩
  · rw [if_neg h] at ha ⊢
    rw [if_neg h]
    have hs1 : (mNoted s 8 a (regOf x i.b)).over = false := ho
    have hp1 : (mNoted s 8 a (regOf x i.b)).pos = s.pos := rfl
    have he1 : (mNoted s 8 a (regOf x i.b)).ends = s.ends := rfl
    generalize mNoted s 8 a (regOf x i.b) = s1 at *
    rw [← hp1] at ha
    rw [show mAsk E s1 ⟨4, 1, 0, 0⟩ = mAsk E (adv s1 0) ⟨4, 1, 0, 0⟩ from rfl]
    by_cases h0 : E.seen.length ≤ s1.pos + 0
    · simp only [ask_brk hs1 h0, brk_over, if_true]
      have hb := fed_brk (E := E) (s := s1) (T := [(⟨4, 1, 0, 0⟩, 0), (⟨3, kStat E.c, 0, 8⟩, 0)]) (k := 0) (q := ⟨4, 1, 0, 0⟩) (by simp) (by omega) rfl
      exact ⟨⟨hb.ends.trans he1, by rw [← hp1]; exact hb.live, by rw [← hp1]; exact hb.dead⟩, fun hl => by simp at hl; omega, fun _ => rfl⟩
    · simp only [ask_adv hs1 ha h0, adv_over, hs1, Bool.false_eq_true, if_false]
      have hq : (⟨3, cStatus E E.me, 0, 8 * (0 + 1)⟩ : AskD) = ⟨3, kStat E.c, 0, 8⟩ := by rw [hme]; rfl
      rw [hq]
      obtain ⟨s2, hs2⟩ : ∃ s2 : LS, s2 = ⟨(adv s1 (0 + 1)).pos, false, (adv s1 (0 + 1)).next, 0 + 1, (adv s1 (0 + 1)).fails, (adv s1 (0 + 1)).list, (adv s1 (0 + 1)).ends⟩ := ⟨_, rfl⟩
      rw [← hs2]
      have o2 : s2.over = false := by rw [hs2]
      have p2 : s2.pos = s1.pos + 1 := by rw [hs2]; rfl
      have r2 : s2.rank = 1 := by rw [hs2]; rfl
      have n2 : s2.ends = s1.ends := by rw [hs2]; rfl
      clear hs2
      have ha2 := ha.tail
      rw [← p2] at ha2
      rw [show mAsk E s2 ⟨3, kStat E.c, 0, 8⟩ = mAsk E (adv s2 0) ⟨3, kStat E.c, 0, 8⟩ from rfl]
      by_cases h1 : E.seen.length ≤ s2.pos + 0
      · simp only [ask_brk o2 h1, brk_over, if_true]
        refine ⟨⟨?_, fun hl => by simp at hl; omega, fun hl => ⟨rfl, ?_⟩⟩, fun hl => by simp at hl; omega, fun _ => rfl⟩
        · show s2.ends = _
          rw [n2, he1]
        · rw [show E.seen.length - s.pos = 1 from by omega]
          rfl
      · simp only [ask_adv o2 ha2 h1, adv_over, o2, Bool.false_eq_true, if_false, ne_eq, not_true_eq_false]
        refine ⟨⟨?_, fun hl => ⟨o2, ?_⟩, fun hl => by simp at hl; omega⟩, fun hl => ⟨rfl, rfl, r2⟩, fun hl => by simp at hl; omega⟩
        · show s2.ends = _
          rw [n2, he1]
        · show s2.pos + (0 + 1) = _
          simp
          omega

def iWrite (c : Cfg) (r : Int) (x : TS) (i : InsD) : Int × Int × TS × Tr :=
  if c.wd ≤ regOf x i.a then (3, r, x, []) else
    let st := (regOf x i.a).tmod c.s
    if heldB x st then (0, iWrote c r x i (regOf x i.a) true) else
      let u := iWrote c r { x with held := x.held ++ [st] } i (regOf x i.a) false
      (0, u.1, u.2.1, tGet c r st ++ u.2.2)

theorem mWrite_did (E : Env) (hme : E.me = 0) (s : LS) (x : TS) (i : InsD) (r : Int) (ho : s.over = false) (hp : s.pos ≤ E.seen.length) (hr : s.rank = r) (hr1 : r = 0 ∨ r = 1) (hv : x.valid = 0) (ha : Agrees E s.pos (iWrite E.c r x i).2.2.2) :
    Did E s (iWrite E.c r x i).2.2.2 (iWrite E.c r x i).1 (iWrite E.c r x i).2.1 (iWrite E.c r x i).2.2.1 (mWrite E s x i) := by
  unfold iWrite mWrite at *
  by_cases h : E.c.wd ≤ regOf x i.a
  · simp only [h, if_true] at ha ⊢
    exact Did.nil ho hp hr
  · simp only [h, if_false] at ha ⊢
    cases hh : heldB x ((regOf x i.a).tmod E.c.s) with
    | true =>
      simp only [hh, if_true] at ha ⊢
      exact mWrote_did E hme s x i _ r true ho hp hr ha
    | false =>
      simp only [hh, Bool.false_eq_true, if_false] at ha ⊢
      rw [show loopFuel E s = (E.seen.length - s.pos + 1) + 1 from rfl]
      obtain ⟨g1, g2, g3⟩ := mGet_did E hme s x ((regOf x i.a).tmod E.c.s) r (E.seen.length - s.pos + 1) ho hp hr1 hv ha.left
      generalize hst : (regOf x i.a).tmod E.c.s = st at *
      by_cases hl : s.pos + 3 ≤ E.seen.length
      · rw [g2 hl] at g1 ⊢
        simp only [ne_eq, not_true_eq_false, if_false]
        have hd := mWrote_did E hme (adv s 3) { x with held := x.held ++ [st] } i (regOf x i.a) r false ho hl hr ha.right
        refine ⟨Fed.trans hp g1 (fun _ _ _ => hd.fed) ?_, fun h2 => hd.live ?_, fun h2 => hd.dead ?_⟩
        · exact ⟨hd.fed.ends, fun o => by rw [adv_over, ho] at o; cases o⟩
        · simp [tGet] at h2
          show s.pos + 3 + _ ≤ _
          omega
        · simp [tGet] at h2
          show _ < s.pos + 3 + _
          omega
      · have g4 := g3 (by omega)
        generalize mGet E x st (E.seen.length - s.pos + 1 + 1) s = t at *
        rw [if_pos (by rw [g4]; decide)]
        refine ⟨Fed.trans hp g1 (fun o p q => ?_) (Stay.refl _), fun h2 => by simp [tGet] at h2; omega, fun _ => g4⟩
        have := (g1.dead (by simp [tGet]; omega)).1
        rw [this] at o
        cases o

/-- A step of one thread that is alone: the fate, the rank, the attempt, what it asks and sees. -/
def iStep (c : Cfg) (W : Int → Int) (r : Int) (x : TS) : Int × Int × TS × Tr :=
  if x.place = x.code.length then (1, r, x, []) else if (x.begun : Int) = c.f then (4, r, x, []) else
    let i := insAt x.code x.place
    let x1 := { x with begun := x.begun + 1 }
    if formedB i x.code.length = false then (3, r, x1, []) else
      let x2 := { x1 with place := x.place + 1 }
      if i.op = 0 then (1, r, x2, [])
      else if i.op = 1 then (2, r, x2, [])
      else if i.op = 2 then (0, r, setReg x2 i.a i.b, [])
      else if i.op = 3 then (0, r, setReg x2 i.a ((regOf x2 i.b + regOf x2 i.c).tmod 65536), [])
      else if i.op = 4 then (0, r, setReg x2 i.a ((regOf x2 i.b + 65535 + 1 - regOf x2 i.c).tmod 65536), [])
      else if i.op = 5 then (0, r, { x2 with place := i.c.toNat }, [])
      else if i.op = 6 then (0, r, if regOf x2 i.a < regOf x2 i.b then { x2 with place := i.c.toNat } else x2, [])
      else if i.op = 7 then iRead c W r x2 i
      else iWrite c r x2 i

theorem mStep_did (E : Env) (hme : E.me = 0) (W : Int → Int) (s : LS) (x : TS) (r : Int) (ho : s.over = false) (hp : s.pos ≤ E.seen.length) (hr : s.rank = r) (hr1 : r = 0 ∨ r = 1) (hv : x.valid = 0) (ha : Agrees E s.pos (iStep E.c W r x).2.2.2) :
    Did E s (iStep E.c W r x).2.2.2 (iStep E.c W r x).1 (iStep E.c W r x).2.1 (iStep E.c W r x).2.2.1 (mStep E s x) := by
  unfold iStep mStep at *
  by_cases h1 : x.place = x.code.length
  · simp only [h1, if_true]
    exact Did.nil ho hp hr
  rw [if_neg h1] at ha ⊢
  rw [if_neg h1]
  by_cases h2 : (x.begun : Int) = E.c.f
  · simp only [h2, if_true]
    exact Did.nil ho hp hr
  rw [if_neg h2] at ha ⊢
  rw [if_neg h2]
  simp only at ha ⊢
  generalize insAt x.code x.place = i at *
  cases h3 : formedB i x.code.length with
  | false =>
    simp only [if_true]
    exact Did.nil ho hp hr
  | true =>
    simp only [h3, Bool.true_eq_false, if_false] at ha ⊢
    by_cases o0 : i.op = 0
    · simp only [o0, if_true]
      exact Did.nil ho hp hr
    rw [if_neg o0] at ha ⊢
    rw [if_neg o0]
    by_cases o1 : i.op = 1
    · simp only [o1, if_true]
      exact Did.nil ho hp hr
    rw [if_neg o1] at ha ⊢
    rw [if_neg o1]
    by_cases o2 : i.op = 2
    · simp only [o2, if_true]
      exact Did.nil ho hp hr
    rw [if_neg o2] at ha ⊢
    rw [if_neg o2]
    by_cases o3 : i.op = 3
    · simp only [o3, if_true]
      exact Did.nil ho hp hr
    rw [if_neg o3] at ha ⊢
    rw [if_neg o3]
    by_cases o4 : i.op = 4
    · simp only [o4, if_true]
      exact Did.nil ho hp hr
    rw [if_neg o4] at ha ⊢
    rw [if_neg o4]
    by_cases o5 : i.op = 5
    · simp only [o5, if_true]
      exact Did.nil ho hp hr
    rw [if_neg o5] at ha ⊢
    rw [if_neg o5]
    by_cases o6 : i.op = 6
    · simp only [o6, if_true]
      exact Did.nil ho hp hr
    rw [if_neg o6] at ha ⊢
    rw [if_neg o6]
    by_cases o7 : i.op = 7
    · rw [if_pos o7] at ha ⊢
      rw [if_pos o7]
      exact mRead_did E W s _ i r ho hp hr hv ha
    · rw [if_neg o7] at ha ⊢
      rw [if_neg o7]
      exact mWrite_did E hme s _ i r ho hp hr hr1 hv ha

/-- What no step changes. -/
theorem iWrote_same (c : Cfg) (r : Int) (x : TS) (i : InsD) (a : Int) (had : Bool) (hr : r = 0 ∨ r = 1) : ((iWrote c r x i a had).1 = 0 ∨ (iWrote c r x i a had).1 = 1) ∧ (iWrote c r x i a had).2.1.valid = x.valid ∧ (iWrote c r x i a had).2.1.code = x.code := by
  unfold iWrote
  simp only
  split
  · exact ⟨hr, rfl, rfl⟩
  · exact ⟨Or.inr rfl, rfl, rfl⟩
theorem xRead_same (c : Cfg) (x : TS) (a : Int) : (xRead c x a).valid = x.valid ∧ (xRead c x a).code = x.code ∧ (xRead c x a).regs = x.regs ∧ (xRead c x a).writes = x.writes ∧ (xRead c x a).held = x.held ∧ (xRead c x a).place = x.place ∧ (xRead c x a).begun = x.begun ∧ (xRead c x a).inGate = x.inGate := by
  unfold xRead
  split
  · exact ⟨rfl, rfl, rfl, rfl, rfl, rfl, rfl, rfl⟩
  · split
    · exact ⟨rfl, rfl, rfl, rfl, rfl, rfl, rfl, rfl⟩
    · split <;> exact ⟨rfl, rfl, rfl, rfl, rfl, rfl, rfl, rfl⟩
def RegsOk (x : TS) : Prop := x.regs.length = 4 ∧ ∀ v ∈ x.regs, 0 ≤ v ∧ v ≤ 65535

theorem RegsOk.of {x : TS} (h : RegsOk x) (i : Int) : 0 ≤ regOf x i ∧ regOf x i ≤ 65535 := by
  unfold regOf
  by_cases hi : i.toNat < x.regs.length
  · rw [show x.regs.getD i.toNat 0 = x.regs[i.toNat] from by simp [List.getD, List.getElem?_eq_getElem hi]]
    exact h.2 _ (List.getElem_mem hi)
  · rw [show x.regs.getD i.toNat 0 = 0 from by simp [List.getD, List.getElem?_eq_none (Nat.le_of_not_lt hi)]]
    omega
theorem RegsOk.set {x : TS} (h : RegsOk x) (i v : Int) (h0 : 0 ≤ v) (h1 : v ≤ 65535) : RegsOk (setReg x i v) := by
  refine ⟨by simp [setReg, h.1], fun u hu => ?_⟩
  rcases List.mem_or_eq_of_mem_set hu with h2 | h2
  · exact h.2 u h2
  · omega

/-- A step that touches registers, place and fuel alone. -/
structure Same0 (x x' : TS) : Prop where
  code : x'.code = x.code
  valid : x'.valid = x.valid
  reads : x'.reads = x.reads
  writes : x'.writes = x.writes
  held : x'.held = x.held
  gate : x'.inGate = x.inGate
  regs : RegsOk x → RegsOk x'

theorem mod_reg {v : Int} (h : 0 ≤ v) : 0 ≤ v.tmod 65536 ∧ v.tmod 65536 ≤ 65535 :=
  ⟨Int.tmod_nonneg _ h, by have := Int.tmod_lt_of_pos v (b := 65536) (by omega); omega⟩

theorem iStep_cases (c : Cfg) (W : Int → Int) (r : Int) (x : TS) :
    (∃ (e : Int) (x' : TS), iStep c W r x = (e, r, x', []) ∧ 0 ≤ e ∧ e ≤ 4 ∧ Same0 x x') ∨
    (iStep c W r x = iRead c W r { x with begun := x.begun + 1, place := x.place + 1 } (insAt x.code x.place)) ∨
    (iStep c W r x = iWrite c r { x with begun := x.begun + 1, place := x.place + 1 } (insAt x.code x.place)) := by
  unfold iStep
  by_cases h1 : x.place = x.code.length
  · rw [if_pos h1]
    exact Or.inl ⟨_, _, rfl, by decide, by decide, ⟨rfl, rfl, rfl, rfl, rfl, rfl, id⟩⟩
  rw [if_neg h1]
  by_cases h2 : (x.begun : Int) = c.f
  · rw [if_pos h2]
    exact Or.inl ⟨_, _, rfl, by decide, by decide, ⟨rfl, rfl, rfl, rfl, rfl, rfl, id⟩⟩
  rw [if_neg h2]
  simp only
  generalize insAt x.code x.place = i at *
  obtain ⟨x2, hx2⟩ : ∃ x2 : TS, x2 = { x with begun := x.begun + 1, place := x.place + 1 } := ⟨_, rfl⟩
  have hs : Same0 x x2 := by rw [hx2]; exact ⟨rfl, rfl, rfl, rfl, rfl, rfl, id⟩
  rw [← hx2]
  cases h3 : formedB i x.code.length with
  | false =>
    rw [if_pos rfl]
    exact Or.inl ⟨_, _, rfl, by decide, by decide, ⟨rfl, rfl, rfl, rfl, rfl, rfl, id⟩⟩
  | true =>
    rw [if_neg (by decide)]
    by_cases o0 : i.op = 0
    · rw [if_pos o0]
      exact Or.inl ⟨_, _, rfl, by decide, by decide, hs⟩
    rw [if_neg o0]
    by_cases o1 : i.op = 1
    · rw [if_pos o1]
      exact Or.inl ⟨_, _, rfl, by decide, by decide, hs⟩
    rw [if_neg o1]
    by_cases o2 : i.op = 2
    · rw [if_pos o2]
      refine Or.inl ⟨_, _, rfl, by decide, by decide, ⟨hs.code, hs.valid, hs.reads, hs.writes, hs.held, hs.gate, fun h => (hs.regs h).set _ _ ?_ ?_⟩⟩
      all_goals
        simp [formedB, o2, inB] at h3
        omega
    rw [if_neg o2]
    by_cases o3 : i.op = 3
    · rw [if_pos o3]
      exact Or.inl ⟨_, _, rfl, by decide, by decide, ⟨hs.code, hs.valid, hs.reads, hs.writes, hs.held, hs.gate, fun h => (hs.regs h).set _ _ (mod_reg (by have := (hs.regs h).of i.b; have := (hs.regs h).of i.c; omega)).1 (mod_reg (by have := (hs.regs h).of i.b; have := (hs.regs h).of i.c; omega)).2⟩⟩
    rw [if_neg o3]
    by_cases o4 : i.op = 4
    · rw [if_pos o4]
      exact Or.inl ⟨_, _, rfl, by decide, by decide, ⟨hs.code, hs.valid, hs.reads, hs.writes, hs.held, hs.gate, fun h => (hs.regs h).set _ _ (mod_reg (by have := (hs.regs h).of i.b; have := (hs.regs h).of i.c; omega)).1 (mod_reg (by have := (hs.regs h).of i.b; have := (hs.regs h).of i.c; omega)).2⟩⟩
    rw [if_neg o4]
    by_cases o5 : i.op = 5
    · rw [if_pos o5]
      exact Or.inl ⟨_, _, rfl, by decide, by decide, ⟨rfl, rfl, rfl, rfl, rfl, rfl, id⟩⟩
    rw [if_neg o5]
    by_cases o6 : i.op = 6
    · rw [if_pos o6]
      refine Or.inl ⟨_, _, rfl, by decide, by decide, ?_⟩
      split
      · exact ⟨rfl, rfl, rfl, rfl, rfl, rfl, id⟩
      · exact hs
    rw [if_neg o6]
    by_cases o7 : i.op = 7
    · rw [if_pos o7]
      exact Or.inr (Or.inl rfl)
    · rw [if_neg o7]
      exact Or.inr (Or.inr rfl)

theorem iStep_same (c : Cfg) (W : Int → Int) (r : Int) (x : TS) (hr : r = 0 ∨ r = 1) : ((iStep c W r x).2.1 = 0 ∨ (iStep c W r x).2.1 = 1) ∧ (iStep c W r x).2.2.1.valid = x.valid ∧ (iStep c W r x).2.2.1.code = x.code ∧ 0 ≤ (iStep c W r x).1 ∧ (iStep c W r x).1 ≤ 4 := by
  rcases iStep_cases c W r x with ⟨e, x', h, h0, h4, hs⟩ | h | h
  · rw [h]
    exact ⟨hr, hs.valid, hs.code, h0, h4⟩
  · rw [h]
    unfold iRead
    split
    · exact ⟨hr, rfl, rfl, by simp, by simp⟩
    · refine ⟨hr, ?_⟩
      have := xRead_same c { x with begun := x.begun + 1, place := x.place + 1 } (regOf { x with begun := x.begun + 1, place := x.place + 1 } (insAt x.code x.place).b)
      exact ⟨this.1, this.2.1, by simp, by simp⟩
  · rw [h]
    unfold iWrite
    split
    · exact ⟨hr, rfl, rfl, by simp, by simp⟩
    · simp only
      split
      · obtain ⟨a, b, d⟩ := iWrote_same c r { x with begun := x.begun + 1, place := x.place + 1 } (insAt x.code x.place) (regOf { x with begun := x.begun + 1, place := x.place + 1 } (insAt x.code x.place).a) true hr
        exact ⟨a, b, d, by simp, by simp⟩
      · obtain ⟨a, b, d⟩ := iWrote_same c r { x with begun := x.begun + 1, place := x.place + 1, held := x.held ++ [(regOf { x with begun := x.begun + 1, place := x.place + 1 } (insAt x.code x.place).a).tmod c.s] } (insAt x.code x.place) (regOf { x with begun := x.begun + 1, place := x.place + 1 } (insAt x.code x.place).a) false hr
        exact ⟨a, b, d, by simp, by simp⟩

def iSteps (c : Cfg) (W : Int → Int) : Nat → Int → TS → Int × Int × TS × Tr
  | 0, r, x => (0, r, x, [])
  | n + 1, r, x => let t := iStep c W r x
    if t.1 = 0 then (let u := iSteps c W n t.2.1 t.2.2.1; (u.1, u.2.1, u.2.2.1, t.2.2.2 ++ u.2.2.2)) else t

theorem mSteps_did (E : Env) (hme : E.me = 0) (W : Int → Int) : ∀ (n : Nat) (s : LS) (x : TS) (r : Int), s.over = false → s.pos ≤ E.seen.length → s.rank = r → (r = 0 ∨ r = 1) → x.valid = 0 → Agrees E s.pos (iSteps E.c W n r x).2.2.2 →
    Did E s (iSteps E.c W n r x).2.2.2 (iSteps E.c W n r x).1 (iSteps E.c W n r x).2.1 (iSteps E.c W n r x).2.2.1 (mSteps E n s x)
  | 0, s, x, r, ho, hp, hr, hr1, hv, ha => Did.nil ho hp hr
  | n + 1, s, x, r, ho, hp, hr, hr1, hv, ha => by
    rw [iSteps] at ha ⊢
    rw [mSteps]
    simp only at ha ⊢
    by_cases hz : (iStep E.c W r x).1 = 0
    · rw [if_pos hz] at ha ⊢
      simp only at ha ⊢
      have hd := mStep_did E hme W s x r ho hp hr hr1 hv ha.left
      obtain ⟨k1, k2, k3, _, _⟩ := iStep_same E.c W r x hr1
      generalize mStep E s x = t at *
      generalize iStep E.c W r x = u at *
      by_cases hl : s.pos + u.2.2.2.length ≤ E.seen.length
      · obtain ⟨a1, a2, a3⟩ := hd.live hl
        obtain ⟨b1, b2⟩ := hd.fed.live hl
        rw [if_pos (a1.trans hz), a2]
        have ih := mSteps_did E hme W n t.2.1 u.2.2.1 u.2.1 b1 (by omega) a3 k1 (k2.trans hv) (by rw [b2]; exact ha.right)
        refine ⟨Fed.trans hp hd.fed (fun _ _ _ => ih.fed) ⟨ih.fed.ends, fun o => by rw [b1] at o; cases o⟩, fun h => ih.live ?_, fun h => ih.dead ?_⟩
        · rw [List.length_append] at h; omega
        · rw [List.length_append] at h; omega
      · have a1 := hd.dead (by omega)
        obtain ⟨b1, b2⟩ := hd.fed.dead (by omega)
        rw [if_neg (by rw [a1]; decide)]
        refine ⟨Fed.trans hp hd.fed (fun o => by rw [b1] at o; cases o) (Stay.refl _), fun h => by rw [List.length_append] at h; omega, fun _ => a1⟩
    · rw [if_neg hz] at ha ⊢
      have hd := mStep_did E hme W s x r ho hp hr hr1 hv ha
      generalize mStep E s x = t at *
      generalize iStep E.c W r x = u at *
      rw [if_neg]
      · exact hd
      · by_cases hl : s.pos + u.2.2.2.length ≤ E.seen.length
        · rw [(hd.live hl).1]; exact hz
        · rw [hd.dead (by omega)]; decide

theorem iSteps_same (c : Cfg) (W : Int → Int) : ∀ (n : Nat) (r : Int) (x : TS), (r = 0 ∨ r = 1) → ((iSteps c W n r x).2.1 = 0 ∨ (iSteps c W n r x).2.1 = 1) ∧ (iSteps c W n r x).2.2.1.valid = x.valid ∧ (iSteps c W n r x).2.2.1.code = x.code ∧ 0 ≤ (iSteps c W n r x).1 ∧ (iSteps c W n r x).1 ≤ 4
  | 0, r, x, hr => ⟨hr, rfl, rfl, by simp [iSteps], by simp [iSteps]⟩
  | n + 1, r, x, hr => by
    obtain ⟨k1, k2, k3, k4, k5⟩ := iStep_same c W r x hr
    rw [iSteps]
    simp only
    split
    · obtain ⟨j1, j2, j3, j4, j5⟩ := iSteps_same c W n _ (iStep c W r x).2.2.1 k1
      exact ⟨j1, j2.trans k2, j3.trans k3, j4, j5⟩
    · exact ⟨k1, k2, k3, k4, k5⟩

theorem ask_rank (E : Env) (s : LS) (q : AskD) : (mAsk E s q).2.rank = s.rank := by unfold mAsk; split; rfl; split <;> rfl
theorem fold_rank {α : Type} (E : Env) (q : α → AskD) : ∀ (l : List α) (s : LS), (l.foldl (fun s h => (mAsk E s (q h)).2) s).rank = s.rank
  | [], s => rfl
  | a :: r, s => (fold_rank E q r _).trans (ask_rank E s (q a))

def tShut (x : TS) : Tr := x.held.map fun h => (sto (3 + h) (-1), 0)
def tPut (c : Cfg) (W : Int → Int) (x : TS) : Tr := x.writes.map fun e => (sto (kWord c e.what) e.val, W e.what)
def tOpen (c : Cfg) (l : List Int) : Tr := l.flatMap fun h => [(sto (3 + h) 1, -1), (sto (3 + c.s + h) 0, 1)]
def tFree (c : Cfg) (x : TS) : Tr := x.held.map fun h => (sto (3 + c.s + h) 0, 1)
def tCommit (c : Cfg) (W : Int → Int) (r : Int) (x : TS) : Tr := [(ld (kStat c), 8 * r), (⟨3, 2, 0, 1⟩, 0), (ld 0, 0)] ++ (tShut x ++ ([(sto 0 1, 0)] ++ ([(sto 2 0, 1)] ++ (tPut c W x ++ tOpen c x.held))))

theorem open_fed (E : Env) : ∀ (l : List Int) (s : LS), s.over = false → s.pos ≤ E.seen.length → Fed E s (l.foldl (fun s h => (mStore E (mStore E s (cVersion E h) (0 + 1)).2 (cOwner E h) 0).2) s) (tOpen E.c l)
  | [], s, ho, hp => Fed.nil ho hp
  | h :: r, s, ho, hp => by
    have st : ∀ (l : List Int) (s : LS), Stay s (l.foldl (fun s h => (mStore E (mStore E s (cVersion E h) (0 + 1)).2 (cOwner E h) 0).2) s) := fun l => by
      induction l with
      | nil => exact fun s => Stay.refl s
      | cons a l ih => exact fun s => ((Stay.ask E s _).trans (Stay.ask E _ _)).trans (ih _)
    have e : tOpen E.c (h :: r) = [(sto (3 + h) 1, -1)] ++ ([(sto (3 + E.c.s + h) 0, 1)] ++ tOpen E.c r) := rfl
    rw [e]
    refine Fed.trans hp (Fed.ask (sto (3 + h) 1) (-1) ho hp) (fun o1 _ p1 => ?_) ?_
    · refine Fed.trans p1 (Fed.ask (sto (3 + E.c.s + h) 0) 1 o1 p1) (fun o2 _ p2 => open_fed E r _ o2 p2) (st r _)
    · exact (Stay.ask E _ _).trans (st r _)
theorem open_stay (E : Env) : ∀ (l : List Int) (s : LS), Stay s (l.foldl (fun s h => (mStore E (mStore E s (cVersion E h) (0 + 1)).2 (cOwner E h) 0).2) s)
  | [], s => Stay.refl s
  | a :: l, s => ((Stay.ask E s _).trans (Stay.ask E _ _)).trans (open_stay E l _)
theorem open_rank (E : Env) : ∀ (l : List Int) (s : LS), (l.foldl (fun s h => (mStore E (mStore E s (cVersion E h) (0 + 1)).2 (cOwner E h) 0).2) s).rank = s.rank
  | [], s => rfl
  | a :: l, s => (open_rank E l _).trans ((ask_rank E _ _).trans (ask_rank E s _))

theorem mGate_over (E : Env) (n : Nat) (s : LS) (x : TS) (h : s.over = true) : mGate E n s x = (s, x) := by
  cases n with
  | zero => rfl
  | succ n => simp [mGate, h]
theorem mGate_in (E : Env) (n : Nat) (s : LS) (x : TS) (h : x.inGate = true) : mGate E n s x = (s, x) := by
  cases n with
  | zero => rfl
  | succ n => simp [mGate, h]

/-- What became of the end of an attempt: a break is told later. -/
structure Shut (E : Env) (s : LS) (T : Tr) (e : Int) (x : TS) (out : Int × LS × TS) : Prop where
  fed : Fed E s out.2.1 T
  live : s.pos + T.length ≤ E.seen.length → out.1 = e ∧ out.2.2.regs = x.regs ∧ out.2.1.rank = s.rank
  dead : out.1 ≠ 5

/-- behind the load of the clock -/
def mCommitR (E : Env) (s : LS) (x : TS) : Int × LS × TS :=
  let s1 := x.held.foldl (fun s h => (mStore E s (cVersion E h) (-1)).2) s
  let q3 := mStore E s1 0 (0 + 1)
  if q3.2.over then (-1, q3.2, x) else
    let s2 := { q3.2 with list := modLast q3.2.list fun a => { a with stamp := 0 + 1 } }
    let s3 := (mStore E s2 2 0).2
    let s4 := x.writes.foldl (fun s e => (mStore E s (cWord E e.what) e.val).2) s3
    let s5 := x.held.foldl (fun s h => (mStore E (mStore E s (cVersion E h) (0 + 1)).2 (cOwner E h) 0).2) s4
    (1, s5, x)

theorem mCommitR_did (E : Env) (W : Int → Int) (s : LS) (x : TS) (ho : s.over = false) (hp : s.pos ≤ E.seen.length) :
    Shut E s (tShut x ++ ([(sto 0 1, 0)] ++ ([(sto 2 0, 1)] ++ (tPut E.c W x ++ tOpen E.c x.held)))) 1 x (mCommitR E s x) := by
  unfold mCommitR
  simp only
  have f1 : Fed E s (x.held.foldl (fun s h => (mStore E s (cVersion E h) (-1)).2) s) (tShut x) := Fed.fold (fun h : Int => sto (3 + h) (-1)) (fun _ => 0) x.held s ho hp
  have r1 : (x.held.foldl (fun s h => (mStore E s (cVersion E h) (-1)).2) s).rank = s.rank := fold_rank E (fun h : Int => sto (3 + h) (-1)) x.held s
  generalize x.held.foldl (fun s h => (mStore E s (cVersion E h) (-1)).2) s = s1 at *
  have d3 : Stay s1 (mStore E s1 0 (0 + 1)).2 := Stay.ask E s1 _
  have r3 : (mStore E s1 0 (0 + 1)).2.rank = s1.rank := ask_rank E s1 _
  have f3 : s1.over = false → s1.pos ≤ E.seen.length → Fed E s1 (mStore E s1 0 (0 + 1)).2 [(sto 0 1, 0)] := fun o p => Fed.ask (sto 0 1) 0 o p
  generalize mStore E s1 0 (0 + 1) = q3 at *
  by_cases o3 : q3.2.over = true
  · rw [if_pos o3]
    have k : Fed E s q3.2 (tShut x ++ [(sto 0 1, 0)]) := Fed.trans hp f1 (fun o _ p => f3 o p) d3
    have k2 : Fed E s q3.2 ((tShut x ++ [(sto 0 1, 0)]) ++ ([(sto 2 0, 1)] ++ (tPut E.c W x ++ tOpen E.c x.held))) := Fed.trans hp k (fun o _ _ => by rw [o3] at o; cases o) (Stay.refl _)
    rw [List.append_assoc] at k2
    refine ⟨k2, fun h => ?_, by simp⟩
    have := (k2.live h).1
    rw [o3] at this
    cases this
  · rw [if_neg o3]
    replace o3 : q3.2.over = false := by simpa using o3
    obtain ⟨s2, hs2⟩ : ∃ s2 : LS, s2 = ⟨q3.2.pos, q3.2.over, q3.2.next, q3.2.rank, q3.2.fails, modLast q3.2.list fun a => { a with stamp := 0 + 1 }, q3.2.ends⟩ := ⟨_, rfl⟩
    have e2 : s2.over = q3.2.over ∧ s2.pos = q3.2.pos ∧ s2.ends = q3.2.ends ∧ s2.next = q3.2.next ∧ s2.rank = q3.2.rank := by rw [hs2]; exact ⟨rfl, rfl, rfl, rfl, rfl⟩
    have h0 : mStore E ⟨q3.2.pos, q3.2.over, q3.2.next, q3.2.rank, q3.2.fails, modLast q3.2.list fun a => { a with stamp := 0 + 1 }, q3.2.ends⟩ 2 0 = mStore E s2 2 0 := by rw [hs2]
    rw [h0]
    clear h0 hs2
    obtain ⟨e2a, e2b, e2c, e2d, e2e⟩ := e2
    have f4 : s2.over = false → s2.pos ≤ E.seen.length → Fed E s2 (mStore E s2 2 0).2 [(sto 2 0, 1)] := fun o p => Fed.ask (sto 2 0) 1 o p
    have d4 : Stay s2 (mStore E s2 2 0).2 := Stay.ask E s2 _
    have r4 : (mStore E s2 2 0).2.rank = s2.rank := ask_rank E s2 _
    generalize (mStore E s2 2 0).2 = s3 at *
    have f5 : s3.over = false → s3.pos ≤ E.seen.length → Fed E s3 (x.writes.foldl (fun s e => (mStore E s (cWord E e.what) e.val).2) s3) (tPut E.c W x) := fun o p => Fed.fold (fun e : EntD => sto (kWord E.c e.what) e.val) (fun e => W e.what) x.writes s3 o p
    have d5 : Stay s3 (x.writes.foldl (fun s e => (mStore E s (cWord E e.what) e.val).2) s3) := Stay.fold E (fun e : EntD => sto (kWord E.c e.what) e.val) x.writes s3
    have r5 : (x.writes.foldl (fun s e => (mStore E s (cWord E e.what) e.val).2) s3).rank = s3.rank := fold_rank E (fun e : EntD => sto (kWord E.c e.what) e.val) x.writes s3
    generalize x.writes.foldl (fun s e => (mStore E s (cWord E e.what) e.val).2) s3 = s4 at *
    have f6 := open_fed E x.held s4
    have d6 := open_stay E x.held s4
    have r6 := open_rank E x.held s4
    generalize x.held.foldl (fun s h => (mStore E (mStore E s (cVersion E h) (0 + 1)).2 (cOwner E h) 0).2) s4 = s5 at *
    refine ⟨Fed.trans hp f1 (fun o1 _ p1 => Fed.trans p1 (f3 o1 p1) (fun o2 _ p2 => ?_) ?_) ?_, fun _ => ⟨rfl, rfl, by rw [r6, r5, r4, e2e, r3, r1]⟩, by simp⟩
    · have k : Fed E s2 s5 ([(sto 2 0, 1)] ++ (tPut E.c W x ++ tOpen E.c x.held)) := Fed.trans (by rw [e2b]; exact p2) (f4 (e2a.trans o2) (by rw [e2b]; exact p2)) (fun o _ p => Fed.trans p (f5 o p) (fun o _ p => f6 o p) d6) (d5.trans d6)
      exact ⟨k.ends.trans e2c, by rw [← e2b]; exact k.live, by rw [← e2b]; exact k.dead⟩
    · have k := d4.trans (d5.trans d6)
      exact ⟨k.ends.trans e2c, fun o => by rw [o3] at o; cases o⟩
    · have k := d4.trans (d5.trans d6)
      refine d3.trans ⟨k.ends.trans e2c, fun o => by rw [o3] at o; cases o⟩

theorem mCommit_did (E : Env) (hme : E.me = 0) (W : Int → Int) (s : LS) (x : TS) (r : Int) (ho : s.over = false) (hp : s.pos ≤ E.seen.length) (hr : r = 0 ∨ r = 1) (hv : x.valid = 0) (hg : x.inGate = false) (ha : Agrees E s.pos (tCommit E.c W r x)) :
    Shut E s (tCommit E.c W r x) 1 x (mCommit E s x) := by
  have hf1 : ∀ s', mLoad E s' (cStatus E E.me) = mAsk E s' (ld (kStat E.c)) := fun s' => by rw [hme]; rfl
  have hf2 : ∀ s', mAsk E s' ⟨3, 2, 0, E.me + 1⟩ = mAsk E s' ⟨3, 2, 0, 1⟩ := fun s' => by rw [hme]; rfl
  have hf3 : ∀ s', mLoad E s' 0 = mAsk E s' (ld 0) := fun _ => rfl
  have hr8 : ¬ 0 < (8 * r).tmod 8 := by rcases hr with rfl | rfl <;> decide
  have ha3 : Agrees E s.pos [(ld (kStat E.c), 8 * r), (⟨3, 2, 0, 1⟩, 0), (ld 0, 0)] := ha.left
  have hlen : (tCommit E.c W r x).length = 3 + (tShut x ++ ([(sto 0 1, 0)] ++ ([(sto 2 0, 1)] ++ (tPut E.c W x ++ tOpen E.c x.held)))).length := by unfold tCommit; rw [List.length_append]; rfl
  have early : ∀ (k : Nat) (q : AskD) (y : TS), k < 3 → E.seen.length = s.pos + k → (([(ld (kStat E.c), 8 * r), (⟨3, 2, 0, 1⟩, 0), (ld 0, 0)] : Tr).getD k nilAsk).1 = q → Shut E s (tCommit E.c W r x) 1 x (-1, brk s k q, y) := fun k q y hk hl hq => by
    refine ⟨fed_brk (by rw [hlen]; omega) hl ?_, fun h => by rw [hlen] at h; omega, by simp⟩
    unfold tCommit
    rw [getD_left (by simpa using hk)]
    exact hq
  rw [show mCommit E s x = mCommit E (adv s 0) x from rfl, mCommit]
  simp only [hf1, hf3]
  by_cases h0 : E.seen.length ≤ s.pos + 0
  · simp only [ask_brk ho h0, brk_over, Bool.true_eq_false, false_and, if_false, mGate_over E _ _ _ (brk_over _ _ _), ask_dead, if_true]
    exact early 0 _ _ (by omega) (by omega) rfl
  · simp only [ask_adv ho ha3 h0, adv_over, ho, true_and, hr8, if_false]
    have hg1 : ∀ n, mGate E (n + 1) (adv s (0 + 1)) x = mGate E n (mAsk E (adv s (0 + 1)) ⟨3, 2, 0, 1⟩).2 { x with inGate := (mAsk E (adv s (0 + 1)) ⟨3, 2, 0, 1⟩).1 == 0 } := fun n => by
      rw [mGate]
      simp only [adv_over, ho, hg, hf2]
      rw [if_neg (by simp)]
    rw [show loopFuel E (adv s (0 + 1)) = (E.seen.length - (adv s (0 + 1)).pos + 1) + 1 from rfl]
    rw [hg1]
    by_cases h1 : E.seen.length ≤ s.pos + (0 + 1)
    · simp only [ask_brk ho h1, mGate_over E _ _ _ (brk_over _ _ _), ask_dead, brk_over, if_true]
      exact early 1 _ _ (by omega) (by omega) rfl
    · simp only [ask_adv ho ha3.tail h1]
      rw [mGate_in E _ _ _ (by rfl)]
      simp only
      by_cases h2 : E.seen.length ≤ s.pos + (0 + 1 + 1)
      · simp only [ask_brk ho h2, brk_over, if_true]
        exact early 2 _ _ (by omega) (by omega) rfl
      · simp only [ask_adv ho ha3.tail.tail h2, adv_over, ho, Bool.false_eq_true, if_false]
        rw [if_neg (show ¬ ((0 : Int) ≠ x.valid) by simp [hv])]
        simp only [ne_eq, not_true_eq_false, if_false]
        have hd := mCommitR_did E W (adv s 3) { x with inGate := (0 : Int) == 0 } ho (by show s.pos + 3 ≤ _; omega)
        have e3 : Fed E s (adv s 3) [(ld (kStat E.c), 8 * r), (⟨3, 2, 0, 1⟩, 0), (ld 0, 0)] := fed_adv ho rfl (by omega)
        have hfin : Shut E s (tCommit E.c W r x) 1 x (mCommitR E (adv s 3) { x with inGate := (0 : Int) == 0 }) := by
          refine ⟨Fed.trans hp e3 (fun _ _ _ => hd.fed) ⟨hd.fed.ends, fun o => by rw [adv_over, ho] at o; cases o⟩, fun h => ?_, hd.dead⟩
          rw [hlen] at h
          exact hd.live (show s.pos + 3 + (tShut x ++ ([(sto 0 1, 0)] ++ ([(sto 2 0, 1)] ++ (tPut E.c W x ++ tOpen E.c x.held)))).length ≤ E.seen.length from by omega)
        exact hfin

def tClose (c : Cfg) (W : Int → Int) (e r : Int) (x : TS) : Tr := if e = 1 ∧ x.held ≠ [] then tCommit c W r x else tFree c x

theorem mClose_did (E : Env) (hme : E.me = 0) (W : Int → Int) (s : LS) (x : TS) (e r : Int) (ho : s.over = false) (hp : s.pos ≤ E.seen.length) (hr : r = 0 ∨ r = 1) (hv : x.valid = 0) (hg : x.inGate = false) (he : e ≠ 5) (ha : Agrees E s.pos (tClose E.c W e r x)) :
    Shut E s (tClose E.c W e r x) e x (mClose E e s x) := by
  unfold tClose mClose at *
  by_cases h : e = 1 ∧ x.held ≠ []
  · rw [if_pos h] at ha ⊢
    rw [if_pos h]
    have := mCommit_did E hme W s x r ho hp hr hv hg ha
    rw [h.1]
    exact this
  · rw [if_neg h, if_neg h, if_pos he]
    exact ⟨Fed.fold (fun h : Int => sto (3 + E.c.s + h) 0) (fun _ => 1) x.held s ho hp, fun _ => ⟨rfl, rfl, fold_rank E (fun h : Int => sto (3 + E.c.s + h) 0) x.held s⟩, he⟩

/-- The one job: its fate, its rank, the attempt, what it asks and sees. -/
def iRun (c : Cfg) (W : Int → Int) (code : List InsD) : Int × Int × TS × Tr := iSteps c W (c.f.toNat + 2) 0 (newTS code 0)
def iJob (c : Cfg) (W : Int → Int) (code : List InsD) : Tr :=
  [(ld 0, 0)] ++ ((iRun c W code).2.2.2 ++ (tClose c W (iRun c W code).1 (iRun c W code).2.1 (iRun c W code).2.2.1 ++ [(sto (kStat c) 0, 8 * (iRun c W code).2.1)]))
def resOf (e : Int) (x : TS) : ResD := ⟨e, regOf x 0, regOf x 1, regOf x 2, regOf x 3⟩

theorem iStep_gate (c : Cfg) (W : Int → Int) (r : Int) (x : TS) : (iStep c W r x).2.2.1.inGate = x.inGate := by
  rcases iStep_cases c W r x with ⟨e, x', h, h0, h4, hs⟩ | h | h
  · rw [h]
    exact hs.gate
  · rw [h]
    unfold iRead
    split
    · rfl
    · exact (xRead_same c _ _).2.2.2.2.2.2.2
  · rw [h]
    unfold iWrite iWrote
    split
    · rfl
    · simp only
      split
      · split <;> rfl
      · split <;> rfl
theorem iSteps_gate (c : Cfg) (W : Int → Int) : ∀ (n : Nat) (r : Int) (x : TS), (iSteps c W n r x).2.2.1.inGate = x.inGate
  | 0, r, x => rfl
  | n + 1, r, x => by
    rw [iSteps]
    simp only
    split
    · exact (iSteps_gate c W n _ _).trans (iStep_gate c W r x)
    · exact iStep_gate c W r x

theorem getD_one {α : Type} {q : α} {T : List α} {d : α} {i : Nat} (h : 0 < i) : ([q] ++ T).getD i d = T.getD (i - 1) d := getD_right (T := [q]) h

theorem regOf_congr {x y : TS} (h : x.regs = y.regs) (i : Int) : regOf x i = regOf y i := by unfold regOf; rw [h]

theorem mAttempt_did (E : Env) (hme : E.me = 0) (code : List InsD) (hj : E.jobs = [(0, code)]) (W : Int → Int) (s : LS) (ho : s.over = false) (hp : s.pos ≤ E.seen.length) (hr : s.rank = 0) (ha : Agrees E s.pos (iJob E.c W code)) :
    (s.pos + (iJob E.c W code).length ≤ E.seen.length → (mAttempt E s 0).1 = (iRun E.c W code).1 ∧ (mAttempt E s 0).2.over = false ∧ (mAttempt E s 0).2.pos = s.pos + (iJob E.c W code).length ∧ (mAttempt E s 0).2.ends = s.ends.set 0 (resOf (iRun E.c W code).1 (iRun E.c W code).2.2.1)) ∧
    (E.seen.length < s.pos + (iJob E.c W code).length → (mAttempt E s 0).1 = -1 ∧ (mAttempt E s 0).2.over = true ∧ (mAttempt E s 0).2.next = ((iJob E.c W code).getD (E.seen.length - s.pos) nilAsk).1 ∧ (mAttempt E s 0).2.ends = s.ends) := by
  have hf : ∀ s', mLoad E s' 0 = mAsk E s' (ld 0) := fun _ => rfl
  obtain ⟨T, hT⟩ : ∃ T, T = iJob E.c W code := ⟨_, rfl⟩
  have hT2 : T = [(ld 0, 0)] ++ ((iRun E.c W code).2.2.2 ++ (tClose E.c W (iRun E.c W code).1 (iRun E.c W code).2.1 (iRun E.c W code).2.2.1 ++ [(sto (kStat E.c) 0, 8 * (iRun E.c W code).2.1)])) := hT
  rw [← hT] at ha ⊢
  -- it is enough to tell what was fed up to the end
  have hu : mAttempt E s 0 = mAttempt E (adv s 0) 0 := rfl
  rw [hu, mAttempt]
  simp only [hf]
  by_cases h0 : E.seen.length ≤ s.pos + 0
  · simp only [ask_brk ho h0, brk_over, if_true]
    refine ⟨fun h => ?_, fun h => ⟨trivial, trivial, ?_, rfl⟩⟩
    · rw [hT2] at h
      simp at h
      omega
    · rw [hT2, show E.seen.length - s.pos = 0 from by omega]
      rfl
  · have ha0 := ha
    rw [hT2] at ha0
    simp only [ask_adv (T := (iRun E.c W code).2.2.2 ++ (tClose E.c W (iRun E.c W code).1 (iRun E.c W code).2.1 (iRun E.c W code).2.2.1 ++ [(sto (kStat E.c) 0, 8 * (iRun E.c W code).2.1)])) ho ha0 h0, adv_over, ho, Bool.false_eq_true, if_false]
    rw [show (E.jobs.getD 0 (0, [])).2 = code from by rw [hj]; rfl]
    obtain ⟨s1, hs1⟩ : ∃ s1 : LS, s1 = ⟨(adv s (0 + 1)).pos, false, (adv s (0 + 1)).next, (adv s (0 + 1)).rank, (adv s (0 + 1)).fails, (adv s (0 + 1)).list ++ [⟨E.me, (0 : Nat), E.whens.getD ((adv s (0 + 1)).pos - 1) 0, 0, 0, 0, 0, []⟩], (adv s (0 + 1)).ends⟩ := ⟨_, rfl⟩
    rw [← hs1]
    have o1 : s1.over = false := by rw [hs1]
    have p1 : s1.pos = s.pos + 1 := by rw [hs1]; rfl
    have n1 : s1.ends = s.ends := by rw [hs1]; rfl
    have r1 : s1.rank = 0 := by rw [hs1]; exact hr
    clear hs1
    have ha1 : Agrees E s1.pos ((iRun E.c W code).2.2.2 ++ (tClose E.c W (iRun E.c W code).1 (iRun E.c W code).2.1 (iRun E.c W code).2.2.1 ++ [(sto (kStat E.c) 0, 8 * (iRun E.c W code).2.1)])) := by rw [p1]; exact ha0.right
    have hd := mSteps_did E hme W (E.c.f.toNat + 2) s1 (newTS code 0) 0 o1 (by omega) r1 (Or.inl rfl) rfl ha1.left
    have hsm := iSteps_same E.c W (E.c.f.toNat + 2) 0 (newTS code 0) (Or.inl rfl)
    have hgt : (iRun E.c W code).2.2.1.inGate = false := iSteps_gate E.c W (E.c.f.toNat + 2) 0 (newTS code 0)
    rw [show iSteps E.c W (E.c.f.toNat + 2) 0 (newTS code 0) = iRun E.c W code from rfl] at hd hsm
    generalize iRun E.c W code = u at *
    generalize mSteps E (E.c.f.toNat + 2) s1 (newTS code 0) = t at *
    obtain ⟨k1, k2, k3, k4, k5⟩ := hsm
    have hl1 : T.length = 1 + (u.2.2.2.length + ((tClose E.c W u.1 u.2.1 u.2.2.1).length + 1)) := by rw [hT2]; simp; omega
    by_cases hl : s1.pos + u.2.2.2.length ≤ E.seen.length
    · obtain ⟨a1, a2, a3⟩ := hd.live hl
      obtain ⟨b1, b2⟩ := hd.fed.live hl
      rw [if_neg (by rw [a1]; omega)]
      rw [a1, a2]
      have ha2 : Agrees E t.2.1.pos (tClose E.c W u.1 u.2.1 u.2.2.1 ++ [(sto (kStat E.c) 0, 8 * u.2.1)]) := by rw [b2]; exact ha1.right
      have hc := mClose_did E hme W t.2.1 u.2.2.1 u.1 u.2.1 b1 (by omega) k1 k2 hgt (by omega) ha2.left
      generalize mClose E u.1 t.2.1 u.2.2.1 = v at *
      rw [if_neg hc.dead]
      have hq : mStore E v.2.1 (cStatus E E.me) 0 = mAsk E v.2.1 (sto (kStat E.c) 0) := by rw [hme]; rfl
      rw [hq]
      have hfe : Fed E t.2.1 (mAsk E v.2.1 (sto (kStat E.c) 0)).2 (tClose E.c W u.1 u.2.1 u.2.2.1 ++ [(sto (kStat E.c) 0, 8 * u.2.1)]) := Fed.trans (by omega) hc.fed (fun o _ p => Fed.ask _ _ o p) (Stay.ask E _ _)
      have hst : Stay v.2.1 (mAsk E v.2.1 (sto (kStat E.c) 0)).2 := Stay.ask E _ _
      have hfs : Fed E s1 (mAsk E v.2.1 (sto (kStat E.c) 0)).2 (u.2.2.2 ++ (tClose E.c W u.1 u.2.1 u.2.2.1 ++ [(sto (kStat E.c) 0, 8 * u.2.1)])) := Fed.trans (by omega) hd.fed (fun _ _ _ => hfe) ⟨hfe.ends, fun o => by rw [b1] at o; cases o⟩
      generalize mAsk E v.2.1 (sto (kStat E.c) 0) = q at *
      by_cases hz : s.pos + T.length ≤ E.seen.length
      · obtain ⟨d1, d2⟩ := hfs.live (by simp; omega)
        rw [if_neg (by simp [d1])]
        refine ⟨fun _ => ⟨?_, ?_, ?_, ?_⟩, fun h => by omega⟩
        · exact (hc.live (by omega)).1
        · exact d1
        · show q.2.pos = _
          rw [d2]
          simp
          omega
        · show q.2.ends.set 0 _ = _
          have e1 := (hc.live (by omega)).1
          have e2 := (hc.live (by omega)).2.1
          rw [hfs.ends, n1, e1, regOf_congr e2, regOf_congr e2, regOf_congr e2, regOf_congr e2]
          rfl
      · obtain ⟨d1, d2⟩ := hfs.dead (by simp; omega)
        rw [if_pos d1]
        refine ⟨fun h => by omega, fun _ => ⟨rfl, d1, ?_, hfs.ends.trans n1⟩⟩
        rw [d2, hT2, getD_one (by omega), p1, Nat.sub_add_eq]
    · have a1 := hd.dead (by omega)
      obtain ⟨b1, b2⟩ := hd.fed.dead (by omega)
      rw [if_pos a1]
      refine ⟨fun h => by omega, fun _ => ⟨rfl, b1, ?_, hd.fed.ends.trans n1⟩⟩
      have : E.seen.length - s.pos - 1 < u.2.2.2.length := by omega
      rw [b2, hT2, getD_one (by omega), p1, Nat.sub_add_eq, getD_left this]

theorem mTold_did (E : Env) (hme : E.me = 0) (code : List InsD) (hj : E.jobs = [(0, code)]) (W : Int → Int) (ha : Agrees E 0 (iJob E.c W code)) (hn : E.seen.length ≤ (iJob E.c W code).length) :
    (E.seen.length < (iJob E.c W code).length → (mTold E).next = ((iJob E.c W code).getD E.seen.length nilAsk).1 ∧ (mTold E).ends = [⟨0, 0, 0, 0, 0⟩]) ∧
    (E.seen.length = (iJob E.c W code).length → (mTold E).ends = [resOf (iRun E.c W code).1 (iRun E.c W code).2.2.1]) := by
  have hn0 : newLS E = ⟨0, false, ⟨0, 0, 0, 0⟩, 0, 0, [], [⟨0, 0, 0, 0, 0⟩]⟩ := by unfold newLS; rw [hj]; rfl
  obtain ⟨s0, hs0⟩ : ∃ s0 : LS, s0 = ⟨0, false, ⟨0, 0, 0, 0⟩, 0, 0, [], [⟨0, 0, 0, 0, 0⟩]⟩ := ⟨_, rfl⟩
  have o0 : s0.over = false := by rw [hs0]
  have p0 : s0.pos = 0 := by rw [hs0]
  have r0 : s0.rank = 0 := by rw [hs0]
  have n0 : s0.ends = [⟨0, 0, 0, 0, 0⟩] := by rw [hs0]
  obtain ⟨h1, h2⟩ := mAttempt_did E hme code hj W s0 o0 (by omega) r0 (by rw [p0]; exact ha)
  have hf4 : 0 ≤ (iRun E.c W code).1 ∧ (iRun E.c W code).1 ≤ 4 := (iSteps_same E.c W (E.c.f.toNat + 2) 0 (newTS code 0) (Or.inl rfl)).2.2.2
  rw [p0] at h1 h2
  have hne : (mAttempt E s0 0).1 ≠ 5 := by
    by_cases h : 0 + (iJob E.c W code).length ≤ E.seen.length
    · rw [(h1 h).1]; omega
    · rw [(h2 (by omega)).1]; decide
  have hJ : mJobs E 0 E.jobs s0 = (mAttempt E s0 0).2 := by
    rw [hj]
    simp only [mJobs, hme, if_true]
    have e : ({ s0 with rank := 0, fails := 0 } : LS) = s0 := by rw [hs0]
    rw [e, show loopFuel E s0 = (E.seen.length - s0.pos + 1) + 1 from rfl, mAttempts]
    exact if_neg hne
  have hL : mTold E = mIdle E (loopFuel E (mAttempt E s0 0).2) (mAttempt E s0 0).2 := by
    unfold mTold mLive
    rw [hn0, ← hs0]
    simp only
    rw [hJ]
  rw [hL]
  clear hL hJ hne hn0 hs0
  generalize mAttempt E s0 0 = t at *
  rw [show loopFuel E t.2 = (E.seen.length - t.2.pos + 1) + 1 from rfl]
  refine ⟨fun h => ?_, fun h => ?_⟩
  · obtain ⟨a1, a2, a3, a4⟩ := h2 (by omega)
    rw [mIdle, if_pos a2]
    exact ⟨a3, a4.trans n0⟩
  · obtain ⟨a1, a2, a3, a4⟩ := h1 (by omega)
    rw [mIdle, if_neg (by simp [a2])]
    have hb : (mAsk E t.2 ⟨0, 0, 0, 0⟩) = (0, { t.2 with over := true, next := ⟨0, 0, 0, 0⟩ }) := ask_none a2 (by omega)
    rw [hb]
    have hi : ∀ (n : Nat) (s : LS), s.over = true → mIdle E n s = s := fun n s o => by
      cases n with
      | zero => rfl
      | succ n => simp [mIdle, o]
    rw [hi _ _ rfl]
    show t.2.ends = _
    rw [a4, n0]
    rfl

/-! What the cells hold while one thread goes through its trace. -/

def putV (q : AskD) (v : Int) : Int := if q.kind = 2 then q.to else if q.kind = 4 then v + 1 else if q.kind = 3 then (if v = q.frm then q.to else v) else v
def wr (m : Int → Int) (q : AskD) : Int → Int := fun x => if x = q.cell then putV q (m q.cell) else m x
def after (m : Int → Int) (T : Tr) : Int → Int := T.foldl (fun m q => wr m q.1) m
def Good (c : Cfg) (q : AskD × Int) : Prop := q.1.kind ≠ 0 ∧ 0 ≤ q.1.cell ∧ q.1.cell < 3 + 2 * c.s + c.t + c.wd ∧ -1 ≤ q.2 ∧ q.2 ≤ 65535
def Sees (c : Cfg) (m : Int → Int) : Tr → Prop
  | [] => True
  | q :: T => m q.1.cell = q.2 ∧ Good c q ∧ Sees c (wr m q.1) T

theorem after_append (m : Int → Int) (T U : Tr) : after m (T ++ U) = after (after m T) U := by unfold after; rw [List.foldl_append]
theorem Sees.append {c : Cfg} : ∀ {T U : Tr} {m : Int → Int}, Sees c m T → Sees c (after m T) U → Sees c m (T ++ U)
  | [], U, m, h, k => k
  | q :: T, U, m, h, k => ⟨h.1, h.2.1, Sees.append (T := T) h.2.2 k⟩
theorem Sees.left {c : Cfg} : ∀ {T U : Tr} {m : Int → Int}, Sees c m (T ++ U) → Sees c m T
  | [], U, m, h => trivial
  | q :: T, U, m, h => ⟨h.1, h.2.1, Sees.left (T := T) h.2.2⟩
theorem Sees.right {c : Cfg} : ∀ {T U : Tr} {m : Int → Int}, Sees c m (T ++ U) → Sees c (after m T) U
  | [], U, m, h => h
  | q :: T, U, m, h => Sees.right (T := T) h.2.2

theorem wr_ld (m : Int → Int) (cell : Int) : wr m (ld cell) = m := by
  funext x
  unfold wr ld putV
  simp only
  split
  · rename_i h
    rw [h]
    simp
  · rfl
theorem wr_at (m : Int → Int) (q : AskD) : wr m q q.cell = putV q (m q.cell) := by simp [wr]
theorem wr_off {m : Int → Int} {q : AskD} {x : Int} (h : x ≠ q.cell) : wr m q x = m x := by simp [wr, h]

structure Mu (c : Cfg) (W : Int → Int) (held : List Int) (r : Int) (m : Int → Int) : Prop where
  clock : m 0 = 0
  tick : m 1 = r
  gate : m 2 = 0
  ver : ∀ s, 0 ≤ s → s < c.s → m (3 + s) = 0
  own : ∀ s, 0 ≤ s → s < c.s → m (3 + c.s + s) = if s ∈ held then 1 else 0
  stat : m (kStat c) = 8 * r
  word : ∀ a, 0 ≤ a → a < c.wd → m (kWord c a) = W a

structure Xi (c : Cfg) (x : TS) : Prop where
  regs : RegsOk x
  hin : ∀ h ∈ x.held, 0 ≤ h ∧ h < c.s
  hnd : x.held.Nodup
  win : ∀ e ∈ x.writes, 0 ≤ e.what ∧ e.what < c.wd ∧ e.what.tmod c.s ∈ x.held
  wnd : (x.writes.map (·.what)).Nodup
  wval : ∀ e ∈ x.writes, 0 ≤ e.val ∧ e.val ≤ 65535

theorem heldB_iff (x : TS) (st : Int) : heldB x st = true ↔ st ∈ x.held := by
  unfold heldB
  rw [List.any_eq_true]
  constructor
  · rintro ⟨h, hm, he⟩
    simp at he
    rwa [← he]
  · exact fun h => ⟨st, h, by simp⟩

theorem entIdx_some0 {l : List EntD} {a : Int} {k : Nat} (h : entIdx l a = some k) : ∃ e, l[k]? = some e ∧ e.what = a := by
  unfold entIdx at h
  rw [List.findIdx?_eq_some_iff_getElem] at h
  obtain ⟨hk, h1, _⟩ := h
  exact ⟨l[k], List.getElem?_eq_getElem hk, by simpa using h1⟩
theorem entIdx_none0 {l : List EntD} {a : Int} (h : entIdx l a = none) : ∀ e ∈ l, e.what ≠ a := by
  unfold entIdx at h
  rw [List.findIdx?_eq_none_iff] at h
  intro e he
  have := h e he
  simpa using this

theorem vRead_range {c : Cfg} {W : Int → Int} {x : TS} {a : Int} (hX : Xi c x) (hW : 0 ≤ W a ∧ W a ≤ 65535) : 0 ≤ vRead W x a ∧ vRead W x a ≤ 65535 := by
  unfold vRead
  split
  · rename_i k h
    obtain ⟨e, he, _⟩ := entIdx_some0 h
    have : x.writes.getD k ⟨0, 0⟩ = e := by simp [List.getD, he]
    rw [this]
    exact hX.wval e (List.mem_of_getElem? he)
  · exact hW

theorem Xi.same {c : Cfg} {x x' : TS} (h : Xi c x) (s : Same0 x x') : Xi c x' :=
  ⟨s.regs h.regs, by rw [s.held]; exact h.hin, by rw [s.held]; exact h.hnd, by rw [s.held, s.writes]; exact h.win, by rw [s.writes]; exact h.wnd, by rw [s.writes]; exact h.wval⟩
theorem Xi.put {c : Cfg} {x : TS} {a v : Int} (h : Xi c x) (h0 : 0 ≤ a) (h1 : a < c.wd) (hs : a.tmod c.s ∈ x.held) (hv : 0 ≤ v ∧ v ≤ 65535) : Xi c { x with writes := putEnt x.writes a v } := by
  have hw : ((putEnt x.writes a v).map (·.what)).Nodup ∧ ∀ e ∈ putEnt x.writes a v, e ∈ x.writes ∨ e = ⟨a, v⟩ := by
    unfold putEnt
    split
    · rename_i k hk
      obtain ⟨e, he, hea⟩ := entIdx_some0 hk
      refine ⟨?_, fun u hu => List.mem_or_eq_of_mem_set hu⟩
      have : (x.writes.set k ⟨a, v⟩).map (·.what) = x.writes.map (·.what) := by
        rw [List.map_set]
        apply List.ext_getElem?
        intro i
        rw [List.getElem?_set]
        split
        · rename_i hki
          subst hki
          rw [List.getElem?_map, he]
          simp [hea]
          exact (List.getElem?_eq_some_iff.1 he).1
        · rfl
      rw [this]
      exact h.wnd
    · rename_i hk
      refine ⟨?_, fun u hu => by simpa using hu⟩
      rw [List.map_append, List.nodup_append]
      refine ⟨h.wnd, by simp, fun u hu w hw => ?_⟩
      obtain ⟨e, he, rfl⟩ := List.mem_map.1 hu
      simp at hw
      rw [hw]
      exact entIdx_none0 hk e he
  refine ⟨h.regs, h.hin, h.hnd, fun e he => ?_, hw.1, fun e he => ?_⟩
  · rcases hw.2 e he with h2 | h2
    · exact h.win e h2
    · subst h2
      exact ⟨h0, h1, hs⟩
  · rcases hw.2 e he with h2 | h2
    · exact h.wval e h2
    · subst h2
      exact hv

theorem read_mu {c : Cfg} (hs1 : 1 ≤ c.s) (ht1 : 1 ≤ c.t) {W : Int → Int} {x : TS} {r a : Int} {m : Int → Int} (hM : Mu c W x.held r m) (h0 : 0 ≤ a) (h1 : a < c.wd) (hW : 0 ≤ W a ∧ W a ≤ 65535) : Sees c m (tRead c W x a) ∧ after m (tRead c W x a) = m := by
  have hst0 : 0 ≤ a.tmod c.s := Int.tmod_nonneg _ h0
  have hst1 : a.tmod c.s < c.s := Int.tmod_lt_of_pos _ (by omega)
  unfold tRead
  split
  · exact ⟨trivial, rfl⟩
  · split
    · refine ⟨⟨hM.word a h0 h1, ⟨by simp [ld], ?_, ?_, ?_, ?_⟩, trivial⟩, ?_⟩
      · simp [ld, kWord]; omega
      · simp [ld, kWord]; omega
      · simp; omega
      · simp; omega
      · simp [after, wr_ld]
    · refine ⟨⟨hM.ver _ hst0 hst1, ⟨by simp [ld], ?_, ?_, by simp, by simp⟩, ?_⟩, ?_⟩
      · simp [ld]; omega
      · simp [ld]; omega
      · rw [wr_ld]
        refine ⟨hM.word a h0 h1, ⟨by simp [ld], ?_, ?_, ?_, ?_⟩, ?_⟩
        · simp [ld, kWord]; omega
        · simp [ld, kWord]; omega
        · simp; omega
        · simp; omega
        · rw [wr_ld]
          refine ⟨hM.ver _ hst0 hst1, ⟨by simp [ld], ?_, ?_, by simp, by simp⟩, trivial⟩
          · simp [ld]; omega
          · simp [ld]; omega
      · simp [after, wr_ld]

theorem get_mu {c : Cfg} (hs1 : 1 ≤ c.s) (ht1 : 1 ≤ c.t) {W : Int → Int} {held : List Int} {r st : Int} {m : Int → Int} (hM : Mu c W held r m) (h0 : 0 ≤ st) (h1 : st < c.s) (hn : st ∉ held) (hr : r = 0 ∨ r = 1) (hwd : 0 ≤ c.wd) : Sees c m (tGet c r st) ∧ Mu c W (held ++ [st]) r (after m (tGet c r st)) := by
  have e : after m (tGet c r st) = wr m ⟨3, 3 + c.s + st, 0, 1⟩ := by simp [after, tGet, wr_ld]
  have ho : m (3 + c.s + st) = 0 := by rw [hM.own st h0 h1, if_neg hn]
  constructor
  · refine ⟨hM.stat, ⟨by simp [ld], ?_, ?_, ?_, ?_⟩, ?_⟩
    · simp [ld, kStat]; omega
    · simp [ld, kStat]; omega
    · simp; omega
    · simp; omega
    · rw [wr_ld]
      refine ⟨ho, ⟨by simp, ?_, ?_, by simp, by simp⟩, ?_⟩
      · simp; omega
      · simp; omega
      · refine ⟨?_, ⟨by simp [ld], ?_, ?_, by simp, by simp⟩, trivial⟩
        · rw [wr_off (by simp [ld]; omega)]
          exact hM.ver st h0 h1
        · simp [ld]; omega
        · simp [ld]; omega
  · rw [e]
    refine ⟨?_, ?_, ?_, fun s a b => ?_, fun s a b => ?_, ?_, fun w a b => ?_⟩
    · rw [wr_off (by simp; omega)]; exact hM.clock
    · rw [wr_off (by simp; omega)]; exact hM.tick
    · rw [wr_off (by simp; omega)]; exact hM.gate
    · rw [wr_off (by simp; omega)]; exact hM.ver s a b
    · by_cases hs : s = st
      · subst hs
        rw [show (3 + c.s + s) = (⟨3, 3 + c.s + s, 0, 1⟩ : AskD).cell from rfl, wr_at, ho]
        simp [putV]
      · rw [wr_off (by simp; omega), hM.own s a b]
        simp [hs]
    · rw [wr_off (by simp [kStat]; omega)]; exact hM.stat
    · rw [wr_off (by simp [kWord]; omega)]; exact hM.word w a b

theorem wrote_mu {c : Cfg} (hs1 : 1 ≤ c.s) (ht1 : 1 ≤ c.t) {W : Int → Int} {x : TS} {i : InsD} {r a : Int} {had : Bool} {m : Int → Int} (hM : Mu c W x.held r m) (hr : r = 0 ∨ r = 1) (hwd : 0 ≤ c.wd) :
    Sees c m (iWrote c r x i a had).2.2 ∧ Mu c W x.held (iWrote c r x i a had).1 (after m (iWrote c r x i a had).2.2) := by
  unfold iWrote
  simp only
  split
  · exact ⟨trivial, hM⟩
  · rename_i hc
    have r0 : r = 0 := by
      rcases hr with h | h
      · exact h
      · exact absurd (Or.inr (Or.inl (by omega))) hc
    subst r0
    have hk := hM.tick
    have hst := hM.stat
    have e : after m [(⟨4, 1, 0, 0⟩, 0), (⟨3, kStat c, 0, 8⟩, 0)] = wr (wr m ⟨4, 1, 0, 0⟩) ⟨3, kStat c, 0, 8⟩ := rfl
    have h2 : wr m ⟨4, 1, 0, 0⟩ (kStat c) = 0 := by rw [wr_off (by simp [kStat]; omega), hst]; rfl
    constructor
    · refine ⟨hk, ⟨by simp, by simp, ?_, by simp, by simp⟩, h2, ⟨by simp, ?_, ?_, by simp, by simp⟩, trivial⟩
      · simp; omega
      · simp [kStat]; omega
      · simp [kStat]; omega
    · rw [e]
      refine ⟨?_, ?_, ?_, fun s a b => ?_, fun s a b => ?_, ?_, fun w a b => ?_⟩
      · rw [wr_off (by simp [kStat]; omega), wr_off (by simp)]; exact hM.clock
      · rw [wr_off (by simp [kStat]; omega), show (1 : Int) = (⟨4, 1, 0, 0⟩ : AskD).cell from rfl, wr_at]
        simp [putV, hk]
      · rw [wr_off (by simp [kStat]; omega), wr_off (by simp)]; exact hM.gate
      · rw [wr_off (by simp [kStat]; omega), wr_off (by simp; omega)]; exact hM.ver s a b
      · rw [wr_off (by simp [kStat]; omega), wr_off (by simp; omega)]; exact hM.own s a b
      · rw [show kStat c = (⟨3, kStat c, 0, 8⟩ : AskD).cell from rfl, wr_at]
        simp [putV, h2]
      · rw [wr_off (by simp [kStat, kWord]; omega), wr_off (by simp [kWord]; omega)]; exact hM.word w a b

theorem step_mu {c : Cfg} (hs1 : 1 ≤ c.s) (ht1 : 1 ≤ c.t) {W : Int → Int} {x : TS} {r : Int} {m : Int → Int} (hwd : 0 ≤ c.wd) (hW : ∀ a, 0 ≤ a → a < c.wd → 0 ≤ W a ∧ W a ≤ 65535) (hX : Xi c x) (hM : Mu c W x.held r m) (hr : r = 0 ∨ r = 1) :
    Sees c m (iStep c W r x).2.2.2 ∧ Mu c W (iStep c W r x).2.2.1.held (iStep c W r x).2.1 (after m (iStep c W r x).2.2.2) ∧ Xi c (iStep c W r x).2.2.1 := by
  rcases iStep_cases c W r x with ⟨e, x', h, h0, h4, hs⟩ | h | h
  · rw [h]
    refine ⟨trivial, ?_, hX.same hs⟩
    show Mu c W x'.held r m
    rw [hs.held]
    exact hM
  · rw [h]
    obtain ⟨x2, hx2⟩ : ∃ x2 : TS, x2 = { x with begun := x.begun + 1, place := x.place + 1 } := ⟨_, rfl⟩
    rw [← hx2]
    have hs : Same0 x x2 := by rw [hx2]; exact ⟨rfl, rfl, rfl, rfl, rfl, rfl, id⟩
    clear hx2 h
    have hX2 := hX.same hs
    rw [← hs.held] at hM
    generalize insAt x.code x.place = i
    unfold iRead
    split
    · exact ⟨trivial, hM, hX2⟩
    · rename_i hlt
      obtain ⟨a0, a1⟩ := hX2.regs.of i.b
      generalize regOf x2 i.b = a at *
      obtain ⟨k1, k2⟩ := read_mu hs1 ht1 (x := x2) hM a0 (by omega) (hW a a0 (by omega))
      obtain ⟨_, _, g3, g4, g5, _⟩ := xRead_same c x2 a
      have hvr := vRead_range (W := W) (a := a) hX2 (hW a a0 (by omega))
      refine ⟨k1, ?_, ?_⟩
      · simp only
        rw [k2, show (setReg (xRead c x2 a) i.a (vRead W x2 a)).held = (xRead c x2 a).held from rfl, g5]
        exact hM
      · have hxr : Xi c (xRead c x2 a) := ⟨⟨by rw [g3]; exact hX2.regs.1, by rw [g3]; exact hX2.regs.2⟩, by rw [g5]; exact hX2.hin, by rw [g5]; exact hX2.hnd, by rw [g4, g5]; exact hX2.win, by rw [g4]; exact hX2.wnd, by rw [g4]; exact hX2.wval⟩
        exact ⟨hxr.regs.set _ _ hvr.1 hvr.2, hxr.hin, hxr.hnd, hxr.win, hxr.wnd, hxr.wval⟩
  · rw [h]
    obtain ⟨x2, hx2⟩ : ∃ x2 : TS, x2 = { x with begun := x.begun + 1, place := x.place + 1 } := ⟨_, rfl⟩
    rw [← hx2]
    have hs : Same0 x x2 := by rw [hx2]; exact ⟨rfl, rfl, rfl, rfl, rfl, rfl, id⟩
    clear hx2 h
    have hX2 := hX.same hs
    rw [← hs.held] at hM
    generalize insAt x.code x.place = i
    unfold iWrite
    split
    · exact ⟨trivial, hM, hX2⟩
    · rename_i hlt
      obtain ⟨a0, a1⟩ := hX2.regs.of i.a
      generalize regOf x2 i.a = a at *
      have hst0 : 0 ≤ a.tmod c.s := Int.tmod_nonneg _ a0
      have hst1 : a.tmod c.s < c.s := Int.tmod_lt_of_pos _ (by omega)
      have hwx : ∀ (y : TS) (had : Bool), (iWrote c r y i a had).2.1 = { y with writes := putEnt y.writes a (regOf y i.b) } := fun y had => by unfold iWrote; simp only; split <;> rfl
      simp only
      cases hh : heldB x2 (a.tmod c.s) with
      | true =>
        have hm := (heldB_iff x2 _).1 hh
        rw [if_pos rfl]
        obtain ⟨k1, k2⟩ := wrote_mu hs1 ht1 (x := x2) (i := i) (a := a) (had := true) hM hr hwd
        refine ⟨k1, ?_, ?_⟩
        · rw [hwx]
          exact k2
        · rw [hwx]
          exact hX2.put a0 (by omega) hm (hX2.regs.of i.b)
      | false =>
        have hm : a.tmod c.s ∉ x2.held := fun h => by rw [(heldB_iff x2 _).2 h] at hh; cases hh
        rw [if_neg (by decide)]
        obtain ⟨g1, g2⟩ := get_mu hs1 ht1 hM hst0 hst1 hm hr hwd
        obtain ⟨k1, k2⟩ := wrote_mu hs1 ht1 (x := { x2 with held := x2.held ++ [a.tmod c.s] }) (i := i) (a := a) (had := false) g2 hr hwd
        have hX3 : Xi c { x2 with held := x2.held ++ [a.tmod c.s] } := by
          refine ⟨hX2.regs, fun u hu => ?_, ?_, fun e he => ?_, hX2.wnd, hX2.wval⟩
          · rcases List.mem_append.1 hu with h | h
            · exact hX2.hin u h
            · simp at h; subst h; exact ⟨hst0, hst1⟩
          · show (x2.held ++ [a.tmod c.s]).Nodup
            rw [List.nodup_append]
            refine ⟨hX2.hnd, by simp, fun u hu w hw e => ?_⟩
            simp at hw
            rw [e, hw] at hu
            exact hm hu
          · obtain ⟨j1, j2, j3⟩ := hX2.win e he
            exact ⟨j1, j2, List.mem_append_left _ j3⟩
        refine ⟨Sees.append g1 k1, ?_, ?_⟩
        · rw [after_append, hwx]
          exact k2
        · rw [hwx]
          exact hX3.put a0 (by omega) (by simp) (hX3.regs.of i.b)

theorem steps_mu {c : Cfg} (hs1 : 1 ≤ c.s) (ht1 : 1 ≤ c.t) {W : Int → Int} (hwd : 0 ≤ c.wd) (hW : ∀ a, 0 ≤ a → a < c.wd → 0 ≤ W a ∧ W a ≤ 65535) : ∀ (n : Nat) (x : TS) (r : Int) (m : Int → Int), Xi c x → Mu c W x.held r m → (r = 0 ∨ r = 1) →
    Sees c m (iSteps c W n r x).2.2.2 ∧ Mu c W (iSteps c W n r x).2.2.1.held (iSteps c W n r x).2.1 (after m (iSteps c W n r x).2.2.2) ∧ Xi c (iSteps c W n r x).2.2.1
  | 0, x, r, m, hX, hM, hr => ⟨trivial, hM, hX⟩
  | n + 1, x, r, m, hX, hM, hr => by
    obtain ⟨k1, k2, k3⟩ := step_mu hs1 ht1 hwd hW hX hM hr
    have hr2 := (iStep_same c W r x hr).1
    rw [iSteps]
    simp only
    split
    · obtain ⟨j1, j2, j3⟩ := steps_mu hs1 ht1 hwd hW n _ _ _ k3 k2 hr2
      exact ⟨Sees.append k1 j1, by rw [after_append]; exact j2, j3⟩
    · exact ⟨k1, k2, k3⟩

theorem wr_sto_at (m : Int → Int) (cell to : Int) : wr m (sto cell to) cell = to := (wr_at m (sto cell to)).trans rfl
theorem wr_sto_off {m : Int → Int} {cell to x : Int} (h : x ≠ cell) : wr m (sto cell to) x = m x := wr_off h

theorem stores_mu {α : Type} (c : Cfg) (f g v : α → Int) : ∀ (l : List α) (m : Int → Int), (l.map f).Nodup → (∀ a ∈ l, m (f a) = v a) → (∀ a ∈ l, Good c (sto (f a) (g a), v a)) →
    Sees c m (l.map fun a => (sto (f a) (g a), v a)) ∧ (∀ a ∈ l, after m (l.map fun a => (sto (f a) (g a), v a)) (f a) = g a) ∧ (∀ x, (∀ a ∈ l, x ≠ f a) → after m (l.map fun a => (sto (f a) (g a), v a)) x = m x)
  | [], m, hn, hv, hg => ⟨trivial, fun a h => by simp at h, fun x _ => rfl⟩
  | a :: l, m, hn, hv, hg => by
    rw [List.map_cons, List.nodup_cons] at hn
    have hne : ∀ b ∈ l, f b ≠ f a := fun b hb e => hn.1 (e ▸ List.mem_map_of_mem hb)
    obtain ⟨k1, k2, k3⟩ := stores_mu c f g v l (wr m (sto (f a) (g a))) hn.2 (fun b hb => by rw [wr_sto_off (hne b hb)]; exact hv b (List.mem_cons_of_mem _ hb)) (fun b hb => hg b (List.mem_cons_of_mem _ hb))
    have e : after m ((a :: l).map fun a => (sto (f a) (g a), v a)) = after (wr m (sto (f a) (g a))) (l.map fun a => (sto (f a) (g a), v a)) := rfl
    rw [e]
    refine ⟨⟨hv a (by simp), hg a (by simp), k1⟩, fun b hb => ?_, fun x hx => ?_⟩
    · by_cases hbl : b ∈ l
      · exact k2 b hbl
      · have hba : b = a := by simpa [hbl] using hb
        subst hba
        rw [k3 _ (fun d hd e2 => hne d hd e2.symm), wr_sto_at]
    · rw [k3 x (fun b hb => hx b (List.mem_cons_of_mem _ hb)), wr_sto_off (hx a (by simp))]

theorem open_mu {c : Cfg} (hs1 : 1 ≤ c.s) (ht1 : 1 ≤ c.t) (hwd : 0 ≤ c.wd) : ∀ (l : List Int) (m : Int → Int), l.Nodup → (∀ h ∈ l, 0 ≤ h ∧ h < c.s) → (∀ h ∈ l, m (3 + h) = -1 ∧ m (3 + c.s + h) = 1) →
    Sees c m (tOpen c l) ∧ (∀ x, (∀ h ∈ l, x ≠ 3 + h ∧ x ≠ 3 + c.s + h) → after m (tOpen c l) x = m x)
  | [], m, hn, hi, hv => ⟨trivial, fun x _ => rfl⟩
  | h :: l, m, hn, hi, hv => by
    rw [List.nodup_cons] at hn
    obtain ⟨a0, a1⟩ := hi h (by simp)
    obtain ⟨b0, b1⟩ := hv h (by simp)
    have hne : ∀ b ∈ l, b ≠ h := fun b hb e => hn.1 (e ▸ hb)
    obtain ⟨k1, k2⟩ := open_mu hs1 ht1 hwd l (wr (wr m (sto (3 + h) 1)) (sto (3 + c.s + h) 0)) hn.2 (fun b hb => hi b (List.mem_cons_of_mem _ hb)) (fun b hb => by
      have := hi b (List.mem_cons_of_mem _ hb)
      have := hne b hb
      rw [wr_sto_off (by omega), wr_sto_off (by omega), wr_sto_off (by omega), wr_sto_off (by omega)]
      exact hv b (List.mem_cons_of_mem _ hb))
    have e : after m (tOpen c (h :: l)) = after (wr (wr m (sto (3 + h) 1)) (sto (3 + c.s + h) 0)) (tOpen c l) := rfl
    rw [e]
    refine ⟨⟨b0, ⟨by simp [sto], ?_, ?_, by simp, by simp⟩, ?_, ⟨by simp [sto], ?_, ?_, by simp, by simp⟩, k1⟩, fun x hx => ?_⟩
    · simp [sto]; omega
    · simp [sto]; omega
    · show wr m (sto (3 + h) 1) (3 + c.s + h) = 1
      rw [wr_sto_off (by omega)]; exact b1
    · simp [sto]; omega
    · simp [sto]; omega
    · rw [k2 x (fun b hb => hx b (List.mem_cons_of_mem _ hb)), wr_sto_off (hx h (by simp)).2, wr_sto_off (hx h (by simp)).1]

theorem vRead_at {W : Int → Int} {x : TS} (hn : (x.writes.map (·.what)).Nodup) {e : EntD} (he : e ∈ x.writes) : vRead W x e.what = e.val := by
  unfold vRead
  split
  · rename_i k hk
    obtain ⟨d, hd, hde⟩ := entIdx_some0 hk
    have hge : x.writes.getD k ⟨0, 0⟩ = d := by simp [List.getD, hd]
    rw [hge]
    obtain ⟨j, hj⟩ := List.mem_iff_getElem?.1 he
    have hk1 := (List.getElem?_eq_some_iff.1 hd).1
    have hj1 := (List.getElem?_eq_some_iff.1 hj).1
    have : k = j := by
      refine (List.getElem_inj (h₀ := by simpa using hk1) (h₁ := by simpa using hj1) hn).1 ?_
      rw [List.getElem_map, List.getElem_map, (List.getElem?_eq_some_iff.1 hd).2, (List.getElem?_eq_some_iff.1 hj).2, hde]
    subst this
    rw [hd] at hj
    cases hj
    rfl
  · rename_i hk
    exact absurd rfl (entIdx_none0 hk e he)
theorem vRead_off {W : Int → Int} {x : TS} {a : Int} (h : ∀ e ∈ x.writes, e.what ≠ a) : vRead W x a = W a := by
  unfold vRead
  split
  · rename_i k hk
    obtain ⟨d, hd, hde⟩ := entIdx_some0 hk
    exact absurd hde (h d (List.mem_of_getElem? hd))
  · rfl

theorem commit_mu {c : Cfg} (hs1 : 1 ≤ c.s) (ht1 : 1 ≤ c.t) (hwd : 0 ≤ c.wd) {W : Int → Int} (hW : ∀ a, 0 ≤ a → a < c.wd → 0 ≤ W a ∧ W a ≤ 65535) {x : TS} {r : Int} {m : Int → Int} (hX : Xi c x) (hM : Mu c W x.held r m) (hr : r = 0 ∨ r = 1) :
    Sees c m (tCommit c W r x) ∧ after m (tCommit c W r x) (kStat c) = 8 * r ∧ ∀ a, 0 ≤ a → a < c.wd → after m (tCommit c W r x) (kWord c a) = vRead W x a := by
  -- the first three
  have e1 : after m [(ld (kStat c), 8 * r), (⟨3, 2, 0, 1⟩, 0), (ld 0, 0)] = wr m ⟨3, 2, 0, 1⟩ := by simp [after, wr_ld]
  have s1 : Sees c m [(ld (kStat c), 8 * r), (⟨3, 2, 0, 1⟩, 0), (ld 0, 0)] := by
    refine ⟨hM.stat, ⟨by simp [ld], ?_, ?_, ?_, ?_⟩, ?_⟩
    · simp [ld, kStat]; omega
    · simp [ld, kStat]; omega
    · simp; omega
    · simp; omega
    · rw [wr_ld]
      refine ⟨hM.gate, ⟨by simp, by simp, ?_, by simp, by simp⟩, ?_, ⟨by simp [ld], by simp [ld], ?_, by simp, by simp⟩, trivial⟩
      · simp; omega
      · rw [wr_off (by simp [ld])]; exact hM.clock
      · simp [ld]; omega
  have o1 : ∀ y, y ≠ 2 → wr m ⟨3, 2, 0, 1⟩ y = m y := fun y h => wr_off h
  have g1 : wr m ⟨3, 2, 0, 1⟩ 2 = 1 := by
    rw [show (2 : Int) = (⟨3, 2, 0, 1⟩ : AskD).cell from rfl, wr_at]
    simp [putV, hM.gate]
  generalize wr m ⟨3, 2, 0, 1⟩ = m1 at *
  -- the versions
  obtain ⟨s2, a2, o2⟩ := stores_mu c (fun h : Int => 3 + h) (fun _ => -1) (fun _ => 0) x.held m1 (List.Pairwise.map _ (fun a b h => by simpa using h) hX.hnd) (fun h hh => by
      have := hX.hin h hh
      rw [o1 _ (by omega)]; exact hM.ver h this.1 this.2) (fun h hh => by
      have := hX.hin h hh
      refine ⟨by simp [sto], ?_, ?_, by simp, by simp⟩
      · simp [sto]; omega
      · simp [sto]; omega)
  rw [show (x.held.map fun a => (sto (3 + a) (-1), (0 : Int))) = tShut x from rfl] at s2 a2 o2
  generalize hm2 : after m1 (tShut x) = m2 at *
  -- the clock, the gate
  have s3 : Sees c m2 [(sto 0 1, 0)] := ⟨by
    show m2 0 = 0
    rw [o2 0 (fun h hh => by have := hX.hin h hh; omega), o1 0 (by omega)]; exact hM.clock, ⟨by simp [sto], by simp [sto], by simp [sto]; omega, by simp, by simp⟩, trivial⟩
  have o3 : ∀ y, y ≠ 0 → after m2 [(sto 0 1, 0)] y = m2 y := fun y h => wr_sto_off h
  generalize hm3 : after m2 [(sto 0 1, 0)] = m3 at *
  have s4 : Sees c m3 [(sto 2 0, 1)] := ⟨by
    show m3 2 = 1
    rw [o3 2 (by omega), o2 2 (fun h hh => by have := hX.hin h hh; omega)]; exact g1, ⟨by simp [sto], by simp [sto], by simp [sto]; omega, by simp, by simp⟩, trivial⟩
  have o4 : ∀ y, y ≠ 2 → after m3 [(sto 2 0, 1)] y = m3 y := fun y h => wr_sto_off h
  generalize hm4 : after m3 [(sto 2 0, 1)] = m4 at *
  -- the words
  have hinj : (x.writes.map fun e => kWord c e.what).Nodup := by
    have : (x.writes.map fun e => kWord c e.what) = (x.writes.map (·.what)).map (kWord c) := by rw [List.map_map]; rfl
    rw [this]
    exact List.Pairwise.map _ (fun a b h => by unfold kWord; omega) hX.wnd
  obtain ⟨s5, a5, o5⟩ := stores_mu c (fun e : EntD => kWord c e.what) (fun e => e.val) (fun e => W e.what) x.writes m4 hinj (fun e he => by
      obtain ⟨w0, w1, _⟩ := hX.win e he
      rw [o4 _ (by unfold kWord; omega), o3 _ (by unfold kWord; omega), o2 _ (fun h hh => by have := hX.hin h hh; unfold kWord; omega), o1 _ (by unfold kWord; omega)]
      exact hM.word _ w0 w1) (fun e he => by
      obtain ⟨w0, w1, _⟩ := hX.win e he
      have := hW _ w0 w1
      refine ⟨by simp [sto], ?_, ?_, ?_, ?_⟩
      · simp [sto, kWord]; omega
      · simp [sto, kWord]; omega
      · simp; omega
      · simp; omega)
  rw [show (x.writes.map fun e => (sto (kWord c e.what) e.val, W e.what)) = tPut c W x from rfl] at s5 a5 o5
  generalize hm5 : after m4 (tPut c W x) = m5 at *
  -- the stripes are opened
  have nw : ∀ y, (∀ e ∈ x.writes, y ≠ kWord c e.what) → y ≠ 0 → y ≠ 2 → (∀ h ∈ x.held, y ≠ 3 + h) → m5 y = m y := fun y h1 h2 h3 h4 => by
    rw [o5 y h1, o4 y h3, o3 y h2, o2 y h4, o1 y h3]
  obtain ⟨s6, o6⟩ := open_mu hs1 ht1 hwd x.held m5 hX.hnd hX.hin (fun h hh => by
    have hb := hX.hin h hh
    constructor
    · rw [o5 _ (fun e he => by have := hX.win e he; unfold kWord; omega), o4 _ (by omega), o3 _ (by omega)]
      exact a2 h hh
    · rw [nw _ (fun e he => by have := hX.win e he; unfold kWord; omega) (by omega) (by omega) (fun k hk => by have := hX.hin k hk; omega), hM.own h hb.1 hb.2, if_pos hh])
  have hafter : after m (tCommit c W r x) = after m5 (tOpen c x.held) := by
    unfold tCommit
    rw [after_append, e1, after_append, hm2, after_append, hm3, after_append, hm4, after_append, hm5]
  rw [hafter]
  refine ⟨?_, ?_, fun a a0 a1 => ?_⟩
  · unfold tCommit
    refine Sees.append s1 ?_
    rw [e1]
    refine Sees.append s2 ?_
    rw [hm2]
    refine Sees.append s3 ?_
    rw [hm3]
    refine Sees.append s4 ?_
    rw [hm4]
    refine Sees.append s5 ?_
    rw [hm5]
    exact s6
  · rw [o6 _ (fun h hh => by have := hX.hin h hh; unfold kStat; omega), nw _ (fun e he => by have := hX.win e he; unfold kStat kWord; omega) (by unfold kStat; omega) (by unfold kStat; omega) (fun h hh => by have := hX.hin h hh; unfold kStat; omega)]
    exact hM.stat
  · rw [o6 _ (fun h hh => by have := hX.hin h hh; unfold kWord; omega)]
    by_cases hw : ∃ e ∈ x.writes, e.what = a
    · obtain ⟨e, he, rfl⟩ := hw
      rw [vRead_at hX.wnd he]
      exact a5 e he
    · have hn : ∀ e ∈ x.writes, e.what ≠ a := fun e he h => hw ⟨e, he, h⟩
      rw [vRead_off hn, nw _ (fun e he => by have := hn e he; unfold kWord; omega) (by unfold kWord; omega) (by unfold kWord; omega) (fun h hh => by have := hX.hin h hh; unfold kWord; omega)]
      exact hM.word a a0 a1

theorem close_mu {c : Cfg} (hs1 : 1 ≤ c.s) (ht1 : 1 ≤ c.t) (hwd : 0 ≤ c.wd) {W : Int → Int} (hW : ∀ a, 0 ≤ a → a < c.wd → 0 ≤ W a ∧ W a ≤ 65535) {x : TS} {e r : Int} {m : Int → Int} (hX : Xi c x) (hM : Mu c W x.held r m) (hr : r = 0 ∨ r = 1) :
    Sees c m (tClose c W e r x) ∧ after m (tClose c W e r x) (kStat c) = 8 * r ∧ ∀ a, 0 ≤ a → a < c.wd → after m (tClose c W e r x) (kWord c a) = if e = 1 then vRead W x a else W a := by
  unfold tClose
  by_cases h : e = 1 ∧ x.held ≠ []
  · rw [if_pos h]
    obtain ⟨k1, k2, k3⟩ := commit_mu hs1 ht1 hwd hW hX hM hr
    exact ⟨k1, k2, fun a a0 a1 => by rw [if_pos h.1]; exact k3 a a0 a1⟩
  · rw [if_neg h]
    obtain ⟨s2, a2, o2⟩ := stores_mu c (fun h : Int => 3 + c.s + h) (fun _ => 0) (fun _ => 1) x.held m (List.Pairwise.map _ (fun a b h => by simpa using h) hX.hnd) (fun h hh => by
      have := hX.hin h hh
      rw [hM.own h this.1 this.2, if_pos hh]) (fun h hh => by
      have := hX.hin h hh
      refine ⟨by simp [sto], ?_, ?_, by simp, by simp⟩
      · simp [sto]; omega
      · simp [sto]; omega)
    rw [show (x.held.map fun a => (sto (3 + c.s + a) 0, (1 : Int))) = tFree c x from rfl] at s2 a2 o2
    refine ⟨s2, ?_, fun a a0 a1 => ?_⟩
    · rw [o2 _ (fun h hh => by have := hX.hin h hh; unfold kStat; omega)]
      exact hM.stat
    · rw [o2 _ (fun h hh => by have := hX.hin h hh; unfold kWord; omega), hM.word a a0 a1]
      split
      · rename_i he
        have hh : x.held = [] := by
          apply Classical.byContradiction
          exact fun hn => h ⟨he, hn⟩
        rw [vRead_off (fun d hd => by have := (hX.win d hd).2.2; rw [hh] at this; simp at this)]
      · rfl

theorem job_mu {c : Cfg} (hs1 : 1 ≤ c.s) (ht1 : 1 ≤ c.t) (hwd : 0 ≤ c.wd) {W : Int → Int} (hW : ∀ a, 0 ≤ a → a < c.wd → 0 ≤ W a ∧ W a ≤ 65535) (code : List InsD) {m : Int → Int} (hM : Mu c W [] 0 m) :
    Sees c m (iJob c W code) ∧ ∀ a, 0 ≤ a → a < c.wd → after m (iJob c W code) (kWord c a) = if (iRun c W code).1 = 1 then vRead W (iRun c W code).2.2.1 a else W a := by
  have hX : Xi c (newTS code 0) := ⟨⟨rfl, by simp [newTS]⟩, by simp [newTS], by simp [newTS], by simp [newTS], by simp [newTS], by simp [newTS]⟩
  obtain ⟨k1, k2, k3⟩ := steps_mu hs1 ht1 hwd hW (c.f.toNat + 2) (newTS code 0) 0 m hX hM (Or.inl rfl)
  have hsm := (iSteps_same c W (c.f.toNat + 2) 0 (newTS code 0) (Or.inl rfl)).1
  unfold iJob
  rw [show iSteps c W (c.f.toNat + 2) 0 (newTS code 0) = iRun c W code from rfl] at k1 k2 k3 hsm
  generalize iRun c W code = u at *
  obtain ⟨j1, j2, j3⟩ := close_mu hs1 ht1 hwd hW (e := u.1) k3 k2 hsm
  have e0 : after m [(ld 0, 0)] = m := by simp [after, wr_ld]
  constructor
  · refine Sees.append ⟨hM.clock, ⟨by simp [ld], by simp [ld], by simp [ld]; omega, by simp, by simp⟩, trivial⟩ ?_
    rw [e0]
    refine Sees.append k1 (Sees.append j1 ⟨j2, ⟨by simp [sto], ?_, ?_, ?_, ?_⟩, trivial⟩)
    · simp [sto, kStat]; omega
    · simp [sto, kStat]; omega
    · simp; omega
    · simp; omega
  · intro a a0 a1
    rw [after_append, e0, after_append, after_append]
    rw [show after (after (after m u.2.2.2) (tClose c W u.1 u.2.1 u.2.2.1)) [(sto (kStat c) 0, 8 * u.2.1)] = wr (after (after m u.2.2.2) (tClose c W u.1 u.2.1 u.2.2.1)) (sto (kStat c) 0) from rfl]
    rw [wr_sto_off (by unfold kStat kWord; omega)]
    exact j3 a a0 a1

end Go.Proofs.Ytejadojilncbjaa
