import Derived.Test.YtejadojilncbjaaGreatH14
import Derived.Test.YtejadojilncbjaaGreatH17
import Derived.Test.YtejadojilncbjaaGreatH18
namespace Go.Proofs.YtejadojilncbjaaGreat
set_option linter.unusedVariables false

/-- The code, the place and the count of an attempt. -/
def Same (x x' : TS) : Prop := x'.code = x.code ∧ x'.place = x.place ∧ x'.begun = x.begun ∧ x'.writes = x.writes ∧ x'.regs = x.regs
theorem Same.refl (x : TS) : Same x x := ⟨rfl, rfl, rfl, rfl, rfl⟩
theorem Same.trans {a b c : TS} (h : Same a b) (k : Same b c) : Same a c := ⟨k.1.trans h.1, k.2.1.trans h.2.1, k.2.2.1.trans h.2.2.1, k.2.2.2.1.trans h.2.2.2.1, k.2.2.2.2.trans h.2.2.2.2⟩

theorem mExtend_same (E : Env) (s : LS) (x : TS) : Same x (mExtend E s x).2.2 := by
  unfold mExtend
  dsimp only
  split
  · exact Same.refl _
  · split
    · exact ⟨rfl, rfl, rfl, rfl, rfl⟩
    · exact Same.refl _

theorem mStands_same (E : Env) (x : TS) (a st : Int) : ∀ (n : Nat) (s : LS), Same x (mStands E x a st n s).2.2.2
  | 0, s => Same.refl _
  | n + 1, s => by
    unfold mStands
    split
    · exact Same.refl _
    · dsimp only
      split
      · exact mStands_same E x a st n _
      · split
        · exact mStands_same E x a st n _
        · have hx1 : Same x (if (entIdx x.reads st).isSome = true then x else { x with reads := x.reads ++ [⟨st, (mLoad E s (cVersion E st)).1⟩] }) := by
            split
            · exact Same.refl _
            · exact ⟨rfl, rfl, rfl, rfl, rfl⟩
          generalize (if (entIdx x.reads st).isSome = true then x else { x with reads := x.reads ++ [⟨st, (mLoad E s (cVersion E st)).1⟩] }) = x1 at hx1 ⊢
          split
          · exact hx1
          · exact hx1.trans (mExtend_same E _ _)

theorem mGet_same (E : Env) (x : TS) (st : Int) : ∀ (n : Nat) (s : LS), Same x (mGet E x st n s).2.2
  | 0, s => Same.refl _
  | n + 1, s => by
    unfold mGet
    split
    · exact Same.refl _
    · dsimp only
      split
      · exact Same.refl _
      · split
        · exact Same.refl _
        · split
          · split
            · exact ⟨rfl, rfl, rfl, rfl, rfl⟩
            · split
              · exact Same.trans (b := { x with held := x.held ++ [st] }) ⟨rfl, rfl, rfl, rfl, rfl⟩ (mExtend_same E _ _)
              · exact ⟨rfl, rfl, rfl, rfl, rfl⟩
          · split
            · exact Same.refl _
            · split
              · exact ⟨rfl, rfl, rfl, rfl, rfl⟩
              · split
                · exact mGet_same E x st n _
                · exact mGet_same E x st n _

def WvOk (x : TS) : Prop := ∀ e ∈ x.writes, -70000 ≤ e.val ∧ e.val ≤ 1125899906842624

structure StOk (E : Env) (m n : Nat) (s : LS) (x : TS) (s' : LS) (x' : TS) : Prop where
  pos : s'.pos ≤ E.seen.length
  mono : s.pos ≤ s'.pos
  notes : NotesOk m s'
  ts : TsOk n x'
  r0 : 0 ≤ s'.rank
  r1 : s'.rank ≤ 1125899906842625
  fails : s'.fails = s.fails
  len : s'.list.length = s.list.length
  code : x'.code = x.code
  ends : s'.ends = s.ends
  wv : WvOk x'

theorem SN.len {s s' : LS} (h : SN s s') : s'.list.length = s.list.length := by have := congrArg List.length h; simpa using this

theorem NotesOk.more {n m : Nat} {s : LS} (h : NotesOk n s) (hm : n ≤ m) : NotesOk m s := ⟨h.ne, h.len, fun a ha => Nat.le_trans (h.nt a ha) hm⟩
theorem NotesOk.noted {n : Nat} {s : LS} (h : NotesOk n s) (op addr val : Int) : NotesOk (n + 1) (mNoted s op addr val) := by
  have hl : (mNoted s op addr val).list.length = s.list.length := by simp [mNoted, modLast]
  refine ⟨fun e => h.ne ?_, by rw [hl]; exact h.len, fun a ha => ?_⟩
  · rw [e] at hl; exact List.length_eq_zero_iff.1 hl.symm
  · obtain ⟨i, hi, rfl⟩ := List.mem_iff_getElem.1 ha
    have h1 : (mNoted s op addr val).list[i]? = some ((mNoted s op addr val).list[i]) := List.getElem?_eq_getElem hi
    have hi' : i < s.list.length := by rw [← hl]; exact hi
    have h2 : (mNoted s op addr val).list[i]? = (s.list[i]?).map (if s.list.length - 1 = i then (fun a : AttD => { a with notes := a.notes ++ [⟨op, addr, val⟩] }) else id) := by
      show (modLast s.list _)[i]? = _
      unfold modLast
      rw [List.getElem?_modify]
      cases s.list[i]? with
      | none => rfl
      | some a => by_cases h : s.list.length - 1 = i <;> simp [h]
    rw [h1, List.getElem?_eq_getElem hi'] at h2
    have hb := h.nt s.list[i] (List.getElem_mem hi')
    simp at h2
    rw [h2]
    split
    · simp; omega
    · simp; omega

theorem mStill_ends (E : Env) (x : TS) (skip : Bool) : ∀ (l : List EntD) (s : LS), (mStill E x skip l s).2.ends = s.ends
  | [], s => rfl
  | e :: r, s => by
    have h1 : (mLoad E s (cVersion E e.what)).2.ends = s.ends := mAsk_ends E s _
    unfold mStill
    split
    · exact mStill_ends E x skip r s
    · show (if (mLoad E s (cVersion E e.what)).2.over = true then _ else if (mLoad E s (cVersion E e.what)).1 ≠ e.val then _ else _ : Int × LS).2.ends = _
      split
      · exact h1
      · split
        · exact h1
        · exact (mStill_ends E x skip r _).trans h1
theorem mExtend_ends (E : Env) (s : LS) (x : TS) : (mExtend E s x).2.1.ends = s.ends := by
  have h1 : (mLoad E s 0).2.ends = s.ends := mAsk_ends E s _
  have h2 := (mStill_ends E x false x.reads (mLoad E s 0).2).trans h1
  unfold mExtend
  dsimp only
  split
  · exact h1
  · split
    · exact h2
    · exact h2
theorem mStands_ends (E : Env) (x : TS) (a st : Int) : ∀ (n : Nat) (s : LS), (mStands E x a st n s).2.2.1.ends = s.ends
  | 0, s => rfl
  | n + 1, s => by
    have h1 : (mLoad E s (cVersion E st)).2.ends = s.ends := mAsk_ends E s _
    have h2 : (mLoad E (mLoad E s (cVersion E st)).2 (cWord E a)).2.ends = s.ends := (mAsk_ends E _ _).trans h1
    have h3 : (mLoad E (mLoad E (mLoad E s (cVersion E st)).2 (cWord E a)).2 (cVersion E st)).2.ends = s.ends := (mAsk_ends E _ _).trans h2
    unfold mStands
    split
    · rfl
    · dsimp only
      split
      · exact (mStands_ends E x a st n _).trans h1
      · split
        · exact (mStands_ends E x a st n _).trans h3
        · generalize (if (entIdx x.reads st).isSome = true then x else { x with reads := x.reads ++ [⟨st, (mLoad E s (cVersion E st)).1⟩] }) = x1
          split
          · exact h3
          · exact (mExtend_ends E _ _).trans h3
theorem mGet_ends (E : Env) (x : TS) (st : Int) : ∀ (n : Nat) (s : LS), (mGet E x st n s).2.1.ends = s.ends
  | 0, s => rfl
  | n + 1, s => by
    have h1 : (mLoad E s (cStatus E E.me)).2.ends = s.ends := mAsk_ends E s _
    have h2 : (mAsk E (mLoad E s (cStatus E E.me)).2 ⟨3, cOwner E st, 0, E.me + 1⟩).2.ends = s.ends := (mAsk_ends E _ _).trans h1
    unfold mGet
    split
    · rfl
    · dsimp only
      split
      · exact h1
      · split
        · exact h2
        · split
          · have h3 : (mLoad E (mAsk E (mLoad E s (cStatus E E.me)).2 ⟨3, cOwner E st, 0, E.me + 1⟩).2 (cVersion E st)).2.ends = s.ends := (mAsk_ends E _ _).trans h2
            split
            · exact h3
            · split
              · exact (mExtend_ends E _ _).trans h3
              · exact h3
          · split
            · exact h2
            · split
              · exact (mAsk_ends E _ _).trans h2
              · split
                · exact (mGet_ends E x st n _).trans ((mAsk_ends E _ _).trans ((mAsk_ends E _ _).trans h2))
                · exact (mGet_ends E x st n _).trans ((mAsk_ends E _ _).trans h2)

theorem tmodB' (a s : Int) (h1 : 1 ≤ s) (h2 : s ≤ 8) : -8 ≤ a.tmod s ∧ a.tmod s ≤ 8 := by
  have h3 := Int.tmod_lt_of_pos a (show 0 < s by omega)
  have h4 := Int.lt_tmod_of_pos a (show 0 < s by omega)
  omega

theorem mReadV_ok (E : Env) (hE : EnvOk E) {n : Nat} (s : LS) (x : TS) (a : Int) (hp : s.pos ≤ E.seen.length) (hX : TsOk n x) (hV : WvOk x) :
    LsOk E s (mReadV E s x a).2.2.1 ∧ TsOk (n + 1) (mReadV E s x a).2.2.2 ∧ Same x (mReadV E s x a).2.2.2 ∧ (mReadV E s x a).2.2.1.ends = s.ends ∧ (-70000 ≤ (mReadV E s x a).1 ∧ (mReadV E s x a).1 ≤ 1125899906842624) := by
  obtain ⟨_, _, ⟨hs1, hs2⟩, _⟩ := cfgB_true hE.cfg
  have hst := tmodB' a E.c.s hs1 hs2
  unfold mReadV
  dsimp only
  cases entIdx x.writes a with
  | some k =>
    refine ⟨LsOk.refl hp, hX.more (Nat.le_succ _), Same.refl _, rfl, ?_⟩
    dsimp only
    by_cases hk : k < x.writes.length
    · rw [show x.writes.getD k ⟨0, 0⟩ = x.writes[k] from by simp [List.getD, List.getElem?_eq_getElem hk]]
      exact hV _ (List.getElem_mem hk)
    · rw [show x.writes.getD k ⟨0, 0⟩ = ⟨0, 0⟩ from by simp [List.getD, List.getElem?_eq_none (show x.writes.length ≤ k by omega)]]
      simp
  | none =>
    dsimp only
    split
    · have hv := mAsk_val E hE s ⟨1, cWord E a, 0, 0⟩
      exact ⟨mAsk_ok E s _ hp, hX.more (Nat.le_succ _), Same.refl _, mAsk_ends E s _, by show -70000 ≤ (mAsk E s _).1; omega, hv.2⟩
    · obtain ⟨h1, h2, h3⟩ := mStands_ok E hE x a (a.tmod E.c.s) hst.1 hst.2 hX (loopFuel E s) s hp
      exact ⟨h1, h2, mStands_same E x _ _ _ _, mStands_ends E x _ _ _ _, by omega, h3.2⟩

theorem WvOk.of {x x' : TS} (h : WvOk x) (e : x'.writes = x.writes) : WvOk x' := fun y hy => h y (by rw [← e]; exact hy)

theorem mRead_ok (E : Env) (hE : EnvOk E) {m n : Nat} (s : LS) (x : TS) (i : InsD) (hp : s.pos ≤ E.seen.length) (hN : NotesOk m s) (hX : TsOk n x) (hV : WvOk x) (hr0 : 0 ≤ s.rank) (hr1 : s.rank ≤ 1125899906842625) :
    StOk E (m + 1) (n + 1) s x (mRead E s x i).2.1 (mRead E s x i).2.2 ∧ (mRead E s x i).2.2.place = x.place ∧ (mRead E s x i).2.2.begun = x.begun := by
  obtain ⟨k1, k2, k3, k4, k5⟩ := mReadV_ok E hE s x (regOf x i.b) hp hX hV
  unfold mRead
  dsimp only
  split
  · exact ⟨⟨hp, Nat.le_refl _, hN.more (Nat.le_succ _), hX.more (Nat.le_succ _), hr0, hr1, rfl, rfl, rfl, rfl, hV⟩, rfl, rfl⟩
  · split
    · exact ⟨⟨k1.pos, k1.mono, (hN.sn k1.sn).more (Nat.le_succ _), k2, by rw [k1.rank]; exact hr0, by rw [k1.rank]; exact hr1, k1.fails, k1.sn.len, k3.1, k4, hV.of k3.2.2.2.1⟩, k3.2.1, k3.2.2.1⟩
    · split
      · exact ⟨⟨k1.pos, k1.mono, (hN.sn k1.sn).more (Nat.le_succ _), k2, by rw [k1.rank]; exact hr0, by rw [k1.rank]; exact hr1, k1.fails, k1.sn.len, k3.1, k4, hV.of k3.2.2.2.1⟩, k3.2.1, k3.2.2.1⟩
      · have hn := (hN.sn k1.sn).noted 7 (regOf x i.b) (mReadV E s x (regOf x i.b)).1
        exact ⟨⟨k1.pos, k1.mono, hn, k2.setReg _ _ k5.1 k5.2, by show 0 ≤ (mReadV E s x (regOf x i.b)).2.2.1.rank; rw [k1.rank]; exact hr0, by show (mReadV E s x (regOf x i.b)).2.2.1.rank ≤ _; rw [k1.rank]; exact hr1, k1.fails,
          by rw [← k1.sn.len]; simp [mNoted, modLast], k3.1, k4, hV.of k3.2.2.2.1⟩, k3.2.1, k3.2.2.1⟩

end Go.Proofs.YtejadojilncbjaaGreat

namespace Go.Proofs.YtejadojilncbjaaGreat
set_option linter.unusedVariables false

theorem WvOk.put {x : TS} (h : WvOk x) (a v : Int) (h1 : -70000 ≤ v) (h2 : v ≤ 1125899906842624) : WvOk { x with writes := putEnt x.writes a v } := by
  intro e he
  have he' : e ∈ putEnt x.writes a v := he
  unfold putEnt at he'
  split at he'
  · rcases List.mem_or_eq_of_mem_set he' with h3 | h3
    · exact h e h3
    · rw [h3]; exact ⟨h1, h2⟩
  · rcases List.mem_append.1 he' with h3 | h3
    · exact h e h3
    · simp at h3; subst h3; exact ⟨h1, h2⟩

theorem mTicket_ok (E : Env) (hE : EnvOk E) {m n : Nat} (s : LS) (x : TS) (hp : s.pos ≤ E.seen.length) (hN : NotesOk m s) (hX : TsOk n x) (hV : WvOk x) (hr0 : 0 ≤ s.rank) (hr1 : s.rank ≤ 1125899906842625) :
    StOk E m n s x (mTicket E s x).2.1 (mTicket E s x).2.2 ∧ (mTicket E s x).2.2 = x := by
  have h1 := mAsk_ok E s ⟨4, 1, 0, 0⟩ hp
  have hv := mAsk_val E hE s ⟨4, 1, 0, 0⟩
  have e1 := mAsk_ends E s ⟨4, 1, 0, 0⟩
  unfold mTicket
  dsimp only
  split
  · exact ⟨⟨h1.pos, h1.mono, hN.sn h1.sn, hX, by rw [h1.rank]; exact hr0, by rw [h1.rank]; exact hr1, h1.fails, h1.sn.len, rfl, e1, hV⟩, rfl⟩
  · generalize mAsk E s ⟨4, 1, 0, 0⟩ = q at *
    have h2 := mAsk_ok E { q.2 with rank := q.1 + 1 } ⟨3, cStatus E E.me, 0, 8 * (q.1 + 1)⟩ h1.pos
    have e2 := mAsk_ends E { q.2 with rank := q.1 + 1 } ⟨3, cStatus E E.me, 0, 8 * (q.1 + 1)⟩
    generalize mAsk E { q.2 with rank := q.1 + 1 } ⟨3, cStatus E E.me, 0, 8 * (q.1 + 1)⟩ = q2 at *
    have hsn : SN s q2.2 := h1.sn.trans ((SN.of_list rfl : SN q.2 { q.2 with rank := q.1 + 1 }).trans h2.sn)
    have key : StOk E m n s x q2.2 x := ⟨h2.pos, Nat.le_trans h1.mono h2.mono, hN.sn hsn, hX, by rw [h2.rank]; show 0 ≤ q.1 + 1; omega, by rw [h2.rank]; show q.1 + 1 ≤ _; omega, h2.fails.trans h1.fails, hsn.len, rfl, e2.trans e1, hV⟩
    split
    · exact ⟨key, rfl⟩
    · split
      · exact ⟨key, rfl⟩
      · exact ⟨key, rfl⟩

theorem mWrote_ok (E : Env) (hE : EnvOk E) {m n : Nat} (s : LS) (x : TS) (i : InsD) (a : Int) (had : Bool) (ha1 : -70000 ≤ a) (ha2 : a ≤ 1125899906842624) (hp : s.pos ≤ E.seen.length) (hN : NotesOk m s) (hX : TsOk n x) (hV : WvOk x) (hr0 : 0 ≤ s.rank) (hr1 : s.rank ≤ 1125899906842625) :
    StOk E (m + 1) (n + 1) s x (mWrote E s x i a had).2.1 (mWrote E s x i a had).2.2 ∧ (mWrote E s x i a had).2.2.place = x.place ∧ (mWrote E s x i a had).2.2.begun = x.begun := by
  have hr := hX.reg i.b
  have hN1 := hN.noted 8 a (regOf x i.b)
  have hX1 := hX.putEnt a (regOf x i.b) ha1 ha2
  have hV1 := hV.put a (regOf x i.b) hr.1 hr.2
  have hl : (mNoted s 8 a (regOf x i.b)).list.length = s.list.length := by simp [mNoted, modLast]
  rw [mWrote_eq]
  split
  · exact ⟨⟨hp, Nat.le_refl _, hN1, hX1, hr0, hr1, rfl, hl, rfl, rfl, hV1⟩, rfl, rfl⟩
  · obtain ⟨k, e⟩ := mTicket_ok E hE (mNoted s 8 a (regOf x i.b)) { x with writes := putEnt x.writes a (regOf x i.b) } hp hN1 hX1 hV1 hr0 hr1
    exact ⟨⟨k.pos, k.mono, k.notes, k.ts, k.r0, k.r1, k.fails, k.len.trans hl, by rw [e], k.ends, k.wv⟩, by rw [e], by rw [e]⟩

theorem mWrite_ok (E : Env) (hE : EnvOk E) {m n : Nat} (s : LS) (x : TS) (i : InsD) (hp : s.pos ≤ E.seen.length) (hN : NotesOk m s) (hX : TsOk n x) (hV : WvOk x) (hr0 : 0 ≤ s.rank) (hr1 : s.rank ≤ 1125899906842625) :
    StOk E (m + 1) (n + 2) s x (mWrite E s x i).2.1 (mWrite E s x i).2.2 ∧ (mWrite E s x i).2.2.place = x.place ∧ (mWrite E s x i).2.2.begun = x.begun := by
  obtain ⟨_, _, ⟨hs1, hs2⟩, _⟩ := cfgB_true hE.cfg
  have hst := tmodB' (regOf x i.a) E.c.s hs1 hs2
  have hr := hX.reg i.a
  unfold mWrite
  dsimp only
  split
  · exact ⟨⟨hp, Nat.le_refl _, hN.more (Nat.le_succ _), hX.more (by omega), hr0, hr1, rfl, rfl, rfl, rfl, hV⟩, rfl, rfl⟩
  · split
    · obtain ⟨k, p1, p2⟩ := mWrote_ok E hE s x i (regOf x i.a) true hr.1 hr.2 hp hN hX hV hr0 hr1
      exact ⟨⟨k.pos, k.mono, k.notes, k.ts.more (by omega), k.r0, k.r1, k.fails, k.len, k.code, k.ends, k.wv⟩, p1, p2⟩
    · obtain ⟨g1, g2⟩ := mGet_ok E hE x ((regOf x i.a).tmod E.c.s) hst.1 hst.2 hX (loopFuel E s) s hp
      have g3 := mGet_same E x ((regOf x i.a).tmod E.c.s) (loopFuel E s) s
      have g4 := mGet_ends E x ((regOf x i.a).tmod E.c.s) (loopFuel E s) s
      generalize mGet E x ((regOf x i.a).tmod E.c.s) (loopFuel E s) s = t at *
      split
      · exact ⟨⟨g1.pos, g1.mono, (hN.sn g1.sn).more (Nat.le_succ _), g2.more (by omega), by rw [g1.rank]; exact hr0, by rw [g1.rank]; exact hr1, g1.fails, g1.sn.len, g3.1, g4, hV.of g3.2.2.2.1⟩, g3.2.1, g3.2.2.1⟩
      · obtain ⟨k, p1, p2⟩ := mWrote_ok E hE t.2.1 t.2.2 i (regOf x i.a) false hr.1 hr.2 g1.pos (hN.sn g1.sn) g2 (hV.of g3.2.2.2.1) (by rw [g1.rank]; exact hr0) (by rw [g1.rank]; exact hr1)
        exact ⟨⟨k.pos, Nat.le_trans g1.mono k.mono, k.notes, k.ts, k.r0, k.r1, k.fails.trans g1.fails, k.len.trans g1.sn.len, k.code.trans g3.1, k.ends.trans g4, k.wv⟩, p1.trans g3.2.1, p2.trans g3.2.2.1⟩

theorem tmodB16 (a : Int) : -70000 ≤ a.tmod 65536 ∧ a.tmod 65536 ≤ 1125899906842624 := by
  have h3 := Int.tmod_lt_of_pos a (show (0 : Int) < 65536 by omega)
  have h4 := Int.lt_tmod_of_pos a (show (0 : Int) < 65536 by omega)
  omega

theorem TsOk.at {n : Nat} {x : TS} (h : TsOk n x) (b q : Nat) : TsOk n { x with begun := b, place := q } := ⟨h.rd, h.wr, h.hd, h.rg, h.rl, h.wl, h.hl, h.way0, h.way1, h.four⟩

/-- What one step keeps; an Open step counts. -/
theorem mStep_ok (E : Env) (hE : EnvOk E) {m n : Nat} (s : LS) (x : TS) (hp : s.pos ≤ E.seen.length) (hN : NotesOk m s) (hX : TsOk n x) (hV : WvOk x) (hr0 : 0 ≤ s.rank) (hr1 : s.rank ≤ 1125899906842625) (hpl : x.place ≤ x.code.length) (hbg : (x.begun : Int) ≤ E.c.f) :
    StOk E (m + 1) (n + 2) s x (mStep E s x).2.1 (mStep E s x).2.2 ∧ (mStep E s x).2.2.place ≤ x.code.length ∧ ((mStep E s x).1 = 0 → (mStep E s x).2.2.begun = x.begun + 1 ∧ (x.begun : Int) + 1 ≤ E.c.f) := by
  have base : ∀ y : TS, TsOk n y → WvOk y → y.code = x.code → StOk E (m + 1) (n + 2) s x s y := fun y hy hv hc => ⟨hp, Nat.le_refl _, hN.more (Nat.le_succ _), hy.more (by omega), hr0, hr1, rfl, rfl, hc, rfl, hv⟩
  rw [mStep_eq]
  split
  · exact ⟨base x hX hV rfl, hpl, by simp⟩
  · split
    · exact ⟨base x hX hV rfl, hpl, by simp⟩
    · rename_i hne hfu
      have hb1 : (x.begun : Int) + 1 ≤ E.c.f := by omega
      have hpl1 : x.place + 1 ≤ x.code.length := by omega
      split
      · exact ⟨base _ (hX.at (x.begun + 1) x.place) hV rfl, hpl, by simp⟩
      · rename_i hfm
        have hX2 := hX.at (x.begun + 1) (x.place + 1)
        have hV2 : WvOk { x with begun := x.begun + 1, place := x.place + 1 } := hV
        have hfm' : formedB (insAt x.code x.place) x.code.length = true := by simpa using hfm
        generalize insAt x.code x.place = i at *
        unfold mDo
        split
        · exact ⟨base _ hX2 hV2 rfl, hpl1, by simp⟩
        · split
          · exact ⟨base _ hX2 hV2 rfl, hpl1, by simp⟩
          · rename_i h0 h1
            split
            · rename_i h2
              have hb : inB i.b 0 65535 = true := by
                unfold formedB at hfm'
                rw [if_neg (by omega), if_pos h2] at hfm'
                simp at hfm'
                exact hfm'.2
              have := inB_true hb
              exact ⟨base _ (hX2.setReg i.a i.b (by omega) (by omega)) hV2 rfl, hpl1, fun _ => ⟨rfl, hb1⟩⟩
            · split
              · have := tmodB16 (regOf { x with begun := x.begun + 1, place := x.place + 1 } i.b + regOf { x with begun := x.begun + 1, place := x.place + 1 } i.c)
                exact ⟨base _ (hX2.setReg i.a _ this.1 this.2) hV2 rfl, hpl1, fun _ => ⟨rfl, hb1⟩⟩
              · split
                · have := tmodB16 (regOf { x with begun := x.begun + 1, place := x.place + 1 } i.b + 65535 + 1 - regOf { x with begun := x.begun + 1, place := x.place + 1 } i.c)
                  exact ⟨base _ (hX2.setReg i.a _ this.1 this.2) hV2 rfl, hpl1, fun _ => ⟨rfl, hb1⟩⟩
                · rename_i h2 h3 h4
                  split
                  · rename_i h5
                    have hc : inB i.c 0 x.code.length = true := by
                      unfold formedB at hfm'
                      rw [if_neg (by omega), if_neg h2, if_neg (by omega), if_pos h5] at hfm'
                      exact hfm'
                    have := inB_true hc
                    exact ⟨base _ (hX.at (x.begun + 1) i.c.toNat) hV2 rfl, by show i.c.toNat ≤ _; omega, fun _ => ⟨rfl, hb1⟩⟩
                  · rename_i h5
                    split
                    · rename_i h6
                      have hc : inB i.c 0 x.code.length = true := by
                        unfold formedB at hfm'
                        rw [if_neg (by omega), if_neg h2, if_neg (by omega), if_neg h5, if_pos h6] at hfm'
                        simp at hfm'
                        exact hfm'.2
                      have := inB_true hc
                      dsimp only
                      split
                      · exact ⟨base _ (hX.at (x.begun + 1) i.c.toNat) hV2 rfl, by show i.c.toNat ≤ _; omega, fun _ => ⟨rfl, hb1⟩⟩
                      · exact ⟨base _ hX2 hV2 rfl, hpl1, fun _ => ⟨rfl, hb1⟩⟩
                    · split
                      · obtain ⟨k, p1, p2⟩ := mRead_ok E hE s _ i hp hN hX2 hV2 hr0 hr1
                        exact ⟨⟨k.pos, k.mono, k.notes, k.ts.more (by omega), k.r0, k.r1, k.fails, k.len, k.code, k.ends, k.wv⟩, by rw [p1]; exact hpl1, fun _ => ⟨p2, hb1⟩⟩
                      · obtain ⟨k, p1, p2⟩ := mWrite_ok E hE s _ i hp hN hX2 hV2 hr0 hr1
                        exact ⟨⟨k.pos, k.mono, k.notes, k.ts, k.r0, k.r1, k.fails, k.len, k.code, k.ends, k.wv⟩, by rw [p1]; exact hpl1, fun _ => ⟨p2, hb1⟩⟩

end Go.Proofs.YtejadojilncbjaaGreat

namespace Go.Proofs.YtejadojilncbjaaGreat
set_option linter.unusedVariables false

/-- LsOk, and the ends as they were. -/
structure LeOk (E : Env) (s s' : LS) : Prop where
  ls : LsOk E s s'
  ends : s'.ends = s.ends
theorem LeOk.refl {E : Env} {s : LS} (h : s.pos ≤ E.seen.length) : LeOk E s s := ⟨LsOk.refl h, rfl⟩
theorem LeOk.trans {E : Env} {a b c : LS} (h : LeOk E a b) (k : LeOk E b c) : LeOk E a c := ⟨h.ls.trans k.ls, k.ends.trans h.ends⟩
theorem mAsk_le (E : Env) (s : LS) (q : AskD) (h : s.pos ≤ E.seen.length) : LeOk E s (mAsk E s q).2 := ⟨mAsk_ok E s q h, mAsk_ends E s q⟩
theorem foldl_le {α : Type} (E : Env) (f : LS → α → LS) (hf : ∀ s a, s.pos ≤ E.seen.length → LeOk E s (f s a)) : ∀ (l : List α) (s : LS), s.pos ≤ E.seen.length → LeOk E s (l.foldl f s)
  | [], s, h => LeOk.refl h
  | a :: l, s, h => (hf s a h).trans (foldl_le E f hf l (f s a) (hf s a h).ls.pos)
theorem mFree_le (E : Env) (x : TS) (s : LS) (h : s.pos ≤ E.seen.length) : LeOk E s (mFree E x s) := foldl_le E _ (fun s a hs => mAsk_le E s _ hs) x.held s h
theorem mGate_le (E : Env) : ∀ (n : Nat) (s : LS) (x : TS), s.pos ≤ E.seen.length → LeOk E s (mGate E n s x).1 ∧ ∃ ig, (mGate E n s x).2 = { x with inGate := ig }
  | 0, s, x, h => ⟨LeOk.refl h, x.inGate, rfl⟩
  | n + 1, s, x, h => by
    unfold mGate
    split
    · exact ⟨LeOk.refl h, x.inGate, rfl⟩
    · dsimp only
      have h1 := mAsk_le E s ⟨3, 2, 0, E.me + 1⟩ h
      obtain ⟨h2, ig, h3⟩ := mGate_le E n (mAsk E s ⟨3, 2, 0, E.me + 1⟩).2 { x with inGate := (mAsk E s ⟨3, 2, 0, E.me + 1⟩).1 == 0 } h1.ls.pos
      exact ⟨h1.trans h2, ig, h3⟩
theorem mStill_le (E : Env) (x : TS) (skip : Bool) (l : List EntD) (s : LS) (h : s.pos ≤ E.seen.length) : LeOk E s (mStill E x skip l s).2 := ⟨mStill_ok E x skip l s h, mStill_ends E x skip l s⟩

theorem mGated_le (E : Env) (s : LS) (x : TS) (h : s.pos ≤ E.seen.length) : LeOk E s (mGated E s x).2.1 ∧ (mGated E s x).2.2 = x := by
  have h1 : LeOk E s (mLoad E s 0).2 := mAsk_le E s _ h
  unfold mGated
  dsimp only
  split
  · exact ⟨h1, rfl⟩
  · have h2 : LeOk E s (if (mLoad E s 0).1 ≠ x.valid then mStill E x true x.reads (mLoad E s 0).2 else (0, (mLoad E s 0).2)).2 := by
      split
      · exact h1.trans (mStill_le E x true x.reads _ h1.ls.pos)
      · exact h1
    generalize (if (mLoad E s 0).1 ≠ x.valid then mStill E x true x.reads (mLoad E s 0).2 else (0, (mLoad E s 0).2)) = t at *
    split
    · exact ⟨h2, rfl⟩
    · have h3 : LeOk E s (x.held.foldl (shutStep E) t.2) := h2.trans (foldl_le E _ (fun s a hs => mAsk_le E s _ hs) _ _ h2.ls.pos)
      have h4 : LeOk E s (mStore E (x.held.foldl (shutStep E) t.2) 0 ((mLoad E s 0).1 + 1)).2 := h3.trans (mAsk_le E _ _ h3.ls.pos)
      generalize mStore E (x.held.foldl (shutStep E) t.2) 0 ((mLoad E s 0).1 + 1) = q3 at *
      split
      · exact ⟨h4, rfl⟩
      · refine ⟨?_, rfl⟩
        have h5 : LeOk E s { q3.2 with list := modLast q3.2.list fun a => { a with stamp := (mLoad E s 0).1 + 1 } } :=
          h4.trans ⟨⟨h4.ls.pos, Nat.le_refl _, SN.modLast (f := fun a => { a with stamp := (mLoad E s 0).1 + 1 }) (fun _ => rfl) rfl, rfl, rfl⟩, rfl⟩
        generalize ({ q3.2 with list := modLast q3.2.list fun a => { a with stamp := (mLoad E s 0).1 + 1 } } : LS) = s2 at *
        have h6 : LeOk E s (mStore E s2 2 0).2 := h5.trans (mAsk_le E _ _ h5.ls.pos)
        have h7 : LeOk E s (x.writes.foldl (writeStep E) (mStore E s2 2 0).2) := h6.trans (foldl_le E _ (fun s a hs => mAsk_le E s _ hs) _ _ h6.ls.pos)
        exact h7.trans (foldl_le E _ (fun s a hs => (mAsk_le E s _ hs).trans (mAsk_le E _ _ (mAsk_le E s _ hs).ls.pos)) _ _ h7.ls.pos)

theorem mCommit_le (E : Env) (s : LS) (x : TS) (h : s.pos ≤ E.seen.length) : LeOk E s (mCommit E s x).2.1 ∧ ∃ ig, (mCommit E s x).2.2 = { x with inGate := ig } := by
  have h1 : LeOk E s (mLoad E s (cStatus E E.me)).2 := mAsk_le E s _ h
  by_cases hm : (mLoad E s (cStatus E E.me)).2.over = false ∧ 0 < (mLoad E s (cStatus E E.me)).1.tmod 8
  · rw [mCommit_mark E s x (v1 := (mLoad E s (cStatus E E.me)).1) (s1 := (mLoad E s (cStatus E E.me)).2) rfl hm]
    exact ⟨h1, x.inGate, rfl⟩
  · rw [mCommit_gate E s x (v1 := (mLoad E s (cStatus E E.me)).1) (s1 := (mLoad E s (cStatus E E.me)).2) rfl hm]
    obtain ⟨h2, ig, h3⟩ := mGate_le E (loopFuel E (mLoad E s (cStatus E E.me)).2) (mLoad E s (cStatus E E.me)).2 x h1.ls.pos
    obtain ⟨h4, h5⟩ := mGated_le E (mGate E (loopFuel E (mLoad E s (cStatus E E.me)).2) (mLoad E s (cStatus E E.me)).2 x).1 (mGate E (loopFuel E (mLoad E s (cStatus E E.me)).2) (mLoad E s (cStatus E E.me)).2 x).2 (h1.trans h2).ls.pos
    exact ⟨(h1.trans h2).trans h4, ig, by rw [h5, h3]⟩

theorem mWait_le (E : Env) (win : Int) : ∀ (n : Nat) (s : LS), s.pos ≤ E.seen.length → LeOk E s (mWait E win n s)
  | 0, s, h => LeOk.refl h
  | n + 1, s, h => by
    have h1 : LeOk E s (mLoad E s (cStatus E win)).2 := mAsk_le E s _ h
    unfold mWait
    split
    · exact LeOk.refl h
    · dsimp only
      split
      · exact h1
      · exact h1.trans (mWait_le E win n _ h1.ls.pos)
theorem mNones_le (E : Env) : ∀ (n : Nat) (s : LS), s.pos ≤ E.seen.length → LeOk E s (mNones E n s)
  | 0, s, h => LeOk.refl h
  | n + 1, s, h => (mAsk_le E s _ h).trans (mNones_le E n _ (mAsk_le E s ⟨0, 0, 0, 0⟩ h).ls.pos)
theorem mRest_le (E : Env) (draw : Int) (s : LS) (h : s.pos ≤ E.seen.length) : LeOk E s (mRest E draw s) := by
  unfold mRest
  dsimp only
  split
  · exact mNones_le E _ s h
  · exact LeOk.refl h

theorem mEnded_sn (E : Env) (s : LS) (f : Int) : SN s (mEnded E s f) := SN.modLast (f := fun a => { a with fin := E.whens.getD (s.pos - 1) 0, fate := f }) (fun _ => rfl) rfl

/-- What is known of a life between attempts. -/
structure LifeOk (E : Env) (s : LS) : Prop where
  pos : s.pos ≤ E.seen.length
  len : s.list.length ≤ s.pos
  nt : ∀ a ∈ s.list, a.notes.length ≤ 64 * s.pos
  r0 : 0 ≤ s.rank
  r1 : s.rank ≤ 1125899906842625
  f0 : 0 ≤ s.fails
  f1 : s.fails ≤ s.pos
  ends : s.ends.length = E.jobs.length

end Go.Proofs.YtejadojilncbjaaGreat
