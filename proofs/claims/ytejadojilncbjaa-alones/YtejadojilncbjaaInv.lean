import Derived.Test.YtejadojilncbjaaExtend
namespace Go.Proofs.Ytejadojilncbjaa
set_option linter.unusedVariables false

/-- What is known of an attempt under way. -/
structure TsOk (n : Nat) (x : TS) : Prop where
  rd : ∀ e ∈ x.reads, -8 ≤ e.what ∧ e.what ≤ 8
  wr : ∀ e ∈ x.writes, -70000 ≤ e.what ∧ e.what ≤ 1125899906842624
  hd : ∀ h ∈ x.held, -8 ≤ h ∧ h ≤ 8
  rg : ∀ r ∈ x.regs, -70000 ≤ r ∧ r ≤ 1125899906842624
  rl : x.reads.length ≤ n
  wl : x.writes.length ≤ n
  hl : x.held.length ≤ n
  way0 : -2 ≤ x.way
  way1 : x.way ≤ 1125899906842624
  four : x.regs.length = 4

theorem TsOk.more {n m : Nat} {x : TS} (h : TsOk n x) (hm : n ≤ m) : TsOk m x := ⟨h.rd, h.wr, h.hd, h.rg, Nat.le_trans h.rl hm, Nat.le_trans h.wl hm, Nat.le_trans h.hl hm, h.way0, h.way1, h.four⟩

theorem TsOk.reg {n : Nat} {x : TS} (h : TsOk n x) (i : Int) : -70000 ≤ regOf x i ∧ regOf x i ≤ 1125899906842624 := by
  unfold regOf
  by_cases hi : i.toNat < x.regs.length
  · have : x.regs.getD i.toNat 0 ∈ x.regs := by
      rw [show x.regs.getD i.toNat 0 = x.regs[i.toNat] from by simp [List.getD, List.getElem?_eq_getElem hi]]
      exact List.getElem_mem hi
    exact h.rg _ this
  · have : x.regs.getD i.toNat 0 = 0 := by
      simp [List.getD, List.getElem?_eq_none (show x.regs.length ≤ i.toNat by omega)]
    rw [this]
    omega

theorem TsOk.setReg {n : Nat} {x : TS} (h : TsOk n x) (i v : Int) (h1 : -70000 ≤ v) (h2 : v ≤ 1125899906842624) : TsOk n (setReg x i v) :=
  ⟨h.rd, h.wr, h.hd, fun r hr => by
    rcases List.mem_or_eq_of_mem_set hr with h3 | h3
    · exact h.rg r h3
    · rw [h3]; exact ⟨h1, h2⟩, h.rl, h.wl, h.hl, h.way0, h.way1, by simp [Go.Proofs.Ytejadojilncbjaa.setReg, h.four]⟩

/-- The attempts are as many, each with as many notes. -/
def SN (s s' : LS) : Prop := s'.list.map (fun a => a.notes.length) = s.list.map (fun a => a.notes.length)

theorem SN.refl (s : LS) : SN s s := rfl
theorem SN.trans {a b c : LS} (h : SN a b) (k : SN b c) : SN a c := Eq.trans k h
theorem SN.of_list {s s' : LS} (h : s'.list = s.list) : SN s s' := by unfold SN; rw [h]
theorem SN.modLast {s s' : LS} {f : AttD → AttD} (hf : ∀ a, (f a).notes = a.notes) (h : s'.list = Go.Proofs.Ytejadojilncbjaa.modLast s.list f) : SN s s' := by
  unfold SN
  rw [h]
  unfold Go.Proofs.Ytejadojilncbjaa.modLast
  apply List.ext_getElem?
  intro i
  rw [List.getElem?_map, List.getElem?_map, List.getElem?_modify]
  cases s.list[i]? with
  | none => simp
  | some a => by_cases h : s.list.length - 1 = i <;> simp [h, hf]

structure NotesOk (n : Nat) (s : LS) : Prop where
  ne : s.list ≠ []
  len : s.list.length ≤ 2 ^ 42
  nt : ∀ a ∈ s.list, a.notes.length ≤ n

theorem NotesOk.sn {n : Nat} {s s' : LS} (h : NotesOk n s) (k : SN s s') : NotesOk n s' := by
  have hl : s'.list.length = s.list.length := by have := congrArg List.length k; simpa using this
  refine ⟨fun e => h.ne ?_, by rw [hl]; exact h.len, fun a ha => ?_⟩
  · rw [e] at hl; exact List.length_eq_zero_iff.1 hl.symm
  · have h1 : a.notes.length ∈ s'.list.map (fun a => a.notes.length) := List.mem_map_of_mem ha
    rw [k] at h1
    obtain ⟨b, hb, e⟩ := List.mem_map.1 h1
    rw [← e]; exact h.nt b hb

theorem mAsk_sn (E : Env) (s : LS) (q : AskD) : SN s (mAsk E s q).2 := SN.of_list (mAsk_list E s q)
theorem mLoad_sn (E : Env) (s : LS) (c : Int) : SN s (mLoad E s c).2 := mAsk_sn E s _
/-- What an answer keeps: the numbers of a life. -/
structure LsOk (E : Env) (s s' : LS) : Prop where
  pos : s'.pos ≤ E.seen.length
  mono : s.pos ≤ s'.pos
  sn : SN s s'
  rank : s'.rank = s.rank
  fails : s'.fails = s.fails
theorem LsOk.refl {E : Env} {s : LS} (h : s.pos ≤ E.seen.length) : LsOk E s s := ⟨h, Nat.le_refl _, SN.refl _, rfl, rfl⟩
theorem LsOk.trans {E : Env} {a b c : LS} (h : LsOk E a b) (k : LsOk E b c) : LsOk E a c := ⟨k.pos, Nat.le_trans h.mono k.mono, h.sn.trans k.sn, k.rank.trans h.rank, k.fails.trans h.fails⟩
theorem mAsk_ok (E : Env) (s : LS) (q : AskD) (h : s.pos ≤ E.seen.length) : LsOk E s (mAsk E s q).2 := ⟨(mAsk_pos E s q h).2, (mAsk_pos E s q h).1, mAsk_sn E s q, mAsk_rank E s q, mAsk_fails E s q⟩

theorem mStill_ok (E : Env) (x : TS) (skip : Bool) : ∀ (l : List EntD) (s : LS), s.pos ≤ E.seen.length → LsOk E s (mStill E x skip l s).2
  | [], s, h => LsOk.refl h
  | e :: r, s, h => by
    have h1 : LsOk E s (mLoad E s (cVersion E e.what)).2 := mAsk_ok E s ⟨1, cVersion E e.what, 0, 0⟩ h
    unfold mStill
    split
    · exact mStill_ok E x skip r s h
    · show LsOk E s (if (mLoad E s (cVersion E e.what)).2.over = true then _ else if (mLoad E s (cVersion E e.what)).1 ≠ e.val then _ else _ : Int × LS).2
      split
      · exact h1
      · split
        · exact h1
        · exact h1.trans (mStill_ok E x skip r (mLoad E s (cVersion E e.what)).2 h1.pos)

theorem mExtend_ok (E : Env) (s : LS) (x : TS) (h : s.pos ≤ E.seen.length) : LsOk E s (mExtend E s x).2.1 := by
  have h1 : LsOk E s (mLoad E s 0).2 := mAsk_ok E s _ h
  have h2 := mStill_ok E x false x.reads (mLoad E s 0).2 h1.pos
  unfold mExtend
  dsimp only
  split
  · exact h1
  · split
    · exact (h1.trans h2).trans ⟨h2.pos, Nat.le_refl _, SN.modLast (f := fun a => { a with valid := (mLoad E s 0).1 }) (fun _ => rfl) rfl, rfl, rfl⟩
    · exact h1.trans h2

theorem mExtend_ts (E : Env) (hE : EnvOk E) (s : LS) (x : TS) {n : Nat} (h : TsOk n x) : TsOk n (mExtend E s x).2.2 := by
  unfold mExtend
  dsimp only
  split
  · exact h
  · split
    · exact ⟨h.rd, h.wr, h.hd, h.rg, h.rl, h.wl, h.hl, h.way0, h.way1, h.four⟩
    · exact h

theorem TsOk.addRead {n : Nat} {x : TS} (h : TsOk n x) (st v : Int) (h1 : -8 ≤ st) (h2 : st ≤ 8) : TsOk (n + 1) { x with reads := x.reads ++ [⟨st, v⟩] } :=
  ⟨fun e he => by
    rcases List.mem_append.1 he with h3 | h3
    · exact h.rd e h3
    · simp at h3; subst h3; exact ⟨h1, h2⟩, h.wr, h.hd, h.rg, by have := h.rl; simp; omega, Nat.le_trans h.wl (Nat.le_succ n), Nat.le_trans h.hl (Nat.le_succ n), h.way0, h.way1, h.four⟩
theorem TsOk.addHeld {n : Nat} {x : TS} (h : TsOk n x) (st : Int) (h1 : -8 ≤ st) (h2 : st ≤ 8) : TsOk (n + 1) { x with held := x.held ++ [st] } :=
  ⟨h.rd, h.wr, fun e he => by
    rcases List.mem_append.1 he with h3 | h3
    · exact h.hd e h3
    · simp at h3; subst h3; exact ⟨h1, h2⟩, h.rg, Nat.le_trans h.rl (Nat.le_succ n), Nat.le_trans h.wl (Nat.le_succ n), by have := h.hl; simp; omega, h.way0, h.way1, h.four⟩

theorem mStands_ok (E : Env) (hE : EnvOk E) (x : TS) (a st : Int) (hs1 : -8 ≤ st) (hs2 : st ≤ 8) {m : Nat} (hx : TsOk m x) : ∀ (n : Nat) (s : LS), s.pos ≤ E.seen.length →
    LsOk E s (mStands E x a st n s).2.2.1 ∧ TsOk (m + 1) (mStands E x a st n s).2.2.2 ∧ (-1 ≤ (mStands E x a st n s).1 ∧ (mStands E x a st n s).1 ≤ 1125899906842624)
  | 0, s, h => ⟨LsOk.refl h, hx.more (Nat.le_succ _), by simp [mStands]⟩
  | n + 1, s, h => by
    have h1 : LsOk E s (mLoad E s (cVersion E st)).2 := mAsk_ok E s _ h
    have h2 : LsOk E s (mLoad E (mLoad E s (cVersion E st)).2 (cWord E a)).2 := h1.trans (mAsk_ok E _ _ h1.pos)
    have h3 : LsOk E s (mLoad E (mLoad E (mLoad E s (cVersion E st)).2 (cWord E a)).2 (cVersion E st)).2 := h2.trans (mAsk_ok E _ _ h2.pos)
    have hv : -1 ≤ (mLoad E (mLoad E s (cVersion E st)).2 (cWord E a)).1 ∧ (mLoad E (mLoad E s (cVersion E st)).2 (cWord E a)).1 ≤ 1125899906842624 := mAsk_val E hE _ _
    unfold mStands
    split
    · exact ⟨LsOk.refl h, hx.more (Nat.le_succ _), by simp⟩
    · dsimp only
      split
      · obtain ⟨i1, i2, i3⟩ := mStands_ok E hE x a st hs1 hs2 hx n (mLoad E s (cVersion E st)).2 h1.pos
        exact ⟨h1.trans i1, i2, i3⟩
      · split
        · obtain ⟨i1, i2, i3⟩ := mStands_ok E hE x a st hs1 hs2 hx n _ h3.pos
          exact ⟨h3.trans i1, i2, i3⟩
        · have hx1 : TsOk (m + 1) (if (entIdx x.reads st).isSome = true then x else { x with reads := x.reads ++ [⟨st, (mLoad E s (cVersion E st)).1⟩] }) := by
            split
            · exact hx.more (Nat.le_succ _)
            · exact hx.addRead st _ hs1 hs2
          generalize (if (entIdx x.reads st).isSome = true then x else { x with reads := x.reads ++ [⟨st, (mLoad E s (cVersion E st)).1⟩] }) = x1 at hx1 ⊢
          split
          · exact ⟨h3, hx1, hv⟩
          · exact ⟨h3.trans (mExtend_ok E _ _ h3.pos), mExtend_ts E hE _ _ hx1, hv⟩

theorem mGet_ok (E : Env) (hE : EnvOk E) (x : TS) (st : Int) (hs1 : -8 ≤ st) (hs2 : st ≤ 8) {m : Nat} (hx : TsOk m x) : ∀ (n : Nat) (s : LS), s.pos ≤ E.seen.length →
    LsOk E s (mGet E x st n s).2.1 ∧ TsOk (m + 1) (mGet E x st n s).2.2
  | 0, s, h => ⟨LsOk.refl h, hx.more (Nat.le_succ _)⟩
  | n + 1, s, h => by
    have h1 : LsOk E s (mLoad E s (cStatus E E.me)).2 := mAsk_ok E s _ h
    have h2 : LsOk E s (mAsk E (mLoad E s (cStatus E E.me)).2 ⟨3, cOwner E st, 0, E.me + 1⟩).2 := h1.trans (mAsk_ok E _ _ h1.pos)
    have hv2 := mAsk_val E hE (mLoad E s (cStatus E E.me)).2 ⟨3, cOwner E st, 0, E.me + 1⟩
    unfold mGet
    split
    · exact ⟨LsOk.refl h, hx.more (Nat.le_succ _)⟩
    · dsimp only
      split
      · exact ⟨h1, hx.more (Nat.le_succ _)⟩
      · split
        · exact ⟨h2, hx.more (Nat.le_succ _)⟩
        · split
          · have h3 : LsOk E s (mLoad E (mAsk E (mLoad E s (cStatus E E.me)).2 ⟨3, cOwner E st, 0, E.me + 1⟩).2 (cVersion E st)).2 := h2.trans (mAsk_ok E _ _ h2.pos)
            split
            · exact ⟨h3, hx.addHeld st hs1 hs2⟩
            · split
              · exact ⟨h3.trans (mExtend_ok E _ _ h3.pos), mExtend_ts E hE _ _ (hx.addHeld st hs1 hs2)⟩
              · exact ⟨h3, hx.addHeld st hs1 hs2⟩
          · split
            · exact ⟨h2, hx.more (Nat.le_succ _)⟩
            · have h3 : LsOk E s (mLoad E (mAsk E (mLoad E s (cStatus E E.me)).2 ⟨3, cOwner E st, 0, E.me + 1⟩).2 (cStatus E ((mAsk E (mLoad E s (cStatus E E.me)).2 ⟨3, cOwner E st, 0, E.me + 1⟩).1 - 1))).2 := h2.trans (mAsk_ok E _ _ h2.pos)
              split
              · refine ⟨h3, ?_⟩
                have := hx.more (Nat.le_succ m)
                exact ⟨this.rd, this.wr, this.hd, this.rg, this.rl, this.wl, this.hl, by show -2 ≤ _ - 1; omega, by show _ - 1 ≤ _; omega, this.four⟩
              · split
                · have h4 := h3.trans (mAsk_ok E _ ⟨3, cStatus E ((mAsk E (mLoad E s (cStatus E E.me)).2 ⟨3, cOwner E st, 0, E.me + 1⟩).1 - 1), (mLoad E (mAsk E (mLoad E s (cStatus E E.me)).2 ⟨3, cOwner E st, 0, E.me + 1⟩).2 (cStatus E ((mAsk E (mLoad E s (cStatus E E.me)).2 ⟨3, cOwner E st, 0, E.me + 1⟩).1 - 1))).1, (mLoad E (mAsk E (mLoad E s (cStatus E E.me)).2 ⟨3, cOwner E st, 0, E.me + 1⟩).2 (cStatus E ((mAsk E (mLoad E s (cStatus E E.me)).2 ⟨3, cOwner E st, 0, E.me + 1⟩).1 - 1))).1 + E.me + 1⟩ h3.pos)
                  obtain ⟨i1, i2⟩ := mGet_ok E hE x st hs1 hs2 hx n _ h4.pos
                  exact ⟨h4.trans i1, i2⟩
                · obtain ⟨i1, i2⟩ := mGet_ok E hE x st hs1 hs2 hx n _ h3.pos
                  exact ⟨h3.trans i1, i2⟩

end Go.Proofs.Ytejadojilncbjaa
