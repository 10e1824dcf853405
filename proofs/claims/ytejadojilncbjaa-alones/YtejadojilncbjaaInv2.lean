import Derived.Test.YtejadojilncbjaaInv
namespace Go.Proofs.Ytejadojilncbjaa
set_option linter.unusedVariables false

/-- The code, the place and the count of an attempt. -/
def Same (x x' : TS) : Prop := x'.code = x.code ∧ x'.place = x.place ∧ x'.begun = x.begun ∧ x'.writes = x.writes ∧ x'.regs = x.regs
theorem Same.refl (x : TS) : Same x x := ⟨rfl, rfl, rfl, rfl, rfl⟩
theorem Same.trans {a b c : TS} (h : Same a b) (k : Same b c) : Same a c := ⟨k.1.trans h.1, k.2.1.trans h.2.1, k.2.2.1.trans h.2.2.1, k.2.2.2.1.trans h.2.2.2.1, k.2.2.2.2.trans h.2.2.2.2⟩

theorem mExtend_same (E : Env) (s : LS) (x : TS) : Same x (mExtend E s x).2.2 := by
  unfold mExtend
  dsimp only
  split
  · exact Same.refl _
  · split
    · exact ⟨rfl, rfl, rfl, rfl, rfl⟩
    · exact Same.refl _

theorem mStands_same (E : Env) (x : TS) (a st : Int) : ∀ (n : Nat) (s : LS), Same x (mStands E x a st n s).2.2.2
  | 0, s => Same.refl _
  | n + 1, s => by
    unfold mStands
    split
    · exact Same.refl _
    · dsimp only
      split
      · exact mStands_same E x a st n _
      · split
        · exact mStands_same E x a st n _
        · have hx1 : Same x (if (entIdx x.reads st).isSome = true then x else { x with reads := x.reads ++ [⟨st, (mLoad E s (cVersion E st)).1⟩] }) := by
            split
            · exact Same.refl _
            · exact ⟨rfl, rfl, rfl, rfl, rfl⟩
          generalize (if (entIdx x.reads st).isSome = true then x else { x with reads := x.reads ++ [⟨st, (mLoad E s (cVersion E st)).1⟩] }) = x1 at hx1 ⊢
          split
          · exact hx1
          · exact hx1.trans (mExtend_same E _ _)

theorem mGet_same (E : Env) (x : TS) (st : Int) : ∀ (n : Nat) (s : LS), Same x (mGet E x st n s).2.2
  | 0, s => Same.refl _
  | n + 1, s => by
    unfold mGet
    split
    · exact Same.refl _
    · dsimp only
      split
      · exact Same.refl _
      · split
        · exact Same.refl _
        · split
          · split
            · exact ⟨rfl, rfl, rfl, rfl, rfl⟩
            · split
              · exact Same.trans (b := { x with held := x.held ++ [st] }) ⟨rfl, rfl, rfl, rfl, rfl⟩ (mExtend_same E _ _)
              · exact ⟨rfl, rfl, rfl, rfl, rfl⟩
          · split
            · exact Same.refl _
            · split
              · exact ⟨rfl, rfl, rfl, rfl, rfl⟩
              · split
                · exact mGet_same E x st n _
                · exact mGet_same E x st n _

def WvOk (x : TS) : Prop := ∀ e ∈ x.writes, -70000 ≤ e.val ∧ e.val ≤ 1125899906842624

structure StOk (E : Env) (m n : Nat) (s : LS) (x : TS) (s' : LS) (x' : TS) : Prop where
  pos : s'.pos ≤ E.seen.length
  mono : s.pos ≤ s'.pos
  notes : NotesOk m s'
  ts : TsOk n x'
  r0 : 0 ≤ s'.rank
  r1 : s'.rank ≤ 1125899906842625
  fails : s'.fails = s.fails
  len : s'.list.length = s.list.length
  code : x'.code = x.code
  ends : s'.ends = s.ends
  wv : WvOk x'

theorem SN.len {s s' : LS} (h : SN s s') : s'.list.length = s.list.length := by have := congrArg List.length h; simpa using this

theorem NotesOk.more {n m : Nat} {s : LS} (h : NotesOk n s) (hm : n ≤ m) : NotesOk m s := ⟨h.ne, h.len, fun a ha => Nat.le_trans (h.nt a ha) hm⟩
theorem NotesOk.noted {n : Nat} {s : LS} (h : NotesOk n s) (op addr val : Int) : NotesOk (n + 1) (mNoted s op addr val) := by
  have hl : (mNoted s op addr val).list.length = s.list.length := by simp [mNoted, modLast]
  refine ⟨fun e => h.ne ?_, by rw [hl]; exact h.len, fun a ha => ?_⟩
  · rw [e] at hl; exact List.length_eq_zero_iff.1 hl.symm
  · obtain ⟨i, hi, rfl⟩ := List.mem_iff_getElem.1 ha
    have h1 : (mNoted s op addr val).list[i]? = some ((mNoted s op addr val).list[i]) := List.getElem?_eq_getElem hi
    have hi' : i < s.list.length := by rw [← hl]; exact hi
    have h2 : (mNoted s op addr val).list[i]? = (s.list[i]?).map (if s.list.length - 1 = i then (fun a : AttD => { a with notes := a.notes ++ [⟨op, addr, val⟩] }) else id) := by
      show (modLast s.list _)[i]? = _
      unfold modLast
      rw [List.getElem?_modify]
      cases s.list[i]? with
      | none => rfl
      | some a => by_cases h : s.list.length - 1 = i <;> simp [h]
    rw [h1, List.getElem?_eq_getElem hi'] at h2
    have hb := h.nt s.list[i] (List.getElem_mem hi')
    simp at h2
    rw [h2]
    split
    · simp; omega
    · simp; omega

theorem mStill_ends (E : Env) (x : TS) (skip : Bool) : ∀ (l : List EntD) (s : LS), (mStill E x skip l s).2.ends = s.ends
  | [], s => rfl
  | e :: r, s => by
    have h1 : (mLoad E s (cVersion E e.what)).2.ends = s.ends := mAsk_ends E s _
    unfold mStill
    split
    · exact mStill_ends E x skip r s
    · show (if (mLoad E s (cVersion E e.what)).2.over = true then _ else if (mLoad E s (cVersion E e.what)).1 ≠ e.val then _ else _ : Int × LS).2.ends = _
      split
      · exact h1
      · split
        · exact h1
        · exact (mStill_ends E x skip r _).trans h1
theorem mExtend_ends (E : Env) (s : LS) (x : TS) : (mExtend E s x).2.1.ends = s.ends := by
  have h1 : (mLoad E s 0).2.ends = s.ends := mAsk_ends E s _
  have h2 := (mStill_ends E x false x.reads (mLoad E s 0).2).trans h1
  unfold mExtend
  dsimp only
  split
  · exact h1
  · split
    · exact h2
    · exact h2
theorem mStands_ends (E : Env) (x : TS) (a st : Int) : ∀ (n : Nat) (s : LS), (mStands E x a st n s).2.2.1.ends = s.ends
  | 0, s => rfl
  | n + 1, s => by
    have h1 : (mLoad E s (cVersion E st)).2.ends = s.ends := mAsk_ends E s _
    have h2 : (mLoad E (mLoad E s (cVersion E st)).2 (cWord E a)).2.ends = s.ends := (mAsk_ends E _ _).trans h1
    have h3 : (mLoad E (mLoad E (mLoad E s (cVersion E st)).2 (cWord E a)).2 (cVersion E st)).2.ends = s.ends := (mAsk_ends E _ _).trans h2
    unfold mStands
    split
    · rfl
    · dsimp only
      split
      · exact (mStands_ends E x a st n _).trans h1
      · split
        · exact (mStands_ends E x a st n _).trans h3
        · generalize (if (entIdx x.reads st).isSome = true then x else { x with reads := x.reads ++ [⟨st, (mLoad E s (cVersion E st)).1⟩] }) = x1
          split
          · exact h3
          · exact (mExtend_ends E _ _).trans h3
theorem mGet_ends (E : Env) (x : TS) (st : Int) : ∀ (n : Nat) (s : LS), (mGet E x st n s).2.1.ends = s.ends
  | 0, s => rfl
  | n + 1, s => by
    have h1 : (mLoad E s (cStatus E E.me)).2.ends = s.ends := mAsk_ends E s _
    have h2 : (mAsk E (mLoad E s (cStatus E E.me)).2 ⟨3, cOwner E st, 0, E.me + 1⟩).2.ends = s.ends := (mAsk_ends E _ _).trans h1
    unfold mGet
    split
    · rfl
    · dsimp only
      split
      · exact h1
      · split
        · exact h2
        · split
          · have h3 : (mLoad E (mAsk E (mLoad E s (cStatus E E.me)).2 ⟨3, cOwner E st, 0, E.me + 1⟩).2 (cVersion E st)).2.ends = s.ends := (mAsk_ends E _ _).trans h2
            split
            · exact h3
            · split
              · exact (mExtend_ends E _ _).trans h3
              · exact h3
          · split
            · exact h2
            · split
              · exact (mAsk_ends E _ _).trans h2
              · split
                · exact (mGet_ends E x st n _).trans ((mAsk_ends E _ _).trans ((mAsk_ends E _ _).trans h2))
                · exact (mGet_ends E x st n _).trans ((mAsk_ends E _ _).trans h2)

theorem tmodB' (a s : Int) (h1 : 1 ≤ s) (h2 : s ≤ 8) : -8 ≤ a.tmod s ∧ a.tmod s ≤ 8 := by
  have h3 := Int.tmod_lt_of_pos a (show 0 < s by omega)
  have h4 := Int.lt_tmod_of_pos a (show 0 < s by omega)
  omega

theorem mReadV_ok (E : Env) (hE : EnvOk E) {n : Nat} (s : LS) (x : TS) (a : Int) (hp : s.pos ≤ E.seen.length) (hX : TsOk n x) (hV : WvOk x) :
    LsOk E s (mReadV E s x a).2.2.1 ∧ TsOk (n + 1) (mReadV E s x a).2.2.2 ∧ Same x (mReadV E s x a).2.2.2 ∧ (mReadV E s x a).2.2.1.ends = s.ends ∧ (-70000 ≤ (mReadV E s x a).1 ∧ (mReadV E s x a).1 ≤ 1125899906842624) := by
  obtain ⟨_, _, ⟨hs1, hs2⟩, _⟩ := cfgB_true hE.cfg
  have hst := tmodB' a E.c.s hs1 hs2
  unfold mReadV
  dsimp only
  cases entIdx x.writes a with
  | some k =>
    refine ⟨LsOk.refl hp, hX.more (Nat.le_succ _), Same.refl _, rfl, ?_⟩
    dsimp only
    by_cases hk : k < x.writes.length
    · rw [show x.writes.getD k ⟨0, 0⟩ = x.writes[k] from by simp [List.getD, List.getElem?_eq_getElem hk]]
      exact hV _ (List.getElem_mem hk)
    · rw [show x.writes.getD k ⟨0, 0⟩ = ⟨0, 0⟩ from by simp [List.getD, List.getElem?_eq_none (show x.writes.length ≤ k by omega)]]
      simp
  | none =>
    dsimp only
    split
    · have hv := mAsk_val E hE s ⟨1, cWord E a, 0, 0⟩
      exact ⟨mAsk_ok E s _ hp, hX.more (Nat.le_succ _), Same.refl _, mAsk_ends E s _, by show -70000 ≤ (mAsk E s _).1; omega, hv.2⟩
    · obtain ⟨h1, h2, h3⟩ := mStands_ok E hE x a (a.tmod E.c.s) hst.1 hst.2 hX (loopFuel E s) s hp
      exact ⟨h1, h2, mStands_same E x _ _ _ _, mStands_ends E x _ _ _ _, by omega, h3.2⟩

theorem WvOk.of {x x' : TS} (h : WvOk x) (e : x'.writes = x.writes) : WvOk x' := fun y hy => h y (by rw [← e]; exact hy)

theorem mRead_ok (E : Env) (hE : EnvOk E) {m n : Nat} (s : LS) (x : TS) (i : InsD) (hp : s.pos ≤ E.seen.length) (hN : NotesOk m s) (hX : TsOk n x) (hV : WvOk x) (hr0 : 0 ≤ s.rank) (hr1 : s.rank ≤ 1125899906842625) :
    StOk E (m + 1) (n + 1) s x (mRead E s x i).2.1 (mRead E s x i).2.2 ∧ (mRead E s x i).2.2.place = x.place ∧ (mRead E s x i).2.2.begun = x.begun := by
  obtain ⟨k1, k2, k3, k4, k5⟩ := mReadV_ok E hE s x (regOf x i.b) hp hX hV
  unfold mRead
  dsimp only
  split
  · exact ⟨⟨hp, Nat.le_refl _, hN.more (Nat.le_succ _), hX.more (Nat.le_succ _), hr0, hr1, rfl, rfl, rfl, rfl, hV⟩, rfl, rfl⟩
  · split
    · exact ⟨⟨k1.pos, k1.mono, (hN.sn k1.sn).more (Nat.le_succ _), k2, by rw [k1.rank]; exact hr0, by rw [k1.rank]; exact hr1, k1.fails, k1.sn.len, k3.1, k4, hV.of k3.2.2.2.1⟩, k3.2.1, k3.2.2.1⟩
    · split
      · exact ⟨⟨k1.pos, k1.mono, (hN.sn k1.sn).more (Nat.le_succ _), k2, by rw [k1.rank]; exact hr0, by rw [k1.rank]; exact hr1, k1.fails, k1.sn.len, k3.1, k4, hV.of k3.2.2.2.1⟩, k3.2.1, k3.2.2.1⟩
      · have hn := (hN.sn k1.sn).noted 7 (regOf x i.b) (mReadV E s x (regOf x i.b)).1
        exact ⟨⟨k1.pos, k1.mono, hn, k2.setReg _ _ k5.1 k5.2, by show 0 ≤ (mReadV E s x (regOf x i.b)).2.2.1.rank; rw [k1.rank]; exact hr0, by show (mReadV E s x (regOf x i.b)).2.2.1.rank ≤ _; rw [k1.rank]; exact hr1, k1.fails,
          by rw [← k1.sn.len]; simp [mNoted, modLast], k3.1, k4, hV.of k3.2.2.2.1⟩, k3.2.1, k3.2.2.1⟩

end Go.Proofs.Ytejadojilncbjaa
