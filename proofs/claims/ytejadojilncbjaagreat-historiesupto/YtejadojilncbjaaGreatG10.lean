import Derived.Test.YtejadojilncbjaaGreatG07
import Derived.Test.YtejadojilncbjaaGreatG08
import Derived.Test.YtejadojilncbjaaGreatG09
namespace Go.Proofs.YtejadojilncbjaaGreat
set_option linter.unusedVariables false
structure TsOk (n : Nat) (x : TS) : Prop where
 rd : ∀ e ∈ x.reads, -8 ≤ e.what ∧ e.what ≤ 8
 wr : ∀ e ∈ x.writes, -70000 ≤ e.what ∧ e.what ≤ 1125899906842624
 hd : ∀ h ∈ x.held, -8 ≤ h ∧ h ≤ 8
 rg : ∀ r ∈ x.regs, -70000 ≤ r ∧ r ≤ 1125899906842624
 rl : x.reads.length ≤ n
 wl : x.writes.length ≤ n
 hl : x.held.length ≤ n
 way0 : -2 ≤ x.way
 way1 : x.way ≤ 1125899906842624
 four : x.regs.length = 4
theorem TsOk.more {n m : Nat} {x : TS} (h : TsOk n x) (hm : n ≤ m) : TsOk m x := ⟨h.rd, h.wr, h.hd, h.rg, Nat.le_trans h.rl hm, Nat.le_trans h.wl hm, Nat.le_trans h.hl hm, h.way0, h.way1, h.four⟩
theorem TsOk.reg {n : Nat} {x : TS} (h : TsOk n x) (i : Int) : -70000 ≤ regOf x i ∧ regOf x i ≤ 1125899906842624 := by
 unfold regOf
 by_cases hi : i.toNat < x.regs.length
 ·have : x.regs.getD i.toNat 0 ∈ x.regs := by
   rw [show x.regs.getD i.toNat 0 = x.regs[i.toNat] from by simp [List.getD, List.getElem?_eq_getElem hi]]
   exact List.getElem_mem hi
  exact h.rg _ this
 ·have : x.regs.getD i.toNat 0 = 0 := by
   simp [List.getD, List.getElem?_eq_none (show x.regs.length ≤ i.toNat by omega)]
  rw [this]
  omega
theorem TsOk.setReg {n : Nat} {x : TS} (h : TsOk n x) (i v : Int) (h1 : -70000 ≤ v) (h2 : v ≤ 1125899906842624) : TsOk n (setReg x i v) :=
 ⟨h.rd, h.wr, h.hd, fun r hr => by
     rcases List.mem_or_eq_of_mem_set hr with h3 | h3
     ·exact h.rg r h3
     ·rw [h3]; exact ⟨h1, h2⟩, h.rl, h.wl, h.hl, h.way0, h.way1, by simp [Go.Proofs.YtejadojilncbjaaGreat.setReg, h.four]⟩
def SN (s s' : LS) : Prop := s'.list.map (fun a => a.notes.length) = s.list.map (fun a => a.notes.length)
theorem SN.refl (s : LS) : SN s s := rfl
theorem SN.trans {a b c : LS} (h : SN a b) (k : SN b c) : SN a c := Eq.trans k h
theorem SN.of_list {s s' : LS} (h : s'.list = s.list) : SN s s' := by unfold SN; rw [h]
theorem SN.modLast {s s' : LS} {f : AttD → AttD} (hf : ∀ a, (f a).notes = a.notes) (h : s'.list = Go.Proofs.YtejadojilncbjaaGreat.modLast s.list f) : SN s s' := by
 unfold SN
 rw [h]
 unfold Go.Proofs.YtejadojilncbjaaGreat.modLast
 apply List.ext_getElem?
 intro i
 rw [List.getElem?_map, List.getElem?_map, List.getElem?_modify]
 cases s.list[i]? with
 | none => simp
 | some a => by_cases h : s.list.length - 1 = i <;> simp [h, hf]
structure NotesOk (n : Nat) (s : LS) : Prop where
 ne : s.list ≠ []
 len : s.list.length ≤ 2 ^ 42
 nt : ∀ a ∈ s.list, a.notes.length ≤ n
theorem NotesOk.sn {n : Nat} {s s' : LS} (h : NotesOk n s) (k : SN s s') : NotesOk n s' := by
 have hl : s'.list.length = s.list.length := by have := congrArg List.length k; simpa using this
 refine ⟨fun e => h.ne ?_, by rw [hl]; exact h.len, fun a ha => ?_⟩
 ·rw [e] at hl; exact List.length_eq_zero_iff.1 hl.symm
 ·have h1 : a.notes.length ∈ s'.list.map (fun a => a.notes.length) := List.mem_map_of_mem ha
  rw [k] at h1
  obtain ⟨b, hb, e⟩ := List.mem_map.1 h1
  rw [← e]; exact h.nt b hb
theorem mAsk_sn (E : Env) (s : LS) (q : AskD) : SN s (mAsk E s q).2 := SN.of_list (mAsk_list E s q)
theorem mLoad_sn (E : Env) (s : LS) (c : Int) : SN s (mLoad E s c).2 := mAsk_sn E s _
structure LsOk (E : Env) (s s' : LS) : Prop where
 pos : s'.pos ≤ E.seen.length
 mono : s.pos ≤ s'.pos
 sn : SN s s'
 rank : s'.rank = s.rank
 fails : s'.fails = s.fails
theorem LsOk.refl {E : Env} {s : LS} (h : s.pos ≤ E.seen.length) : LsOk E s s := ⟨h, Nat.le_refl _, SN.refl _, rfl, rfl⟩
theorem LsOk.trans {E : Env} {a b c : LS} (h : LsOk E a b) (k : LsOk E b c) : LsOk E a c := ⟨k.pos, Nat.le_trans h.mono k.mono, h.sn.trans k.sn, k.rank.trans h.rank, k.fails.trans h.fails⟩
theorem mAsk_ok (E : Env) (s : LS) (q : AskD) (h : s.pos ≤ E.seen.length) : LsOk E s (mAsk E s q).2 := ⟨(mAsk_pos E s q h).2, (mAsk_pos E s q h).1, mAsk_sn E s q, mAsk_rank E s q, mAsk_fails E s q⟩
theorem mStill_ok (E : Env) (x : TS) (skip : Bool) : ∀ (l : List EntD) (s : LS), s.pos ≤ E.seen.length → LsOk E s (mStill E x skip l s).2
 | [], s, h => LsOk.refl h
 | e :: r, s, h => by
  have h1 : LsOk E s (mLoad E s (cVersion E e.what)).2 := mAsk_ok E s ⟨1, cVersion E e.what, 0, 0⟩ h
  unfold mStill
  split
  ·exact mStill_ok E x skip r s h
  ·show LsOk E s (if (mLoad E s (cVersion E e.what)).2.over = true then _ else if (mLoad E s (cVersion E e.what)).1 ≠ e.val then _ else _ : Int × LS).2
   split
   ·exact h1
   ·split
    ·exact h1
    ·exact h1.trans (mStill_ok E x skip r (mLoad E s (cVersion E e.what)).2 h1.pos)
theorem mExtend_ok (E : Env) (s : LS) (x : TS) (h : s.pos ≤ E.seen.length) : LsOk E s (mExtend E s x).2.1 := by
 have h1 : LsOk E s (mLoad E s 0).2 := mAsk_ok E s _ h
 have h2 := mStill_ok E x false x.reads (mLoad E s 0).2 h1.pos
 unfold mExtend
 dsimp only
 split
 ·exact h1
 ·split
  ·exact (h1.trans h2).trans ⟨h2.pos, Nat.le_refl _, SN.modLast (f := fun a => { a with valid := (mLoad E s 0).1 }) (fun _ => rfl) rfl, rfl, rfl⟩
  ·exact h1.trans h2
theorem mExtend_ts (E : Env) (hE : EnvOk E) (s : LS) (x : TS) {n : Nat} (h : TsOk n x) : TsOk n (mExtend E s x).2.2 := by
 unfold mExtend
 dsimp only
 split
 ·exact h
 ·split
  ·exact ⟨h.rd, h.wr, h.hd, h.rg, h.rl, h.wl, h.hl, h.way0, h.way1, h.four⟩
  ·exact h
theorem TsOk.addRead {n : Nat} {x : TS} (h : TsOk n x) (st v : Int) (h1 : -8 ≤ st) (h2 : st ≤ 8) : TsOk (n + 1) { x with reads := x.reads ++ [⟨st, v⟩] } :=
 ⟨fun e he => by
     rcases List.mem_append.1 he with h3 | h3
     ·exact h.rd e h3
     ·simp at h3; subst h3; exact ⟨h1, h2⟩, h.wr, h.hd, h.rg, by have := h.rl; simp; omega, Nat.le_trans h.wl (Nat.le_succ n), Nat.le_trans h.hl (Nat.le_succ n), h.way0, h.way1, h.four⟩
theorem TsOk.addHeld {n : Nat} {x : TS} (h : TsOk n x) (st : Int) (h1 : -8 ≤ st) (h2 : st ≤ 8) : TsOk (n + 1) { x with held := x.held ++ [st] } :=
 ⟨h.rd, h.wr, fun e he => by
     rcases List.mem_append.1 he with h3 | h3
     ·exact h.hd e h3
     ·simp at h3; subst h3; exact ⟨h1, h2⟩, h.rg, Nat.le_trans h.rl (Nat.le_succ n), Nat.le_trans h.wl (Nat.le_succ n), by have := h.hl; simp; omega, h.way0, h.way1, h.four⟩
theorem mStands_ok (E : Env) (hE : EnvOk E) (x : TS) (a st : Int) (hs1 : -8 ≤ st) (hs2 : st ≤ 8) {m : Nat} (hx : TsOk m x) : ∀ (n : Nat) (s : LS), s.pos ≤ E.seen.length →
  LsOk E s (mStands E x a st n s).2.2.1 ∧ TsOk (m + 1) (mStands E x a st n s).2.2.2 ∧ (-1 ≤ (mStands E x a st n s).1 ∧ (mStands E x a st n s).1 ≤ 1125899906842624)
 | 0, s, h => ⟨LsOk.refl h, hx.more (Nat.le_succ _), by simp [mStands]⟩
 | n + 1, s, h => by
  have h1 : LsOk E s (mLoad E s (cVersion E st)).2 := mAsk_ok E s _ h
  have h2 : LsOk E s (mLoad E (mLoad E s (cVersion E st)).2 (cWord E a)).2 := h1.trans (mAsk_ok E _ _ h1.pos)
  have h3 : LsOk E s (mLoad E (mLoad E (mLoad E s (cVersion E st)).2 (cWord E a)).2 (cVersion E st)).2 := h2.trans (mAsk_ok E _ _ h2.pos)
  have hv : -1 ≤ (mLoad E (mLoad E s (cVersion E st)).2 (cWord E a)).1 ∧ (mLoad E (mLoad E s (cVersion E st)).2 (cWord E a)).1 ≤ 1125899906842624 := mAsk_val E hE _ _
  unfold mStands
  split
  ·exact ⟨LsOk.refl h, hx.more (Nat.le_succ _), by simp⟩
  ·dsimp only
   split
   ·obtain ⟨i1, i2, i3⟩ := mStands_ok E hE x a st hs1 hs2 hx n (mLoad E s (cVersion E st)).2 h1.pos
    exact ⟨h1.trans i1, i2, i3⟩
   ·split
    ·obtain ⟨i1, i2, i3⟩ := mStands_ok E hE x a st hs1 hs2 hx n _ h3.pos
     exact ⟨h3.trans i1, i2, i3⟩
    ·have hx1 : TsOk (m + 1) (if (entIdx x.reads st).isSome = true then x else { x with reads := x.reads ++ [⟨st, (mLoad E s (cVersion E st)).1⟩] }) := by
      split
      ·exact hx.more (Nat.le_succ _)
      ·exact hx.addRead st _ hs1 hs2
     generalize (if (entIdx x.reads st).isSome = true then x else { x with reads := x.reads ++ [⟨st, (mLoad E s (cVersion E st)).1⟩] }) = x1 at hx1 ⊢
     split
     ·exact ⟨h3, hx1, hv⟩
     ·exact ⟨h3.trans (mExtend_ok E _ _ h3.pos), mExtend_ts E hE _ _ hx1, hv⟩
theorem mGet_ok (E : Env) (hE : EnvOk E) (x : TS) (st : Int) (hs1 : -8 ≤ st) (hs2 : st ≤ 8) {m : Nat} (hx : TsOk m x) : ∀ (n : Nat) (s : LS), s.pos ≤ E.seen.length →
  LsOk E s (mGet E x st n s).2.1 ∧ TsOk (m + 1) (mGet E x st n s).2.2
 | 0, s, h => ⟨LsOk.refl h, hx.more (Nat.le_succ _)⟩
 | n + 1, s, h => by
  have h1 : LsOk E s (mLoad E s (cStatus E E.me)).2 := mAsk_ok E s _ h
  have h2 : LsOk E s (mAsk E (mLoad E s (cStatus E E.me)).2 ⟨3, cOwner E st, 0, E.me + 1⟩).2 := h1.trans (mAsk_ok E _ _ h1.pos)
  have hv2 := mAsk_val E hE (mLoad E s (cStatus E E.me)).2 ⟨3, cOwner E st, 0, E.me + 1⟩
  unfold mGet
  split
  ·exact ⟨LsOk.refl h, hx.more (Nat.le_succ _)⟩
  ·dsimp only
   split
   ·exact ⟨h1, hx.more (Nat.le_succ _)⟩
   ·split
    ·exact ⟨h2, hx.more (Nat.le_succ _)⟩
    ·split
     ·have h3 : LsOk E s (mLoad E (mAsk E (mLoad E s (cStatus E E.me)).2 ⟨3, cOwner E st, 0, E.me + 1⟩).2 (cVersion E st)).2 := h2.trans (mAsk_ok E _ _ h2.pos)
      split
      ·exact ⟨h3, hx.addHeld st hs1 hs2⟩
      ·split
       ·exact ⟨h3.trans (mExtend_ok E _ _ h3.pos), mExtend_ts E hE _ _ (hx.addHeld st hs1 hs2)⟩
       ·exact ⟨h3, hx.addHeld st hs1 hs2⟩
     ·split
      ·exact ⟨h2, hx.more (Nat.le_succ _)⟩
      ·have h3 : LsOk E s (mLoad E (mAsk E (mLoad E s (cStatus E E.me)).2 ⟨3, cOwner E st, 0, E.me + 1⟩).2 (cStatus E ((mAsk E (mLoad E s (cStatus E E.me)).2 ⟨3, cOwner E st, 0, E.me + 1⟩).1 - 1))).2 := h2.trans (mAsk_ok E _ _ h2.pos)
       split
       ·refine ⟨h3, ?_⟩
        have := hx.more (Nat.le_succ m)
        exact ⟨this.rd, this.wr, this.hd, this.rg, this.rl, this.wl, this.hl, by show -2 ≤ _ - 1; omega, by show _ - 1 ≤ _; omega, this.four⟩
       ·split
        ·have h4 := h3.trans (mAsk_ok E _ ⟨3, cStatus E ((mAsk E (mLoad E s (cStatus E E.me)).2 ⟨3, cOwner E st, 0, E.me + 1⟩).1 - 1), (mLoad E (mAsk E (mLoad E s (cStatus E E.me)).2 ⟨3, cOwner E st, 0, E.me + 1⟩).2 (cStatus E ((mAsk E (mLoad E s (cStatus E E.me)).2 ⟨3, cOwner E st, 0, E.me + 1⟩).1 - 1))).1, (mLoad E (mAsk E (mLoad E s (cStatus E E.me)).2 ⟨3, cOwner E st, 0, E.me + 1⟩).2 (cStatus E ((mAsk E (mLoad E s (cStatus E E.me)).2 ⟨3, cOwner E st, 0, E.me + 1⟩).1 - 1))).1 + E.me + 1⟩ h3.pos)
         obtain ⟨i1, i2⟩ := mGet_ok E hE x st hs1 hs2 hx n _ h4.pos
         exact ⟨h4.trans i1, i2⟩
        ·obtain ⟨i1, i2⟩ := mGet_ok E hE x st hs1 hs2 hx n _ h3.pos
         exact ⟨h3.trans i1, i2⟩
end Go.Proofs.YtejadojilncbjaaGreat
namespace Go.Proofs.YtejadojilncbjaaGreat
open Go.RowKit
set_option linter.unusedVariables false
attribute [local go_sem ↓] Go.wp_at_zero Go.wp_at_succ
theorem lt4 {k : Nat} (h : k < 4) : k = 0 ∨ k = 1 ∨ k = 2 ∨ k = 3 := by omega
theorem TryR.reg {B p eb xb : Nat} {w : World} {x : TS} (hT : TryR B p eb xb w x) (k : Nat) (hk : k < 4) : w.cell? ⟨xb, 1 + k, none⟩ = some (.int .i64 (x.regs.getD k 0)) ∧ w.frozen? ⟨xb, 1 + k, none⟩ = false := by
 obtain ⟨_, _, _, _, _, _, _, _, hxc, hxf⟩ := hT.cells
 refine ⟨?_, hxf _⟩
 rw [hxc]
 rcases lt4 hk with rfl | rfl | rfl | rfl <;> rfl
theorem TryR.setReg {B p eb xb : Nat} {w : World} {x : TS} (hT : TryR B p eb xb w x) (hB : B ≤ w.heap.size) (k : Nat) (hk : k < 4) (v : Int) :
  TryR B p eb xb (w.setCell ⟨xb, 1 + k, none⟩ (.int .i64 v)) { x with regs := x.regs.set k v } ∧ Kp [145] B p eb w (w.setCell ⟨xb, 1 + k, none⟩ (.int .i64 v)) := by
 refine hT.set hB rfl rfl rfl rfl (by simp [hT.regs]) (fun _ _ _ _ _ _ _ _ => ?_)
 have h4 := hT.regs
 obtain ⟨code, regs, place, begun, valid, reads, writes, held, inGate, way⟩ := x
 match regs, h4 with
 | [r0, r1, r2, r3], _ =>
  rcases lt4 hk with rfl | rfl | rfl | rfl <;> rfl
def mReadEnd (E : Env) (i : InsD) (a : Int) (t : Int × Int × LS × TS) : Int × LS × TS :=
 if t.2.2.1.over then (-1, t.2.2.1, t.2.2.2) else if t.2.1 ≠ 0 then (t.2.1, t.2.2.1, t.2.2.2) else (0, mNoted t.2.2.1 7 a t.1, setReg t.2.2.2 i.a t.1)
theorem mRead_eq (E : Env) (s : LS) (x : TS) (i : InsD) : mRead E s x i = if E.c.wd ≤ regOf x i.b then (3, s, x) else mReadEnd E i (regOf x i.b) (mReadV E s x (regOf x i.b)) := rfl
theorem tmodB (a s : Int) (h1 : 1 ≤ s) (h2 : s ≤ 8) : -8 ≤ a.tmod s ∧ a.tmod s ≤ 8 := by
 have h3 := Int.tmod_lt_of_pos a (show 0 < s by omega)
 have h4 := Int.lt_tmod_of_pos a (show 0 < s by omega)
 omega
theorem entIdx_lt {es : List EntD} {a : Int} {k : Nat} (h : entIdx es a = some k) : k < es.length := by
 unfold entIdx at h
 rw [List.findIdx?_eq_some_iff_getElem] at h
 exact h.1
set_option maxRecDepth 100000 in
set_option maxHeartbeats 8000000 in
theorem read_any (E : Env) (hE : EnvOk E) (H : Hd) (B p eb xb n m : Nat) (s : LS) (x : TS) (op a b c : Int) (w : World) (hL : LifeR E H B p eb w s) (hT : TryR B p eb xb w x) (hpos : s.pos ≤ E.seen.length) (hN : NotesOk m s) (hmn : m ≤ 2 ^ 40) (hX : TsOk n x) (hn : n ≤ 2 ^ 39)
  (ha0 : 0 ≤ a) (ha3 : a ≤ 3) (hb0 : 0 ≤ b) (hb3 : b ≤ 3) :
  Calls Tryz.prog 96 #[.pointer (some ⟨p, 0, none⟩), .pointer (some ⟨xb, 0, none⟩), .agg #[.int .i64 op, .int .i64 a, .int .i64 b, .int .i64 c]] w fun e w' =>
   e = .returned (.int .i64 (mRead E s x ⟨op, a, b, c⟩).1) ∧ LifeR E H B p eb w' (mRead E s x ⟨op, a, b, c⟩).2.1 ∧ TryR B p eb xb w' (mRead E s x ⟨op, a, b, c⟩).2.2 ∧ Kp [88, 145, 63, 160, 95] B p eb w w' := by
 have HE : Hid (EnvOk E) := hE
 obtain ⟨⟨ht1, ht2⟩, ⟨hwd1, hwd2⟩, ⟨hs1, hs2⟩, _⟩ := cfgB_true hE.cfg
 have HN : Hid (NotesOk m s) := hN
 have HX : Hid (TsOk n x) := hX
 obtain ⟨kb, rfl⟩ := Int.eq_ofNat_of_zero_le hb0
 obtain ⟨ka, rfl⟩ := Int.eq_ofNat_of_zero_le ha0
 have hkb : kb < 4 := by omega
 have hka : ka < 4 := by omega
 obtain ⟨R, HR⟩ : ∃ R, Hid (mRead E s x ⟨op, (ka : Int), (kb : Int), c⟩ = R) := ⟨_, rfl⟩
 rw [show mRead E s x ⟨op, (ka : Int), (kb : Int), c⟩ = R from HR.out]
 obtain ⟨ad, had⟩ : ∃ ad, ad = regOf x (kb : Int) := ⟨_, rfl⟩
 have hab := hX.reg (kb : Int)
 rw [← had] at hab
 have HU : Hid (R = if E.c.wd ≤ ad then (3, s, x) else mReadEnd E ⟨op, (ka : Int), (kb : Int), c⟩ ad (mReadV E s x ad)) := by
  show _ = _
  rw [← HR.out, mRead_eq, had]
 have hrb : ∀ w', TryR B p eb xb w' x → w'.cell? ⟨xb, 1 + kb, none⟩ = some (.int .i64 ad) := fun w' h => by rw [(h.reg kb hkb).1, had]; rfl
 have HRB : Hid (∀ w', TryR B p eb xb w' x → w'.cell? ⟨xb, 1 + kb, none⟩ = some (.int .i64 ad)) := hrb
 obtain ⟨hab1, hab2⟩ := hab
 have HAD : Hid (ad = regOf x (kb : Int)) := had
 have hBs := hL.stat.size
 have hbx := (Below.refl w.heap.size w).alloc (Nat.le_refl _) (.cells #[.int .i64 op, .int .i64 (ka : Int), .int .i64 (kb : Int), .int .i64 c] 155)
 obtain ⟨w0, hw0⟩ : ∃ w0, w0 = w.alloc (.cells #[.int .i64 op, .int .i64 (ka : Int), .int .i64 (kb : Int), .int .i64 c] 155) := ⟨_, rfl⟩
 have HL0 : Hid (LifeR E H B p eb w0 s) := by rw [hw0]; exact hL.below hbx
 have HT0 : Hid (TryR B p eb xb w0 x) := by rw [hw0]; exact hT.below hbx hBs
 have HK0 : Hid (Kp [] B p eb w w0) := by rw [hw0]; exact Kp.below hbx hBs
 obtain ⟨ib, hib⟩ : ∃ ib, ib = w.heap.size := ⟨_, rfl⟩
 have HB0 : Hid (Blk w0 ib 155 #[.int .i64 op, .int .i64 (ka : Int), .int .i64 (kb : Int), .int .i64 c]) := by rw [hw0, hib]; exact Blk.new _ _ _
 have hkI0 : (0 : Int) ≤ (kb : Int) := Int.natCast_nonneg _
 have hkI1 : (kb : Int) < 4 := by omega
 have hkA0 : (0 : Int) ≤ (ka : Int) := Int.natCast_nonneg _
 have hkA1 : (ka : Int) < 4 := by omega
 clear hE hL hT hN hX had hbx hBs hrb ha0 ha3 hb0 hb3 HR
 go_enter Tryz.func96, Tryz.ntmps96
 go_wp2_with fail
 rw [← hw0, ← hib]
 clear hw0 hib
 have hci := (HB0.out).cell
 have hcb := HRB.out w0 HT0.out
 go_quiet (fail)
 have hhd := (HL0.out).head
 by_cases hwd : E.c.wd ≤ ad
 ·have HF : Hid (R = (3, s, x)) := (HU.out).trans (if_pos hwd)
  clear HU
  go_wp2
  go_ret
  exact ⟨by rw [HF.out]; rfl, by rw [HF.out]; exact (HL0.out).drewN _, by rw [HF.out]; exact (HT0.out).drewN _, ((HK0.out).up).drewN _⟩
 ·have HU2 : Hid (R = mReadEnd E ⟨op, (ka : Int), (kb : Int), c⟩ ad (mReadV E s x ad)) := (HU.out).trans (if_neg hwd)
  clear HU
  obtain ⟨hst1, hst2⟩ := tmodB ad E.c.s hs1 hs2
  obtain ⟨st, hst⟩ : ∃ st, st = ad.tmod E.c.s := ⟨_, rfl⟩
  rw [← hst] at hst1 hst2
  have hst' : ad.tmod E.c.s = st := hst.symm
  have HST : Hid (ad.tmod E.c.s = st) := hst'
  clear hst
  obtain ⟨wa, wc, hw9, hen⟩ := (HT0.out).writes
  have HEN : Hid (EntsIn w0 wa x.writes) := hen
  have hwl : x.writes.length ≤ 2 ^ 45 := by have := (HX.out).wl; omega
  have hhl : x.held.length ≤ 2 ^ 45 := by have := (HX.out).hl; omega
  have hrl : x.reads.length ≤ 2 ^ 40 := by have := (HX.out).rl; omega
  clear hen
  go_wp2_with fail
  refine (find_any _ _ _ x.writes _ _ rfl hwl (show EntsIn (w0.drewN nq) wa x.writes from HEN.out)).mono ?_
  rintro e w' ⟨rfl, hw'⟩
  have hw2 := hw'.symm
  subst hw2
  go_wp2_with fail
  refine (holds_any B p eb xb x _ _ ((HT0.out).drewN nq) hhl).mono ?_
  rintro e w' ⟨rfl, hw'⟩
  have hw2 := hw'.symm
  subst hw2
  obtain ⟨w1, hw1⟩ : ∃ w1, w1 = w0.drewN nq := ⟨_, rfl⟩
  have HL1 : Hid (LifeR E H B p eb w1 s) := by rw [hw1]; exact (HL0.out).drewN nq
  have HT1 : Hid (TryR B p eb xb w1 x) := by rw [hw1]; exact (HT0.out).drewN nq
  have HK1 : Hid (Kp [] B p eb w w1) := by rw [hw1]; exact (HK0.out).drewN nq
  have HB1 : Hid (Blk w1 ib 155 #[.int .i64 op, .int .i64 (ka : Int), .int .i64 (kb : Int), .int .i64 c]) := by rw [hw1]; exact (HB0.out).drewN nq
  have HEN1 : Hid (EntsIn w1 wa x.writes) := by rw [hw1]; exact HEN.out
  have hw91 : w1.cell? ⟨xb, 9, none⟩ = some (.slice wa x.writes.length wc) := by rw [hw1]; exact hw9
  rw [← hw1]
  clear hw1 HL0 HT0 HK0 HB0 HEN hw9 hci hcb hhd
  rcases hfi : entIdx x.writes ad with _ | k
  rotate_left
  focus
   have hkl := entIdx_lt hfi
   obtain ⟨bb, hwa, _, hcv, _⟩ := HEN1.out k hkl
   obtain ⟨v, hv⟩ : ∃ v, v = (x.writes.getD k ⟨0, 0⟩).val := ⟨_, rfl⟩
   rw [← hv] at hcv
   rw [hwa] at hw91
   have hk0 : (0 : Int) ≤ (k : Int) := Int.natCast_nonneg _
   have hk1 : (k : Int) < (x.writes.length : Int) := by omega
   have HV : Hid (mReadV E s x ad = (v, 0, s, x)) := by
    show _ = _
    unfold mReadV
    dsimp only
    rw [hfi]
    dsimp only
    rw [← hv]
   obtain ⟨w4, hw4⟩ : ∃ w4, w4 = w1 := ⟨_, rfl⟩
   obtain ⟨s4, hs4⟩ : ∃ s4, s4 = s := ⟨_, rfl⟩
   obtain ⟨x4, hx4⟩ : ∃ x4, x4 = x := ⟨_, rfl⟩
   have HL4 : Hid (LifeR E H B p eb w4 s4) := by rw [hw4, hs4]; exact HL1
   have HT4 : Hid (TryR B p eb xb w4 x4) := by rw [hw4, hx4]; exact HT1
   have HK4 : Hid (Kp [88, 145, 63, 160] B p eb w w4) := by rw [hw4]; exact (HK1.out).up
   have HB4 : Hid (Blk w4 ib 155 #[.int .i64 op, .int .i64 (ka : Int), .int .i64 (kb : Int), .int .i64 c]) := by rw [hw4]; exact HB1
   have HV4 : Hid (mReadV E s x ad = (v, 0, s4, x4)) := by rw [hs4, hx4]; exact HV
   have HN4 : Hid (NotesOk m s4 ∧ s4.pos ≤ E.seen.length) := by rw [hs4]; exact ⟨HN.out, hpos⟩
   rw [← hw4] at hw91 hcv
   rw [← hw4]
   unfold idxN
   clear hw4 hs4 HL1 HT1 HK1 HB1 HEN1 HV hv
   rw [← hx4] at hw91 hk1
   clear hx4
   have HU4 : Hid (R = mReadEnd E ⟨op, (ka : Int), (kb : Int), c⟩ ad (v, (0 : Int), s4, x4)) := by
    show _ = _
    rw [HU2.out, HV4.out]
   clear HU2 HV4
   have hov4 := (HL4.out).over
   have hci4 := (HB4.out).cell
   obtain ⟨hreg4, hfrz4⟩ := (HT4.out).reg ka hka
   cases ho4 : s4.over with
   | true =>
    have HF : Hid (R = (-1, s4, x4)) := (HU4.out).trans (if_pos ho4)
    clear HU4
    go_wp2
    go_ret
    exact ⟨by rw [HF.out]; rfl, by rw [HF.out]; exact HL4.out, by rw [HF.out]; exact HT4.out, (HK4.out).wide (by simp)⟩
   | false =>
    have HU5 : Hid (R = if (0 : Int) ≠ 0 then ((0 : Int), s4, x4) else (0, mNoted s4 7 ad v, setReg x4 (ka : Int) v)) := (HU4.out).trans (if_neg (by simp [ho4]))
    clear HU4
    by_cases hev0 : (0 : Int) = 0
    ·have HF : Hid (R = (0, mNoted s4 7 ad v, setReg x4 (ka : Int) v)) := (HU5.out).trans (if_neg (by simp))
     clear HU5
     have hbe : ((0 : Int) != 0) = false := by simp
     clear hev0
     go_wp2_with fail
     go_region
     all_goals
      have hTK := (HT4.out).setReg (HL4.out).stat.size ka hka v
      have HL5 : Hid (LifeR E H B p eb (w4.setCell ⟨xb, 1 + ka, none⟩ (.int .i64 v)).drew s4) := ((HL4.out).keep hTK.2 (by simp) (by simp) (by simp) (by simp)).drew
      have HT5 : Hid (TryR B p eb xb (w4.setCell ⟨xb, 1 + ka, none⟩ (.int .i64 v)).drew { x4 with regs := x4.regs.set ka v }) := hTK.1.drew
      have HK5 : Hid (Kp [88, 145, 63, 160] B p eb w (w4.setCell ⟨xb, 1 + ka, none⟩ (.int .i64 v)).drew) := ((HK4.out).trans (hTK.2.wide (by simp))).drew
      clear hTK hov4 hci4 hreg4 hfrz4
      go_wp2_with fail
      refine (noted_any E H B p eb s4 _ _ _ _ HL5.out (HN4.out).1.ne (HN4.out).1.len (fun a ha => Nat.le_trans ((HN4.out).1.nt a ha) hmn)).mono ?_
      rintro e w6 ⟨rfl, hL6, hK6⟩
      have HL6 : Hid (LifeR E H B p eb w6 (mNoted s4 7 ad v)) := hL6
      have HT6 : Hid (TryR B p eb xb w6 { x4 with regs := x4.regs.set ka v }) := (HT5.out).keep hK6 (by simp) (by simp) (by simp)
      have HK6 : Hid (Kp [88, 145, 63, 160, 95] B p eb w w6) := ((HK5.out).wide (by simp)).trans (hK6.wide (by simp))
      clear hL6 hK6
      go_wp2_with fail
      go_ret
      exact ⟨by rw [HF.out]; rfl, by rw [HF.out]; exact HL6.out, by rw [HF.out]; exact HT6.out, HK6.out⟩
    ·exact absurd rfl hev0
  cases hhe : heldB x st with
  | true =>
   have HV : Hid (mReadV E s x ad = ((mLoad E s (cWord E ad)).1, 0, (mLoad E s (cWord E ad)).2, x)) := by
    show _ = _
    unfold mReadV
    dsimp only
    rw [hfi, show ad.tmod E.c.s = st from HST.out, hhe]
    rfl
   have hhd := (HL1.out).head
   unfold idxN
   go_wp2_with fail
   refine (word_at E HE.out H B p eb xb _ _ _ _ HL1.out HT1.out (by omega) (by omega)).mono ?_
   rintro e w2 ⟨rfl, hLa, hTa, hKa⟩
   clear hhd
   go_wp2_with fail
   refine (load_at E HE.out H B p eb xb _ _ _ _ hLa hTa hpos).mono ?_
   rintro e w4 ⟨rfl, hLb, hTb, hKb⟩
   have HK4 : Hid (Kp [88, 145, 63, 160] B p eb w w4) := (HK1.out).up.trans (hKa.up.trans (hKb.wide (by simp)))
   have HB4 : Hid (Blk w4 ib 155 #[.int .i64 op, .int .i64 (ka : Int), .int .i64 (kb : Int), .int .i64 c]) := ((HB1.out).keep hKa (by simp)).keep hKb (by simp)
   have HN4 : Hid (NotesOk m (mLoad E s (cWord E ad)).2 ∧ (mLoad E s (cWord E ad)).2.pos ≤ E.seen.length) := ⟨(HN.out).sn (mLoad_sn E s _), (mAsk_pos E s _ hpos).2⟩
   generalize mLoad E s (cWord E ad) = q4 at *
   obtain ⟨v, s4⟩ := q4
   have HL4 : Hid (LifeR E H B p eb w4 s4) := hLb
   obtain ⟨x4, hx4⟩ : ∃ x4, x4 = x := ⟨_, rfl⟩
   have HT4 : Hid (TryR B p eb xb w4 x4) := by rw [hx4]; exact hTb
   have HV4 : Hid (mReadV E s x ad = (v, 0, s4, x4)) := by rw [hx4]; exact HV
   clear hLa hTa hKa hLb hTb hKb HL1 HT1 HK1 HB1 HEN1 HV hw91 hx4
   have HU4 : Hid (R = mReadEnd E ⟨op, (ka : Int), (kb : Int), c⟩ ad (v, (0 : Int), s4, x4)) := by
    show _ = _
    rw [HU2.out, HV4.out]
   clear HU2 HV4
   have hov4 := (HL4.out).over
   have hci4 := (HB4.out).cell
   obtain ⟨hreg4, hfrz4⟩ := (HT4.out).reg ka hka
   cases ho4 : s4.over with
   | true =>
    have HF : Hid (R = (-1, s4, x4)) := (HU4.out).trans (if_pos ho4)
    clear HU4
    go_wp2
    go_ret
    exact ⟨by rw [HF.out]; rfl, by rw [HF.out]; exact HL4.out, by rw [HF.out]; exact HT4.out, (HK4.out).wide (by simp)⟩
   | false =>
    have HU5 : Hid (R = if (0 : Int) ≠ 0 then ((0 : Int), s4, x4) else (0, mNoted s4 7 ad v, setReg x4 (ka : Int) v)) := (HU4.out).trans (if_neg (by simp [ho4]))
    clear HU4
    by_cases hev0 : (0 : Int) = 0
    ·have HF : Hid (R = (0, mNoted s4 7 ad v, setReg x4 (ka : Int) v)) := (HU5.out).trans (if_neg (by simp))
     clear HU5
     have hbe : ((0 : Int) != 0) = false := by simp
     clear hev0
     go_wp2_with fail
     go_region
     all_goals
      have hTK := (HT4.out).setReg (HL4.out).stat.size ka hka v
      have HL5 : Hid (LifeR E H B p eb (w4.setCell ⟨xb, 1 + ka, none⟩ (.int .i64 v)).drew s4) := ((HL4.out).keep hTK.2 (by simp) (by simp) (by simp) (by simp)).drew
      have HT5 : Hid (TryR B p eb xb (w4.setCell ⟨xb, 1 + ka, none⟩ (.int .i64 v)).drew { x4 with regs := x4.regs.set ka v }) := hTK.1.drew
      have HK5 : Hid (Kp [88, 145, 63, 160] B p eb w (w4.setCell ⟨xb, 1 + ka, none⟩ (.int .i64 v)).drew) := ((HK4.out).trans (hTK.2.wide (by simp))).drew
      clear hTK hov4 hci4 hreg4 hfrz4
      go_wp2_with fail
      refine (noted_any E H B p eb s4 _ _ _ _ HL5.out (HN4.out).1.ne (HN4.out).1.len (fun a ha => Nat.le_trans ((HN4.out).1.nt a ha) hmn)).mono ?_
      rintro e w6 ⟨rfl, hL6, hK6⟩
      have HL6 : Hid (LifeR E H B p eb w6 (mNoted s4 7 ad v)) := hL6
      have HT6 : Hid (TryR B p eb xb w6 { x4 with regs := x4.regs.set ka v }) := (HT5.out).keep hK6 (by simp) (by simp) (by simp)
      have HK6 : Hid (Kp [88, 145, 63, 160, 95] B p eb w w6) := ((HK5.out).wide (by simp)).trans (hK6.wide (by simp))
      clear hL6 hK6
      go_wp2_with fail
      go_ret
      exact ⟨by rw [HF.out]; rfl, by rw [HF.out]; exact HL6.out, by rw [HF.out]; exact HT6.out, HK6.out⟩
    ·exact absurd rfl hev0
  | false =>
   have HV : Hid (mReadV E s x ad = mStands E x ad st (loopFuel E s) s) := by
    show _ = _
    unfold mReadV
    dsimp only
    rw [hfi, show ad.tmod E.c.s = st from HST.out, hhe]
    rfl
   unfold idxN
   go_wp2_with fail
   refine (stands_any E HE.out H B p eb xb s x ad st _ HL1.out HT1.out hpos (HN.out).ne (HN.out).len hrl hhl (HX.out).rd hst1 hst2 hab1 hab2).mono ?_
   rintro e w4 ⟨rfl, hLb, hTb, hKb⟩
   have hok := mStands_ok E HE.out x ad st hst1 hst2 HX.out (loopFuel E s) s hpos
   have HN4 : Hid (NotesOk m (mStands E x ad st (loopFuel E s) s).2.2.1 ∧ (mStands E x ad st (loopFuel E s) s).2.2.1.pos ≤ E.seen.length) := ⟨(HN.out).sn hok.1.sn, hok.1.pos⟩
   have HK4 : Hid (Kp [88, 145, 63, 160] B p eb w w4) := (HK1.out).up.trans hKb
   have HB4 : Hid (Blk w4 ib 155 #[.int .i64 op, .int .i64 (ka : Int), .int .i64 (kb : Int), .int .i64 c]) := (HB1.out).keep hKb (by simp)
   clear hok
   generalize mStands E x ad st (loopFuel E s) s = q4 at *
   obtain ⟨v, ev, s4, x4⟩ := q4
   have HL4 : Hid (LifeR E H B p eb w4 s4) := hLb
   have HT4 : Hid (TryR B p eb xb w4 x4) := hTb
   have HV4 : Hid (mReadV E s x ad = (v, ev, s4, x4)) := HV
   clear hLb hTb hKb HL1 HT1 HK1 HB1 HEN1 HV hw91
   have HU4 : Hid (R = mReadEnd E ⟨op, (ka : Int), (kb : Int), c⟩ ad (v, ev, s4, x4)) := by
    show _ = _
    rw [HU2.out, HV4.out]
   clear HU2 HV4
   have hov4 := (HL4.out).over
   have hci4 := (HB4.out).cell
   obtain ⟨hreg4, hfrz4⟩ := (HT4.out).reg ka hka
   cases ho4 : s4.over with
   | true =>
    have HF : Hid (R = (-1, s4, x4)) := (HU4.out).trans (if_pos ho4)
    clear HU4
    go_wp2
    go_ret
    exact ⟨by rw [HF.out]; rfl, by rw [HF.out]; exact HL4.out, by rw [HF.out]; exact HT4.out, (HK4.out).wide (by simp)⟩
   | false =>
    have HU5 : Hid (R = if ev ≠ 0 then (ev, s4, x4) else (0, mNoted s4 7 ad v, setReg x4 (ka : Int) v)) := (HU4.out).trans (if_neg (by simp [ho4]))
    clear HU4
    by_cases hev0 : ev = 0
    ·have HF : Hid (R = (0, mNoted s4 7 ad v, setReg x4 (ka : Int) v)) := (HU5.out).trans (if_neg (by simp [hev0]))
     clear HU5
     have hbe : (ev != 0) = false := by simp [hev0]
     clear hev0
     go_wp2_with fail
     go_region
     all_goals
      have hTK := (HT4.out).setReg (HL4.out).stat.size ka hka v
      have HL5 : Hid (LifeR E H B p eb (w4.setCell ⟨xb, 1 + ka, none⟩ (.int .i64 v)).drew s4) := ((HL4.out).keep hTK.2 (by simp) (by simp) (by simp) (by simp)).drew
      have HT5 : Hid (TryR B p eb xb (w4.setCell ⟨xb, 1 + ka, none⟩ (.int .i64 v)).drew { x4 with regs := x4.regs.set ka v }) := hTK.1.drew
      have HK5 : Hid (Kp [88, 145, 63, 160] B p eb w (w4.setCell ⟨xb, 1 + ka, none⟩ (.int .i64 v)).drew) := ((HK4.out).trans (hTK.2.wide (by simp))).drew
      clear hTK hov4 hci4 hreg4 hfrz4
      go_wp2_with fail
      refine (noted_any E H B p eb s4 _ _ _ _ HL5.out (HN4.out).1.ne (HN4.out).1.len (fun a ha => Nat.le_trans ((HN4.out).1.nt a ha) hmn)).mono ?_
      rintro e w6 ⟨rfl, hL6, hK6⟩
      have HL6 : Hid (LifeR E H B p eb w6 (mNoted s4 7 ad v)) := hL6
      have HT6 : Hid (TryR B p eb xb w6 { x4 with regs := x4.regs.set ka v }) := (HT5.out).keep hK6 (by simp) (by simp) (by simp)
      have HK6 : Hid (Kp [88, 145, 63, 160, 95] B p eb w w6) := ((HK5.out).wide (by simp)).trans (hK6.wide (by simp))
      clear hL6 hK6
      go_wp2_with fail
      go_ret
      exact ⟨by rw [HF.out]; rfl, by rw [HF.out]; exact HL6.out, by rw [HF.out]; exact HT6.out, HK6.out⟩
    ·have HF : Hid (R = (ev, s4, x4)) := (HU5.out).trans (if_pos hev0)
     clear HU5
     have hbe : (ev != 0) = true := by simp [hev0]
     clear hev0
     go_wp2
     go_ret
     exact ⟨by rw [HF.out]; rfl, by rw [HF.out]; exact HL4.out, by rw [HF.out]; exact HT4.out, (HK4.out).wide (by simp)⟩
end Go.Proofs.YtejadojilncbjaaGreat
