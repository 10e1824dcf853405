import Derived.Test.YtgdfmmfkdmhdgaaH10
import Derived.Test.YtgdfmmfkdmhdgaaH02
import Derived.BigRegion
import Derived.Deep.RegionLaw
import Derived.Deep.DeepCutAuto
namespace Go.Proofs.Ytgdfmmfkdmhdgaa
set_option linter.unusedVariables false

/-- The code, the place and the count of an attempt. -/
def Same (x x' : TS) : Prop := x'.code = x.code ∧ x'.place = x.place ∧ x'.begun = x.begun ∧ x'.writes = x.writes ∧ x'.regs = x.regs
theorem Same.refl (x : TS) : Same x x := ⟨rfl, rfl, rfl, rfl, rfl⟩
theorem Same.trans {a b c : TS} (h : Same a b) (k : Same b c) : Same a c := ⟨k.1.trans h.1, k.2.1.trans h.2.1, k.2.2.1.trans h.2.2.1, k.2.2.2.1.trans h.2.2.2.1, k.2.2.2.2.trans h.2.2.2.2⟩

def WvOk (x : TS) : Prop := ∀ e ∈ x.writes, -70000 ≤ e.val ∧ e.val ≤ 1125899906842624

theorem SN.len {s s' : LS} (h : SN s s') : s'.list.length = s.list.length := by have := congrArg List.length h; simpa using this

theorem NotesOk.more {n m : Nat} {s : LS} (h : NotesOk n s) (hm : n ≤ m) : NotesOk m s := ⟨h.ne, h.len, fun a ha => Nat.le_trans (h.nt a ha) hm⟩
theorem NotesOk.noted {n : Nat} {s : LS} (h : NotesOk n s) (op addr val : Int) : NotesOk (n + 1) (mNoted s op addr val) := by
  have hl : (mNoted s op addr val).list.length = s.list.length := by simp [mNoted, modLast]
  refine ⟨fun e => h.ne ?_, by rw [hl]; exact h.len, fun a ha => ?_⟩
  · rw [e] at hl; exact List.length_eq_zero_iff.1 hl.symm
  · obtain ⟨i, hi, rfl⟩ := List.mem_iff_getElem.1 ha
    have h1 : (mNoted s op addr val).list[i]? = some ((mNoted s op addr val).list[i]) := List.getElem?_eq_getElem hi
    have hi' : i < s.list.length := by rw [← hl]; exact hi
    have h2 : (mNoted s op addr val).list[i]? = (s.list[i]?).map (if s.list.length - 1 = i then (fun a : AttD => { a with notes := a.notes ++ [⟨op, addr, val⟩] }) else id) := by
      show (modLast s.list _)[i]? = _
      unfold modLast
      rw [List.getElem?_modify]
      cases s.list[i]? with
      | none => rfl
      | some a => by_cases h : s.list.length - 1 = i <;> simp [h]
    rw [h1, List.getElem?_eq_getElem hi'] at h2
    have hb := h.nt s.list[i] (List.getElem_mem hi')
    simp at h2
    rw [h2]
    split
    · simp; omega
    · simp; omega

theorem WvOk.of {x x' : TS} (h : WvOk x) (e : x'.writes = x.writes) : WvOk x' := fun y hy => h y (by rw [← e]; exact hy)

end Go.Proofs.Ytgdfmmfkdmhdgaa

namespace Go.Proofs.Ytgdfmmfkdmhdgaa
set_option linter.unusedVariables false

theorem WvOk.put {x : TS} (h : WvOk x) (a v : Int) (h1 : -70000 ≤ v) (h2 : v ≤ 1125899906842624) : WvOk { x with writes := putEnt x.writes a v } := by
  intro e he
  have he' : e ∈ putEnt x.writes a v := he
  unfold putEnt at he'
  split at he'
  · rcases List.mem_or_eq_of_mem_set he' with h3 | h3
    · exact h e h3
    · rw [h3]; exact ⟨h1, h2⟩
  · rcases List.mem_append.1 he' with h3 | h3
    · exact h e h3
    · simp at h3; subst h3; exact ⟨h1, h2⟩

theorem TsOk.at {n : Nat} {x : TS} (h : TsOk n x) (b q : Nat) : TsOk n { x with begun := b, place := q } := ⟨h.rd, h.wr, h.hd, h.rg, h.rl, h.wl, h.hl, h.way0, h.way1, h.four⟩

end Go.Proofs.Ytgdfmmfkdmhdgaa

namespace Go.Proofs.Ytgdfmmfkdmhdgaa
set_option linter.unusedVariables false

/-- LsOk, and the ends as they were. -/
structure LeOk (E : Env) (s s' : LS) : Prop where
  ls : LsOk E s s'
  ends : s'.ends = s.ends
theorem LeOk.refl {E : Env} {s : LS} (h : s.pos ≤ E.seen.length) : LeOk E s s := ⟨LsOk.refl h, rfl⟩
theorem LeOk.trans {E : Env} {a b c : LS} (h : LeOk E a b) (k : LeOk E b c) : LeOk E a c := ⟨h.ls.trans k.ls, k.ends.trans h.ends⟩
end Go.Proofs.Ytgdfmmfkdmhdgaa

namespace Go.Proofs.Ytgdfmmfkdmhdgaa
open Go.RowKit
set_option linter.unusedVariables false
attribute [local go_sem ↓] Go.wp_at_zero Go.wp_at_succ

/-- A new attempt in memory. -/
theorem TryR.new {E : Env} {B p eb : Nat} {w : World} {ca : Option Addr} {cc : Nat} {code : List InsD} {v : Int} (hB : B ≤ w.heap.size) (hcd : CodeIn w B ca code) (hcf : FarC B p eb ca code) :
    TryR B p eb w.heap.size (w.alloc (.cells #[.slice ca code.length cc, .int .i64 0, .int .i64 0, .int .i64 0, .int .i64 0, .int .i64 0, .int .i64 0, .int .i64 v, .slice none 0 0, .slice none 0 0, .slice none 0 0, .bool false, .int .i64 (-1)] 130)) (newTS code v) := by
  have hk : Kp [] B p eb w (w.alloc (.cells #[.slice ca code.length cc, .int .i64 0, .int .i64 0, .int .i64 0, .int .i64 0, .int .i64 0, .int .i64 0, .int .i64 v, .slice none 0 0, .slice none 0 0, .slice none 0 0, .bool false, .int .i64 (-1)] 130)) := Kp.below ((Below.refl _ _).alloc (Nat.le_refl _) _) hB
  exact ⟨⟨ca, cc, none, 0, none, 0, none, 0, Blk.new _ _ _, hcd.keep hcf hk, hcf, World.ownsRow_nil _ _ _ _, World.ownsRow_nil _ _ _ _, World.ownsRow_nil _ _ _ _, fun k h => by simp [Value.ownBlock] at h⟩, hB, rfl⟩

end Go.Proofs.Ytgdfmmfkdmhdgaa

namespace Go.Proofs.Ytgdfmmfkdmhdgaa
open Go.RowKit
set_option linter.unusedVariables false
attribute [local go_sem ↓] Go.wp_at_zero Go.wp_at_succ

structure AccD where
  kind : Int
  cell : Int
  seen : Int
  put : Int

def noAcc : AccD := ⟨0, 0, 0, 0⟩
def accAt (l : List AccD) (i : Nat) : AccD := l.getD i noAcc
def accCells (a : AccD) : List Value := [.int .i64 a.kind, .int .i64 a.cell, .int .i64 a.seen, .int .i64 a.put]

/-- A log in memory. -/
def LogIn (w : World) (B : Nat) (a : Option Addr) (l : List AccD) : Prop :=
  ∀ i, i < l.length → ∃ b off, a = some ⟨b, off, none⟩ ∧ b < B ∧ w.cell? ⟨b, off + i * 4, none⟩ = some (.int .i64 (accAt l i).kind) ∧ w.cell? ⟨b, off + i * 4 + 1, none⟩ = some (.int .i64 (accAt l i).cell) ∧
    w.cell? ⟨b, off + i * 4 + 2, none⟩ = some (.int .i64 (accAt l i).seen) ∧ w.cell? ⟨b, off + i * 4 + 3, none⟩ = some (.int .i64 (accAt l i).put)

def wordBase (c : Cfg) : Int := 3 + 2 * c.s + c.t
def startVal (c : Cfg) (mem : List Int) (cell : Int) : Int := if wordBase c ≤ cell then mem.getD (cell - wordBase c).toNat 0 else 0
theorem Ints.up {w w' : World} {a : Option Addr} {zs : List Int} (h : Ints w w.heap.size a zs) (hb : Below w.heap.size w w') : Ints w' w'.heap.size a zs := by
  intro i hi
  obtain ⟨b, off, ha, hlt, hc⟩ := h i hi
  exact ⟨b, off, ha, Nat.lt_of_lt_of_le hlt hb.size, (World.cell?_of_block (hb.block b hlt)).trans hc⟩
theorem LogIn.up {w w' : World} {a : Option Addr} {l : List AccD} (h : LogIn w w.heap.size a l) (hb : Below w.heap.size w w') : LogIn w' w'.heap.size a l := by
  intro i hi
  obtain ⟨b, off, ha, hlt, h0, h1, h2, h3⟩ := h i hi
  have e : ∀ o, w'.cell? ⟨b, o, none⟩ = w.cell? ⟨b, o, none⟩ := fun o => World.cell?_of_block (hb.block b hlt)
  exact ⟨b, off, ha, Nat.lt_of_lt_of_le hlt hb.size, (e _).trans h0, (e _).trans h1, (e _).trans h2, (e _).trans h3⟩

end Go.Proofs.Ytgdfmmfkdmhdgaa

namespace Go.Proofs.Ytgdfmmfkdmhdgaa
open Go.RowKit
set_option linter.unusedVariables false

structure PickD where
  thread : Int
  draw : Int

def pickAt (l : List PickD) (i : Nat) : PickD := l.getD i ⟨0, 0⟩
def PicksIn (w : World) (B : Nat) (a : Option Addr) (l : List PickD) : Prop :=
  ∀ i, i < l.length → ∃ b off, a = some ⟨b, off, none⟩ ∧ b < B ∧ w.cell? ⟨b, off + i * 2, none⟩ = some (.int .i64 (pickAt l i).thread) ∧ w.cell? ⟨b, off + i * 2 + 1, none⟩ = some (.int .i64 (pickAt l i).draw)

/-- A row of numbers of the call's own. -/
def Row (w : World) (B : Nat) (a : Option Addr) (c : Nat) (xs : List Int) : Prop := w.ownsRow B 3 1 (.slice a xs.length c) xs.length (xs.map (Value.int .i64 ·))
/-- They lie in blocks apart. -/
def Apart (a b : Option Addr) : Prop := ∀ x y, a = some x → b = some y → x.block ≠ y.block

theorem Row.ints {w : World} {B : Nat} {a : Option Addr} {c : Nat} {xs : List Int} (h : Row w B a c xs) : Ints w w.heap.size a xs := by
  intro i hi
  obtain ⟨b, rfl, hc⟩ := nums_of h i hi
  exact ⟨b, 0, rfl, block_lt hc, by simpa using hc⟩
theorem Row.base {w : World} {B : Nat} {a : Option Addr} {c : Nat} {xs : List Int} (h : Row w B a c xs) : ∀ x, a = some x → B ≤ x.block ∧ x.block < w.heap.size := fun x hx => by
  subst hx
  exact World.ownsRow.lt h x.block rfl

/-- A life as it is being laid. -/
def TellR (c : Cfg) (me : Int) (jobs : List (Int × List InsD)) (ma ja : Option Addr) (ml mc jc : Nat) (B p eb : Nat) (w : World) (S D W : List Int) : Prop :=
  ∃ sa sc da dc wa wc, Blk w p 75 (lifeArr ⟨c, me, S, D, W, jobs⟩ ⟨ma, ml, mc, ja, jc, sa, sc, da, dc, wa, wc, some ⟨eb, 0, none⟩, jobs.length⟩ none 0 (newLS ⟨c, me, S, D, W, jobs⟩)) ∧
    Row w B sa sc S ∧ Row w B da dc D ∧ Row w B wa wc W ∧ Apart sa da ∧ Apart sa wa ∧ Apart da wa

theorem Apart.symm {a b : Option Addr} (h : Apart a b) : Apart b a := fun x y hx hy e => h y x hy hx e.symm

end Go.Proofs.Ytgdfmmfkdmhdgaa
