import Derived.Test.YtejadojilncbjabGreatD02
import Derived.Test.YtejadojilncbjabGreatD01
import Derived.Deep.DeepCutAuto
namespace Go.Proofs.YtejadojilncbjabGreat
set_option linter.unusedVariables false
theorem WvOk.put {x : TS} (h : WvOk x) (a v : Int) (h1 : -70000 ≤ v) (h2 : v ≤ 1125899906842624) : WvOk { x with writes := putEnt x.writes a v } := by
 intro e he
 have he' : e ∈ putEnt x.writes a v := he
 unfold putEnt at he'
 split at he'
 ·rcases List.mem_or_eq_of_mem_set he' with h3 | h3
  ·exact h e h3
  ·rw [h3]; exact ⟨h1, h2⟩
 ·rcases List.mem_append.1 he' with h3 | h3
  ·exact h e h3
  ·simp at h3; subst h3; exact ⟨h1, h2⟩
theorem TsOk.at {n : Nat} {x : TS} (h : TsOk n x) (b q : Nat) : TsOk n { x with begun := b, place := q } := ⟨h.rd, h.wr, h.hd, h.rg, h.rl, h.wl, h.hl, h.way0, h.way1, h.four⟩
structure LeOk (E : Env) (s s' : LS) : Prop where
 ls : LsOk E s s'
 ends : s'.ends = s.ends
theorem LeOk.refl {E : Env} {s : LS} (h : s.pos ≤ E.seen.length) : LeOk E s s := ⟨LsOk.refl h, rfl⟩
theorem LeOk.trans {E : Env} {a b c : LS} (h : LeOk E a b) (k : LeOk E b c) : LeOk E a c := ⟨h.ls.trans k.ls, k.ends.trans h.ends⟩
end Go.Proofs.YtejadojilncbjabGreat
namespace Go.Proofs.YtejadojilncbjabGreat
open Go.RowKit
set_option linter.unusedVariables false
attribute [local go_sem ↓] Go.wp_at_zero Go.wp_at_succ
theorem TryR.new {E : Env} {B p eb : Nat} {w : World} {ca : Option Addr} {cc : Nat} {code : List InsD} {v : Int} (hB : B ≤ w.heap.size) (hcd : CodeIn w B ca code) (hcf : FarC B p eb ca code) :
  TryR B p eb w.heap.size (w.alloc (.cells #[.slice ca code.length cc, .int .i64 0, .int .i64 0, .int .i64 0, .int .i64 0, .int .i64 0, .int .i64 0, .int .i64 v, .slice none 0 0, .slice none 0 0, .slice none 0 0, .bool false, .int .i64 (-1)] 208)) (newTS code v) := by
 have hk : Kp [] B p eb w (w.alloc (.cells #[.slice ca code.length cc, .int .i64 0, .int .i64 0, .int .i64 0, .int .i64 0, .int .i64 0, .int .i64 0, .int .i64 v, .slice none 0 0, .slice none 0 0, .slice none 0 0, .bool false, .int .i64 (-1)] 208)) := Kp.below ((Below.refl _ _).alloc (Nat.le_refl _) _) hB
 exact ⟨⟨ca, cc, none, 0, none, 0, none, 0, Blk.new _ _ _, hcd.keep hcf hk, hcf, World.ownsRow_nil _ _ _ _, World.ownsRow_nil _ _ _ _, World.ownsRow_nil _ _ _ _, fun k h => by simp [Value.ownBlock] at h⟩, hB, rfl⟩
end Go.Proofs.YtejadojilncbjabGreat
