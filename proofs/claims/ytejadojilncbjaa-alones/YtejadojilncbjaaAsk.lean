import Derived.Test.YtejadojilncbjaaFrame
namespace Go.Proofs.Ytejadojilncbjaa
open Go.RowKit
set_option linter.unusedVariables false

/-- What is known of all that stays while a life is told. -/
structure EnvOk (E : Env) : Prop where
  cfg : cfgB E.c = true
  me0 : 0 ≤ E.me
  me3 : E.me ≤ 3
  len : E.seen.length ≤ 2 ^ 45
  dlen : E.draws.length = E.seen.length
  wlen : E.whens.length = E.seen.length
  vals : ∀ v ∈ E.seen, -1 ≤ v ∧ v ≤ 1125899906842624
  jobs : E.jobs.length ≤ 8
  codes : ∀ j ∈ E.jobs, j.2.length ≤ 20

theorem mAsk_list (E : Env) (s : LS) (q : AskD) : (mAsk E s q).2.list = s.list := by unfold mAsk; (repeat' split) <;> rfl
theorem mAsk_ends (E : Env) (s : LS) (q : AskD) : (mAsk E s q).2.ends = s.ends := by unfold mAsk; (repeat' split) <;> rfl
theorem mAsk_rank (E : Env) (s : LS) (q : AskD) : (mAsk E s q).2.rank = s.rank := by unfold mAsk; (repeat' split) <;> rfl
theorem mAsk_fails (E : Env) (s : LS) (q : AskD) : (mAsk E s q).2.fails = s.fails := by unfold mAsk; (repeat' split) <;> rfl
theorem mAsk_pos (E : Env) (s : LS) (q : AskD) (h : s.pos ≤ E.seen.length) : s.pos ≤ (mAsk E s q).2.pos ∧ (mAsk E s q).2.pos ≤ E.seen.length := by
  unfold mAsk; split
  · exact ⟨Nat.le_refl _, h⟩
  · split
    · exact ⟨Nat.le_refl _, h⟩
    · exact ⟨Nat.le_succ _, by show s.pos + 1 ≤ _; omega⟩
theorem mAsk_val (E : Env) (hE : EnvOk E) (s : LS) (q : AskD) : -1 ≤ (mAsk E s q).1 ∧ (mAsk E s q).1 ≤ 1125899906842624 := by
  unfold mAsk; split
  · exact ⟨by show (-1 : Int) ≤ 0; omega, by show (0 : Int) ≤ _; omega⟩
  · split
    · exact ⟨by show (-1 : Int) ≤ 0; omega, by show (0 : Int) ≤ _; omega⟩
    · rename_i h1 h2
      refine hE.vals _ ?_
      have hlt : s.pos < E.seen.length := by omega
      show E.seen.getD s.pos 0 ∈ E.seen
      rw [show E.seen.getD s.pos 0 = E.seen[s.pos] from by simp [List.getD, List.getElem?_eq_getElem hlt]]
      exact List.getElem_mem hlt

theorem askL (E : Env) (hE : EnvOk E) (H : Hd) (B p eb : Nat) (s : LS) (k c f t : Int) (w : World) (hL : LifeR E H B p eb w s) (hpos : s.pos ≤ E.seen.length) :
    Calls Try.prog 59 #[.pointer (some ⟨p, 0, none⟩), .int .i64 k, .int .i64 c, .int .i64 f, .int .i64 t] w fun e w' =>
      e = .returned (.int .i64 (mAsk E s ⟨k, c, f, t⟩).1) ∧ LifeR E H B p eb w' (mAsk E s ⟨k, c, f, t⟩).2 ∧ Kp [78] B p eb w w' := by
  obtain ⟨la, lc, hb, hl⟩ := hL.life
  refine (ask_any E H la lc s p k c f t w hb (hL.stat.seen.mono hL.stat.size) hpos hE.len).mono ?_
  rintro e w' ⟨he, hb', ho⟩
  have hk : Kp [78] B p eb w w' := Kp.only ho hL.stat.size hb (by simp) (Or.inl rfl)
  refine ⟨he, ⟨hL.stat.keep hk, ⟨la, lc, hb', ?_⟩, ?_, hL.pB, hL.eB, hL.pe⟩, hk⟩
  · rw [mAsk_list]; exact hl.keep hk (by simp) (by simp)
  · rw [mAsk_ends]; exact hL.ends.imp id (fun ⟨a, b⟩ => ⟨a, b.keep hk (by simp)⟩)

set_option maxHeartbeats 400000 in
theorem loadL (E : Env) (hE : EnvOk E) (H : Hd) (B p eb : Nat) (s : LS) (c : Int) (w : World) (hL : LifeR E H B p eb w s) (hpos : s.pos ≤ E.seen.length) :
    Calls Try.prog 65 #[.pointer (some ⟨p, 0, none⟩), .int .i64 c] w fun e w' =>
      e = .returned (.int .i64 (mLoad E s c).1) ∧ LifeR E H B p eb w' (mLoad E s c).2 ∧ Kp [78] B p eb w w' := by
  go_enter Try.func65, Try.ntmps65
  go_wp2_with fail
  refine (askL E hE H B p eb s _ _ _ _ _ hL hpos).mono ?_
  rintro e w1 ⟨rfl, h1, h2⟩
  go_wp2_with fail
  go_ret
  exact ⟨rfl, h1, h2⟩

set_option maxHeartbeats 400000 in
theorem storeL (E : Env) (hE : EnvOk E) (H : Hd) (B p eb : Nat) (s : LS) (c t : Int) (w : World) (hL : LifeR E H B p eb w s) (hpos : s.pos ≤ E.seen.length) :
    Calls Try.prog 70 #[.pointer (some ⟨p, 0, none⟩), .int .i64 c, .int .i64 t] w fun e w' =>
      e = .returned (.int .i64 (mStore E s c t).1) ∧ LifeR E H B p eb w' (mStore E s c t).2 ∧ Kp [78] B p eb w w' := by
  go_enter Try.func70, Try.ntmps70
  go_wp2_with fail
  refine (askL E hE H B p eb s _ _ _ _ _ hL hpos).mono ?_
  rintro e w1 ⟨rfl, h1, h2⟩
  go_wp2_with fail
  go_ret
  exact ⟨rfl, h1, h2⟩

set_option maxHeartbeats 400000 in
theorem statusV (t wd s g r cp f n : Int) (a b : Option Addr) (l c m d : Nat) (w : World) (h1 : 1 ≤ s) (h2 : s ≤ 8) (h3 : -10 ≤ n) (h4 : n ≤ 1125899906842634) :
    Calls Try.prog 71 #[.agg #[.int .i64 t, .int .i64 wd, .int .i64 s, .int .i64 g, .int .i64 r, .int .i64 cp, .int .i64 f, .slice a l c, .slice b m d], .int .i64 n] w fun e w' =>
      e = .returned (.int .i64 (3 + 2 * s + n)) ∧ Below w.heap.size w w' := by
  go_enter Try.func71, Try.ntmps71
  go_wp2
  go_ret
  exact ⟨by simp, (Below.refl _ _).alloc (Nat.le_refl _) _⟩

set_option maxHeartbeats 400000 in
theorem versionV (t wd s g r cp f n : Int) (a b : Option Addr) (l c m d : Nat) (w : World) (h3 : -10 ≤ n) (h4 : n ≤ 1125899906842634) :
    Calls Try.prog 80 #[.agg #[.int .i64 t, .int .i64 wd, .int .i64 s, .int .i64 g, .int .i64 r, .int .i64 cp, .int .i64 f, .slice a l c, .slice b m d], .int .i64 n] w fun e w' =>
      e = .returned (.int .i64 (3 + n)) ∧ Below w.heap.size w w' := by
  go_enter Try.func80, Try.ntmps80
  go_wp2
  go_ret
  first
  | exact ⟨by simp, (Below.refl _ _).alloc (Nat.le_refl _) _⟩
  | exact ⟨by simp, Below.refl _ _⟩

set_option maxHeartbeats 400000 in
theorem ownerV (t wd s g r cp f n : Int) (a b : Option Addr) (l c m d : Nat) (w : World) (h1 : 1 ≤ s) (h2 : s ≤ 8) (h3 : -10 ≤ n) (h4 : n ≤ 1125899906842634) :
    Calls Try.prog 81 #[.agg #[.int .i64 t, .int .i64 wd, .int .i64 s, .int .i64 g, .int .i64 r, .int .i64 cp, .int .i64 f, .slice a l c, .slice b m d], .int .i64 n] w fun e w' =>
      e = .returned (.int .i64 (3 + s + n)) ∧ Below w.heap.size w w' := by
  go_enter Try.func81, Try.ntmps81
  go_wp2
  go_ret
  exact ⟨by simp, (Below.refl _ _).alloc (Nat.le_refl _) _⟩

set_option maxHeartbeats 400000 in
theorem wordV (t wd s g r cp f n : Int) (a b : Option Addr) (l c m d : Nat) (w : World) (h1 : 1 ≤ s) (h2 : s ≤ 8) (h5 : 1 ≤ t) (h6 : t ≤ 4) (h3 : -70000 ≤ n) (h4 : n ≤ 1125899906842634) :
    Calls Try.prog 35 #[.agg #[.int .i64 t, .int .i64 wd, .int .i64 s, .int .i64 g, .int .i64 r, .int .i64 cp, .int .i64 f, .slice a l c, .slice b m d], .int .i64 n] w fun e w' =>
      e = .returned (.int .i64 (3 + 2 * s + t + n)) ∧ Below w.heap.size w w' := by
  go_enter Try.func35, Try.ntmps35
  go_wp2
  go_ret
  exact ⟨by simp, (Below.refl _ _).alloc (Nat.le_refl _) _⟩

end Go.Proofs.Ytejadojilncbjaa
