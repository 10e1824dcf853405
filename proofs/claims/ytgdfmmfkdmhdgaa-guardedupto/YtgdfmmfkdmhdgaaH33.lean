import Derived.Test.YtgdfmmfkdmhdgaaH30
import Derived.Test.YtgdfmmfkdmhdgaaH28
import Derived.Test.YtgdfmmfkdmhdgaaH31
import Derived.Test.YtgdfmmfkdmhdgaaH32
namespace Go.Proofs.Ytgdfmmfkdmhdgaa
open Go.RowKit
set_option linter.unusedVariables false
attribute [local go_sem ↓] Go.wp_at_zero Go.wp_at_succ

/-- What a life asks next, in memory. -/
def NextAt (p : Nat) (q : AskD) (w : World) : Prop :=
  w.cell? ⟨p, 15, none⟩ = some (.int .i64 q.kind) ∧ w.cell? ⟨p, 16, none⟩ = some (.int .i64 q.cell) ∧ w.cell? ⟨p, 17, none⟩ = some (.int .i64 q.frm) ∧ w.cell? ⟨p, 18, none⟩ = some (.int .i64 q.to)
theorem LifeR.next {E : Env} {H : Hd} {B p eb : Nat} {w : World} {s : LS} (h : LifeR E H B p eb w s) : NextAt p s.next w := by
  obtain ⟨la, lc, hb, _⟩ := h.life
  refine ⟨?_, ?_, ?_, ?_⟩ <;> rw [hb.cell] <;> rfl
theorem NextAt.lt {p : Nat} {q : AskD} {w : World} (h : NextAt p q w) : p < w.heap.size := block_lt h.1
theorem NextAt.up {p n : Nat} {q : AskD} {w w' : World} (h : NextAt p q w) (hb : Below n w w') (hp : p < n) : NextAt p q w' := by
  have e : ∀ o, w'.cell? ⟨p, o, none⟩ = w.cell? ⟨p, o, none⟩ := fun o => World.cell?_of_block (hb.block p hp)
  exact ⟨(e _).trans h.1, (e _).trans h.2.1, (e _).trans h.2.2.1, (e _).trans h.2.2.2⟩

/-- A setup of the document's kind. -/
structure SetupOk (c : Cfg) (mem : List Int) (jobs : List (Int × List InsD)) : Prop where
  cfg : cfgB c = true
  mw : (mem.length : Int) = c.wd
  mb : memB mem = true
  j8 : jobs.length ≤ 8
  cd : ∀ j ∈ jobs, j.2.length ≤ 20

end Go.Proofs.Ytgdfmmfkdmhdgaa

namespace Go.Proofs.Ytgdfmmfkdmhdgaa
open Go.RowKit
set_option linter.unusedVariables false
attribute [local go_sem ↓] Go.wp_at_zero Go.wp_at_succ

/-- The accesses, as they come out. -/
def AccIs (w : World) (l : List AccD) (e : Ending) (w' : World) : Prop :=
  ∃ (la : Option Addr) (lc : Nat), e = .returned (.slice la l.length lc) ∧ LogIn w' w'.heap.size la l ∧ Below w.heap.size w w'

theorem glog_next (c : Cfg) (mem : List Int) (jobs : List (Int × List InsD)) (ps : List PickD) (k : Nat) (a : AccD) (ha : a = (gStep c jobs (gAt c mem jobs ps k) ((k : Int) + 1) (pickAt ps k)).2) :
    (gLog c mem jobs ps (k + 1)).flatMap accCells = (gLog c mem jobs ps k).flatMap accCells ++ [.int .i64 a.kind, .int .i64 a.cell, .int .i64 a.seen, .int .i64 a.put] := by
  show (gLog c mem jobs ps k ++ _).flatMap accCells = _
  rw [List.flatMap_append, ← ha]
  simp [accCells]

/-- What Check answers, by the jobs themselves. -/
def errS (c : Cfg) (mem : List Int) (jobs : List (Int × List InsD)) : Int :=
  if machN c mem = 0 then (if jobs.length ≤ 8 ∧ (jobs.all fun j => inB j.1 0 (c.t - 1)) = true then (if (jobs.all fun j => decide ((j.2.length : Int) ≤ 20)) = true then 0 else 4) else 3) else machN c mem

theorem errS_ok {c : Cfg} {mem : List Int} {jobs : List (Int × List InsD)} (h : errS c mem jobs = 0) : SetupOk c mem jobs ∧ ∀ j ∈ jobs, 0 ≤ j.1 ∧ j.1 < c.t := by
  unfold errS at h
  by_cases h1 : machN c mem = 0
  · rw [if_pos h1] at h
    by_cases h2 : jobs.length ≤ 8 ∧ (jobs.all fun j => inB j.1 0 (c.t - 1)) = true
    · rw [if_pos h2] at h
      by_cases h3 : (jobs.all fun j => decide ((j.2.length : Int) ≤ 20)) = true
      · have hm : cfgB c = true ∧ (mem.length : Int) = c.wd ∧ memB mem = true := by
          unfold machN at h1
          by_cases a : cfgB c = true
          · rw [if_pos a] at h1
            by_cases b : (mem.length : Int) = c.wd ∧ memB mem = true
            · exact ⟨a, b.1, b.2⟩
            · rw [if_neg b] at h1; cases h1
          · rw [if_neg a] at h1; cases h1
        rw [List.all_eq_true] at h3
        have h4 := h2.2
        rw [List.all_eq_true] at h4
        refine ⟨⟨hm.1, hm.2.1, hm.2.2, h2.1, fun j hj => ?_⟩, fun j hj => ?_⟩
        · have := h3 j hj
          simp at this
          omega
        · have := inB_true (h4 j hj)
          omega
      · rw [if_neg h3] at h; cases h
    · rw [if_neg h2] at h; cases h
  · rw [if_neg h1] at h; exact absurd h h1

theorem all_at {α : Type} (l : List α) (p : α → Bool) (d : α) : l.all p = true ↔ ∀ i, i < l.length → p (l.getD i d) = true := by
  rw [List.all_eq_true]
  constructor
  · intro h i hi
    rw [show l.getD i d = l[i] from by simp [List.getD, List.getElem?_eq_getElem hi]]
    exact h _ (List.getElem_mem hi)
  · intro h x hx
    obtain ⟨i, hi, rfl⟩ := List.mem_iff_getElem.1 hx
    have := h i hi
    rwa [show l.getD i d = l[i] from by simp [List.getD, List.getElem?_eq_getElem hi]] at this

theorem check_err {c : Cfg} {mem : List Int} {jobs : List (Int × List InsD)} {js : List JobD} (h1 : js.length = jobs.length) (h2 : ∀ i, i < js.length → (jobAt js i).t = (jobs.getD i (0, [])).1 ∧ (jobAt js i).len = (jobs.getD i (0, [])).2.length) : checkN c mem js = errS c mem jobs := by
  have e1 : thrB c.t js = (jobs.all fun j => inB j.1 0 (c.t - 1)) := by
    rw [Bool.eq_iff_iff]
    unfold thrB
    rw [all_at js _ ⟨0, none, 0, 0⟩, all_at jobs _ (0, []), h1]
    constructor <;> intro h i hi
    · rw [← (h2 i (by omega)).1]; exact h i hi
    · have := h i hi
      rw [← (h2 i (by omega)).1] at this
      exact this
  have e2 : lenB js = (jobs.all fun j => decide ((j.2.length : Int) ≤ 20)) := by
    rw [Bool.eq_iff_iff]
    unfold lenB
    rw [all_at js _ ⟨0, none, 0, 0⟩, all_at jobs _ (0, []), h1]
    constructor <;> intro h i hi
    · rw [← (h2 i (by omega)).2]; exact h i hi
    · have := h i hi
      rw [← (h2 i (by omega)).2] at this
      exact this
  unfold checkN errS
  rw [h1, e1, e2]

theorem refCheck_rep (c : Cfg) (mem : List Int) (jobs : List (Int × List InsD)) (ma ja : Option Addr) (mc jc : Nat) (w : World) (hml : mem.length ≤ maxLen) (hjl : jobs.length ≤ maxLen) (hm : Ints w w.heap.size ma mem) (hj : JobsRep w w.heap.size ja jobs) :
    Calls Try.prog 9 #[.agg #[.int .i64 c.t, .int .i64 c.wd, .int .i64 c.s, .int .i64 c.g, .int .i64 c.r, .int .i64 c.cp, .int .i64 c.f, .slice ma mem.length mc, .slice ja jobs.length jc]] w fun e w' =>
      e = .returned (.int .i64 (errS c mem jobs)) ∧ Below w.heap.size w w' := by
  obtain ⟨js, h1, h2, h3⟩ := hj
  have := refCheck_core c.t c.wd c.s c.g c.r c.cp c.f ma mem.length mc mem ja jobs.length jc js w rfl hml hm h1 hjl h2
  rw [show (⟨c.t, c.wd, c.s, c.g, c.r, c.cp, c.f⟩ : Cfg) = c from rfl, check_err h1 (fun i hi => ⟨(h3 i hi).1, (h3 i hi).2.1⟩)] at this
  exact this

/-- What Play tells. -/
def playA (c : Cfg) (mem : List Int) (jobs : List (Int × List InsD)) (ps : List PickD) : List AccD := if errS c mem jobs = 0 then accs c mem jobs ps else []
def PlayIs (w : World) (l : List AccD) (ER : Int) (e : Ending) (w' : World) : Prop :=
  ∃ (la : Option Addr) (lc : Nat), e = .returned (.tuple #[.slice la l.length lc, .int .i64 ER]) ∧ LogIn w' w'.heap.size la l ∧ Below w.heap.size w w'
/-- What Cells tells. -/
def cellsA (c : Cfg) (mem : List Int) (jobs : List (Int × List InsD)) (ps : List PickD) : List Int := if errS c mem jobs = 0 then cellsOf c mem jobs ps else []
def CellsIs (w : World) (l : List Int) (ER : Int) (e : Ending) (w' : World) : Prop :=
  ∃ (la : Option Addr) (lc : Nat), e = .returned (.tuple #[.slice la l.length lc, .int .i64 ER]) ∧ Ints w' w'.heap.size la l ∧ Below w.heap.size w w'

theorem PicksIn.up2 {w w' : World} {a : Option Addr} {l : List PickD} (h : PicksIn w w.heap.size a l) (hb : Below w.heap.size w w') : PicksIn w' w'.heap.size a l := by
  intro i hi
  obtain ⟨b, off, h1, h2, h3, h4⟩ := h.up hb i hi
  exact ⟨b, off, h1, Nat.lt_of_lt_of_le h2 hb.size, h3, h4⟩
theorem JobsRep.up2 {w w' : World} {a : Option Addr} {l : List (Int × List InsD)} (h : JobsRep w w.heap.size a l) (hb : Below w.heap.size w w') : JobsRep w' w'.heap.size a l := (h.up hb).mono hb.size

/-- What is asked of the program's Play. -/
def PlayGood : Prop := ∀ (c : Cfg) (mem : List Int) (jobs : List (Int × List InsD)) (ps : List PickD) (ma ja pa : Option Addr) (mc jc pc : Nat) (w : World), ps.length ≤ 2 ^ 21 → mem.length ≤ maxLen → jobs.length ≤ maxLen →
    Ints w w.heap.size ma mem → JobsRep w w.heap.size ja jobs → PicksIn w w.heap.size pa ps →
    Calls Try.prog 34 #[.agg #[.int .i64 c.t, .int .i64 c.wd, .int .i64 c.s, .int .i64 c.g, .int .i64 c.r, .int .i64 c.cp, .int .i64 c.f, .slice ma mem.length mc, .slice ja jobs.length jc], .slice pa ps.length pc] w (PlayIs w (playA c mem jobs ps) (errS c mem jobs))
/-- What is asked of the program's Cells. -/
def CellsGood : Prop := ∀ (c : Cfg) (mem : List Int) (jobs : List (Int × List InsD)) (ps : List PickD) (ma ja pa : Option Addr) (mc jc pc : Nat) (w : World), ps.length ≤ 2 ^ 21 → mem.length ≤ maxLen → jobs.length ≤ maxLen →
    Ints w w.heap.size ma mem → JobsRep w w.heap.size ja jobs → PicksIn w w.heap.size pa ps →
    Calls Try.prog 16 #[.agg #[.int .i64 c.t, .int .i64 c.wd, .int .i64 c.s, .int .i64 c.g, .int .i64 c.r, .int .i64 c.cp, .int .i64 c.f, .slice ma mem.length mc, .slice ja jobs.length jc], .slice pa ps.length pc] w (CellsIs w (cellsA c mem jobs ps) (errS c mem jobs))

end Go.Proofs.Ytgdfmmfkdmhdgaa

namespace Go.Proofs.Ytgdfmmfkdmhdgaa
open Go.RowKit
set_option linter.unusedVariables false
attribute [local go_sem ↓] Go.wp_at_zero Go.wp_at_succ

/-! One pick of the program's thread. -/

structure GoesN (p nb : Nat) (L : Ls) (w : World) (L' : Ls) (w' : World) : Prop where
  os : w'.os = w.os
  tape : w'.tape = w.tape
  output : w'.output = w.output
  size : w.heap.size ≤ w'.heap.size
  block : ∀ k, k < w.heap.size → k ≠ p → k ≠ nb → ¬ Own L k → w'.heap[k]? = w.heap[k]?
  own : ∀ k, Own L' k → Own L k ∨ w.heap.size ≤ k

theorem Goes.toN {p nb : Nat} {L L' : Ls} {w w' : World} (h : Goes p L w L' w') : GoesN p nb L w L' w' := ⟨h.os, h.tape, h.output, h.size, fun k a b _ d => h.block k a b d, h.own⟩
theorem GoesN.trans {p nb : Nat} {L L' L'' : Ls} {w w' w'' : World} (h : GoesN p nb L w L' w') (k : GoesN p nb L' w' L'' w'') : GoesN p nb L w L'' w'' :=
  ⟨k.os.trans h.os, k.tape.trans h.tape, k.output.trans h.output, Nat.le_trans h.size k.size,
    fun i hi hp hn ho => (k.block i (Nat.lt_of_lt_of_le hi h.size) hp hn (fun q => by rcases h.own i q with q | q; exact ho q; omega)).trans (h.block i hi hp hn ho),
    fun i hi => by
      rcases k.own i hi with q | q
      · exact h.own i q
      · exact Or.inr (Nat.le_trans h.size q)⟩
theorem GoesN.only {p nb : Nat} {L : Ls} {w w' : World} (h : Only nb w w') : GoesN p nb L w L w' := ⟨h.os, h.tape, h.output, h.size, fun k a _ c _ => h.block k a c, fun k q => Or.inl q⟩
theorem GoesN.below {p nb : Nat} {L : Ls} {w w' : World} (h : Below w.heap.size w w') : GoesN p nb L w L w' := ⟨h.os, h.tape, h.output, h.size, fun k a _ _ _ => h.block k a, fun k q => Or.inl q⟩
theorem Goes.below {p : Nat} {L : Ls} {w w' : World} (h : Below w.heap.size w w') : Goes p L w L w' := Goes.only (Only.below h)
/-- Blocks that were made behind the thread's last call do not count. -/
theorem GoesN.fresh {p nb rb : Nat} {L L' : Ls} {w w' w'' : World} (h : GoesN p nb L w L' w') (k : Only rb w' w'') (hr : w.heap.size ≤ rb) : GoesN p nb L w L' w'' :=
  ⟨k.os.trans h.os, k.tape.trans h.tape, k.output.trans h.output, Nat.le_trans h.size k.size, fun i hi hp hn ho => (k.block i (Nat.lt_of_lt_of_le hi h.size) (by omega)).trans (h.block i hi hp hn ho), h.own⟩

theorem TR.own {base p z : Nat} {A B : List Value} {w : World} {t : PT} {L : Ls} (R : TR base p z A B w t L) (k : Nat) (h : Own L k) : base ≤ k ∧ k < w.heap.size ∧ k ≠ p := by
  unfold Own at h
  have hp := R.tt.2
  rcases h with q | q | q | q
  · rw [← oB_eq L.ra t.reads.length L.rc] at q; exact ⟨(R.rd.lt k q).1, (R.rd.lt k q).2, own_tag R.rd hp (by decide) k q⟩
  · rw [← oB_eq L.wa t.writes.length L.wc] at q; exact ⟨(R.wr.lt k q).1, (R.wr.lt k q).2, own_tag R.wr hp (by decide) k q⟩
  · rw [← oB_eq L.ha t.held.length L.hc] at q; exact ⟨(R.hd.lt k q).1, (R.hd.lt k q).2, own_tag R.hd hp (by decide) k q⟩
  · rw [← oB_eq L.ma t.mine.length L.mc] at q; exact ⟨(R.mi.lt k q).1, (R.mi.lt k q).2, own_tag R.mi hp (by decide) k q⟩

/-- Another block than the thread's own has changed. -/
theorem TR.apart {base p z q : Nat} {A B : List Value} {w w' : World} {t : PT} {L : Ls} (R : TR base p z A B w t L) (h : Only q w w') (hp : p ≠ q) (ho : ¬ Own L q) : TR base p z A B w' t L := by
  have hn : ∀ {a n c}, (oB a = some q → Own L q) → ∀ k, (Value.slice a n c).ownBlock = some k → k ≠ q := fun hq k hk e => by
    rw [oB_eq, e] at hk
    exact ho (hq hk)
  exact ⟨Seg.only R.tt h hp, ownsRow_only R.rd h (hn (fun q => Or.inl q)), ownsRow_only R.wr h (hn (fun q => Or.inr (Or.inl q))), ownsRow_only R.hd h (hn (fun q => Or.inr (Or.inr (Or.inl q)))), ownsRow_only R.mi h (hn (fun q => Or.inr (Or.inr (Or.inr q)))), R.ne⟩

theorem GoesN.low {base p nb : Nat} {L L' : Ls} {w w' : World} (h : GoesN p nb L w L' w') (hb : base ≤ w.heap.size) (hp : base ≤ p) (hn : base ≤ nb) (ho : ∀ k, Own L k → base ≤ k) : Below base w w' :=
  ⟨h.os, h.tape, h.output, h.size, fun k hk => h.block k (by omega) (by omega) (by omega) (fun q => by have := ho k q; omega)⟩

/-- What a pick leaves. -/
def Picked (base p nb z : Nat) (A B : List Value) (t' : PT) (L : Ls) (w : World) (Ds : List Int) (a : AccD) (e : Ending) (w' : World) : Prop :=
  e = .returned (.agg #[.int .i64 a.kind, .int .i64 a.cell, .int .i64 a.seen, .int .i64 a.put]) ∧ (∃ L', TR base p z A B w' t' L' ∧ GoesN p nb L w L' w') ∧ Blk w' nb 3 (Ds.map (Value.int .i64 ·)).toArray

section
variable (base p nb z : Nat) (A B : List Value) (t : PT) (L : Ls) (w : World)

set_option maxRecDepth 100000 in
set_option maxHeartbeats 2000000 in
theorem t_pickIdle (R : TR base p z A B w t L) (hs : t.step = 0) (Ds : List Int) (hN : Blk w nb 3 (Ds.map (Value.int .i64 ·)).toArray) (ja : Option Addr) (jl jc cb co : Nat) (draw : Int) :
    Calls Try.prog 63 #[.pointer (some ⟨p, z, none⟩), .slice ja jl jc, .pointer (some ⟨cb, co, none⟩), .int .i64 draw] w (Picked base p nb z A B t L w Ds noAcc) := by
  have h13 := R.tt.cStep
  rw [hs] at h13
  have hlt := R.tt.lt
  have hne : p ≠ w.heap.size := by omega
  have hB : Below w.heap.size w (w.alloc (.cells #[.int .i64 0, .int .i64 0, .int .i64 0, .int .i64 0] 51)) := (Below.refl _ _).alloc (Nat.le_refl _) _
  have HR : Hid (TR base p z A B (w.alloc (.cells #[.int .i64 0, .int .i64 0, .int .i64 0, .int .i64 0] 51)) t L) := R.below hB
  have HN : Hid (Blk (w.alloc (.cells #[.int .i64 0, .int .i64 0, .int .i64 0, .int .i64 0] 51)) nb 3 (Ds.map (Value.int .i64 ·)).toArray) := hN.below hB hN.lt
  have HG : Hid (GoesN p nb L w L (w.alloc (.cells #[.int .i64 0, .int .i64 0, .int .i64 0, .int .i64 0] 51))) := GoesN.below hB
  clear R hs hN hB
  go_enter Try.func63, Try.ntmps63
  go_wp2
  exact bodyPost_ret (v := .agg #[.int .i64 0, .int .i64 0, .int .i64 0, .int .i64 0]) (by simp [results, Try.results63, go_sem]) rfl ⟨rfl, ⟨L, HR.out, HG.out⟩, HN.out⟩

set_option maxRecDepth 100000 in
set_option maxHeartbeats 2000000 in
theorem t_pickRest (R : TR base p z A B w t L) (hs : t.step ≠ 0) (hr : 0 < t.rest) (hr2 : t.rest ≤ 1000) (hpn : p ≠ nb) (Ds : List Int) (hN : Blk w nb 3 (Ds.map (Value.int .i64 ·)).toArray) (ja : Option Addr) (jl jc cb co : Nat) (draw : Int) :
    Calls Try.prog 63 #[.pointer (some ⟨p, z, none⟩), .slice ja jl jc, .pointer (some ⟨cb, co, none⟩), .int .i64 draw] w (Picked base p nb z A B { t with rest := t.rest - 1 } L w Ds noAcc) := by
  have h13 := R.tt.cStep
  have h12 := R.tt.cRest
  have hf := R.tt.froz
  have hsb : (t.step == 0) = false := by rw [beq_eq_false_iff_ne]; exact hs
  have hlt := R.tt.lt
  have hne : p ≠ w.heap.size := by omega
  have hw : IntKind.i64.wrap (t.rest - 1) = t.rest - 1 := wrapP _ (by omega) (by omega)
  have hb1 : TAt (w.setCell ⟨p, z + 12, none⟩ (.int .i64 (t.rest - 1))) p z A B { t with rest := t.rest - 1 } L := R.tt.set 12 (by decide) _ rfl
  have ho1 : Only p w (w.setCell ⟨p, z + 12, none⟩ (.int .i64 (t.rest - 1))) := (Only.refl _ _).set
  have R1 : TR base p z A B (w.setCell ⟨p, z + 12, none⟩ (.int .i64 (t.rest - 1))) { t with rest := t.rest - 1 } L := R.next hb1 ho1 rfl rfl rfl rfl
  have hB : Below (w.setCell ⟨p, z + 12, none⟩ (.int .i64 (t.rest - 1))).heap.size (w.setCell ⟨p, z + 12, none⟩ (.int .i64 (t.rest - 1))) ((w.setCell ⟨p, z + 12, none⟩ (.int .i64 (t.rest - 1))).alloc (.cells #[.int .i64 0, .int .i64 0, .int .i64 0, .int .i64 0] 51)) := (Below.refl _ _).alloc (Nat.le_refl _) _
  have HR : Hid (TR base p z A B ((w.setCell ⟨p, z + 12, none⟩ (.int .i64 (t.rest - 1))).alloc (.cells #[.int .i64 0, .int .i64 0, .int .i64 0, .int .i64 0] 51)) { t with rest := t.rest - 1 } L) := R1.below hB
  have HN : Hid (Blk ((w.setCell ⟨p, z + 12, none⟩ (.int .i64 (t.rest - 1))).alloc (.cells #[.int .i64 0, .int .i64 0, .int .i64 0, .int .i64 0] 51)) nb 3 (Ds.map (Value.int .i64 ·)).toArray) := (hN.only ho1 (Ne.symm hpn)).below hB (hN.only ho1 (Ne.symm hpn)).lt
  have HG : Hid (GoesN p nb L w L ((w.setCell ⟨p, z + 12, none⟩ (.int .i64 (t.rest - 1))).alloc (.cells #[.int .i64 0, .int .i64 0, .int .i64 0, .int .i64 0] 51))) := ((Goes.only ho1).trans (Goes.below hB)).toN
  clear R hs hN hB hb1 ho1 R1 hr2
  go_enter Try.func63, Try.ntmps63
  go_wp2
  exact bodyPost_ret (v := .agg #[.int .i64 0, .int .i64 0, .int .i64 0, .int .i64 0]) (by simp [results, Try.results63, go_sem]) rfl ⟨rfl, ⟨L, HR.out, HG.out⟩, HN.out⟩
end

end Go.Proofs.Ytgdfmmfkdmhdgaa
