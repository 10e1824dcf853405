import Derived.Test.YtejadojilncbjabGreatD31
import Derived.Test.YtejadojilncbjabGreatD04
import Derived.Test.YtejadojilncbjabGreatRows
import Derived.ShutString
import Derived.ChangeOld
import Derived.JoinedCond
namespace Go.Proofs.YtejadojilncbjabGreat
open Go.ChangeShapes Go.WideShapes Go.ChangeAt Go.RowKit Go.Deep
set_option linter.unusedVariables false
theorem ownP : ownKnob Tryz.prog.godebug = none := by kernel_rfl
theorem laidOutP : laidOutB Tryz.prog = true := by kernel_rfl
theorem Tryz.cells76 : Tryz.prog.cellsOf 76 = 2 := by kernel_rfl
theorem bulk_one {H : Type} (d : DataW H) : 1 ≤ Rows.uptoBulk d := by
 cases d with
 | lit l => cases l <;> simp [Rows.uptoBulk]
 | nil => simp [Rows.uptoBulk]
 | ptr d => simp [Rows.uptoBulk]
 | slice elems spare => simp [Rows.uptoBulk]
 | agg parts => simp [Rows.uptoBulk]
 | iface t d => simp [Rows.uptoBulk]
 | map entries => simp [Rows.uptoBulk]
 | held h => simp [Rows.uptoBulk]
theorem bulk_len {H : Type} : ∀ (l : List (DataW H)), l.length ≤ Rows.uptoBulkAll l
 | [] => by simp [Rows.uptoBulkAll]
 | x :: r => by
  have := bulk_one x
  have := bulk_len r
  simp only [Rows.uptoBulkAll, List.length_cons]
  omega
section
variable {H : Type} {enc : TypeId × Value → H} {w : World} {spare : Nat → Bool} {held : Bool}
theorem picks_open {fuel : Nat} {cs : List Value} {x : DataW H × List MemPlace} (h : DataW.trod enc Tryz.prog w 0 spare held fuel 28 cs = some x) :
  ∃ a len cap, ∃ ps : List PickD, cs = [.slice a len cap] ∧ ps.length = len ∧ PicksIn w w.heap.size a ps ∧ len ≤ Rows.uptoBulk x.1 := by
 rcases open_slice_pairs Tryz.underlying28 Tryz.underlying76 Tryz.cells76 rfl rfl Tryz.cells3 Tryz.cells3 h with ⟨hcs, _⟩ | ⟨x, l, c, m, n, V0, V1, D0, D1, P0, P1, hcs, _, hl, hm, hmm, rfl, hel⟩
 ·exact ⟨none, 0, 0, [], hcs, rfl, fun i hi => by simp at hi, Nat.zero_le _⟩
 ·have hle : l ≤ m := by rw [hmm]; split <;> omega
  have each : ∀ i, i < l → ∃ q : PickD, w.cell? (x.add (i * 2)) = some (.int .i64 q.thread) ∧ w.cell? (x.add (i * 2 + 1)) = some (.int .i64 q.draw) := by
   intro i hi
   obtain ⟨h0, h1, h2, h3⟩ := hel i (by omega)
   obtain ⟨n0, e0, _, w0⟩ := DataW.trod_int Tryz.underlying3 h2
   obtain ⟨n1, e1, _, w1⟩ := DataW.trod_int Tryz.underlying3 h3
   simp at e0 e1
   exact ⟨⟨n0, n1⟩, by rw [h0, e0], by rw [h1, e1]⟩
  have hin : Inhabited PickD := ⟨⟨0, 0⟩⟩
  obtain ⟨q, hq⟩ := choose_lt each
  obtain ⟨b, off, spot⟩ := x
  refine ⟨some ⟨b, off, spot⟩, l, c, (List.range l).map q, hcs, by simp, fun i hi => ?_, ?_⟩
  ·have hi' : i < l := by simpa using hi
   obtain ⟨h0, h1⟩ := hq i hi'
   have hspot : spot = none := by simpa [Addr.add] using World.cell?_spot (hq 0 (by omega)).1
   subst hspot
   rw [add_plain] at h0 h1
   have hat : pickAt ((List.range l).map q) i = q i := by simp [pickAt, List.getD, hi']
   rw [hat]
   exact ⟨b, off, rfl, block_lt h0, h0, h1⟩
  ·simp only [Rows.uptoBulk]
   have := bulk_len ((List.range l).map fun i => (DataW.agg [D0 i, D1 i] : DataW H))
   simp only [List.length_map, List.length_range] at this
   omega
theorem jobs_rep {w : World} {ja : Option Addr} {js : List JobD} (hj : JobsIn w w.heap.size ja js) (hc : ∀ j ∈ js, (Lit.int .i64 j.t).wf = true ∧ j.len ≤ maxLen ∧ ∃ is : List InsD, is.length = j.len ∧ CodeIn w w.heap.size j.a is ∧ ∀ i ∈ is, i.wf) :
  ∃ jobs : List (Int × List InsD), jobs.length = js.length ∧ JobsRep w w.heap.size ja jobs := by
 have each : ∀ i, i < js.length → ∃ is : List InsD, is.length = (jobAt js i).len ∧ CodeIn w w.heap.size (jobAt js i).a is := by
  intro i hi
  have hmem : jobAt js i ∈ js := by
   rw [show jobAt js i = js[i] from by simp [jobAt, List.getD, List.getElem?_eq_getElem hi]]
   exact List.getElem_mem hi
  obtain ⟨_, _, is, h1, h2, _⟩ := hc _ hmem
  exact ⟨is, h1, h2⟩
 obtain ⟨q, hq⟩ := choose_lt each
 refine ⟨(List.range js.length).map fun i => ((jobAt js i).t, q i), by simp, js, by simp, hj, fun i hi => ?_⟩
 have e : ((List.range js.length).map fun i => ((jobAt js i).t, q i)).getD i (0, []) = ((jobAt js i).t, q i) := by simp [List.getD, hi]
 rw [e]
 exact ⟨rfl, (hq i hi).1.symm, (hq i hi).2⟩
end
end Go.Proofs.YtejadojilncbjabGreat
