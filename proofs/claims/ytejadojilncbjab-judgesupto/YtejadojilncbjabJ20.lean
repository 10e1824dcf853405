import Derived.Test.YtejadojilncbjabJ02
import Derived.Test.YtejadojilncbjabJ19
namespace Go.Proofs.Ytejadojilncbjab
open Go.ChangeShapes Go.WideShapes Go.ChangeAt Go.RowKit Go.Deep
set_option linter.unusedVariables false

theorem Try.cells99 : Try.prog.cellsOf 99 = 3 := by kernel_rfl
theorem Try.cells66 : Try.prog.cellsOf 66 = 8 := by kernel_rfl
theorem Try.cells64 : Try.prog.cellsOf 64 = 1 := by kernel_rfl

theorem list8 {α : Type} {l : List α} (h : l.length = 8) : ∃ a b c d e f g x, l = [a, b, c, d, e, f, g, x] := by
  match l, h with
  | [a, b, c, d, e, f, g, x], _ => exact ⟨a, b, c, d, e, f, g, x, rfl⟩

theorem bulk_mem {H : Type} : ∀ (l : List (DataW H)) (d : DataW H), d ∈ l → Rows.uptoBulk d ≤ Rows.uptoBulkAll l
  | [], d, h => absurd h (by simp)
  | x :: r, d, h => by
    simp only [Rows.uptoBulkAll]
    rcases List.mem_cons.1 h with rfl | h
    · omega
    · have := bulk_mem r d h
      omega

section
variable {H : Type} {enc : TypeId × Value → H} {w : World} {spare : Nat → Bool} {held : Bool}

/-- A slice is no longer than what it holds. -/
theorem bulk_slice {fuel : Nat} {t e : TypeId} {cs : List Value} {x : DataW H × List MemPlace} (ht : Try.prog.underlying t = some (.slice e)) (h : DataW.trod enc Try.prog w 0 spare held fuel t cs = some x) : ∀ a len cap, cs = [.slice a len cap] → len ≤ Rows.uptoBulk x.1 := by
  rcases open_slice ht h with ⟨hcs, _⟩ | ⟨ad, l, c, m, n, D, Pl, hcs, _, hl, hm, hmm, rfl, hel⟩
  · intro a len cap hq
    rw [hcs] at hq
    cases hq
    exact Nat.zero_le _
  · intro a len cap hq
    rw [hcs] at hq
    cases hq
    simp only [Rows.uptoBulk]
    have := bulk_len ((List.range l).map D)
    simp only [List.length_map, List.length_range] at this
    omega

/-- Notes opened. -/
theorem notes_open {fuel : Nat} {cs : List Value} {x : DataW H × List MemPlace} (h : DataW.trod enc Try.prog w 0 spare held fuel 64 cs = some x) :
    ∃ a len cap ns, cs = [.slice a len cap] ∧ ns.length = len ∧ NotesIn w w.heap.size a ns := by
  rcases open_slice Try.underlying64 h with ⟨hcs, _⟩ | ⟨x, l, c, m, n, D, Pl, hcs, _, hl, hm, hmm, _, hel⟩
  · exact ⟨none, 0, 0, [], hcs, rfl, fun i hi => by simp at hi⟩
  · have hle : l ≤ m := by rw [hmm]; split <;> omega
    have each : ∀ i, i < l → ∃ q : NoteD, w.cell? (x.add (i * 3)) = some (.int .i64 q.op) ∧ w.cell? (x.add (i * 3 + 1)) = some (.int .i64 q.addr) ∧ w.cell? (x.add (i * 3 + 2)) = some (.int .i64 q.val) := by
      intro i hi
      obtain ⟨cs', h1, h2⟩ := hel i (by omega)
      rw [Try.cells99] at h1
      obtain ⟨_, hlen, hcell⟩ := World.cells?_some h1
      obtain ⟨xs, k, hk, hxy, _, hxl, hf⟩ := DataW.trod_struct Try.underlying99 h2
      obtain ⟨y0, y1, y2, rfl⟩ := list3 hxl
      obtain ⟨v0, v1, v2, rfl⟩ := list3 hlen
      have g0 := hf 0 _ rfl
      have g1 := hf 1 _ rfl
      have g2 := hf 2 _ rfl
      simp [Try.cells3] at g0 g1 g2
      obtain ⟨n0, e0, _, w0⟩ := DataW.trod_int Try.underlying3 g0
      obtain ⟨n1, e1, _, w1⟩ := DataW.trod_int Try.underlying3 g1
      obtain ⟨n2, e2, _, w2⟩ := DataW.trod_int Try.underlying3 g2
      simp at e0 e1 e2
      have c0 := hcell 0 (by omega)
      have c1 := hcell 1 (by omega)
      have c2 := hcell 2 (by omega)
      rw [add_add] at c0 c1 c2
      exact ⟨⟨n0, n1, n2⟩, by simpa [e0] using c0, by simpa [e1] using c1, by simpa [e2] using c2⟩
    have hin : Inhabited NoteD := ⟨noNt⟩
    obtain ⟨q, hq⟩ := choose_lt each
    obtain ⟨b, off, spot⟩ := x
    refine ⟨some ⟨b, off, spot⟩, l, c, (List.range l).map q, hcs, by simp, fun i hi => ?_⟩
    have hi' : i < l := by simpa using hi
    obtain ⟨h0, h1, h2⟩ := hq i hi'
    have hspot : spot = none := by simpa [Addr.add] using World.cell?_spot (hq 0 (by omega)).1
    subst hspot
    rw [add_plain] at h0 h1 h2
    have hat : ((List.range l).map q).getD i noNt = q i := by simp [List.getD, hi']
    rw [hat]
    exact ⟨b, off, rfl, block_lt h0, h0, h1, h2⟩

/-- A history opened. -/
theorem atts_open {fuel : Nat} {cs : List Value} {x : DataW H × List MemPlace} (h : DataW.trod enc Try.prog w 0 spare held fuel 38 cs = some x) :
    ∃ a len cap, ∃ L : List AttD, cs = [.slice a len cap] ∧ L.length = len ∧ HistIn w w.heap.size a L ∧ len ≤ Rows.uptoBulk x.1 ∧ ∀ k, k < len → (atL L k).notes.length ≤ Rows.uptoBulk x.1 := by
  have hbk := bulk_slice Try.underlying38 h
  rcases open_slice Try.underlying38 h with ⟨hcs, _⟩ | ⟨x, l, c, m, n, D, Pl, hcs, _, hl, hm, hmm, rfl, hel⟩
  · exact ⟨none, 0, 0, [], hcs, rfl, fun i hi => by simp at hi, Nat.zero_le _, fun k hk => by simp at hk⟩
  · have hle : l ≤ m := by rw [hmm]; split <;> omega
    have each : ∀ i, i < l → ∃ q : AttD × Option Addr × Nat, (q.1.notes.length ≤ Rows.uptoBulk (D i) ∧ NotesIn w w.heap.size q.2.1 q.1.notes) ∧ w.cell? (x.add (i * 8)) = some (.int .i64 q.1.thread) ∧ w.cell? (x.add (i * 8 + 1)) = some (.int .i64 q.1.job) ∧ w.cell? (x.add (i * 8 + 2)) = some (.int .i64 q.1.start) ∧ w.cell? (x.add (i * 8 + 3)) = some (.int .i64 q.1.fin) ∧ w.cell? (x.add (i * 8 + 4)) = some (.int .i64 q.1.valid) ∧ w.cell? (x.add (i * 8 + 5)) = some (.int .i64 q.1.stamp) ∧ w.cell? (x.add (i * 8 + 6)) = some (.int .i64 q.1.fate) ∧ w.cell? (x.add (i * 8 + 7)) = some (.slice q.2.1 q.1.notes.length q.2.2) := by
      intro i hi
      obtain ⟨cs', h1, h2⟩ := hel i (by omega)
      rw [Try.cells66] at h1
      obtain ⟨_, hlen, hcell⟩ := World.cells?_some h1
      obtain ⟨xs, k, hk, hxy, _, hxl, hf⟩ := DataW.trod_struct Try.underlying66 h2
      obtain ⟨y0, y1, y2, y3, y4, y5, y6, y7, rfl⟩ := list8 hxl
      obtain ⟨v0, v1, v2, v3, v4, v5, v6, v7, rfl⟩ := list8 hlen
      have g0 := hf 0 _ rfl
      have g1 := hf 1 _ rfl
      have g2 := hf 2 _ rfl
      have g3 := hf 3 _ rfl
      have g4 := hf 4 _ rfl
      have g5 := hf 5 _ rfl
      have g6 := hf 6 _ rfl
      have g7 := hf 7 _ rfl
      simp [Try.cells3, Try.cells64] at g0 g1 g2 g3 g4 g5 g6 g7
      obtain ⟨n0, e0, _, _⟩ := DataW.trod_int Try.underlying3 g0
      obtain ⟨n1, e1, _, _⟩ := DataW.trod_int Try.underlying3 g1
      obtain ⟨n2, e2, _, _⟩ := DataW.trod_int Try.underlying3 g2
      obtain ⟨n3, e3, _, _⟩ := DataW.trod_int Try.underlying3 g3
      obtain ⟨n4, e4, _, _⟩ := DataW.trod_int Try.underlying3 g4
      obtain ⟨n5, e5, _, _⟩ := DataW.trod_int Try.underlying3 g5
      obtain ⟨n6, e6, _, _⟩ := DataW.trod_int Try.underlying3 g6
      obtain ⟨na, nl, nc, ns, e7, hnl, hns⟩ := notes_open g7
      have hb7 := bulk_slice Try.underlying64 g7 na nl nc e7
      have hD : D i = .agg [y0.1, y1.1, y2.1, y3.1, y4.1, y5.1, y6.1, y7.1] := by
        have := congrArg Prod.fst hxy
        simpa using this
      have hbD : Rows.uptoBulk y7.1 ≤ Rows.uptoBulk (D i) := by
        rw [hD]
        simp only [Rows.uptoBulk]
        have := bulk_mem [y0.1, y1.1, y2.1, y3.1, y4.1, y5.1, y6.1, y7.1] y7.1 (by simp)
        omega
      simp at e0 e1 e2 e3 e4 e5 e6 e7
      have c0 := hcell 0 (by omega)
      have c1 := hcell 1 (by omega)
      have c2 := hcell 2 (by omega)
      have c3 := hcell 3 (by omega)
      have c4 := hcell 4 (by omega)
      have c5 := hcell 5 (by omega)
      have c6 := hcell 6 (by omega)
      have c7 := hcell 7 (by omega)
      rw [add_add] at c0 c1 c2 c3 c4 c5 c6 c7
      refine ⟨(⟨n0, n1, n2, n3, n4, n5, n6, ns⟩, na, nc), ⟨by simp only; omega, hns⟩, by simpa [e0] using c0, by simpa [e1] using c1, by simpa [e2] using c2, by simpa [e3] using c3, by simpa [e4] using c4, by simpa [e5] using c5, by simpa [e6] using c6, ?_⟩
      simp only [hnl]
      simpa [e7] using c7
    have hin : Inhabited (AttD × Option Addr × Nat) := ⟨(noAtt, none, 0)⟩
    obtain ⟨q, hq⟩ := choose_lt each
    have hbk2 := hbk _ _ _ hcs
    have hall : ∀ i, i < l → Rows.uptoBulk (D i) ≤ Rows.uptoBulk (DataW.slice ((List.range l).map D) ((List.range (m - l)).map fun j => D (l + j)) : DataW H) := fun i hi => by
      simp only [Rows.uptoBulk]
      have := bulk_mem ((List.range l).map D) (D i) (List.mem_map.2 ⟨i, by simpa using hi, rfl⟩)
      omega
    obtain ⟨b, off, spot⟩ := x
    have hat : ∀ i, i < l → atL ((List.range l).map fun i => (q i).1) i = (q i).1 := fun i hi => by simp [atL, List.getD, hi]
    refine ⟨some ⟨b, off, spot⟩, l, c, (List.range l).map fun i => (q i).1, hcs, by simp, fun i hi => ?_, hbk2, fun i hi => ?_⟩
    · have hi' : i < l := by simpa using hi
      obtain ⟨⟨_, hn⟩, c0, c1, c2, c3, c4, c5, c6, c7⟩ := hq i hi'
      have hspot : spot = none := by simpa [Addr.add] using World.cell?_spot (hq 0 (by omega)).2.1
      subst hspot
      rw [add_plain] at c0 c1 c2 c3 c4 c5 c6 c7
      rw [hat i hi']
      exact ⟨b, off, _, _, rfl, block_lt c0, c0, c1, c2, c3, c4, c5, c6, c7, hn⟩
    · rw [hat i hi]
      exact Nat.le_trans (hq i hi).1.1 (hall i hi)
end

end Go.Proofs.Ytejadojilncbjab
