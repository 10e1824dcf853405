import Derived.Test.YtejadojilncbjaaSetup
import Derived.WalkKit
import Derived.ProofKit
import Derived.OpenShut
import Derived.Deep.SlicePairs
import Derived.KernelRfl
namespace Go.Proofs.Ytejadojilncbjaa
open Go.ChangeShapes Go.WideShapes Go.ChangeAt Go.RowKit Go.Deep
set_option linter.unusedVariables false

theorem Try.cells27 : Try.prog.cellsOf 27 = 9 := by kernel_rfl
theorem Try.cells23 : Try.prog.cellsOf 23 = 7 := by kernel_rfl
theorem Try.cells24 : Try.prog.cellsOf 24 = 1 := by kernel_rfl
theorem Try.cells25 : Try.prog.cellsOf 25 = 1 := by kernel_rfl
theorem Try.cells3 : Try.prog.cellsOf 3 = 1 := by kernel_rfl
theorem Try.cells68 : Try.prog.cellsOf 68 = 2 := by kernel_rfl
theorem Try.cells32 : Try.prog.cellsOf 32 = 1 := by kernel_rfl
theorem Try.cells120 : Try.prog.cellsOf 120 = 4 := by kernel_rfl

section
variable {H : Type} {enc : TypeId × Value → H} {w : World} {spare : Nat → Bool} {held : Bool}

theorem block_lt {w : World} {b o : Nat} {u : Value} (h : w.cell? ⟨b, o, none⟩ = some u) : b < w.heap.size := World.block_lt_of_cell? w _ h

theorem list3 {α : Type} {l : List α} (h : l.length = 3) : ∃ a b c, l = [a, b, c] := by
  match l, h with
  | [a, b, c], _ => exact ⟨a, b, c, rfl⟩
theorem list4 {α : Type} {l : List α} (h : l.length = 4) : ∃ a b c d, l = [a, b, c, d] := by
  match l, h with
  | [a, b, c, d], _ => exact ⟨a, b, c, d, rfl⟩
theorem list7 {α : Type} {l : List α} (h : l.length = 7) : ∃ a b c d e f g, l = [a, b, c, d, e, f, g] := by
  match l, h with
  | [a, b, c, d, e, f, g], _ => exact ⟨a, b, c, d, e, f, g, rfl⟩
theorem list9 {α : Type} {l : List α} (h : l.length = 9) : ∃ a b c d e f g x y, l = [a, b, c, d, e, f, g, x, y] := by
  match l, h with
  | [a, b, c, d, e, f, g, x, y], _ => exact ⟨a, b, c, d, e, f, g, x, y, rfl⟩

/-- A slice of numbers opened: its elements in a list. -/
theorem ints_open {fuel : Nat} {cs : List Value} {x : DataW H × List MemPlace} (h : DataW.trod enc Try.prog w 0 spare held fuel 24 cs = some x) :
    ∃ a len cap zs, cs = [.slice a len cap] ∧ zs.length = len ∧ len ≤ maxLen ∧ Ints w w.heap.size a zs ∧ ∀ z ∈ zs, (Lit.int .i64 z).wf = true := by
  rcases open_ints Try.underlying24 Try.underlying3 Try.cells3 h with ⟨hcs, _⟩ | ⟨x, l, c, zs, hcs, _, hl, hm, hz, _, hcell, hwz⟩
  · exact ⟨none, 0, 0, [], hcs, rfl, Nat.zero_le _, fun i hi => by simp at hi, by simp⟩
  · have hle : l ≤ zs.length := by rw [hz]; split <;> omega
    refine ⟨some x, l, c, zs.take l, hcs, by simp; omega, by omega, fun i hi => ?_, fun z hz => hwz z (List.mem_of_mem_take hz)⟩
    have hi' : i < l := by simp at hi; omega
    obtain ⟨b, off, spot⟩ := x
    have hc := hcell i (by omega)
    have hspot : spot = none := by simpa [Addr.add] using World.cell?_spot (hcell 0 (by omega))
    subst hspot
    have hc' : w.cell? ⟨b, off + i, none⟩ = some (.int .i64 (zs.getD i 0)) := by rw [add_plain] at hc; exact hc
    refine ⟨b, off, rfl, block_lt hc', ?_⟩
    rw [hc']
    simp [List.getD, hi']

/-- An instruction as it lies. -/
structure InsD where
  op : Int
  a : Int
  b : Int
  c : Int

def insAt (is : List InsD) (i : Nat) : InsD := is.getD i ⟨0, 0, 0, 0⟩

def CodeIn (w : World) (B : Nat) (a : Option Addr) (is : List InsD) : Prop :=
  ∀ i, i < is.length → ∃ b off, a = some ⟨b, off, none⟩ ∧ b < B ∧ w.cell? ⟨b, off + i * 4, none⟩ = some (.int .i64 (insAt is i).op) ∧ w.cell? ⟨b, off + i * 4 + 1, none⟩ = some (.int .i64 (insAt is i).a) ∧
    w.cell? ⟨b, off + i * 4 + 2, none⟩ = some (.int .i64 (insAt is i).b) ∧ w.cell? ⟨b, off + i * 4 + 3, none⟩ = some (.int .i64 (insAt is i).c)

def InsD.wf (i : InsD) : Prop := (Lit.int .i64 i.op).wf = true ∧ (Lit.int .i64 i.a).wf = true ∧ (Lit.int .i64 i.b).wf = true ∧ (Lit.int .i64 i.c).wf = true

/-- A code opened. -/
theorem code_open {fuel : Nat} {cs : List Value} {x : DataW H × List MemPlace} (h : DataW.trod enc Try.prog w 0 spare held fuel 32 cs = some x) :
    ∃ a len cap is, cs = [.slice a len cap] ∧ is.length = len ∧ len ≤ maxLen ∧ CodeIn w w.heap.size a is ∧ ∀ i ∈ is, i.wf := by
  rcases open_slice Try.underlying32 h with ⟨hcs, _⟩ | ⟨x, l, c, m, n, D, Pl, hcs, _, hl, hm, hmm, _, hel⟩
  · exact ⟨none, 0, 0, [], hcs, rfl, Nat.zero_le _, fun i hi => by simp at hi, by simp⟩
  · have hle : l ≤ m := by rw [hmm]; split <;> omega
    have each : ∀ i, i < l → ∃ q : InsD, q.wf ∧ w.cell? (x.add (i * 4)) = some (.int .i64 q.op) ∧ w.cell? (x.add (i * 4 + 1)) = some (.int .i64 q.a) ∧ w.cell? (x.add (i * 4 + 2)) = some (.int .i64 q.b) ∧ w.cell? (x.add (i * 4 + 3)) = some (.int .i64 q.c) := by
      intro i hi
      obtain ⟨cs', h1, h2⟩ := hel i (by omega)
      rw [Try.cells120] at h1
      obtain ⟨_, hlen, hcell⟩ := World.cells?_some h1
      obtain ⟨xs, k, hk, hxy, _, hxl, hf⟩ := DataW.trod_struct Try.underlying120 h2
      obtain ⟨y0, y1, y2, y3, rfl⟩ := list4 hxl
      obtain ⟨v0, v1, v2, v3, rfl⟩ := list4 hlen
      have g0 := hf 0 _ rfl
      have g1 := hf 1 _ rfl
      have g2 := hf 2 _ rfl
      have g3 := hf 3 _ rfl
      simp [Try.cells3] at g0 g1 g2 g3
      obtain ⟨n0, e0, _, w0⟩ := DataW.trod_int Try.underlying3 g0
      obtain ⟨n1, e1, _, w1⟩ := DataW.trod_int Try.underlying3 g1
      obtain ⟨n2, e2, _, w2⟩ := DataW.trod_int Try.underlying3 g2
      obtain ⟨n3, e3, _, w3⟩ := DataW.trod_int Try.underlying3 g3
      simp at e0 e1 e2 e3
      have c0 := hcell 0 (by omega)
      have c1 := hcell 1 (by omega)
      have c2 := hcell 2 (by omega)
      have c3 := hcell 3 (by omega)
      rw [add_add] at c0 c1 c2 c3
      exact ⟨⟨n0, n1, n2, n3⟩, ⟨w0, w1, w2, w3⟩, by simpa [e0] using c0, by simpa [e1] using c1, by simpa [e2] using c2, by simpa [e3] using c3⟩
    have hin : Inhabited InsD := ⟨⟨0, 0, 0, 0⟩⟩
    obtain ⟨q, hq⟩ := choose_lt each
    obtain ⟨b, off, spot⟩ := x
    refine ⟨some ⟨b, off, spot⟩, l, c, (List.range l).map q, hcs, by simp, by omega, fun i hi => ?_, fun i hi => ?_⟩
    · have hi' : i < l := by simpa using hi
      obtain ⟨_, h0, h1, h2, h3⟩ := hq i hi'
      have hspot : spot = none := by simpa [Addr.add] using World.cell?_spot (hq 0 (by omega)).2.1
      subst hspot
      rw [add_plain] at h0 h1 h2 h3
      have hat : insAt ((List.range l).map q) i = q i := by simp [insAt, List.getD, hi']
      rw [hat]
      exact ⟨b, off, rfl, block_lt h0, h0, h1, h2, h3⟩
    · obtain ⟨j, hj, rfl⟩ := List.mem_map.1 hi
      exact (hq j (by simpa using hj)).1

/-- The jobs opened: each with its code. -/
theorem jobs_open {fuel : Nat} {cs : List Value} {x : DataW H × List MemPlace} (h : DataW.trod enc Try.prog w 0 spare held fuel 25 cs = some x) :
    ∃ a len cap, ∃ js : List JobD, cs = [.slice a len cap] ∧ js.length = len ∧ len ≤ maxLen ∧ JobsIn w w.heap.size a js ∧
      (∀ j ∈ js, (Lit.int .i64 j.t).wf = true ∧ j.len ≤ maxLen ∧ ∃ is : List InsD, is.length = j.len ∧ CodeIn w w.heap.size j.a is ∧ ∀ i ∈ is, i.wf) := by
  rcases open_slice_pairs Try.underlying25 Try.underlying68 Try.cells68 rfl rfl Try.cells3 Try.cells32 h with ⟨hcs, _⟩ | ⟨x, l, c, m, n, V0, V1, D0, D1, P0, P1, hcs, _, hl, hm, hmm, _, hel⟩
  · exact ⟨none, 0, 0, [], hcs, rfl, Nat.zero_le _, fun i hi => by simp at hi, by simp⟩
  · have hle : l ≤ m := by rw [hmm]; split <;> omega
    have each : ∀ i, i < l → ∃ q : JobD, ((Lit.int .i64 q.t).wf = true ∧ q.len ≤ maxLen ∧ ∃ is : List InsD, is.length = q.len ∧ CodeIn w w.heap.size q.a is ∧ ∀ i ∈ is, i.wf) ∧
        w.cell? (x.add (i * 2)) = some (.int .i64 q.t) ∧ w.cell? (x.add (i * 2 + 1)) = some (.slice q.a q.len q.cap) := by
      intro i hi
      obtain ⟨h0, h1, h2, h3⟩ := hel i (by omega)
      obtain ⟨n0, e0, _, w0⟩ := DataW.trod_int Try.underlying3 h2
      obtain ⟨ca, clen, ccap, is, e1, hil, hcm, hci, hiw⟩ := code_open h3
      simp at e0 e1
      exact ⟨⟨n0, ca, clen, ccap⟩, ⟨w0, hcm, is, hil, hci, hiw⟩, by rw [h0, e0], by rw [h1, e1]⟩
    have hin : Inhabited JobD := ⟨⟨0, none, 0, 0⟩⟩
    obtain ⟨q, hq⟩ := choose_lt each
    obtain ⟨b, off, spot⟩ := x
    refine ⟨some ⟨b, off, spot⟩, l, c, (List.range l).map q, hcs, by simp, by omega, fun i hi => ?_, fun i hi => ?_⟩
    · have hi' : i < l := by simpa using hi
      obtain ⟨_, h0, h1⟩ := hq i hi'
      have hspot : spot = none := by simpa [Addr.add] using World.cell?_spot (hq 0 (by omega)).2.1
      subst hspot
      rw [add_plain] at h0 h1
      have hat : jobAt ((List.range l).map q) i = q i := by simp [jobAt, List.getD, hi']
      rw [hat]
      exact ⟨b, off, rfl, block_lt h0, h0, h1⟩
    · obtain ⟨j, hj, rfl⟩ := List.mem_map.1 hi
      exact (hq j (by simpa using hj)).1

/-- A config's seven cells. -/
theorem cfg_open {fuel : Nat} {cs : List Value} {x : DataW H × List MemPlace} (h : DataW.trod enc Try.prog w 0 spare held fuel 23 cs = some x) :
    ∃ t wd s g r cp f : Int, cs = [.int .i64 t, .int .i64 wd, .int .i64 s, .int .i64 g, .int .i64 r, .int .i64 cp, .int .i64 f] ∧
      (Lit.int .i64 t).wf = true ∧ (Lit.int .i64 wd).wf = true ∧ (Lit.int .i64 s).wf = true ∧ (Lit.int .i64 g).wf = true ∧ (Lit.int .i64 r).wf = true ∧ (Lit.int .i64 cp).wf = true ∧ (Lit.int .i64 f).wf = true := by
  obtain ⟨xs, k, hk, hxy, hlen, hxl, hf⟩ := DataW.trod_struct Try.underlying23 h
  rw [Try.cells23] at hlen
  obtain ⟨y0, y1, y2, y3, y4, y5, y6, rfl⟩ := list7 hxl
  obtain ⟨v0, v1, v2, v3, v4, v5, v6, rfl⟩ := list7 hlen
  have g0 := hf 0 _ rfl
  have g1 := hf 1 _ rfl
  have g2 := hf 2 _ rfl
  have g3 := hf 3 _ rfl
  have g4 := hf 4 _ rfl
  have g5 := hf 5 _ rfl
  have g6 := hf 6 _ rfl
  simp [Try.cells3] at g0 g1 g2 g3 g4 g5 g6
  obtain ⟨n0, e0, _, w0⟩ := DataW.trod_int Try.underlying3 g0
  obtain ⟨n1, e1, _, w1⟩ := DataW.trod_int Try.underlying3 g1
  obtain ⟨n2, e2, _, w2⟩ := DataW.trod_int Try.underlying3 g2
  obtain ⟨n3, e3, _, w3⟩ := DataW.trod_int Try.underlying3 g3
  obtain ⟨n4, e4, _, w4⟩ := DataW.trod_int Try.underlying3 g4
  obtain ⟨n5, e5, _, w5⟩ := DataW.trod_int Try.underlying3 g5
  obtain ⟨n6, e6, _, w6⟩ := DataW.trod_int Try.underlying3 g6
  simp at e0 e1 e2 e3 e4 e5 e6
  exact ⟨n0, n1, n2, n3, n4, n5, n6, by rw [e0, e1, e2, e3, e4, e5, e6], w0, w1, w2, w3, w4, w5, w6⟩

/-- A setup opened. -/
theorem setup_open {fuel : Nat} {cs : List Value} {x : DataW H × List MemPlace} (h : DataW.trod enc Try.prog w 0 spare held fuel 27 cs = some x) :
    ∃ (t wd s g r cp f : Int) (a : Option Addr) (len cap : Nat) (zs : List Int) (ja : Option Addr) (jlen jcap : Nat) (js : List JobD),
      cs = [.int .i64 t, .int .i64 wd, .int .i64 s, .int .i64 g, .int .i64 r, .int .i64 cp, .int .i64 f, .slice a len cap, .slice ja jlen jcap] ∧
      zs.length = len ∧ len ≤ maxLen ∧ Ints w w.heap.size a zs ∧ (∀ z ∈ zs, (Lit.int .i64 z).wf = true) ∧ js.length = jlen ∧ jlen ≤ maxLen ∧ JobsIn w w.heap.size ja js ∧
      (∀ j ∈ js, (Lit.int .i64 j.t).wf = true ∧ j.len ≤ maxLen ∧ ∃ is : List InsD, is.length = j.len ∧ CodeIn w w.heap.size j.a is ∧ ∀ i ∈ is, i.wf) := by
  obtain ⟨xs, k, hk, hxy, hlen, hxl, hf⟩ := DataW.trod_struct Try.underlying27 h
  rw [Try.cells27] at hlen
  obtain ⟨y0, y1, y2, rfl⟩ := list3 hxl
  obtain ⟨v0, v1, v2, v3, v4, v5, v6, v7, v8, rfl⟩ := list9 hlen
  have g0 := hf 0 _ rfl
  have g1 := hf 1 _ rfl
  have g2 := hf 2 _ rfl
  simp [Try.cells23, Try.cells24, Try.cells25] at g0 g1 g2
  obtain ⟨n0, n1, n2, n3, n4, n5, n6, e0, _⟩ := cfg_open g0
  obtain ⟨a, len, cap, zs, e1, h1, h2, h3, h4⟩ := ints_open g1
  obtain ⟨ja, jlen, jcap, js, e2, h5, h6, h7, h8⟩ := jobs_open g2
  simp at e0 e1 e2
  obtain ⟨rfl, rfl, rfl, rfl, rfl, rfl, rfl⟩ := e0
  subst e1 e2
  exact ⟨n0, n1, n2, n3, n4, n5, n6, a, len, cap, zs, ja, jlen, jcap, js, rfl, h1, h2, h3, h4, h5, h6, h7, h8⟩
end
end Go.Proofs.Ytejadojilncbjaa
