import Derived.Test.YtejadojilncbjaaGreatG17
import Derived.Test.YtejadojilncbjaaGreatG18
namespace Go.Proofs.YtejadojilncbjaaGreat
open Go.RowKit
set_option linter.unusedVariables false
structure PickD where
 thread : Int
 draw : Int
def pickAt (l : List PickD) (i : Nat) : PickD := l.getD i ⟨0, 0⟩
def PicksIn (w : World) (B : Nat) (a : Option Addr) (l : List PickD) : Prop :=
 ∀ i, i < l.length → ∃ b off, a = some ⟨b, off, none⟩ ∧ b < B ∧ w.cell? ⟨b, off + i * 2, none⟩ = some (.int .i64 (pickAt l i).thread) ∧ w.cell? ⟨b, off + i * 2 + 1, none⟩ = some (.int .i64 (pickAt l i).draw)
def seenOf (t : Int) (ps : List PickD) (log : List AccD) : List Int := ((ps.zip log).filter fun q => q.1.thread == t).map (·.2.seen)
def drawsOf (t : Int) (ps : List PickD) (log : List AccD) : List Int := ((ps.zip log).filter fun q => q.1.thread == t).map (·.1.draw)
def whensOf (t : Int) (ps : List PickD) (log : List AccD) : List Int := (((ps.zip log).zipIdx 1).filter fun q => q.1.1.thread == t).map fun q => ((q.2 : Nat) : Int)
def envOf (c : Cfg) (jobs : List (Int × List InsD)) (t : Int) (ps : List PickD) (log : List AccD) : Env := ⟨c, t, seenOf t ps log, drawsOf t ps log, whensOf t ps log, jobs⟩
theorem takeP (l : List PickD) (k : Nat) (h : k < l.length) : l.take (k + 1) = l.take k ++ [pickAt l k] := by
 rw [List.take_add_one]
 simp [pickAt, List.getD, List.getElem?_eq_getElem h]
theorem zipTake (ps : List PickD) (log : List AccD) (k : Nat) (hk : k < log.length) (hl : log.length ≤ ps.length) : (ps.take (k + 1)).zip (log.take (k + 1)) = (ps.take k).zip (log.take k) ++ [(pickAt ps k, accAt log k)] := by
 rw [takeP ps k (by omega), take_snoc log k hk, List.zip_append (by simp; omega)]
 rfl
theorem seen_in (t : Int) (ps : List PickD) (log : List AccD) (k : Nat) (hk : k < log.length) (hl : log.length ≤ ps.length) (h : (pickAt ps k).thread = t) : seenOf t (ps.take (k + 1)) (log.take (k + 1)) = seenOf t (ps.take k) (log.take k) ++ [(accAt log k).seen] := by
 unfold seenOf
 rw [zipTake ps log k hk hl, List.filter_append, List.map_append]
 simp [h]
theorem draws_in (t : Int) (ps : List PickD) (log : List AccD) (k : Nat) (hk : k < log.length) (hl : log.length ≤ ps.length) (h : (pickAt ps k).thread = t) : drawsOf t (ps.take (k + 1)) (log.take (k + 1)) = drawsOf t (ps.take k) (log.take k) ++ [(pickAt ps k).draw] := by
 unfold drawsOf
 rw [zipTake ps log k hk hl, List.filter_append, List.map_append]
 simp [h]
theorem whens_in (t : Int) (ps : List PickD) (log : List AccD) (k : Nat) (hk : k < log.length) (hl : log.length ≤ ps.length) (h : (pickAt ps k).thread = t) : whensOf t (ps.take (k + 1)) (log.take (k + 1)) = whensOf t (ps.take k) (log.take k) ++ [(k : Int) + 1] := by
 unfold whensOf
 rw [zipTake ps log k hk hl, List.zipIdx_append, List.filter_append, List.map_append]
 simp [h]
 omega
theorem seen_out (t : Int) (ps : List PickD) (log : List AccD) (k : Nat) (hk : k < log.length) (hl : log.length ≤ ps.length) (h : (pickAt ps k).thread ≠ t) : seenOf t (ps.take (k + 1)) (log.take (k + 1)) = seenOf t (ps.take k) (log.take k) := by
 unfold seenOf
 rw [zipTake ps log k hk hl, List.filter_append, List.map_append]
 simp [h]
theorem draws_out (t : Int) (ps : List PickD) (log : List AccD) (k : Nat) (hk : k < log.length) (hl : log.length ≤ ps.length) (h : (pickAt ps k).thread ≠ t) : drawsOf t (ps.take (k + 1)) (log.take (k + 1)) = drawsOf t (ps.take k) (log.take k) := by
 unfold drawsOf
 rw [zipTake ps log k hk hl, List.filter_append, List.map_append]
 simp [h]
theorem whens_out (t : Int) (ps : List PickD) (log : List AccD) (k : Nat) (hk : k < log.length) (hl : log.length ≤ ps.length) (h : (pickAt ps k).thread ≠ t) : whensOf t (ps.take (k + 1)) (log.take (k + 1)) = whensOf t (ps.take k) (log.take k) := by
 unfold whensOf
 rw [zipTake ps log k hk hl, List.zipIdx_append, List.filter_append, List.map_append]
 simp [h]
theorem seenOf_len (t : Int) (ps : List PickD) (log : List AccD) : (seenOf t ps log).length ≤ log.length := by
 unfold seenOf
 rw [List.length_map]
 refine Nat.le_trans (List.length_filter_le _ _) ?_
 rw [List.length_zip]
 omega
theorem drawsOf_len (t : Int) (ps : List PickD) (log : List AccD) : (drawsOf t ps log).length = (seenOf t ps log).length := by simp [drawsOf, seenOf]
theorem whensLen (t : Int) : ∀ (l : List (PickD × AccD)) (n : Nat), ((l.zipIdx n).filter fun q => q.1.1.thread == t).length = (l.filter fun q => q.1.thread == t).length
 | [], n => rfl
 | q :: l, n => by
  rw [List.zipIdx_cons]
  by_cases h : q.1.thread = t
  ·simp [h, whensLen t l (n + 1)]
  ·simp [h, whensLen t l (n + 1)]
theorem whensOf_len (t : Int) (ps : List PickD) (log : List AccD) : (whensOf t ps log).length = (seenOf t ps log).length := by
 unfold whensOf seenOf
 rw [List.length_map, List.length_map, whensLen]
def Row (w : World) (B : Nat) (a : Option Addr) (c : Nat) (xs : List Int) : Prop := w.ownsRow B 3 1 (.slice a xs.length c) xs.length (xs.map (Value.int .i64 ·))
def Apart (a b : Option Addr) : Prop := ∀ x y, a = some x → b = some y → x.block ≠ y.block
theorem Row.ints {w : World} {B : Nat} {a : Option Addr} {c : Nat} {xs : List Int} (h : Row w B a c xs) : Ints w w.heap.size a xs := by
 intro i hi
 obtain ⟨b, rfl, hc⟩ := nums_of h i hi
 exact ⟨b, 0, rfl, block_lt hc, by simpa using hc⟩
theorem Row.base {w : World} {B : Nat} {a : Option Addr} {c : Nat} {xs : List Int} (h : Row w B a c xs) : ∀ x, a = some x → B ≤ x.block ∧ x.block < w.heap.size := fun x hx => by
 subst hx
 exact World.ownsRow.lt h x.block rfl
theorem rowAdd {B p eb : Nat} {w w0 w1 : World} {xa ya za : Option Addr} {xc yc zc g cap i : Nat} {xs ys zs : List Int} {v : Int} {cs : Array Value} {u : Value} (hb : Blk w p 88 cs) (hp : p < B) (hB : B ≤ w.heap.size)
  (hx : Row w B xa xc xs) (hy : Row w B ya yc ys) (hz : Row w B za zc zs) (dy : Apart xa ya) (dz : Apart xa za)
  (hb0 : Below w.heap.size w w0) (hgr : w0.grownBy w1 (Value.slice xa xs.length xc).ownBlock) (hown : w1.ownsRow B 3 1 (.slice (some ⟨g, 0, none⟩) (xs.length + 1) cap) (xs.length + 1) (xs.map (Value.int .i64 ·) ++ [.int .i64 v]))
  (hat : (Value.slice xa xs.length xc).ownBlock = some g ∨ g = w.heap.size + 1) :
  Blk (w1.setCell ⟨p, i, none⟩ u) p 88 (cs.setIfInBounds i u) ∧ Row (w1.setCell ⟨p, i, none⟩ u) B (some ⟨g, 0, none⟩) cap (xs ++ [v]) ∧ Row (w1.setCell ⟨p, i, none⟩ u) B ya yc ys ∧ Row (w1.setCell ⟨p, i, none⟩ u) B za zc zs ∧
   Apart (some ⟨g, 0, none⟩) ya ∧ Apart (some ⟨g, 0, none⟩) za ∧ Kp [88, 3] B p eb w (w1.setCell ⟨p, i, none⟩ u) := by
 have hk0 : Kp [] B p eb w w0 := Kp.below hb0 hB
 have hk1 : Kp [3] B p eb w0 w1 := Kp.grown hgr (Nat.le_trans hB hb0.size) (ownsRow_keep hx hk0 (by simp)) (by simp)
 have hb1 : Blk w1 p 88 cs := (hb.keep hk0 (by simp)).keep hk1 (by simp)
 have hk2 : Kp [88] B p eb w1 (w1.setCell ⟨p, i, none⟩ u) := Kp.only (Only.refl _ _).set (by have := hb0.size; have := hgr.size; omega) hb1 (by simp) (Or.inl rfl)
 have keep : ∀ {a : Option Addr} {c : Nat} {l : List Int}, Row w B a c l → Apart xa a → Row (w1.setCell ⟨p, i, none⟩ u) B a c l := fun {a c l} h d => by
  have h1 : w1.ownsRow B 3 1 (.slice a l.length c) l.length (l.map (Value.int .i64 ·)) := by
   refine (ownsRow_keep h hk0 (by simp)).kept hgr ?_
   cases a with
   | none => exact Or.inl rfl
   | some y =>
    cases xa with
    | none => exact Or.inr (by simp [Value.ownBlock])
    | some x => exact Or.inr (fun e => d x y rfl rfl (by simpa [Value.ownBlock] using e.symm))
  exact ownsRow_keep h1 hk2 (by simp)
 have apart : ∀ {a : Option Addr} {c : Nat} {l : List Int}, Row w B a c l → Apart xa a → Apart (some ⟨g, 0, none⟩) a := fun {a c l} h d => by
  intro x y hx' hy'
  cases hx'
  rcases hat with h1 | h1
  ·cases xa with
   | none => simp [Value.ownBlock] at h1
   | some x0 =>
    simp [Value.ownBlock] at h1
    rw [← h1]
    exact d x0 y rfl hy'
  ·have := (h.base y hy').2
   simp only
   omega
 refine ⟨hb1.set, ?_, keep hy dy, keep hz dz, apart hy dy, apart hz dz, hk0.up.trans ((hk1.wide (by simp)).trans (hk2.wide (by simp)))⟩
 have h1 := ownsRow_keep hown hk2 (by simp)
 unfold Row
 simpa using h1
def TellR (c : Cfg) (me : Int) (jobs : List (Int × List InsD)) (ma ja : Option Addr) (ml mc jc : Nat) (B p eb : Nat) (w : World) (S D W : List Int) : Prop :=
 ∃ sa sc da dc wa wc, Blk w p 88 (lifeArr ⟨c, me, S, D, W, jobs⟩ ⟨ma, ml, mc, ja, jc, sa, sc, da, dc, wa, wc, some ⟨eb, 0, none⟩, jobs.length⟩ none 0 (newLS ⟨c, me, S, D, W, jobs⟩)) ∧
  Row w B sa sc S ∧ Row w B da dc D ∧ Row w B wa wc W ∧ Apart sa da ∧ Apart sa wa ∧ Apart da wa
theorem Apart.symm {a b : Option Addr} (h : Apart a b) : Apart b a := fun x y hx hy e => h y x hy hx e.symm
end Go.Proofs.YtejadojilncbjaaGreat
