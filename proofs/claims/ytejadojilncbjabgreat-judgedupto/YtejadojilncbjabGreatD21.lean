import Derived.Test.YtejadojilncbjabGreatD20
import Derived.Test.YtejadojilncbjabGreatD07
import Derived.Test.YtejadojilncbjabGreatD02
import Derived.Test.YtejadojilncbjabGreatD19
import Derived.Deep.MidRow
namespace Go.Proofs.YtejadojilncbjabGreat
open Go.RowKit
set_option linter.unusedVariables false
def oB (a : Option Addr) : Option Nat := a.map (·.block)
theorem oB_eq (a : Option Addr) (n c : Nat) : (Value.slice a n c).ownBlock = oB a := by cases a <;> rfl
def Own (L : Ls) (k : Nat) : Prop := oB L.ra = some k ∨ oB L.wa = some k ∨ oB L.ha = some k ∨ oB L.ma = some k ∨ oB L.na = some k ∨ oB L.sa = some k
structure Goes (p : Nat) (L : Ls) (w : World) (L' : Ls) (w' : World) : Prop where
 os : w'.os = w.os
 tape : w'.tape = w.tape
 output : w'.output = w.output
 size : w.heap.size ≤ w'.heap.size
 block : ∀ k, k < w.heap.size → k ≠ p → ¬ Own L k → w'.heap[k]? = w.heap[k]?
 own : ∀ k, Own L' k → Own L k ∨ w.heap.size ≤ k
theorem Goes.only {p : Nat} {L : Ls} {w w' : World} (h : Only p w w') : Goes p L w L w' := ⟨h.os, h.tape, h.output, h.size, fun k hk hp _ => h.block k hk hp, fun k hk => Or.inl hk⟩
theorem Goes.refl (p : Nat) (L : Ls) (w : World) : Goes p L w L w := Goes.only (Only.refl _ _)
theorem Goes.trans {p : Nat} {L L' L'' : Ls} {w w' w'' : World} (h : Goes p L w L' w') (k : Goes p L' w' L'' w'') : Goes p L w L'' w'' :=
 ⟨k.os.trans h.os, k.tape.trans h.tape, k.output.trans h.output, Nat.le_trans h.size k.size,
     fun i hi hp ho => (k.block i (Nat.lt_of_lt_of_le hi h.size) hp (fun q => by rcases h.own i q with q | q; exact ho q; omega)).trans (h.block i hi hp ho),
     fun i hi => by
      rcases k.own i hi with q | q
      ·exact h.own i q
      ·exact Or.inr (Nat.le_trans h.size q)⟩
def Dids (base p z : Nat) (A B : List Value) (t : PT) (L : Ls) (w : World) (e : Ending) (w' : World) : Prop := e = .returned (.tuple #[]) ∧ ∃ L', TR base p z A B w' t L' ∧ Goes p L w L' w'
theorem Dids.after {base p z : Nat} {A B : List Value} {t' : PT} {L L1 : Ls} {w w0 : World} {e : Ending} {w' : World} (h : Dids base p z A B t' L1 w0 e w') (g : Goes p L w L1 w0) : Dids base p z A B t' L w e w' := by
 obtain ⟨h1, L', h2, h3⟩ := h
 exact ⟨h1, L', h2, g.trans h3⟩
theorem own_ne {w : World} {base e1 e2 s1 s2 n1 n2 : Nat} {v1 v2 : Value} {x1 x2 : List Value} (h1 : w.ownsRow base e1 s1 v1 n1 x1) (h2 : w.ownsRow base e2 s2 v2 n2 x2) (hne : e1 ≠ e2) : v1.ownBlock = none ∨ v1.ownBlock ≠ v2.ownBlock := by
 rcases h1.2 with ⟨rfl, _⟩ | ⟨g, cap, cur, rfl, hb, hg, _⟩
 ·exact Or.inl rfl
 ·refine Or.inr fun q => ?_
  rcases h2.2 with ⟨rfl, _⟩ | ⟨g2, cap2, cur2, rfl, hb2, hg2, _⟩
  ·simp [Value.ownBlock] at q
  ·simp [Value.ownBlock] at q
   subst q
   rw [hg] at hg2
   simp at hg2
   exact hne hg2.2
section
variable {base p z : Nat} {A B : List Value} {t : PT} {L : Ls} {w w0 w1 : World} {g cap H : Nat}
theorem tat_grown {e : TypeId} {size n : Nat} {v : Value} {xs : List Value} (h : TAt w0 p z A B t L) (hv : w0.ownsRow base e size v n xs) (he : e ≠ 138) (hgr : w0.grownBy w1 v.ownBlock) : TAt w1 p z A B t L := by
 have hp : p < w0.heap.size := h.lt
 refine ⟨h.1, (hgr.block p hp ?_).trans h.2⟩
 intro q
 exact own_tag hv h.2 he p q.symm rfl
theorem goes_grown {L' : Ls} {row : Option Nat} {i : Nat} {u : Value} (hb0 : Below w.heap.size w w0) (hgr : w0.grownBy w1 row) (hrow : ∀ k, row = some k → Own L k) (hown : ∀ k, Own L' k → Own L k ∨ w.heap.size ≤ k) : Goes p L w L' (w1.setCell ⟨p, i, none⟩ u) := by
 have hs : Only p w1 (w1.setCell ⟨p, i, none⟩ u) := (Only.refl _ _).set
 refine ⟨?_, ?_, ?_, ?_, ?_, hown⟩
 ·exact hs.os.trans (hgr.os.trans hb0.os)
 ·exact hs.tape.trans (hgr.tape.trans hb0.tape)
 ·exact hs.output.trans (hgr.output.trans hb0.output)
 ·exact Nat.le_trans hb0.size (Nat.le_trans hgr.size hs.size)
 ·intro k hk hp ho
  have k0 : k < w0.heap.size := Nat.lt_of_lt_of_le hk hb0.size
  have k1 : k < w1.heap.size := Nat.lt_of_lt_of_le k0 hgr.size
  rw [hs.block k k1 hp, hgr.block k k0 (fun q => ho (hrow k q.symm)), hb0.block k hk]
theorem tr_addRead {st v : Int} (R : TR base p z A B w t L) (hb0 : Below w.heap.size w w0) (hgr : w0.grownBy w1 (Value.slice L.ra t.reads.length L.rc).ownBlock)
  (hown : w1.ownsRow base 222 2 (.slice (some ⟨g, 0, none⟩) (t.reads.length + 1) cap) (t.reads.length + 1) (t.reads.flatMap entCells ++ [.int .i64 st, .int .i64 v])) (hat : (Value.slice L.ra t.reads.length L.rc).ownBlock = some g ∨ g = H) (hH : w.heap.size ≤ H) :
  TR base p z A B (w1.setCell ⟨p, z + 19 + 19, none⟩ (.slice (some ⟨g, 0, none⟩) (t.reads.length + 1) cap)) { t with reads := t.reads ++ [⟨st, v⟩] } { L with ra := some ⟨g, 0, none⟩, rc := cap } ∧
  Goes p L w { L with ra := some ⟨g, 0, none⟩, rc := cap } (w1.setCell ⟨p, z + 19 + 19, none⟩ (.slice (some ⟨g, 0, none⟩) (t.reads.length + 1) cap)) := by
 have R0 := R.below hb0
 have h1 : TAt w1 p z A B t L := tat_grown R0.tt R0.rd (by decide) hgr
 have hset : TAt (w1.setCell ⟨p, z + 19 + 19, none⟩ (.slice (some ⟨g, 0, none⟩) (t.reads.length + 1) cap)) p z A B { t with reads := t.reads ++ [⟨st, v⟩] } { L with ra := some ⟨g, 0, none⟩, rc := cap } :=
  h1.set 38 (by decide) _ (by simp [tArr])
 have ho : Only p w1 (w1.setCell ⟨p, z + 19 + 19, none⟩ (.slice (some ⟨g, 0, none⟩) (t.reads.length + 1) cap)) := (Only.refl _ _).set
 have hp := h1.2
 have kw := ownsRow_only (R0.wr.kept hgr (own_ne R0.wr R0.rd (by decide))) ho (own_tag (R0.wr.kept hgr (own_ne R0.wr R0.rd (by decide))) hp (by decide))
 have kh := ownsRow_only (R0.hd.kept hgr (own_ne R0.hd R0.rd (by decide))) ho (own_tag (R0.hd.kept hgr (own_ne R0.hd R0.rd (by decide))) hp (by decide))
 have km := ownsRow_only (R0.mi.kept hgr (own_ne R0.mi R0.rd (by decide))) ho (own_tag (R0.mi.kept hgr (own_ne R0.mi R0.rd (by decide))) hp (by decide))
 have kn := ownsRow_only (R0.nt.kept hgr (own_ne R0.nt R0.rd (by decide))) ho (own_tag (R0.nt.kept hgr (own_ne R0.nt R0.rd (by decide))) hp (by decide))
 have ks := ownsRow_only (R0.sr.kept hgr (own_ne R0.sr R0.rd (by decide))) ho (own_tag (R0.sr.kept hgr (own_ne R0.sr R0.rd (by decide))) hp (by decide))
 have hTR : TR base p z A B (w1.setCell ⟨p, z + 19 + 19, none⟩ (.slice (some ⟨g, 0, none⟩) (t.reads.length + 1) cap)) { t with reads := t.reads ++ [⟨st, v⟩] } { L with ra := some ⟨g, 0, none⟩, rc := cap } := by
  refine ⟨hset, ?_, kw, kh, km, R.ne, kn, ks⟩
  have := ownsRow_only hown ho (own_tag hown hp (by decide))
  simpa [List.flatMap_append, entCells] using this
 have hOwn : ∀ k, Own { L with ra := some ⟨g, 0, none⟩, rc := cap } k → Own L k ∨ w.heap.size ≤ k := by
  intro k hk
  have hg' : some g = some k → Own L k ∨ w.heap.size ≤ k := fun q => by
   simp at q
   subst q
   rcases hat with q | q
   ·rw [oB_eq] at q; exact Or.inl (by unfold Own; simp [q])
   ·exact Or.inr (by omega)
  unfold Own at hk
  rcases hk with q | q | q | q | q | q
  ·first | exact hg' q | exact Or.inl (Or.inl q)
  ·first | exact hg' q | exact Or.inl (Or.inr (Or.inl q))
  ·first | exact hg' q | exact Or.inl (Or.inr (Or.inr (Or.inl q)))
  ·first | exact hg' q | exact Or.inl (Or.inr (Or.inr (Or.inr (Or.inl q))))
  ·first | exact hg' q | exact Or.inl (Or.inr (Or.inr (Or.inr (Or.inr (Or.inl q)))))
  ·first | exact hg' q | exact Or.inl (Or.inr (Or.inr (Or.inr (Or.inr (Or.inr q)))))
 exact ⟨hTR, goes_grown hb0 hgr (fun k q => by rw [oB_eq] at q; unfold Own; simp [q]) hOwn⟩
theorem tr_addWrite {st v : Int} (R : TR base p z A B w t L) (hb0 : Below w.heap.size w w0) (hgr : w0.grownBy w1 (Value.slice L.wa t.writes.length L.wc).ownBlock)
  (hown : w1.ownsRow base 230 2 (.slice (some ⟨g, 0, none⟩) (t.writes.length + 1) cap) (t.writes.length + 1) (t.writes.flatMap entCells ++ [.int .i64 st, .int .i64 v])) (hat : (Value.slice L.wa t.writes.length L.wc).ownBlock = some g ∨ g = H) (hH : w.heap.size ≤ H) :
  TR base p z A B (w1.setCell ⟨p, z + 19 + 20, none⟩ (.slice (some ⟨g, 0, none⟩) (t.writes.length + 1) cap)) { t with writes := t.writes ++ [⟨st, v⟩] } { L with wa := some ⟨g, 0, none⟩, wc := cap } ∧
  Goes p L w { L with wa := some ⟨g, 0, none⟩, wc := cap } (w1.setCell ⟨p, z + 19 + 20, none⟩ (.slice (some ⟨g, 0, none⟩) (t.writes.length + 1) cap)) := by
 have R0 := R.below hb0
 have h1 : TAt w1 p z A B t L := tat_grown R0.tt R0.wr (by decide) hgr
 have hset : TAt (w1.setCell ⟨p, z + 19 + 20, none⟩ (.slice (some ⟨g, 0, none⟩) (t.writes.length + 1) cap)) p z A B { t with writes := t.writes ++ [⟨st, v⟩] } { L with wa := some ⟨g, 0, none⟩, wc := cap } :=
  h1.set 39 (by decide) _ (by simp [tArr])
 have ho : Only p w1 (w1.setCell ⟨p, z + 19 + 20, none⟩ (.slice (some ⟨g, 0, none⟩) (t.writes.length + 1) cap)) := (Only.refl _ _).set
 have hp := h1.2
 have kr := ownsRow_only (R0.rd.kept hgr (own_ne R0.rd R0.wr (by decide))) ho (own_tag (R0.rd.kept hgr (own_ne R0.rd R0.wr (by decide))) hp (by decide))
 have kh := ownsRow_only (R0.hd.kept hgr (own_ne R0.hd R0.wr (by decide))) ho (own_tag (R0.hd.kept hgr (own_ne R0.hd R0.wr (by decide))) hp (by decide))
 have km := ownsRow_only (R0.mi.kept hgr (own_ne R0.mi R0.wr (by decide))) ho (own_tag (R0.mi.kept hgr (own_ne R0.mi R0.wr (by decide))) hp (by decide))
 have kn := ownsRow_only (R0.nt.kept hgr (own_ne R0.nt R0.wr (by decide))) ho (own_tag (R0.nt.kept hgr (own_ne R0.nt R0.wr (by decide))) hp (by decide))
 have ks := ownsRow_only (R0.sr.kept hgr (own_ne R0.sr R0.wr (by decide))) ho (own_tag (R0.sr.kept hgr (own_ne R0.sr R0.wr (by decide))) hp (by decide))
 have hTR : TR base p z A B (w1.setCell ⟨p, z + 19 + 20, none⟩ (.slice (some ⟨g, 0, none⟩) (t.writes.length + 1) cap)) { t with writes := t.writes ++ [⟨st, v⟩] } { L with wa := some ⟨g, 0, none⟩, wc := cap } := by
  refine ⟨hset, kr, ?_, kh, km, R.ne, kn, ks⟩
  have := ownsRow_only hown ho (own_tag hown hp (by decide))
  simpa [List.flatMap_append, entCells] using this
 have hOwn : ∀ k, Own { L with wa := some ⟨g, 0, none⟩, wc := cap } k → Own L k ∨ w.heap.size ≤ k := by
  intro k hk
  have hg' : some g = some k → Own L k ∨ w.heap.size ≤ k := fun q => by
   simp at q
   subst q
   rcases hat with q | q
   ·rw [oB_eq] at q; exact Or.inl (by unfold Own; simp [q])
   ·exact Or.inr (by omega)
  unfold Own at hk
  rcases hk with q | q | q | q | q | q
  ·first | exact hg' q | exact Or.inl (Or.inl q)
  ·first | exact hg' q | exact Or.inl (Or.inr (Or.inl q))
  ·first | exact hg' q | exact Or.inl (Or.inr (Or.inr (Or.inl q)))
  ·first | exact hg' q | exact Or.inl (Or.inr (Or.inr (Or.inr (Or.inl q))))
  ·first | exact hg' q | exact Or.inl (Or.inr (Or.inr (Or.inr (Or.inr (Or.inl q)))))
  ·first | exact hg' q | exact Or.inl (Or.inr (Or.inr (Or.inr (Or.inr (Or.inr q)))))
 exact ⟨hTR, goes_grown hb0 hgr (fun k q => by rw [oB_eq] at q; unfold Own; simp [q]) hOwn⟩
theorem tr_addHeld {st : Int} (R : TR base p z A B w t L) (hb0 : Below w.heap.size w w0) (hgr : w0.grownBy w1 (Value.slice L.ha t.held.length L.hc).ownBlock)
  (hown : w1.ownsRow base 3 1 (.slice (some ⟨g, 0, none⟩) (t.held.length + 1) cap) (t.held.length + 1) (intCells t.held ++ [.int .i64 st])) (hat : (Value.slice L.ha t.held.length L.hc).ownBlock = some g ∨ g = H) (hH : w.heap.size ≤ H) :
  TR base p z A B (w1.setCell ⟨p, z + 19 + 21, none⟩ (.slice (some ⟨g, 0, none⟩) (t.held.length + 1) cap)) { t with held := t.held ++ [st] } { L with ha := some ⟨g, 0, none⟩, hc := cap } ∧
  Goes p L w { L with ha := some ⟨g, 0, none⟩, hc := cap } (w1.setCell ⟨p, z + 19 + 21, none⟩ (.slice (some ⟨g, 0, none⟩) (t.held.length + 1) cap)) := by
 have R0 := R.below hb0
 have h1 : TAt w1 p z A B t L := tat_grown R0.tt R0.hd (by decide) hgr
 have hset : TAt (w1.setCell ⟨p, z + 19 + 21, none⟩ (.slice (some ⟨g, 0, none⟩) (t.held.length + 1) cap)) p z A B { t with held := t.held ++ [st] } { L with ha := some ⟨g, 0, none⟩, hc := cap } :=
  h1.set 40 (by decide) _ (by simp [tArr])
 have ho : Only p w1 (w1.setCell ⟨p, z + 19 + 21, none⟩ (.slice (some ⟨g, 0, none⟩) (t.held.length + 1) cap)) := (Only.refl _ _).set
 have hp := h1.2
 have hmi : (Value.slice L.ma t.mine.length L.mc).ownBlock = none ∨ (Value.slice L.ma t.mine.length L.mc).ownBlock ≠ (Value.slice L.ha t.held.length L.hc).ownBlock := by
  cases hq : (Value.slice L.ma t.mine.length L.mc).ownBlock with
  | none => exact Or.inl rfl
  | some k => exact Or.inr fun q => R.ne k q.symm hq
 have kr := ownsRow_only (R0.rd.kept hgr (own_ne R0.rd R0.hd (by decide))) ho (own_tag (R0.rd.kept hgr (own_ne R0.rd R0.hd (by decide))) hp (by decide))
 have kw := ownsRow_only (R0.wr.kept hgr (own_ne R0.wr R0.hd (by decide))) ho (own_tag (R0.wr.kept hgr (own_ne R0.wr R0.hd (by decide))) hp (by decide))
 have km := ownsRow_only (R0.mi.kept hgr (hmi)) ho (own_tag (R0.mi.kept hgr (hmi)) hp (by decide))
 have kn := ownsRow_only (R0.nt.kept hgr (own_ne R0.nt R0.hd (by decide))) ho (own_tag (R0.nt.kept hgr (own_ne R0.nt R0.hd (by decide))) hp (by decide))
 have ks := ownsRow_only (R0.sr.kept hgr (own_ne R0.sr R0.hd (by decide))) ho (own_tag (R0.sr.kept hgr (own_ne R0.sr R0.hd (by decide))) hp (by decide))
 have hTR : TR base p z A B (w1.setCell ⟨p, z + 19 + 21, none⟩ (.slice (some ⟨g, 0, none⟩) (t.held.length + 1) cap)) { t with held := t.held ++ [st] } { L with ha := some ⟨g, 0, none⟩, hc := cap } := by
  refine ⟨hset, kr, kw, ?_, km, ?_, kn, ks⟩
  ·have := ownsRow_only hown ho (own_tag hown hp (by decide))
   simpa [intCells] using this
  ·intro k hk hm
   simp [Value.ownBlock] at hk
   subst hk
   rcases hat with q | q
   ·exact R.ne _ q hm
   ·have := (R.mi.lt _ hm).2
    omega
 have hOwn : ∀ k, Own { L with ha := some ⟨g, 0, none⟩, hc := cap } k → Own L k ∨ w.heap.size ≤ k := by
  intro k hk
  have hg' : some g = some k → Own L k ∨ w.heap.size ≤ k := fun q => by
   simp at q
   subst q
   rcases hat with q | q
   ·rw [oB_eq] at q; exact Or.inl (by unfold Own; simp [q])
   ·exact Or.inr (by omega)
  unfold Own at hk
  rcases hk with q | q | q | q | q | q
  ·first | exact hg' q | exact Or.inl (Or.inl q)
  ·first | exact hg' q | exact Or.inl (Or.inr (Or.inl q))
  ·first | exact hg' q | exact Or.inl (Or.inr (Or.inr (Or.inl q)))
  ·first | exact hg' q | exact Or.inl (Or.inr (Or.inr (Or.inr (Or.inl q))))
  ·first | exact hg' q | exact Or.inl (Or.inr (Or.inr (Or.inr (Or.inr (Or.inl q)))))
  ·first | exact hg' q | exact Or.inl (Or.inr (Or.inr (Or.inr (Or.inr (Or.inr q)))))
 exact ⟨hTR, goes_grown hb0 hgr (fun k q => by rw [oB_eq] at q; unfold Own; simp [q]) hOwn⟩
theorem tr_addNote {op ad v : Int} (R : TR base p z A B w t L) (hb0 : Below w.heap.size w w0) (hgr : w0.grownBy w1 (Value.slice L.na t.notes.length L.nc).ownBlock)
  (hown : w1.ownsRow base 93 3 (.slice (some ⟨g, 0, none⟩) (t.notes.length + 1) cap) (t.notes.length + 1) (t.notes.flatMap noteCells ++ [.int .i64 op, .int .i64 ad, .int .i64 v])) (hat : (Value.slice L.na t.notes.length L.nc).ownBlock = some g ∨ g = H) (hH : w.heap.size ≤ H) :
  TR base p z A B (w1.setCell ⟨p, z + 19 + 7, none⟩ (.slice (some ⟨g, 0, none⟩) (t.notes.length + 1) cap)) { t with notes := t.notes ++ [⟨op, ad, v⟩] } { L with na := some ⟨g, 0, none⟩, nc := cap } ∧
  Goes p L w { L with na := some ⟨g, 0, none⟩, nc := cap } (w1.setCell ⟨p, z + 19 + 7, none⟩ (.slice (some ⟨g, 0, none⟩) (t.notes.length + 1) cap)) := by
 have R0 := R.below hb0
 have h1 : TAt w1 p z A B t L := tat_grown R0.tt R0.nt (by decide) hgr
 have hset : TAt (w1.setCell ⟨p, z + 19 + 7, none⟩ (.slice (some ⟨g, 0, none⟩) (t.notes.length + 1) cap)) p z A B { t with notes := t.notes ++ [⟨op, ad, v⟩] } { L with na := some ⟨g, 0, none⟩, nc := cap } :=
  h1.set 26 (by decide) _ (by simp [tArr])
 have ho : Only p w1 (w1.setCell ⟨p, z + 19 + 7, none⟩ (.slice (some ⟨g, 0, none⟩) (t.notes.length + 1) cap)) := (Only.refl _ _).set
 have hp := h1.2
 have kw := ownsRow_only (R0.wr.kept hgr (own_ne R0.wr R0.nt (by decide))) ho (own_tag (R0.wr.kept hgr (own_ne R0.wr R0.nt (by decide))) hp (by decide))
 have kh := ownsRow_only (R0.hd.kept hgr (own_ne R0.hd R0.nt (by decide))) ho (own_tag (R0.hd.kept hgr (own_ne R0.hd R0.nt (by decide))) hp (by decide))
 have km := ownsRow_only (R0.mi.kept hgr (own_ne R0.mi R0.nt (by decide))) ho (own_tag (R0.mi.kept hgr (own_ne R0.mi R0.nt (by decide))) hp (by decide))
 have kr := ownsRow_only (R0.rd.kept hgr (own_ne R0.rd R0.nt (by decide))) ho (own_tag (R0.rd.kept hgr (own_ne R0.rd R0.nt (by decide))) hp (by decide))
 have ks := ownsRow_only (R0.sr.kept hgr (own_ne R0.sr R0.nt (by decide))) ho (own_tag (R0.sr.kept hgr (own_ne R0.sr R0.nt (by decide))) hp (by decide))
 have hTR : TR base p z A B (w1.setCell ⟨p, z + 19 + 7, none⟩ (.slice (some ⟨g, 0, none⟩) (t.notes.length + 1) cap)) { t with notes := t.notes ++ [⟨op, ad, v⟩] } { L with na := some ⟨g, 0, none⟩, nc := cap } := by
  refine ⟨hset, kr, kw, kh, km, R.ne, ?_, ks⟩
  have := ownsRow_only hown ho (own_tag hown hp (by decide))
  simpa [List.flatMap_append, noteCells] using this
 have hOwn : ∀ k, Own { L with na := some ⟨g, 0, none⟩, nc := cap } k → Own L k ∨ w.heap.size ≤ k := by
  intro k hk
  have hg' : some g = some k → Own L k ∨ w.heap.size ≤ k := fun q => by
   simp at q
   subst q
   rcases hat with q | q
   ·rw [oB_eq] at q; exact Or.inl (by unfold Own; simp [q])
   ·exact Or.inr (by omega)
  unfold Own at hk
  rcases hk with q | q | q | q | q | q
  ·first | exact hg' q | exact Or.inl (Or.inl q)
  ·first | exact hg' q | exact Or.inl (Or.inr (Or.inl q))
  ·first | exact hg' q | exact Or.inl (Or.inr (Or.inr (Or.inl q)))
  ·first | exact hg' q | exact Or.inl (Or.inr (Or.inr (Or.inr (Or.inl q))))
  ·first | exact hg' q | exact Or.inl (Or.inr (Or.inr (Or.inr (Or.inr (Or.inl q)))))
  ·first | exact hg' q | exact Or.inl (Or.inr (Or.inr (Or.inr (Or.inr (Or.inr q)))))
 exact ⟨hTR, goes_grown hb0 hgr (fun k q => by rw [oB_eq] at q; unfold Own; simp [q]) hOwn⟩
theorem tr_addRes {rv : ResD} (R : TR base p z A B w t L) (hb0 : Below w.heap.size w w0) (hgr : w0.grownBy w1 (Value.slice L.sa t.res.length L.sc).ownBlock)
  (hown : w1.ownsRow base 47 5 (.slice (some ⟨g, 0, none⟩) (t.res.length + 1) cap) (t.res.length + 1) (t.res.flatMap resCells ++ [.int .i64 rv.fate, .int .i64 rv.r0, .int .i64 rv.r1, .int .i64 rv.r2, .int .i64 rv.r3])) (hat : (Value.slice L.sa t.res.length L.sc).ownBlock = some g ∨ g = H) (hH : w.heap.size ≤ H) :
  TR base p z A B (w1.setCell ⟨p, z + 10, none⟩ (.slice (some ⟨g, 0, none⟩) (t.res.length + 1) cap)) { t with res := t.res ++ [rv] } { L with sa := some ⟨g, 0, none⟩, sc := cap } ∧
  Goes p L w { L with sa := some ⟨g, 0, none⟩, sc := cap } (w1.setCell ⟨p, z + 10, none⟩ (.slice (some ⟨g, 0, none⟩) (t.res.length + 1) cap)) := by
 have R0 := R.below hb0
 have h1 : TAt w1 p z A B t L := tat_grown R0.tt R0.sr (by decide) hgr
 have hset : TAt (w1.setCell ⟨p, z + 10, none⟩ (.slice (some ⟨g, 0, none⟩) (t.res.length + 1) cap)) p z A B { t with res := t.res ++ [rv] } { L with sa := some ⟨g, 0, none⟩, sc := cap } :=
  h1.set 10 (by decide) _ (by simp [tArr])
 have ho : Only p w1 (w1.setCell ⟨p, z + 10, none⟩ (.slice (some ⟨g, 0, none⟩) (t.res.length + 1) cap)) := (Only.refl _ _).set
 have hp := h1.2
 have kw := ownsRow_only (R0.wr.kept hgr (own_ne R0.wr R0.sr (by decide))) ho (own_tag (R0.wr.kept hgr (own_ne R0.wr R0.sr (by decide))) hp (by decide))
 have kh := ownsRow_only (R0.hd.kept hgr (own_ne R0.hd R0.sr (by decide))) ho (own_tag (R0.hd.kept hgr (own_ne R0.hd R0.sr (by decide))) hp (by decide))
 have km := ownsRow_only (R0.mi.kept hgr (own_ne R0.mi R0.sr (by decide))) ho (own_tag (R0.mi.kept hgr (own_ne R0.mi R0.sr (by decide))) hp (by decide))
 have kr := ownsRow_only (R0.rd.kept hgr (own_ne R0.rd R0.sr (by decide))) ho (own_tag (R0.rd.kept hgr (own_ne R0.rd R0.sr (by decide))) hp (by decide))
 have kn := ownsRow_only (R0.nt.kept hgr (own_ne R0.nt R0.sr (by decide))) ho (own_tag (R0.nt.kept hgr (own_ne R0.nt R0.sr (by decide))) hp (by decide))
 have hTR : TR base p z A B (w1.setCell ⟨p, z + 10, none⟩ (.slice (some ⟨g, 0, none⟩) (t.res.length + 1) cap)) { t with res := t.res ++ [rv] } { L with sa := some ⟨g, 0, none⟩, sc := cap } := by
  refine ⟨hset, kr, kw, kh, km, R.ne, kn, ?_⟩
  have := ownsRow_only hown ho (own_tag hown hp (by decide))
  simpa [List.flatMap_append, resCells] using this
 have hOwn : ∀ k, Own { L with sa := some ⟨g, 0, none⟩, sc := cap } k → Own L k ∨ w.heap.size ≤ k := by
  intro k hk
  have hg' : some g = some k → Own L k ∨ w.heap.size ≤ k := fun q => by
   simp at q
   subst q
   rcases hat with q | q
   ·rw [oB_eq] at q; exact Or.inl (by unfold Own; simp [q])
   ·exact Or.inr (by omega)
  unfold Own at hk
  rcases hk with q | q | q | q | q | q
  ·first | exact hg' q | exact Or.inl (Or.inl q)
  ·first | exact hg' q | exact Or.inl (Or.inr (Or.inl q))
  ·first | exact hg' q | exact Or.inl (Or.inr (Or.inr (Or.inl q)))
  ·first | exact hg' q | exact Or.inl (Or.inr (Or.inr (Or.inr (Or.inl q))))
  ·first | exact hg' q | exact Or.inl (Or.inr (Or.inr (Or.inr (Or.inr (Or.inl q)))))
  ·first | exact hg' q | exact Or.inl (Or.inr (Or.inr (Or.inr (Or.inr (Or.inr q)))))
 exact ⟨hTR, goes_grown hb0 hgr (fun k q => by rw [oB_eq] at q; unfold Own; simp [q]) hOwn⟩
theorem RowsOwn (R : TR base p z A B w t L) (k : Nat) (h : Own L k) : base ≤ k ∧ k < w.heap.size := by
 unfold Own at h
 rcases h with q | q | q | q | q | q
 ·rw [← oB_eq L.ra t.reads.length L.rc] at q; exact R.rd.lt k q
 ·rw [← oB_eq L.wa t.writes.length L.wc] at q; exact R.wr.lt k q
 ·rw [← oB_eq L.ha t.held.length L.hc] at q; exact R.hd.lt k q
 ·rw [← oB_eq L.ma t.mine.length L.mc] at q; exact R.mi.lt k q
 ·rw [← oB_eq L.na t.notes.length L.nc] at q; exact R.nt.lt k q
 ·rw [← oB_eq L.sa t.res.length L.sc] at q; exact R.sr.lt k q
theorem tr_sameWrite {a : Int} {k : Nat} (R : TR base p z A B w t L) (hk : entIdx t.writes a = some k) (hg : L.wa = some ⟨g, 0, none⟩) :
  TR base p z A B (w.setCell ⟨g, k * 2, none⟩ (.int .i64 a)) t L ∧ Goes p L w L (w.setCell ⟨g, k * 2, none⟩ (.int .i64 a)) := by
 have hrow := R.wr
 rw [hg] at hrow
 have hin := entIn hk
 obtain ⟨hs1, hs2⟩ := hrow.stored (k * 2) (.int .i64 a)
 have hs2' : w.grownBy (w.setCell ⟨g, k * 2, none⟩ (.int .i64 a)) (Value.slice L.wa t.writes.length L.wc).ownBlock := by rw [hg]; exact hs2
 have h1 : TAt (w.setCell ⟨g, k * 2, none⟩ (.int .i64 a)) p z A B t L := tat_grown R.tt R.wr (by decide) hs2'
 have hmi : (Value.slice L.ma t.mine.length L.mc).ownBlock = none ∨ (Value.slice L.ma t.mine.length L.mc).ownBlock ≠ (Value.slice L.wa t.writes.length L.wc).ownBlock := own_ne R.mi R.wr (by decide)
 refine ⟨⟨h1, R.rd.kept hs2' (own_ne R.rd R.wr (by decide)), ?_, R.hd.kept hs2' (own_ne R.hd R.wr (by decide)), R.mi.kept hs2' hmi, R.ne, R.nt.kept hs2' (own_ne R.nt R.wr (by decide)), R.sr.kept hs2' (own_ne R.sr R.wr (by decide))⟩, ?_⟩
 ·rw [hg]
  have e : (t.writes.flatMap entCells).set (k * 2) (.int .i64 a) = t.writes.flatMap entCells := by
   apply List.ext_getElem?
   intro j
   by_cases hj : j = k * 2
   ·subst hj
    have hl : (t.writes.flatMap entCells).length = t.writes.length * 2 := flat_len (f := entCells) (n := 2) (fun _ => rfl) t.writes
    rw [List.getElem?_set_self (by have := hin.1; omega), show k * 2 = k * 2 + 0 from rfl, flat_at (n := 2) (fun _ => rfl) _ k 0 (by omega), List.getElem?_eq_getElem hin.1]
    have := hin.2.1
    simp [List.getD, List.getElem?_eq_getElem hin.1] at this
    simp [entCells, this]
   ·rw [List.getElem?_set_ne (fun q => hj q.symm)]
  rw [e] at hs1
  exact hs1
 ·refine ⟨hs2.os, hs2.tape, hs2.output, hs2.size, fun i hi hp ho => hs2.block i hi (fun q => ho ?_), fun i hi => Or.inl hi⟩
  unfold Own
  rw [hg]
  simp [oB] at q ⊢
  exact Or.inr (Or.inl q.symm)
theorem tr_putWrite {a v : Int} {k : Nat} (R : TR base p z A B w t L) (hk : entIdx t.writes a = some k) (hg : L.wa = some ⟨g, 0, none⟩) :
  TR base p z A B (w.setCell ⟨g, k * 2 + 1, none⟩ (.int .i64 v)) { t with writes := putEnt t.writes a v } L ∧ Goes p L w L (w.setCell ⟨g, k * 2 + 1, none⟩ (.int .i64 v)) := by
 have hrow := R.wr
 rw [hg] at hrow
 have hin := entIn hk
 obtain ⟨hs1, hs2⟩ := hrow.stored (k * 2 + 1) (.int .i64 v)
 have hs2' : w.grownBy (w.setCell ⟨g, k * 2 + 1, none⟩ (.int .i64 v)) (Value.slice L.wa t.writes.length L.wc).ownBlock := by rw [hg]; exact hs2
 have h1 : TAt (w.setCell ⟨g, k * 2 + 1, none⟩ (.int .i64 v)) p z A B t L := tat_grown R.tt R.wr (by decide) hs2'
 have hput : putEnt t.writes a v = t.writes.set k ⟨a, v⟩ := by unfold putEnt; rw [hk]
 have hlen : (putEnt t.writes a v).length = t.writes.length := by rw [hput, List.length_set]
 have hmi : (Value.slice L.ma t.mine.length L.mc).ownBlock = none ∨ (Value.slice L.ma t.mine.length L.mc).ownBlock ≠ (Value.slice L.wa t.writes.length L.wc).ownBlock := own_ne R.mi R.wr (by decide)
 refine ⟨⟨?_, R.rd.kept hs2' (own_ne R.rd R.wr (by decide)), ?_, R.hd.kept hs2' (own_ne R.hd R.wr (by decide)), R.mi.kept hs2' hmi, R.ne, R.nt.kept hs2' (own_ne R.nt R.wr (by decide)), R.sr.kept hs2' (own_ne R.sr R.wr (by decide))⟩, ?_⟩
 ·have : tArr { t with writes := putEnt t.writes a v } L = tArr t L := by simp [tArr, hlen]
  unfold TAt
  rw [this]
  exact h1
 ·show World.ownsRow _ base 230 2 (.slice L.wa (putEnt t.writes a v).length L.wc) (putEnt t.writes a v).length _
  rw [hlen, hg]
  have e : (t.writes.flatMap entCells).set (k * 2 + 1) (.int .i64 v) = (putEnt t.writes a v).flatMap entCells := by
   rw [hput]
   apply List.ext_getElem?
   intro j
   obtain ⟨i, r, hr, rfl⟩ : ∃ i r, r < 2 ∧ j = i * 2 + r := ⟨j / 2, j % 2, by omega, by omega⟩
   rw [flat_at (n := 2) (fun _ => rfl) _ i r hr]
   by_cases hi : i = k
   ·subst hi
    have hl : (t.writes.flatMap entCells).length = t.writes.length * 2 := flat_len (f := entCells) (n := 2) (fun _ => rfl) t.writes
    rw [List.getElem?_set_self hin.1]
    have : r = 0 ∨ r = 1 := by omega
    rcases this with rfl | rfl
    ·rw [List.getElem?_set_ne (by omega), flat_at (n := 2) (fun _ => rfl) _ i 0 (by omega), List.getElem?_eq_getElem hin.1]
     have := hin.2.1
     simp [List.getD, List.getElem?_eq_getElem hin.1] at this
     simp [entCells, this]
    ·rw [List.getElem?_set_self (by omega)]
     simp [entCells]
   ·rw [List.getElem?_set_ne (by omega), List.getElem?_set_ne (fun q => hi q.symm), flat_at (n := 2) (fun _ => rfl) _ i r hr]
  rw [← e]
  exact hs1
 ·refine ⟨hs2.os, hs2.tape, hs2.output, hs2.size, fun i hi hp ho => hs2.block i hi (fun q => ho ?_), fun i hi => Or.inl hi⟩
  unfold Own
  rw [hg]
  simp [oB] at q ⊢
  exact Or.inr (Or.inl q.symm)
end
end Go.Proofs.YtejadojilncbjabGreat
namespace Go.Proofs.YtejadojilncbjabGreat
open Go.RowKit
set_option linter.unusedVariables false
attribute [local go_sem ↓] Go.wp_at_zero Go.wp_at_succ
theorem Tryz.info222 : (Tryz.prog.info? 222).map (fun i => (i.zero, i.size, i.bytes)) = some (some (.agg #[.int .i64 0, .int .i64 0]), 2, 16) := by kernel_rfl
theorem Tryz.info230 : (Tryz.prog.info? 230).map (fun i => (i.zero, i.size, i.bytes)) = some (some (.agg #[.int .i64 0, .int .i64 0]), 2, 16) := by kernel_rfl
section
variable (base p z : Nat) (A B : List Value) (t : PT) (L : Ls) (w : World)
set_option maxRecDepth 100000 in
set_option maxHeartbeats 4000000 in
theorem t_look (R : TR base p z A B w t L) (ok : TOk t) (hbs : base ≤ w.heap.size) (st v : Int) :
  Calls Tryz.prog 216 #[.pointer (some ⟨p, z + 19, none⟩), .int .i64 st, .int .i64 v] w (Dids base p z A B (yLook st v t) L w) := by
 have HR : Hid (TR base p z A B w t L) := R
 have HP : Hid (p < w.heap.size) := R.tt.lt
 have HI : Hid (EntsIn w L.ra t.reads) := ents_at R.rd
 have HC : Hid (w.cell? ⟨p, z + 19 + 19, none⟩ = some (.slice L.ra t.reads.length L.rc)) := R.tt.cReads
 have hpne : (Value.slice L.ra t.reads.length L.rc).ownBlock ≠ some p := fun q => own_tag R.rd R.tt.2 (by decide) p q rfl
 have hrl := ok.rl
 obtain ⟨i0, hi0, hz0, hz1, hz2⟩ := info_parts Tryz.info222
 obtain ⟨es, hes⟩ : ∃ es, es = t.reads := ⟨_, rfl⟩
 have HES : Hid (es = t.reads) := hes
 obtain ⟨ra, hra⟩ : ∃ ra, ra = L.ra := ⟨_, rfl⟩
 have HRA : Hid (ra = L.ra) := hra
 rw [← hes, ← hra] at HI HC hpne
 rw [← hes] at hrl
 have hc := HC.out
 clear R ok hes hra
 go_enter Tryz.func216, Tryz.ntmps216
 go_wp2
 go_loopg [13] (es.length + 1) (fun m t13 wr => ∃ k : Nat, t13 = .int .i64 (k : Int) ∧ k ≤ es.length ∧ m = es.length + 1 - k ∧ Hid (Below w.heap.size w wr) ∧ Hid (∀ i, i < k → ((es.getD i ⟨0, 0⟩).what == st) = false))
 case atStart => exact ⟨0, rfl, by omega, by omega, Below.refl _ _, fun i hi => absurd hi (Nat.not_lt_zero _)⟩
 case round =>
  obtain ⟨k, rfl, hk, hgk, HB, HN⟩ := hrel
  have hcr : wr.cell? ⟨p, z + 19 + 19, none⟩ = some (.slice ra es.length L.rc) := (World.cell?_of_block ((HB.out).block p HP.out)).trans HC.out
  by_cases hlt : k < es.length
  ·obtain ⟨b, rfl, hc1, hc2, _⟩ := HI.out k hlt
   have hr1 : wr.cell? ⟨b, k * 2, none⟩ = some (.int .i64 (es.getD k ⟨0, 0⟩).what) := (World.cell?_of_block ((HB.out).block b (block_lt hc1))).trans hc1
   have hr2 : wr.cell? ⟨b, k * 2 + 1, none⟩ = some (.int .i64 (es.getD k ⟨0, 0⟩).val) := (World.cell?_of_block ((HB.out).block b (block_lt hc1))).trans hc2
   have hk0 : (0 : Int) ≤ (k : Int) := by omega
   have hk1 : (k : Int) < (es.length : Int) := by omega
   have hwk : IntKind.i64.wrap ((k : Int) + 1) = (k : Int) + 1 := wrapP _ (by omega) (by omega)
   obtain ⟨x, hx⟩ : ∃ x, x = (es.getD k ⟨0, 0⟩).what := ⟨_, rfl⟩
   obtain ⟨u, hu⟩ : ∃ u, u = (es.getD k ⟨0, 0⟩).val := ⟨_, rfl⟩
   rw [← hx] at hr1
   rw [← hu] at hr2
   have HZ : Hid (x = (es.getD k ⟨0, 0⟩).what) := hx
   clear hx hu hc1 hc2 hc hi0 hz0 hz1 hz2
   cases hin : (x == st) with
   | false =>
    have H1 : Hid (∀ j, j < k + 1 → ((es.getD j ⟨0, 0⟩).what == st) = false) := fun j hj => by
     rcases Nat.lt_succ_iff_lt_or_eq.1 hj with h | rfl
     ·exact HN.out j h
     ·rw [← HZ.out]; exact hin
    clear HN
    go_wp2
    go_roundg (gk - 1)
    case rel => exact ⟨k + 1, by simp, by omega, by omega, (HB.out).trans ((Below.refl _ _).alloc (HB.out).size _), H1⟩
    case measure => omega
   | true =>
    have HF : Hid (yLook st v t = t) := by
     show yLook st v t = t
     unfold yLook
     rw [← show es = t.reads from HES.out, entIdx_some hlt HN.out (by rw [← HZ.out]; exact hin)]
     rfl
    go_wp2
    refine bodyPost_ret (results_none rfl _ _ _) rfl ?_
    have hB2 : Below w.heap.size w (wr.alloc (.cells #[.int .i64 x, .int .i64 u] 222)) := (HB.out).trans ((Below.refl _ _).alloc (HB.out).size _)
    exact ⟨rfl, L, by rw [HF.out]; exact (HR.out).below hB2, Goes.only (Only.below hB2)⟩
  ·have HF : Hid (yLook st v t = { t with reads := t.reads ++ [⟨st, v⟩] }) := by
    show yLook st v t = _
    unfold yLook
    rw [← show es = t.reads from HES.out, entIdx_none (fun j hj => HN.out j (by omega))]
    rfl
   have hk2 : ¬ ((k : Int) < (es.length : Int)) := by omega
   have HRw : Hid (TR base p z A B wr t L) := (HR.out).below HB.out
   have H3 : Hid (wr.ownsRow base 222 2 (.slice ra es.length L.rc) es.length (es.flatMap entCells)) := by rw [show es = t.reads from HES.out, show ra = L.ra from HRA.out]; exact (HRw.out).rd
   have hxlt : p < wr.heap.size := (HRw.out).tt.lt
   have hfx : wr.frozen? ⟨p, z + 19 + 19, none⟩ = false := (HRw.out).tt.froz _
   have hbw : base ≤ wr.heap.size := Nat.le_trans hbs (HB.out).size
   clear hc HC HI HN
   go_wp2_with
    (at_builtin;
        refine wpList_append_lies _ (by rfl) _ _ _ (by rfl) base 222 i0 _ 2 16 Tryz.underlying133 hi0 hz0 hz1 hz2 rfl (by omega) (.slice ra es.length L.rc) es.length (es.flatMap entCells) (by rfl) ((H3.out).alloc _)
         ⟨wr.heap.size, 0, none⟩ 1 1 [.int .i64 st, .int .i64 v] (by rfl) (by rfl) (World.news_of_block (cs := #[.int .i64 st, .int .i64 v]) (t := 222) (fr := (0, 0)) (heap_alloc_new wr _)) (by simp [Value.oneCell'])
         (by omega) (by unfold maxLen; omega) (by omega) (by simp; omega) (wr.heap.size + 1) (by simp) ?_;
        intro gg cap w7 hown1 hgrow hat hlt7;
        have hd8 : w7.cell? ⟨p, z + 19 + 19, none⟩ = some (.slice ra es.length L.rc) := (by rw [hgrow.cell_far _ (by simp; omega) (Ne.symm hpne)]; simpa [World.cell?_alloc_lt, hxlt] using hcr);
        have he8 : w7.frozen? ⟨p, z + 19 + 19, none⟩ = false := (by rw [hgrow.frozen_far _ (by simp; omega) (Ne.symm hpne)]; simpa [World.frozen?_alloc_past, hxlt] using hfx))
   go_end0
   rw [show es = t.reads from HES.out, show ra = L.ra from HRA.out] at hgrow hat
   rw [show es = t.reads from HES.out] at hown1 ⊢
   have hTG := tr_addRead (st := st) (v := v) HRw.out ((Below.refl _ _).alloc (Nat.le_refl _) _) hgrow hown1 hat (by omega)
   exact ⟨rfl, _, by rw [HF.out]; exact hTG.1, (Goes.only (Only.below HB.out)).trans hTG.2⟩
end
theorem noteInfo : (Tryz.prog.info? 93).map (fun i => (i.zero, i.size, i.bytes)) = some (some (.agg #[.int .i64 0, .int .i64 0, .int .i64 0]), 3, 24) := by kernel_rfl
theorem resInfo : (Tryz.prog.info? 47).map (fun i => (i.zero, i.size, i.bytes)) = some (some (.agg #[.int .i64 0, .int .i64 0, .int .i64 0, .int .i64 0, .int .i64 0]), 5, 40) := by kernel_rfl
section
variable (base p z : Nat) (A B : List Value) (t : PT) (L : Ls) (w : World)
def yNote (v : Int) (t : PT) : PT := { t with notes := t.notes ++ [⟨t.turn.op, t.turn.addr, v⟩] }
set_option maxRecDepth 100000 in
set_option maxHeartbeats 4000000 in
theorem t_note (R : TR base p z A B w t L) (hnl : t.notes.length ≤ 2 ^ 38) (hbs : base ≤ w.heap.size) (v : Int) :
  Calls Tryz.prog 215 #[.pointer (some ⟨p, z + 19, none⟩), .int .i64 v] w (Dids base p z A B (yNote v t) L w) := by
 obtain ⟨i0, hi0, hz0, hz1, hz2⟩ := info_parts noteInfo
 have h35 := R.tt.cOp
 have h36 := R.tt.cAddr
 have hcr := R.tt.cNotes
 have hpne : (Value.slice L.na t.notes.length L.nc).ownBlock ≠ some p := fun q => own_tag R.nt R.tt.2 (by decide) p q rfl
 have H3 : Hid (w.ownsRow base 93 3 (.slice L.na t.notes.length L.nc) t.notes.length (t.notes.flatMap noteCells)) := R.nt
 have HR : Hid (TR base p z A B w t L) := R
 have hxlt : p < w.heap.size := R.tt.lt
 have hfx : w.frozen? ⟨p, z + 19 + 7, none⟩ = false := R.tt.froz _
 clear R
 go_enter Tryz.func215, Tryz.ntmps215
 go_wp2_with fail
 go_region_law
  ((refine step_append_lies _ (by rfl) _ _ _ (by rfl) base 93 i0 _ 3 24 Tryz.underlying80 hi0 hz0 hz1 hz2 rfl (by omega) (.slice L.na t.notes.length L.nc) t.notes.length (t.notes.flatMap noteCells) (by rfl) (((H3.out).alloc _).drew)
          ⟨w.heap.size, 0, none⟩ 1 1 [.int .i64 t.turn.op, .int .i64 t.turn.addr, .int .i64 v] (by rfl) (by rfl) (World.news_of_block (cs := #[.int .i64 t.turn.op, .int .i64 t.turn.addr, .int .i64 v]) (t := 93) (fr := (0, 0)) (heap_alloc_new w _)) (by simp [Value.oneCell'])
          (by omega) (by unfold maxLen; omega) (by omega) (by simp; omega) (w.heap.size + 1) (by simp) ?_; intro gg cap w7 hown1 hgrow hat hlt7;
          have hd8 : w7.cell? ⟨p, z + 19 + 7, none⟩ = some (.slice L.na t.notes.length L.nc) := (by rw [hgrow.cell_far _ (by simp; omega) (Ne.symm hpne)]; simpa [World.cell?_alloc_lt, hxlt] using hcr);
          have he8 : w7.frozen? ⟨p, z + 19 + 7, none⟩ = false := (by rw [hgrow.frozen_far _ (by simp; omega) (Ne.symm hpne)]; simpa [World.frozen?_alloc_past, hxlt] using hfx)))
 all_goals
  go_wp2
  go_end0
  have hTG := tr_addNote (op := t.turn.op) (ad := t.turn.addr) (v := v) HR.out (((Below.refl _ _).alloc (Nat.le_refl _) _).drew) hgrow hown1 hat (by omega)
  exact ⟨rfl, _, hTG.1, hTG.2⟩
set_option maxHeartbeats 2000000 in
theorem t_give (R : TR base p z A B w t L) (hnl : t.notes.length ≤ 2 ^ 38) (hbs : base ≤ w.heap.size) (hm : t.m.regs.length = 4) (hi : 0 ≤ t.m.into ∧ t.m.into ≤ 3) (v : Int) : Calls Tryz.prog 177 #[.pointer (some ⟨p, z, none⟩), .int .i64 v] w (Dids base p z A B (yGive v t) L w) := by
 obtain ⟨ki, hk⟩ := Int.eq_ofNat_of_zero_le hi.1
 have hk4 : ki < 4 := by omega
 have HM : Hid (MAt w p (z + 19 + 8) 138 (A ++ tHead t L) (tTail t L ++ B) t.m) := R.tt.mach
 have hz : A.length = z := R.tt.1
 have HR : Hid (TR base p z A B w t L) := R
 have HN : Hid (t.notes.length ≤ 2 ^ 38) := hnl
 have HG : Hid ({ yNote v { t with m := { t.m with regs := t.m.regs.set ki v } } with step := 1 } = yGive v t) := by
  show _ = _
  unfold yGive yNote
  rw [hk]
  rfl
 have HK : Hid (t.m.into = (ki : Int)) := hk
 clear R hi hk hnl
 rw [← HG.out]
 go_enter Tryz.func177, Tryz.ntmps177
 go_wp2_with fail
 refine (z_give_any (z + 19 + 8) 138 (A ++ tHead t L) (tTail t L ++ B) p ki t.m v _ HM.out hm HK.out hk4).mono ?_
 rintro e w1 ⟨rfl, h1, h2⟩
 have HR1 : Hid (TR base p z A B w1 { t with m := { t.m with regs := t.m.regs.set ki v } } L) := (HR.out).next (TAt.ofMach hz h1) h2 rfl rfl rfl rfl rfl rfl
 have HO1 : Hid (Only p w w1) := h2
 have hbs1 : base ≤ w1.heap.size := Nat.le_trans hbs h2.size
 have HN1 : Hid (({ t with m := { t.m with regs := t.m.regs.set ki v } } : PT).notes.length ≤ 2 ^ 38) := HN.out
 clear h1 h2 HG HM HR HN hm hk4 HK
 generalize { t with m := { t.m with regs := t.m.regs.set ki v } } = t1 at *
 go_wp2_with fail
 refine (t_note base p z A B _ L _ HR1.out HN1.out hbs1 v).mono ?_
 rintro e w2 ⟨rfl, L1, R2, G2⟩
 have k13 := R2.tt.cStep
 have kf := R2.tt.froz
 have HR2 : Hid (TR base p z A B w2 (yNote v t1) L1) := R2
 have HG2 : Hid (Goes p L w L1 w2) := (Goes.only HO1.out).trans G2
 clear R2 G2
 go_wp2
 go_end0
 have hb2 := (HR2.out).tt.set (t' := { yNote v t1 with step := 1 }) 14 (by decide) (.int .i64 1) rfl
 exact ⟨rfl, L1, (HR2.out).next hb2 ((Only.refl _ _).set) rfl rfl rfl rfl rfl rfl, (HG2.out).trans (Goes.only ((Only.refl _ _).set))⟩
set_option maxHeartbeats 1000000 in
theorem t_conclude (hb : TAt w p z A B t L) (fate num : Int) : Calls Tryz.prog 164 #[.pointer (some ⟨p, z + 19, none⟩), .int .i64 fate, .int .i64 num] w (DidT p z A B (yConc fate num t) L w) := by
 have h22 := hb.cEnd
 have h25 := hb.cAFate
 have hf := hb.froz
 have HB : Hid (TAt w p z A B t L) := hb
 clear hb
 go_enter Tryz.func164, Tryz.ntmps164
 go_wp2
 go_end0
 exact ⟨rfl, ((HB.out).set (t' := { t with aFate := fate }) 25 (by decide) _ rfl).set (t' := yConc fate num t) 22 (by decide) _ rfl, ((Only.refl _ _).set).set⟩
end
end Go.Proofs.YtejadojilncbjabGreat
