import Derived.Test.YtgdfmmfkdmhdgaaH09
import Derived.Test.YtgdfmmfkdmhdgaaH05
import Derived.OneCell
import Derived.Deep.LoopGhost
import Derived.BigRegion
import Derived.Deep.RegionLaw
namespace Go.Proofs.Ytgdfmmfkdmhdgaa
set_option linter.unusedVariables false

/-! The document's life asks what the machine asks: part 2: instructions, the commit. -/

/-- One instruction more. -/
theorem hStep_begun (K : Cx) (h : Th) (hb : (hStep K h).1 = true) : (h.x.begun : Int) ≠ K.c.f ∧ (hStep K h).2.x.begun = h.x.begun + 1 := by
  unfold hStep at hb ⊢
  by_cases h1 : h.x.place = h.x.code.length
  · rw [if_pos h1] at hb; cases hb
  rw [if_neg h1] at hb ⊢
  by_cases h2 : (h.x.begun : Int) = K.c.f
  · rw [if_pos h2] at hb; cases hb
  rw [if_neg h2] at hb ⊢
  refine ⟨h2, ?_⟩
  simp only at hb ⊢
  generalize insAt h.x.code h.x.place = i at *
  by_cases h3 : formedB i h.x.code.length = false
  · rw [if_pos h3] at hb; cases hb
  rw [if_neg h3] at hb ⊢
  by_cases o0 : i.op = 0
  · rw [if_pos o0] at hb; cases hb
  rw [if_neg o0] at hb ⊢
  by_cases o1 : i.op = 1
  · rw [if_pos o1] at hb; cases hb
  rw [if_neg o1] at hb ⊢
  by_cases o2 : i.op = 2
  · rw [if_pos o2]; rfl
  rw [if_neg o2] at hb ⊢
  by_cases o3 : i.op = 3
  · rw [if_pos o3]; rfl
  rw [if_neg o3] at hb ⊢
  by_cases o4 : i.op = 4
  · rw [if_pos o4]; rfl
  rw [if_neg o4] at hb ⊢
  by_cases o5 : i.op = 5
  · rw [if_pos o5]
  rw [if_neg o5] at hb ⊢
  by_cases o6 : i.op = 6
  · rw [if_pos o6]
    show (if _ then _ else _ : TS).begun = _
    split <;> rfl
  rw [if_neg o6] at hb ⊢
  by_cases o7 : i.op = 7
  · rw [if_pos o7] at hb ⊢
    unfold hRead at hb ⊢
    simp only at hb ⊢
    split at hb
    · cases hb
    · rename_i hw
      rw [if_neg hw]
      cases hk : entIdx h.x.writes (regOf { h.x with begun := h.x.begun + 1, place := h.x.place + 1 } i.b) with
      | none => rw [hk] at hb; cases hb
      | some k => rfl
  · rw [if_neg o7] at hb ⊢
    unfold hWrite at hb ⊢
    simp only at hb ⊢
    split at hb
    · cases hb
    · rename_i hw
      rw [if_neg hw]
      split at hb
      · rename_i hh
        rw [if_pos hh]
        rfl
      · cases hb

theorem hGo_eq (K : Cx) (h : Th) (hb : (h.x.begun : Int) ≤ K.c.f) : hGo K h = if (hStep K h).1 then hGo K (hStep K h).2 else (hStep K h).2 := by
  have e : K.c.f.toNat + 1 - h.x.begun = (K.c.f.toNat - h.x.begun) + 1 := by omega
  unfold hGo
  rw [e]
  show (if (hStep K h).1 then hAdv K _ (hStep K h).2 else (hStep K h).2) = _
  by_cases hs : (hStep K h).1 = true
  · obtain ⟨h1, h2⟩ := hStep_begun K h hs
    rw [if_pos hs, if_pos hs, h2]
    congr 1
    omega
  · rw [if_neg hs, if_neg hs]

end Go.Proofs.Ytgdfmmfkdmhdgaa

namespace Go.Proofs.Ytgdfmmfkdmhdgaa
set_option linter.unusedVariables false

/-! The document's life asks what the machine asks: part 4: a failure, an attempt, all jobs. -/

theorem Eqs.ended {E : Env} {p : Nat} {s : LS} {x : TS} {j : Nat} {h : Th} (A : Eqs E p s x j h) (fate num : Int) (hn : num = E.whens.getD (s.pos - 1) 0) : Eqs E p (mEnded E s fate) x j (h.ended num fate) :=
  ⟨A.over, A.pos, A.lo, A.rank, A.fails, by show modLast h.list _ = modLast s.list _; rw [A.list, hn], A.ends, A.x, A.job⟩

end Go.Proofs.Ytgdfmmfkdmhdgaa

namespace Go.Proofs.Ytgdfmmfkdmhdgaa
open Go.RowKit
set_option linter.unusedVariables false
attribute [local go_sem ↓] Go.wp_at_zero Go.wp_at_succ

theorem LifeR.below {E : Env} {H : Hd} {B p eb : Nat} {w w' : World} {s : LS} (h : LifeR E H B p eb w s) (hb : Below w.heap.size w w') : LifeR E H B p eb w' s :=
  h.keep (chg := []) (Kp.below hb h.stat.size) (by simp) (by simp) (by simp) (by simp)
theorem TryR.below {B p eb xb : Nat} {w w' : World} {x : TS} (h : TryR B p eb xb w x) (hb : Below w.heap.size w w') (hB : B ≤ w.heap.size) : TryR B p eb xb w' x :=
  h.keep (chg := []) (p := p) (eb := eb) (Kp.below hb hB) (by simp) (by simp) (by simp)
theorem LifeR.drewN {E : Env} {H : Hd} {B p eb : Nat} {w : World} {s : LS} (h : LifeR E H B p eb w s) (n : Nat) : LifeR E H B p eb (w.drewN n) s := h.below (below_drewN (Below.refl _ _) n)
theorem LifeR.drew {E : Env} {H : Hd} {B p eb : Nat} {w : World} {s : LS} (h : LifeR E H B p eb w s) : LifeR E H B p eb w.drew s := h.below (Below.refl _ _).drew
theorem TryR.drewN {B p eb xb : Nat} {w : World} {x : TS} (h : TryR B p eb xb w x) (n : Nat) : TryR B p eb xb (w.drewN n) x := by
  obtain ⟨ca, cc, ra, rc, wa, wc, ha, hc, h1⟩ := h.blk
  exact ⟨⟨ca, cc, ra, rc, wa, wc, ha, hc, h1⟩, h.xB, h.regs⟩
theorem TryR.drew {B p eb xb : Nat} {w : World} {x : TS} (h : TryR B p eb xb w x) : TryR B p eb xb w.drew x := by
  obtain ⟨ca, cc, ra, rc, wa, wc, ha, hc, h1⟩ := h.blk
  exact ⟨⟨ca, cc, ra, rc, wa, wc, ha, hc, h1⟩, h.xB, h.regs⟩

/-- A try's held stripes, read where they lie. -/
theorem TryR.held {B p eb xb : Nat} {w : World} {x : TS} (h : TryR B p eb xb w x) : ∃ ha hc, w.cell? ⟨xb, 10, none⟩ = some (.slice ha x.held.length hc) ∧ NumsIn w ha x.held := by
  obtain ⟨ca, cc, ra, rc, wa, wc, ha, hc, hb, hcd, hcf, h3, h4, h5, h6⟩ := h.blk
  exact ⟨ha, hc, by rw [hb.cell]; rfl, nums_of h5⟩

end Go.Proofs.Ytgdfmmfkdmhdgaa

namespace Go.Proofs.Ytgdfmmfkdmhdgaa
open Go.RowKit
set_option linter.unusedVariables false

theorem own_set {w : World} {base : Nat} {e : TypeId} {size n g cap i : Nat} {xs : List Value} (h : w.ownsRow base e size (.slice (some ⟨g, 0, none⟩) n cap) n xs) (hi : i < n * size) (u : Value) :
    (w.setCell ⟨g, i, none⟩ u).ownsRow base e size (.slice (some ⟨g, 0, none⟩) n cap) n (xs.set i u) := by
  refine ⟨by simpa using h.1, ?_⟩
  rcases h.2 with ⟨h0, _⟩ | ⟨g', cap', cur, hv, hb, hg, r1, r2, r3, r4⟩
  · cases h0
  · simp at hv
    obtain ⟨rfl, rfl⟩ := hv
    have hg' : Blk w g e cur := hg
    refine .inr ⟨g, cap, cur.setIfInBounds i u, rfl, hb, hg'.set, r1, r2, by simpa using r3, ?_⟩
    rw [Array.toList_setIfInBounds, List.take_set, r4]

theorem flat_set {α : Type} {f : α → List Value} {n : Nat} (hf : ∀ a, (f a).length = n) : ∀ (l : List α) (i j : Nat) (u : Value) (b : α), j < n → i < l.length → (∀ a, l[i]? = some a → f b = (f a).set j u) → (l.flatMap f).set (i * n + j) u = (l.set i b).flatMap f
  | [], i, j, u, b, hj, hi, h => by simp at hi
  | a :: l, 0, j, u, b, hj, hi, h => by
    have h0 := h a rfl
    rw [List.flatMap_cons, Nat.zero_mul, Nat.zero_add, List.set_append, if_pos (by rw [hf]; exact hj), List.set_cons_zero, List.flatMap_cons, h0]
  | a :: l, i + 1, j, u, b, hj, hi, h => by
    rw [List.flatMap_cons, List.set_append, if_neg (by rw [hf, Nat.add_mul]; omega), hf, show (i + 1) * n + j - n = i * n + j from by rw [Nat.add_mul]; omega,
      flat_set hf l i j u b hj (by simpa using hi) (fun c hc => h c (by simpa using hc)), List.set_cons_succ, List.flatMap_cons]

theorem zip_set {α β : Type} : ∀ (l : List α) (m : List β) (n : Nat) (a : α) (b : β), (l.zip m).set n (a, b) = (l.set n a).zip (m.set n b)
  | [], _, _, _, _ => by simp
  | _ :: _, [], _, _, _ => by simp
  | x :: l, y :: m, 0, a, b => by simp
  | x :: l, y :: m, n + 1, a, b => by simp [zip_set l m n a b]

/-- One cell of the last attempt is stored. -/
theorem rowCells_set {L : List AttD} {nvs : List Value} {n j : Nat} {u : Value} {a : AttD} {nv : Value} {a' : AttD} {nv' : Value} (hl : nvs.length = L.length) (hn : n < L.length) (hj : j < 8) (ha : L[n]? = some a) (hv : nvs[n]? = some nv)
    (he : attCells a' nv' = (attCells a nv).set j u) : (rowCells L nvs).set (n * 8 + j) u = rowCells (L.set n a') (nvs.set n nv') := by
  unfold rowCells
  rw [flat_set (f := fun q : AttD × Value => attCells q.1 q.2) (n := 8) (fun _ => rfl) (L.zip nvs) n j u (a', nv') hj (by simp; omega) (fun q hq => ?_)]
  · congr 1
    rw [zip_set]
  · have : (L.zip nvs)[n]? = some (a, nv) := by rw [List.getElem?_zip_eq_some]; exact ⟨ha, hv⟩
    rw [this] at hq
    simp at hq
    subst hq
    exact he

theorem modLast_eq {L : List AttD} {n : Nat} {a : AttD} (f : AttD → AttD) (hn : L.length = n + 1) (ha : L[n]? = some a) : modLast L f = L.set n (f a) := by
  unfold modLast
  rw [hn, Nat.add_sub_cancel]
  apply List.ext_getElem?
  intro i
  rw [List.getElem?_modify, List.getElem?_set]
  by_cases h : n = i
  · subst h
    rw [ha]
    simp
    omega
  · simp [h]

/-- A number of the last attempt is stored. -/
theorem ListRep.num {w : World} {B g lc n j : Nat} {L : List AttD} {v : Int} {f : AttD → AttD} (h : ListRep w B (some ⟨g, 0, none⟩) lc L) (hn : L.length = n + 1) (hj : j < 7)
    (hf : ∀ a nv, attCells (f a) nv = (attCells a nv).set j (.int .i64 v)) (hfn : ∀ a, (f a).notes = a.notes) : ListRep (w.setCell ⟨g, n * 8 + j, none⟩ (.int .i64 v)) B (some ⟨g, 0, none⟩) lc (modLast L f) := by
  obtain ⟨nvs, hl, ho, hno, hd⟩ := h
  obtain ⟨a, ha⟩ : ∃ a, L[n]? = some a := ⟨L[n]'(by omega), List.getElem?_eq_getElem (by omega)⟩
  obtain ⟨nv, hv⟩ : ∃ nv, nvs[n]? = some nv := ⟨nvs[n]'(by omega), List.getElem?_eq_getElem (by omega)⟩
  rw [modLast_eq f hn ha]
  have hg : ∃ cur, Blk w g 133 cur := by
    obtain ⟨g', cap, cur, hv', _, hb, _⟩ := own_block ho (by omega)
    simp at hv'
    obtain ⟨rfl, _⟩ := hv'
    exact ⟨cur, hb⟩
  obtain ⟨cur, hg⟩ := hg
  have hk : Kp [133] B g g w (w.setCell ⟨g, n * 8 + j, none⟩ (.int .i64 v)) := ⟨rfl, rfl, rfl, by simp [World.setCell], fun k _ h1 _ => Below.heap_setCell _ _ _ _ (by simpa using h1), fun k t cs fr hk ht => by
    rw [Below.heap_setCell _ _ _ _ (fun e => ht (by
      simp at e
      subst e
      have : w.heap[k]? = some (.cells cur 133 (0, 0)) := hg
      rw [this] at hk
      simp at hk
      simp [← hk.2.1]))]
    exact hk⟩
  refine ⟨nvs, by simpa using hl, ?_, fun i b u hi hu => ?_, hd⟩
  · have h1 := own_set ho (i := n * 8 + j) (by omega) (.int .i64 v)
    rw [rowCells_set hl (by omega) (by omega) ha hv (hf a nv)] at h1
    have e : nvs.set n nv = nvs := by
      apply List.ext_getElem? ; intro i; rw [List.getElem?_set]; split
      · rename_i h; subst h; simp [hv]; omega
      · rfl
    rw [e] at h1
    simpa using h1
  · have hnn : ∃ a0, L[i]? = some a0 ∧ b.notes = a0.notes := by
      rw [List.getElem?_set] at hi
      split at hi
      · rename_i h; subst h
        rw [if_pos (by omega)] at hi
        simp at hi
        exact ⟨a, ha, by rw [← hi, hfn]⟩
      · exact ⟨b, hi, rfl⟩
    obtain ⟨a0, h0, h1⟩ := hnn
    rw [h1]
    exact ownsRow_keep (hno i a0 u h0 hu) hk (by simp)

end Go.Proofs.Ytgdfmmfkdmhdgaa

namespace Go.Proofs.Ytgdfmmfkdmhdgaa
open Go.RowKit
set_option linter.unusedVariables false
attribute [local go_sem ↓] Go.wp_at_zero Go.wp_at_succ

/-- What is known of the row of attempts where there is one. -/
theorem LifeR.last {E : Env} {H : Hd} {B p eb : Nat} {w : World} {s : LS} (hL : LifeR E H B p eb w s) (hne : s.list ≠ []) :
    ∃ g lc n cur, s.list.length = n + 1 ∧ Blk w p 75 (lifeArr E H (some ⟨g, 0, none⟩) lc s) ∧ ListRep w B (some ⟨g, 0, none⟩) lc s.list ∧ Blk w g 133 cur ∧ B ≤ g ∧ n * 8 + 7 < cur.size := by
  obtain ⟨la, lc, hb, hl⟩ := hL.life
  have hl' := hl
  obtain ⟨nvs, hnl, ho, hno, hd⟩ := hl'
  obtain ⟨n, hn⟩ : ∃ n, s.list.length = n + 1 := ⟨s.list.length - 1, by have := List.length_pos_iff.2 hne; omega⟩
  obtain ⟨g, cap, cur, hgv, hgB, hgb, r1, r2, r3, r4⟩ := own_block ho (by omega)
  simp at hgv
  obtain ⟨rfl, rfl⟩ := hgv
  exact ⟨g, lc, n, cur, hn, hb, hl, hgb, hgB, by omega⟩

/-- A number of the last attempt is stored: the life behind it. -/
theorem LifeR.num {E : Env} {H : Hd} {B p eb g lc n j : Nat} {w : World} {s : LS} {v : Int} {f : AttD → AttD} {cur : Array Value} (hL : LifeR E H B p eb w s) (hn : s.list.length = n + 1) (hb : Blk w p 75 (lifeArr E H (some ⟨g, 0, none⟩) lc s))
    (hl : ListRep w B (some ⟨g, 0, none⟩) lc s.list) (hg : Blk w g 133 cur) (hgB : B ≤ g) (hj : j < 7) (hf : ∀ a nv, attCells (f a) nv = (attCells a nv).set j (.int .i64 v)) (hfn : ∀ a, (f a).notes = a.notes) :
    LifeR E H B p eb (w.setCell ⟨g, n * 8 + j, none⟩ (.int .i64 v)) { s with list := modLast s.list f } ∧ Kp [133] B p eb w (w.setCell ⟨g, n * 8 + j, none⟩ (.int .i64 v)) := by
  have hk : Kp [133] B p eb w (w.setCell ⟨g, n * 8 + j, none⟩ (.int .i64 v)) := Kp.only (Only.refl _ _).set hL.stat.size hg (by simp) (Or.inr (Or.inr hgB))
  refine ⟨⟨hL.stat.keep hk, ⟨some ⟨g, 0, none⟩, lc, ?_, hl.num hn hj hf hfn⟩, hL.ends.imp id (fun ⟨x, y⟩ => ⟨x, y.keep hk (by simp)⟩), hL.pB, hL.eB, hL.pe⟩, hk⟩
  refine (hb.keep hk (by simp)).congr ?_
  simp [lifeArr, modLast]

end Go.Proofs.Ytgdfmmfkdmhdgaa

namespace Go.Proofs.Ytgdfmmfkdmhdgaa
open Go.RowKit
set_option linter.unusedVariables false
attribute [local go_sem ↓] Go.wp_at_zero Go.wp_at_succ

theorem TryR.reads {B p eb xb : Nat} {w : World} {x : TS} (h : TryR B p eb xb w x) : ∃ ra rc, w.cell? ⟨xb, 8, none⟩ = some (.slice ra x.reads.length rc) ∧ EntsIn w ra x.reads := by
  obtain ⟨ca, cc, ra, rc, wa, wc, ha, hc, hb, hcd, hcf, h3, h4, h5, h6⟩ := h.blk
  exact ⟨ra, rc, by rw [hb.cell]; rfl, ents_of h3⟩

theorem LifeR.over {E : Env} {H : Hd} {B p eb : Nat} {w : World} {s : LS} (h : LifeR E H B p eb w s) : w.cell? ⟨p, 14, none⟩ = some (.bool s.over) := by
  obtain ⟨la, lc, hb, _⟩ := h.life
  rw [hb.cell]; rfl

theorem Kp.up {chg : List TypeId} {B p eb : Nat} {w w' : World} (h : Kp [] B p eb w w') : Kp chg B p eb w w' := h.wide (by simp)

end Go.Proofs.Ytgdfmmfkdmhdgaa

namespace Go.Proofs.Ytgdfmmfkdmhdgaa
open Go.RowKit
set_option linter.unusedVariables false
attribute [local go_sem ↓] Go.wp_at_zero Go.wp_at_succ

/-- A number of an attempt is stored. -/
theorem TryR.set {B p eb xb i : Nat} {w : World} {x x' : TS} {v : Value} (hT : TryR B p eb xb w x) (hB : B ≤ w.heap.size) (h1 : x'.code = x.code) (h2 : x'.reads = x.reads) (h3 : x'.writes = x.writes) (h4 : x'.held = x.held) (h5 : x'.regs.length = 4)
    (ha : ∀ ca cc ra rc wa wc ha hc, (tryArr ca cc ra rc wa wc ha hc x).setIfInBounds i v = tryArr ca cc ra rc wa wc ha hc x') : TryR B p eb xb (w.setCell ⟨xb, i, none⟩ v) x' ∧ Kp [130] B p eb w (w.setCell ⟨xb, i, none⟩ v) := by
  obtain ⟨ca, cc, ra, rc, wa, wc, hha, hc, hb, hcd, hcf, g3, g4, g5, g6⟩ := hT.blk
  have hk : Kp [130] B p eb w (w.setCell ⟨xb, i, none⟩ v) := Kp.only (Only.refl _ _).set hB hb (by simp) (Or.inr (Or.inr hT.xB))
  refine ⟨⟨⟨ca, cc, ra, rc, wa, wc, hha, hc, hb.set.congr (ha ..), by rw [h1]; exact hcd.keep hcf hk, by rw [h1]; exact hcf, by rw [h2]; exact ownsRow_keep g3 hk (by simp), by rw [h3]; exact ownsRow_keep g4 hk (by simp), by rw [h4]; exact ownsRow_keep g5 hk (by simp), by rw [h2, h3]; exact g6⟩, hT.xB, h5⟩, hk⟩

theorem TryR.cells {B p eb xb : Nat} {w : World} {x : TS} (hT : TryR B p eb xb w x) : ∃ ca cc ra rc wa wc ha hc, (∀ i, w.cell? ⟨xb, i, none⟩ = (tryArr ca cc ra rc wa wc ha hc x)[i]?) ∧ (∀ i, w.frozen? ⟨xb, i, none⟩ = false) := by
  obtain ⟨ca, cc, ra, rc, wa, wc, hha, hc, hb, _⟩ := hT.blk
  exact ⟨ca, cc, ra, rc, wa, wc, hha, hc, hb.cell, hb.frozen⟩

end Go.Proofs.Ytgdfmmfkdmhdgaa

namespace Go.Proofs.Ytgdfmmfkdmhdgaa
open Go.RowKit
set_option linter.unusedVariables false

theorem Try.info3 : (Try.prog.info? 3).map (fun i => (i.zero, i.size, i.bytes)) = some (some (.int .i64 0), 1, 8) := by kernel_rfl

section
variable {B p eb xb : Nat} {w w0 w1 : World} {x : TS} {ca ra wa ha : Option Addr} {cc rc wc hc g cap : Nat}

end

/-- Enough rounds for a loop that asks in each. -/
def enough (E : Env) (s : LS) (n : Nat) : Prop := 1 ≤ n ∧ (s.over = false → E.seen.length - s.pos + 2 ≤ n)
end Go.Proofs.Ytgdfmmfkdmhdgaa

namespace Go.Proofs.Ytgdfmmfkdmhdgaa
open Go.RowKit
set_option linter.unusedVariables false
attribute [local go_sem ↓] Go.wp_at_zero Go.wp_at_succ

theorem TryR.writes {B p eb xb : Nat} {w : World} {x : TS} (h : TryR B p eb xb w x) : ∃ wa wc, w.cell? ⟨xb, 9, none⟩ = some (.slice wa x.writes.length wc) ∧ EntsIn w wa x.writes := by
  obtain ⟨ca, cc, ra, rc, wa, wc, ha, hc, hb, hcd, hcf, h3, h4, h5, h6⟩ := h.blk
  exact ⟨wa, wc, by rw [hb.cell]; rfl, ents_of h4⟩

end Go.Proofs.Ytgdfmmfkdmhdgaa

namespace Go.Proofs.Ytgdfmmfkdmhdgaa
set_option linter.unusedVariables false

/-- What is known of an attempt under way. -/
structure TsOk (n : Nat) (x : TS) : Prop where
  rd : ∀ e ∈ x.reads, -8 ≤ e.what ∧ e.what ≤ 8
  wr : ∀ e ∈ x.writes, -70000 ≤ e.what ∧ e.what ≤ 1125899906842624
  hd : ∀ h ∈ x.held, -8 ≤ h ∧ h ≤ 8
  rg : ∀ r ∈ x.regs, -70000 ≤ r ∧ r ≤ 1125899906842624
  rl : x.reads.length ≤ n
  wl : x.writes.length ≤ n
  hl : x.held.length ≤ n
  way0 : -2 ≤ x.way
  way1 : x.way ≤ 1125899906842624
  four : x.regs.length = 4

theorem TsOk.more {n m : Nat} {x : TS} (h : TsOk n x) (hm : n ≤ m) : TsOk m x := ⟨h.rd, h.wr, h.hd, h.rg, Nat.le_trans h.rl hm, Nat.le_trans h.wl hm, Nat.le_trans h.hl hm, h.way0, h.way1, h.four⟩

theorem TsOk.setReg {n : Nat} {x : TS} (h : TsOk n x) (i v : Int) (h1 : -70000 ≤ v) (h2 : v ≤ 1125899906842624) : TsOk n (setReg x i v) :=
  ⟨h.rd, h.wr, h.hd, fun r hr => by
    rcases List.mem_or_eq_of_mem_set hr with h3 | h3
    · exact h.rg r h3
    · rw [h3]; exact ⟨h1, h2⟩, h.rl, h.wl, h.hl, h.way0, h.way1, by simp [Go.Proofs.Ytgdfmmfkdmhdgaa.setReg, h.four]⟩

/-- The attempts are as many, each with as many notes. -/
def SN (s s' : LS) : Prop := s'.list.map (fun a => a.notes.length) = s.list.map (fun a => a.notes.length)

theorem SN.refl (s : LS) : SN s s := rfl
theorem SN.trans {a b c : LS} (h : SN a b) (k : SN b c) : SN a c := Eq.trans k h
theorem SN.modLast {s s' : LS} {f : AttD → AttD} (hf : ∀ a, (f a).notes = a.notes) (h : s'.list = Go.Proofs.Ytgdfmmfkdmhdgaa.modLast s.list f) : SN s s' := by
  unfold SN
  rw [h]
  unfold Go.Proofs.Ytgdfmmfkdmhdgaa.modLast
  apply List.ext_getElem?
  intro i
  rw [List.getElem?_map, List.getElem?_map, List.getElem?_modify]
  cases s.list[i]? with
  | none => simp
  | some a => by_cases h : s.list.length - 1 = i <;> simp [h, hf]

structure NotesOk (n : Nat) (s : LS) : Prop where
  ne : s.list ≠ []
  len : s.list.length ≤ 2 ^ 42
  nt : ∀ a ∈ s.list, a.notes.length ≤ n

theorem NotesOk.sn {n : Nat} {s s' : LS} (h : NotesOk n s) (k : SN s s') : NotesOk n s' := by
  have hl : s'.list.length = s.list.length := by have := congrArg List.length k; simpa using this
  refine ⟨fun e => h.ne ?_, by rw [hl]; exact h.len, fun a ha => ?_⟩
  · rw [e] at hl; exact List.length_eq_zero_iff.1 hl.symm
  · have h1 : a.notes.length ∈ s'.list.map (fun a => a.notes.length) := List.mem_map_of_mem ha
    rw [k] at h1
    obtain ⟨b, hb, e⟩ := List.mem_map.1 h1
    rw [← e]; exact h.nt b hb

/-- What an answer keeps: the numbers of a life. -/
structure LsOk (E : Env) (s s' : LS) : Prop where
  pos : s'.pos ≤ E.seen.length
  mono : s.pos ≤ s'.pos
  sn : SN s s'
  rank : s'.rank = s.rank
  fails : s'.fails = s.fails
theorem LsOk.refl {E : Env} {s : LS} (h : s.pos ≤ E.seen.length) : LsOk E s s := ⟨h, Nat.le_refl _, SN.refl _, rfl, rfl⟩
theorem LsOk.trans {E : Env} {a b c : LS} (h : LsOk E a b) (k : LsOk E b c) : LsOk E a c := ⟨k.pos, Nat.le_trans h.mono k.mono, h.sn.trans k.sn, k.rank.trans h.rank, k.fails.trans h.fails⟩
end Go.Proofs.Ytgdfmmfkdmhdgaa

namespace Go.Proofs.Ytgdfmmfkdmhdgaa
open Go.RowKit
set_option linter.unusedVariables false
attribute [local go_sem ↓] Go.wp_at_zero Go.wp_at_succ

theorem lt4 {k : Nat} (h : k < 4) : k = 0 ∨ k = 1 ∨ k = 2 ∨ k = 3 := by omega

theorem TryR.setReg {B p eb xb : Nat} {w : World} {x : TS} (hT : TryR B p eb xb w x) (hB : B ≤ w.heap.size) (k : Nat) (hk : k < 4) (v : Int) :
    TryR B p eb xb (w.setCell ⟨xb, 1 + k, none⟩ (.int .i64 v)) { x with regs := x.regs.set k v } ∧ Kp [130] B p eb w (w.setCell ⟨xb, 1 + k, none⟩ (.int .i64 v)) := by
  refine hT.set hB rfl rfl rfl rfl (by simp [hT.regs]) (fun _ _ _ _ _ _ _ _ => ?_)
  have h4 := hT.regs
  obtain ⟨code, regs, place, begun, valid, reads, writes, held, inGate, way⟩ := x
  match regs, h4 with
  | [r0, r1, r2, r3], _ =>
    rcases lt4 hk with rfl | rfl | rfl | rfl <;> rfl

end Go.Proofs.Ytgdfmmfkdmhdgaa

namespace Go.Proofs.Ytgdfmmfkdmhdgaa
open Go.RowKit
set_option linter.unusedVariables false
attribute [local go_sem ↓] Go.wp_at_zero Go.wp_at_succ

theorem tdiv8 (v : Int) (h1 : -1 ≤ v) (h2 : v ≤ 1125899906842624) : 0 ≤ v.tdiv 8 ∧ v.tdiv 8 ≤ 1125899906842624 := by
  by_cases h : 0 ≤ v
  · rw [Int.tdiv_eq_ediv_of_nonneg h]; omega
  · have : v = -1 := by omega
    subst this
    decide
theorem wrap64tdiv8 (v : Int) (h1 : -1 ≤ v) (h2 : v ≤ 1125899906842624) : wrap64 (v.tdiv 8) = v.tdiv 8 := by
  have := tdiv8 v h1 h2
  unfold wrap64
  omega

theorem LifeR.rank {E : Env} {H : Hd} {B p eb : Nat} {w : World} {s : LS} (h : LifeR E H B p eb w s) : w.cell? ⟨p, 19, none⟩ = some (.int .i64 s.rank) := by
  obtain ⟨la, lc, hb, _⟩ := h.life
  rw [hb.cell]; rfl

end Go.Proofs.Ytgdfmmfkdmhdgaa

namespace Go.Proofs.Ytgdfmmfkdmhdgaa
open Go.RowKit
set_option linter.unusedVariables false
attribute [local go_sem ↓] Go.wp_at_zero Go.wp_at_succ

theorem TsOk.putEnt {n : Nat} {x : TS} (h : TsOk n x) (a v : Int) (h1 : -70000 ≤ a) (h2 : a ≤ 1125899906842624) : TsOk (n + 1) { x with writes := Go.Proofs.Ytgdfmmfkdmhdgaa.putEnt x.writes a v } := by
  have hw : (∀ e ∈ Go.Proofs.Ytgdfmmfkdmhdgaa.putEnt x.writes a v, -70000 ≤ e.what ∧ e.what ≤ 1125899906842624) ∧ (Go.Proofs.Ytgdfmmfkdmhdgaa.putEnt x.writes a v).length ≤ n + 1 := by
    unfold Go.Proofs.Ytgdfmmfkdmhdgaa.putEnt
    split
    · refine ⟨fun e he => ?_, by have := h.wl; simp; omega⟩
      rcases List.mem_or_eq_of_mem_set he with h3 | h3
      · exact h.wr e h3
      · rw [h3]; exact ⟨h1, h2⟩
    · refine ⟨fun e he => ?_, by have := h.wl; simp; omega⟩
      rcases List.mem_append.1 he with h3 | h3
      · exact h.wr e h3
      · simp at h3; subst h3; exact ⟨h1, h2⟩
  exact ⟨h.rd, hw.1, h.hd, h.rg, Nat.le_trans h.rl (Nat.le_succ n), hw.2, Nat.le_trans h.hl (Nat.le_succ n), h.way0, h.way1, h.four⟩

end Go.Proofs.Ytgdfmmfkdmhdgaa

namespace Go.Proofs.Ytgdfmmfkdmhdgaa
open Go.RowKit
set_option linter.unusedVariables false
attribute [local go_sem ↓] Go.wp_at_zero Go.wp_at_succ

theorem wrapF (n : Int) (h1 : -1152921504606846976 ≤ n) (h2 : n ≤ 1152921504606846976) : IntKind.i64.wrap n = n := by rw [IntKind.wrap_i64]; omega

/-- A number of a life is stored. -/
theorem LifeR.set {E : Env} {H : Hd} {B p eb i : Nat} {w : World} {s s' : LS} {v : Value} (hL : LifeR E H B p eb w s) (h1 : s'.list = s.list) (h2 : s'.ends = s.ends) (ha : ∀ la lc, (lifeArr E H la lc s).setIfInBounds i v = lifeArr E H la lc s') :
    LifeR E H B p eb (w.setCell ⟨p, i, none⟩ v) s' ∧ Kp [75] B p eb w (w.setCell ⟨p, i, none⟩ v) := by
  obtain ⟨la, lc, hb, hl⟩ := hL.life
  have hk : Kp [75] B p eb w (w.setCell ⟨p, i, none⟩ v) := Kp.only (Only.refl _ _).set hL.stat.size hb (by simp) (Or.inl rfl)
  refine ⟨⟨hL.stat.keep hk, ⟨la, lc, hb.set.congr (ha la lc), by rw [h1]; exact hl.keep hk (by simp) (by simp)⟩, ?_, hL.pB, hL.eB, hL.pe⟩, hk⟩
  rw [h2]
  exact hL.ends.imp id (fun ⟨a, b⟩ => ⟨a, b.keep hk (by simp)⟩)

end Go.Proofs.Ytgdfmmfkdmhdgaa
