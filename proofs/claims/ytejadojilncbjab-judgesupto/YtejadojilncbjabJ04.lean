import Derived.Test.YtejadojilncbjabJ03
import Derived.OneCell
import Derived.Test.YtejadojilncbjabJ02
import Derived.Test.YtejadojilncbjabJ00
namespace Go.Proofs.Ytejadojilncbjab
open Go.RowKit
set_option linter.unusedVariables false

theorem own_set {w : World} {base : Nat} {e : TypeId} {size n g cap i : Nat} {xs : List Value} (h : w.ownsRow base e size (.slice (some ⟨g, 0, none⟩) n cap) n xs) (hi : i < n * size) (u : Value) :
    (w.setCell ⟨g, i, none⟩ u).ownsRow base e size (.slice (some ⟨g, 0, none⟩) n cap) n (xs.set i u) := by
  refine ⟨by simpa using h.1, ?_⟩
  rcases h.2 with ⟨h0, _⟩ | ⟨g', cap', cur, hv, hb, hg, r1, r2, r3, r4⟩
  · cases h0
  · simp at hv
    obtain ⟨rfl, rfl⟩ := hv
    have hg' : Blk w g e cur := hg
    refine .inr ⟨g, cap, cur.setIfInBounds i u, rfl, hb, hg'.set, r1, r2, by simpa using r3, ?_⟩
    rw [Array.toList_setIfInBounds, List.take_set, r4]

theorem flat_set {α : Type} {f : α → List Value} {n : Nat} (hf : ∀ a, (f a).length = n) : ∀ (l : List α) (i j : Nat) (u : Value) (b : α), j < n → i < l.length → (∀ a, l[i]? = some a → f b = (f a).set j u) → (l.flatMap f).set (i * n + j) u = (l.set i b).flatMap f
  | [], i, j, u, b, hj, hi, h => by simp at hi
  | a :: l, 0, j, u, b, hj, hi, h => by
    have h0 := h a rfl
    rw [List.flatMap_cons, Nat.zero_mul, Nat.zero_add, List.set_append, if_pos (by rw [hf]; exact hj), List.set_cons_zero, List.flatMap_cons, h0]
  | a :: l, i + 1, j, u, b, hj, hi, h => by
    rw [List.flatMap_cons, List.set_append, if_neg (by rw [hf, Nat.add_mul]; omega), hf, show (i + 1) * n + j - n = i * n + j from by rw [Nat.add_mul]; omega,
      flat_set hf l i j u b hj (by simpa using hi) (fun c hc => h c (by simpa using hc)), List.set_cons_succ, List.flatMap_cons]

theorem zip_set {α β : Type} : ∀ (l : List α) (m : List β) (n : Nat) (a : α) (b : β), (l.zip m).set n (a, b) = (l.set n a).zip (m.set n b)
  | [], _, _, _, _ => by simp
  | _ :: _, [], _, _, _ => by simp
  | x :: l, y :: m, 0, a, b => by simp
  | x :: l, y :: m, n + 1, a, b => by simp [zip_set l m n a b]

/-- One cell of the last attempt is stored. -/
theorem rowCells_set {L : List AttD} {nvs : List Value} {n j : Nat} {u : Value} {a : AttD} {nv : Value} {a' : AttD} {nv' : Value} (hl : nvs.length = L.length) (hn : n < L.length) (hj : j < 8) (ha : L[n]? = some a) (hv : nvs[n]? = some nv)
    (he : attCells a' nv' = (attCells a nv).set j u) : (rowCells L nvs).set (n * 8 + j) u = rowCells (L.set n a') (nvs.set n nv') := by
  unfold rowCells
  rw [flat_set (f := fun q : AttD × Value => attCells q.1 q.2) (n := 8) (fun _ => rfl) (L.zip nvs) n j u (a', nv') hj (by simp; omega) (fun q hq => ?_)]
  · congr 1
    rw [zip_set]
  · have : (L.zip nvs)[n]? = some (a, nv) := by rw [List.getElem?_zip_eq_some]; exact ⟨ha, hv⟩
    rw [this] at hq
    simp at hq
    subst hq
    exact he

theorem modLast_eq {L : List AttD} {n : Nat} {a : AttD} (f : AttD → AttD) (hn : L.length = n + 1) (ha : L[n]? = some a) : modLast L f = L.set n (f a) := by
  unfold modLast
  rw [hn, Nat.add_sub_cancel]
  apply List.ext_getElem?
  intro i
  rw [List.getElem?_modify, List.getElem?_set]
  by_cases h : n = i
  · subst h
    rw [ha]
    simp
    omega
  · simp [h]

/-- A number of the last attempt is stored. -/
theorem ListRep.num {w : World} {B g lc n j : Nat} {L : List AttD} {v : Int} {f : AttD → AttD} (h : ListRep w B (some ⟨g, 0, none⟩) lc L) (hn : L.length = n + 1) (hj : j < 7)
    (hf : ∀ a nv, attCells (f a) nv = (attCells a nv).set j (.int .i64 v)) (hfn : ∀ a, (f a).notes = a.notes) : ListRep (w.setCell ⟨g, n * 8 + j, none⟩ (.int .i64 v)) B (some ⟨g, 0, none⟩) lc (modLast L f) := by
  obtain ⟨nvs, hl, ho, hno, hd⟩ := h
  obtain ⟨a, ha⟩ : ∃ a, L[n]? = some a := ⟨L[n]'(by omega), List.getElem?_eq_getElem (by omega)⟩
  obtain ⟨nv, hv⟩ : ∃ nv, nvs[n]? = some nv := ⟨nvs[n]'(by omega), List.getElem?_eq_getElem (by omega)⟩
  rw [modLast_eq f hn ha]
  have hg : ∃ cur, Blk w g 66 cur := by
    obtain ⟨g', cap, cur, hv', _, hb, _⟩ := own_block ho (by omega)
    simp at hv'
    obtain ⟨rfl, _⟩ := hv'
    exact ⟨cur, hb⟩
  obtain ⟨cur, hg⟩ := hg
  have hk : Kp [66] B g g w (w.setCell ⟨g, n * 8 + j, none⟩ (.int .i64 v)) := ⟨rfl, rfl, rfl, by simp [World.setCell], fun k _ h1 _ => Below.heap_setCell _ _ _ _ (by simpa using h1), fun k t cs fr hk ht => by
    rw [Below.heap_setCell _ _ _ _ (fun e => ht (by
      simp at e
      subst e
      have : w.heap[k]? = some (.cells cur 66 (0, 0)) := hg
      rw [this] at hk
      simp at hk
      simp [← hk.2.1]))]
    exact hk⟩
  refine ⟨nvs, by simpa using hl, ?_, fun i b u hi hu => ?_, hd⟩
  · have h1 := own_set ho (i := n * 8 + j) (by omega) (.int .i64 v)
    rw [rowCells_set hl (by omega) (by omega) ha hv (hf a nv)] at h1
    have e : nvs.set n nv = nvs := by
      apply List.ext_getElem? ; intro i; rw [List.getElem?_set]; split
      · rename_i h; subst h; simp [hv]; omega
      · rfl
    rw [e] at h1
    simpa using h1
  · have hnn : ∃ a0, L[i]? = some a0 ∧ b.notes = a0.notes := by
      rw [List.getElem?_set] at hi
      split at hi
      · rename_i h; subst h
        rw [if_pos (by omega)] at hi
        simp at hi
        exact ⟨a, ha, by rw [← hi, hfn]⟩
      · exact ⟨b, hi, rfl⟩
    obtain ⟨a0, h0, h1⟩ := hnn
    rw [h1]
    exact ownsRow_keep (hno i a0 u h0 hu) hk (by simp)

/-- A note joins the last attempt's. -/
theorem ListRep.note {w w0 w1 : World} {B g lc n : Nat} {L : List AttD} {nvs : List Value} {a : AttD} {nv : Value} {q : NoteD} {gn cap : Nat} (hl : nvs.length = L.length)
    (ho : w.ownsRow B 66 8 (.slice (some ⟨g, 0, none⟩) L.length lc) L.length (rowCells L nvs)) (hno : ∀ (i : Nat) (a : AttD) (nv : Value), L[i]? = some a → nvs[i]? = some nv → w.ownsRow B 99 3 nv a.notes.length (a.notes.flatMap noteCells))
    (hd : ∀ (i j : Nat) (u v : Value) (k : Nat), nvs[i]? = some u → nvs[j]? = some v → u.ownBlock = some k → v.ownBlock = some k → i = j) (hn : L.length = n + 1) (ha : L[n]? = some a) (hv : nvs[n]? = some nv)
    (hb0 : Below w.heap.size w w0) (hB : B ≤ w.heap.size) (hgr : w0.grownBy w1 nv.ownBlock) (hown : w1.ownsRow B 99 3 (.slice (some ⟨gn, 0, none⟩) (a.notes.length + 1) cap) (a.notes.length + 1) (a.notes.flatMap noteCells ++ noteCells q))
    (hat : nv.ownBlock = some gn ∨ w.heap.size ≤ gn) :
    ListRep (w1.setCell ⟨g, n * 8 + 7, none⟩ (.slice (some ⟨gn, 0, none⟩) (a.notes.length + 1) cap)) B (some ⟨g, 0, none⟩) lc (modLast L fun a => { a with notes := a.notes ++ [q] }) := by
  have hk0 : Kp [99] B 0 0 w w0 := Kp.below hb0 hB
  have ho0 : w0.ownsRow B 99 3 nv a.notes.length (a.notes.flatMap noteCells) := ownsRow_keep (hno n a nv ha hv) (Kp.below (chg := []) (p := 0) (eb := 0) hb0 hB) (by simp)
  have hk1 : Kp [99] B 0 0 w0 w1 := Kp.grown hgr (Nat.le_trans hB hb0.size) ho0 (by simp)
  have ho1 : w1.ownsRow B 66 8 (.slice (some ⟨g, 0, none⟩) L.length lc) L.length (rowCells L nvs) := ownsRow_keep ho (hk0.trans hk1) (by simp)
  obtain ⟨g', cap', cur, hv', _, hb, _⟩ := own_block ho1 (by omega)
  simp at hv'
  obtain ⟨rfl, rfl⟩ := hv'
  have hk2 : Kp [66] B g g w1 (w1.setCell ⟨g, n * 8 + 7, none⟩ (.slice (some ⟨gn, 0, none⟩) (a.notes.length + 1) cap)) := ⟨rfl, rfl, rfl, by simp [World.setCell], fun k _ h1 _ => Below.heap_setCell _ _ _ _ (by simpa using h1), fun k t cs fr hk ht => by
    rw [Below.heap_setCell _ _ _ _ (fun e => ht (by
      simp at e
      subst e
      have : w1.heap[k]? = some (.cells cur 66 (0, 0)) := hb
      rw [this] at hk
      simp at hk
      simp [← hk.2.1]))]
    exact hk⟩
  rw [modLast_eq _ hn ha]
  refine ⟨nvs.set n (.slice (some ⟨gn, 0, none⟩) (a.notes.length + 1) cap), by simpa using hl, ?_, fun i b u hi hu => ?_, fun i j u v k hi hj hu hv2 => ?_⟩
  · have h1 := own_set ho1 (i := n * 8 + 7) (by omega) (.slice (some ⟨gn, 0, none⟩) (a.notes.length + 1) cap)
    rw [rowCells_set (a' := { a with notes := a.notes ++ [q] }) hl (by omega) (by omega) ha hv rfl] at h1
    simpa using h1
  · by_cases hin : i = n
    · subst hin
      simp [show i < L.length by omega, show i < nvs.length by omega] at hi hu
      subst hi hu
      have := ownsRow_keep hown hk2 (by simp)
      simpa [List.flatMap_append] using this
    · rw [List.getElem?_set, if_neg (by omega)] at hi hu
      have h3 := ownsRow_keep (hno i b u hi hu) (Kp.below (chg := []) (p := 0) (eb := 0) hb0 hB) (by simp)
      refine ownsRow_keep (h3.kept hgr ?_) hk2 (by simp)
      cases hub : u.ownBlock with
      | none => exact Or.inl rfl
      | some k => exact Or.inr (fun e => hin (hd i n u nv k hu hv hub e.symm))
  · have hlow : ∀ (i : Nat) (u : Value) (k : Nat), nvs[i]? = some u → u.ownBlock = some k → k < w.heap.size := fun i u k hi hu => by
      have hiL : i < L.length := by rw [← hl]; exact (List.getElem?_eq_some_iff.1 hi).1
      exact ((hno i L[i] u (List.getElem?_eq_getElem hiL) hi).lt k hu).2
    by_cases hin : i = n <;> by_cases hjn : j = n
    · omega
    · subst hin
      rw [List.getElem?_set, if_neg (by omega)] at hj
      simp [show i < nvs.length by omega] at hi
      subst hi
      simp [Value.ownBlock] at hu
      subst hu
      rcases hat with hat | hat
      · exact hd i j nv v gn hv hj hat hv2
      · have := hlow j v gn hj hv2; omega
    · subst hjn
      rw [List.getElem?_set, if_neg (by omega)] at hi
      simp [show j < nvs.length by omega] at hj
      subst hj
      simp [Value.ownBlock] at hv2
      subst hv2
      rcases hat with hat | hat
      · exact hd i j u nv gn hi hv hu hat
      · have := hlow i u gn hi hu; omega
    · rw [List.getElem?_set, if_neg (by omega)] at hi hj
      exact hd i j u v k hi hj hu hv2

end Go.Proofs.Ytejadojilncbjab

namespace Go.Proofs.Ytejadojilncbjab
open Go.RowKit
set_option linter.unusedVariables false
attribute [local go_sem ↓] Go.wp_at_zero Go.wp_at_succ

/-- What is known of the row of attempts where there is one. -/
theorem LifeR.last {E : Env} {H : Hd} {B p eb : Nat} {w : World} {s : LS} (hL : LifeR E H B p eb w s) (hne : s.list ≠ []) :
    ∃ g lc n cur, s.list.length = n + 1 ∧ Blk w p 75 (lifeArr E H (some ⟨g, 0, none⟩) lc s) ∧ ListRep w B (some ⟨g, 0, none⟩) lc s.list ∧ Blk w g 66 cur ∧ B ≤ g ∧ n * 8 + 7 < cur.size := by
  obtain ⟨la, lc, hb, hl⟩ := hL.life
  have hl' := hl
  obtain ⟨nvs, hnl, ho, hno, hd⟩ := hl'
  obtain ⟨n, hn⟩ : ∃ n, s.list.length = n + 1 := ⟨s.list.length - 1, by have := List.length_pos_iff.2 hne; omega⟩
  obtain ⟨g, cap, cur, hgv, hgB, hgb, r1, r2, r3, r4⟩ := own_block ho (by omega)
  simp at hgv
  obtain ⟨rfl, rfl⟩ := hgv
  exact ⟨g, lc, n, cur, hn, hb, hl, hgb, hgB, by omega⟩

/-- A number of the last attempt is stored: the life behind it. -/
theorem LifeR.num {E : Env} {H : Hd} {B p eb g lc n j : Nat} {w : World} {s : LS} {v : Int} {f : AttD → AttD} {cur : Array Value} (hL : LifeR E H B p eb w s) (hn : s.list.length = n + 1) (hb : Blk w p 75 (lifeArr E H (some ⟨g, 0, none⟩) lc s))
    (hl : ListRep w B (some ⟨g, 0, none⟩) lc s.list) (hg : Blk w g 66 cur) (hgB : B ≤ g) (hj : j < 7) (hf : ∀ a nv, attCells (f a) nv = (attCells a nv).set j (.int .i64 v)) (hfn : ∀ a, (f a).notes = a.notes) :
    LifeR E H B p eb (w.setCell ⟨g, n * 8 + j, none⟩ (.int .i64 v)) { s with list := modLast s.list f } ∧ Kp [66] B p eb w (w.setCell ⟨g, n * 8 + j, none⟩ (.int .i64 v)) := by
  have hk : Kp [66] B p eb w (w.setCell ⟨g, n * 8 + j, none⟩ (.int .i64 v)) := Kp.only (Only.refl _ _).set hL.stat.size hg (by simp) (Or.inr (Or.inr hgB))
  refine ⟨⟨hL.stat.keep hk, ⟨some ⟨g, 0, none⟩, lc, ?_, hl.num hn hj hf hfn⟩, hL.ends.imp id (fun ⟨x, y⟩ => ⟨x, y.keep hk (by simp)⟩), hL.pB, hL.eB, hL.pe⟩, hk⟩
  refine (hb.keep hk (by simp)).congr ?_
  simp [lifeArr, modLast]

end Go.Proofs.Ytejadojilncbjab

namespace Go.Proofs.Ytejadojilncbjab
open Go.RowKit
set_option linter.unusedVariables false
attribute [local go_sem ↓] Go.wp_at_zero Go.wp_at_succ

theorem TryR.reads {B p eb xb : Nat} {w : World} {x : TS} (h : TryR B p eb xb w x) : ∃ ra rc, w.cell? ⟨xb, 8, none⟩ = some (.slice ra x.reads.length rc) ∧ EntsIn w ra x.reads := by
  obtain ⟨ca, cc, ra, rc, wa, wc, ha, hc, hb, hcd, hcf, h3, h4, h5, h6⟩ := h.blk
  exact ⟨ra, rc, by rw [hb.cell]; rfl, ents_of h3⟩

theorem LifeR.over {E : Env} {H : Hd} {B p eb : Nat} {w : World} {s : LS} (h : LifeR E H B p eb w s) : w.cell? ⟨p, 14, none⟩ = some (.bool s.over) := by
  obtain ⟨la, lc, hb, _⟩ := h.life
  rw [hb.cell]; rfl

theorem Kp.up {chg : List TypeId} {B p eb : Nat} {w w' : World} (h : Kp [] B p eb w w') : Kp chg B p eb w w' := h.wide (by simp)

end Go.Proofs.Ytejadojilncbjab

namespace Go.Proofs.Ytejadojilncbjab
open Go.RowKit
set_option linter.unusedVariables false
attribute [local go_sem ↓] Go.wp_at_zero Go.wp_at_succ

/-- A number of an attempt is stored. -/
theorem TryR.set {B p eb xb i : Nat} {w : World} {x x' : TS} {v : Value} (hT : TryR B p eb xb w x) (hB : B ≤ w.heap.size) (h1 : x'.code = x.code) (h2 : x'.reads = x.reads) (h3 : x'.writes = x.writes) (h4 : x'.held = x.held) (h5 : x'.regs.length = 4)
    (ha : ∀ ca cc ra rc wa wc ha hc, (tryArr ca cc ra rc wa wc ha hc x).setIfInBounds i v = tryArr ca cc ra rc wa wc ha hc x') : TryR B p eb xb (w.setCell ⟨xb, i, none⟩ v) x' ∧ Kp [130] B p eb w (w.setCell ⟨xb, i, none⟩ v) := by
  obtain ⟨ca, cc, ra, rc, wa, wc, hha, hc, hb, hcd, hcf, g3, g4, g5, g6⟩ := hT.blk
  have hk : Kp [130] B p eb w (w.setCell ⟨xb, i, none⟩ v) := Kp.only (Only.refl _ _).set hB hb (by simp) (Or.inr (Or.inr hT.xB))
  refine ⟨⟨⟨ca, cc, ra, rc, wa, wc, hha, hc, hb.set.congr (ha ..), by rw [h1]; exact hcd.keep hcf hk, by rw [h1]; exact hcf, by rw [h2]; exact ownsRow_keep g3 hk (by simp), by rw [h3]; exact ownsRow_keep g4 hk (by simp), by rw [h4]; exact ownsRow_keep g5 hk (by simp), by rw [h2, h3]; exact g6⟩, hT.xB, h5⟩, hk⟩

theorem TryR.cells {B p eb xb : Nat} {w : World} {x : TS} (hT : TryR B p eb xb w x) : ∃ ca cc ra rc wa wc ha hc, (∀ i, w.cell? ⟨xb, i, none⟩ = (tryArr ca cc ra rc wa wc ha hc x)[i]?) ∧ (∀ i, w.frozen? ⟨xb, i, none⟩ = false) := by
  obtain ⟨ca, cc, ra, rc, wa, wc, hha, hc, hb, _⟩ := hT.blk
  exact ⟨ca, cc, ra, rc, wa, wc, hha, hc, hb.cell, hb.frozen⟩

end Go.Proofs.Ytejadojilncbjab

namespace Go.Proofs.Ytejadojilncbjab
open Go.RowKit
set_option linter.unusedVariables false

theorem Try.info3 : (Try.prog.info? 3).map (fun i => (i.zero, i.size, i.bytes)) = some (some (.int .i64 0), 1, 8) := by kernel_rfl

section
variable {B p eb xb : Nat} {w w0 w1 : World} {x : TS} {ca ra wa ha : Option Addr} {cc rc wc hc g cap : Nat}

end

end Go.Proofs.Ytejadojilncbjab

namespace Go.Proofs.Ytejadojilncbjab
open Go.RowKit
set_option linter.unusedVariables false
attribute [local go_sem ↓] Go.wp_at_zero Go.wp_at_succ

/-- Numbers as values. -/
def nvs (o : List Nat) : List Value := o.map fun (i : Nat) => Value.int .i64 (i : Int)

/-- Numbers in memory. -/
def NatsIn (w : World) (B : Nat) (a : Option Addr) (o : List Nat) : Prop := ∀ i, i < o.length → ∃ b, a = some ⟨b, 0, none⟩ ∧ b < B ∧ w.cell? ⟨b, i, none⟩ = some (.int .i64 ((o.getD i 0 : Nat) : Int))

theorem NatsIn.up {w w' : World} {B : Nat} {a : Option Addr} {o : List Nat} (h : NatsIn w B a o) (hb : Below B w w') : NatsIn w' B a o := fun i hi => by
  obtain ⟨b, h1, h2, h3⟩ := h i hi
  exact ⟨b, h1, h2, (World.cell?_of_block (hb.block b h2)).trans h3⟩

theorem natsIn_row {w : World} {base : Nat} {a : Option Addr} {c n : Nat} {o : List Nat} (h : w.ownsRow base 3 1 (.slice a n c) n (nvs o)) : NatsIn w w.heap.size a o := fun i hi => by
  rcases h.2 with ⟨h1, h2⟩ | ⟨g, cap, cur, h1, h2, h3, h4, h5, h6, h7⟩
  · have h8 := h.1
    unfold nvs at h8
    rw [List.length_map] at h8
    omega
  · cases h1
    refine ⟨g, rfl, (Array.getElem?_eq_some_iff.1 h3).1, ?_⟩
    have hb : Blk w g 3 cur := h3
    rw [hb.cell i]
    have h8 : (nvs o)[i]? = some (.int .i64 ((o.getD i 0 : Nat) : Int)) := by
      unfold nvs
      rw [List.getElem?_map, List.getElem?_eq_getElem hi]
      simp [List.getD, List.getElem?_eq_getElem hi]
    rw [← h7, List.getElem?_take] at h8
    split at h8
    · rw [← h8]; simp
    · cases h8

/-- A part of the order. -/
def seg (o : List Nat) (l m : Nat) : List Nat := (o.drop l).take (m - l)

theorem seg_cons {o : List Nat} {l m : Nat} (h : l < m) (hm : m ≤ o.length) : seg o l m = o.getD l 0 :: seg o (l + 1) m := by
  unfold seg
  have hl : l < o.length := by omega
  rw [List.drop_eq_getElem_cons hl, show m - l = (m - (l + 1)) + 1 by omega, List.take_succ_cons]
  simp [List.getD, List.getElem?_eq_getElem hl]

theorem seg_nil {o : List Nat} {l : Nat} : seg o l l = [] := by simp [seg]

/-- Which one is taken. -/
def tkL (f : Nat → AttD) (o : List Nat) (l m r e : Nat) : Bool := decide (r = e ∨ (l < m ∧ Kl f (o.getD l 0) (o.getD r 0)))

theorem tkL_true {f : Nat → AttD} {o : List Nat} {l m r e : Nat} (h : tkL f o l m r e = true) (hw : l < m ∨ r < e) (hm : m ≤ o.length) (he : e ≤ o.length) : l < m ∧ mrg f (seg o l m) (seg o r e) = o.getD l 0 :: mrg f (seg o (l + 1) m) (seg o r e) := by
  rcases of_decide_eq_true h with rfl | ⟨h1, h2⟩
  · have hl : l < m := by omega
    refine ⟨hl, ?_⟩
    rw [seg_nil, mrg_nil', mrg_nil', seg_cons hl hm]
  · refine ⟨h1, ?_⟩
    by_cases hr : r < e
    · rw [seg_cons h1 hm, seg_cons hr he, mrg_pos h2]
    · have : seg o r e = [] := by unfold seg; rw [show e - r = 0 by omega]; simp
      rw [this, mrg_nil', mrg_nil', seg_cons h1 hm]

theorem tkL_false {f : Nat → AttD} {o : List Nat} {l m r e : Nat} (h : tkL f o l m r e = false) (hw : l < m ∨ r < e) (hlm : l ≤ m) (hr : r ≤ e) (hm : m ≤ o.length) (he : e ≤ o.length) : r < e ∧ mrg f (seg o l m) (seg o r e) = o.getD r 0 :: mrg f (seg o l m) (seg o (r + 1) e) := by
  have h1 := of_decide_eq_false h
  have hre : r < e := by
    rcases Nat.lt_or_ge r e with q | q
    · exact q
    · exact absurd (Or.inl (by omega)) h1
  refine ⟨hre, ?_⟩
  by_cases hl : l < m
  · rw [seg_cons hl hm, seg_cons hre he, mrg_neg (fun q => h1 (Or.inr ⟨hl, q⟩))]
  · have : seg o l m = [] := by unfold seg; rw [show m - l = 0 by omega]; simp
    rw [this, mrg_nil, mrg_nil, seg_cons hre he]

theorem run_makeN (n : Nat) (hn : n ≤ 2097152) (w : World) : (Instr.makeSlice 24 (Value.int .i64 0) (Value.int .i64 (n : Int))).run Try.prog w =
    .ok (.slice (some ⟨w.heap.size, 0, none⟩) 0 n) (w.alloc (.cells (List.replicate n (.int .i64 0)).toArray 3)) := by
  obtain ⟨i0, h1, h2, h3, h4⟩ := info_parts Try.info3
  have := run_make (P := Try.prog) w 24 3 i0 _ Try.underlying24 h1 h2 .i64 .i64 0 n (by omega) (by omega) (by rw [h4]; omega) (by omega)
  rw [h3] at this
  simp only [Int.toNat_natCast, Nat.mul_one] at this
  have e : madeCells (Value.int .i64 0).cells n = (List.replicate n (Value.int .i64 0)).toArray := by
    apply Array.ext'
    rw [show (Value.int .i64 0).cells = #[.int .i64 0] from rfl, toList_madeCells_one]
  rw [e] at this
  exact this

/-- What mergeRuns tells. -/
def MrgIs (w : World) (n : Nat) (M : List Nat → Prop) (e : Ending) (w' : World) : Prop := ∃ (o : List Nat) (ra : Option Addr) (rc : Nat), e = .returned (.slice ra n rc) ∧ o.length = n ∧ M o ∧ w'.ownsRow w.heap.size 3 1 (.slice ra n rc) n (nvs o) ∧ Below w.heap.size w w'

end Go.Proofs.Ytejadojilncbjab
