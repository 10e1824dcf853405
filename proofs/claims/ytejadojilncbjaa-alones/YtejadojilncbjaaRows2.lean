import Derived.Test.YtejadojilncbjaaFree
import Derived.OneCell
namespace Go.Proofs.Ytejadojilncbjaa
open Go.RowKit
set_option linter.unusedVariables false

theorem own_set {w : World} {base : Nat} {e : TypeId} {size n g cap i : Nat} {xs : List Value} (h : w.ownsRow base e size (.slice (some ⟨g, 0, none⟩) n cap) n xs) (hi : i < n * size) (u : Value) :
    (w.setCell ⟨g, i, none⟩ u).ownsRow base e size (.slice (some ⟨g, 0, none⟩) n cap) n (xs.set i u) := by
  refine ⟨by simpa using h.1, ?_⟩
  rcases h.2 with ⟨h0, _⟩ | ⟨g', cap', cur, hv, hb, hg, r1, r2, r3, r4⟩
  · cases h0
  · simp at hv
    obtain ⟨rfl, rfl⟩ := hv
    have hg' : Blk w g e cur := hg
    refine .inr ⟨g, cap, cur.setIfInBounds i u, rfl, hb, hg'.set, r1, r2, by simpa using r3, ?_⟩
    rw [Array.toList_setIfInBounds, List.take_set, r4]

theorem flat_set {α : Type} {f : α → List Value} {n : Nat} (hf : ∀ a, (f a).length = n) : ∀ (l : List α) (i j : Nat) (u : Value) (b : α), j < n → i < l.length → (∀ a, l[i]? = some a → f b = (f a).set j u) → (l.flatMap f).set (i * n + j) u = (l.set i b).flatMap f
  | [], i, j, u, b, hj, hi, h => by simp at hi
  | a :: l, 0, j, u, b, hj, hi, h => by
    have h0 := h a rfl
    rw [List.flatMap_cons, Nat.zero_mul, Nat.zero_add, List.set_append, if_pos (by rw [hf]; exact hj), List.set_cons_zero, List.flatMap_cons, h0]
  | a :: l, i + 1, j, u, b, hj, hi, h => by
    rw [List.flatMap_cons, List.set_append, if_neg (by rw [hf, Nat.add_mul]; omega), hf, show (i + 1) * n + j - n = i * n + j from by rw [Nat.add_mul]; omega,
      flat_set hf l i j u b hj (by simpa using hi) (fun c hc => h c (by simpa using hc)), List.set_cons_succ, List.flatMap_cons]

theorem zip_set {α β : Type} : ∀ (l : List α) (m : List β) (n : Nat) (a : α) (b : β), (l.zip m).set n (a, b) = (l.set n a).zip (m.set n b)
  | [], _, _, _, _ => by simp
  | _ :: _, [], _, _, _ => by simp
  | x :: l, y :: m, 0, a, b => by simp
  | x :: l, y :: m, n + 1, a, b => by simp [zip_set l m n a b]

/-- One cell of the last attempt is stored. -/
theorem rowCells_set {L : List AttD} {nvs : List Value} {n j : Nat} {u : Value} {a : AttD} {nv : Value} {a' : AttD} {nv' : Value} (hl : nvs.length = L.length) (hn : n < L.length) (hj : j < 8) (ha : L[n]? = some a) (hv : nvs[n]? = some nv)
    (he : attCells a' nv' = (attCells a nv).set j u) : (rowCells L nvs).set (n * 8 + j) u = rowCells (L.set n a') (nvs.set n nv') := by
  unfold rowCells
  rw [flat_set (f := fun q : AttD × Value => attCells q.1 q.2) (n := 8) (fun _ => rfl) (L.zip nvs) n j u (a', nv') hj (by simp; omega) (fun q hq => ?_)]
  · congr 1
    rw [zip_set]
  · have : (L.zip nvs)[n]? = some (a, nv) := by rw [List.getElem?_zip_eq_some]; exact ⟨ha, hv⟩
    rw [this] at hq
    simp at hq
    subst hq
    exact he

theorem modLast_eq {L : List AttD} {n : Nat} {a : AttD} (f : AttD → AttD) (hn : L.length = n + 1) (ha : L[n]? = some a) : modLast L f = L.set n (f a) := by
  unfold modLast
  rw [hn, Nat.add_sub_cancel]
  apply List.ext_getElem?
  intro i
  rw [List.getElem?_modify, List.getElem?_set]
  by_cases h : n = i
  · subst h
    rw [ha]
    simp
    omega
  · simp [h]

/-- A number of the last attempt is stored. -/
theorem ListRep.num {w : World} {B g lc n j : Nat} {L : List AttD} {v : Int} {f : AttD → AttD} (h : ListRep w B (some ⟨g, 0, none⟩) lc L) (hn : L.length = n + 1) (hj : j < 7)
    (hf : ∀ a nv, attCells (f a) nv = (attCells a nv).set j (.int .i64 v)) (hfn : ∀ a, (f a).notes = a.notes) : ListRep (w.setCell ⟨g, n * 8 + j, none⟩ (.int .i64 v)) B (some ⟨g, 0, none⟩) lc (modLast L f) := by
  obtain ⟨nvs, hl, ho, hno, hd⟩ := h
  obtain ⟨a, ha⟩ : ∃ a, L[n]? = some a := ⟨L[n]'(by omega), List.getElem?_eq_getElem (by omega)⟩
  obtain ⟨nv, hv⟩ : ∃ nv, nvs[n]? = some nv := ⟨nvs[n]'(by omega), List.getElem?_eq_getElem (by omega)⟩
  rw [modLast_eq f hn ha]
  have hg : ∃ cur, Blk w g 109 cur := by
    obtain ⟨g', cap, cur, hv', _, hb, _⟩ := own_block ho (by omega)
    simp at hv'
    obtain ⟨rfl, _⟩ := hv'
    exact ⟨cur, hb⟩
  obtain ⟨cur, hg⟩ := hg
  have hk : Kp [109] B g g w (w.setCell ⟨g, n * 8 + j, none⟩ (.int .i64 v)) := ⟨rfl, rfl, rfl, by simp [World.setCell], fun k _ h1 _ => Below.heap_setCell _ _ _ _ (by simpa using h1), fun k t cs fr hk ht => by
    rw [Below.heap_setCell _ _ _ _ (fun e => ht (by
      simp at e
      subst e
      have : w.heap[k]? = some (.cells cur 109 (0, 0)) := hg
      rw [this] at hk
      simp at hk
      simp [← hk.2.1]))]
    exact hk⟩
  refine ⟨nvs, by simpa using hl, ?_, fun i b u hi hu => ?_, hd⟩
  · have h1 := own_set ho (i := n * 8 + j) (by omega) (.int .i64 v)
    rw [rowCells_set hl (by omega) (by omega) ha hv (hf a nv)] at h1
    have e : nvs.set n nv = nvs := by
      apply List.ext_getElem? ; intro i; rw [List.getElem?_set]; split
      · rename_i h; subst h; simp [hv]; omega
      · rfl
    rw [e] at h1
    simpa using h1
  · have hnn : ∃ a0, L[i]? = some a0 ∧ b.notes = a0.notes := by
      rw [List.getElem?_set] at hi
      split at hi
      · rename_i h; subst h
        rw [if_pos (by omega)] at hi
        simp at hi
        exact ⟨a, ha, by rw [← hi, hfn]⟩
      · exact ⟨b, hi, rfl⟩
    obtain ⟨a0, h0, h1⟩ := hnn
    rw [h1]
    exact ownsRow_keep (hno i a0 u h0 hu) hk (by simp)

/-- A note joins the last attempt's. -/
theorem ListRep.note {w w0 w1 : World} {B g lc n : Nat} {L : List AttD} {nvs : List Value} {a : AttD} {nv : Value} {q : NoteD} {gn cap : Nat} (hl : nvs.length = L.length)
    (ho : w.ownsRow B 109 8 (.slice (some ⟨g, 0, none⟩) L.length lc) L.length (rowCells L nvs)) (hno : ∀ (i : Nat) (a : AttD) (nv : Value), L[i]? = some a → nvs[i]? = some nv → w.ownsRow B 158 3 nv a.notes.length (a.notes.flatMap noteCells))
    (hd : ∀ (i j : Nat) (u v : Value) (k : Nat), nvs[i]? = some u → nvs[j]? = some v → u.ownBlock = some k → v.ownBlock = some k → i = j) (hn : L.length = n + 1) (ha : L[n]? = some a) (hv : nvs[n]? = some nv)
    (hb0 : Below w.heap.size w w0) (hB : B ≤ w.heap.size) (hgr : w0.grownBy w1 nv.ownBlock) (hown : w1.ownsRow B 158 3 (.slice (some ⟨gn, 0, none⟩) (a.notes.length + 1) cap) (a.notes.length + 1) (a.notes.flatMap noteCells ++ noteCells q))
    (hat : nv.ownBlock = some gn ∨ w.heap.size ≤ gn) :
    ListRep (w1.setCell ⟨g, n * 8 + 7, none⟩ (.slice (some ⟨gn, 0, none⟩) (a.notes.length + 1) cap)) B (some ⟨g, 0, none⟩) lc (modLast L fun a => { a with notes := a.notes ++ [q] }) := by
  have hk0 : Kp [158] B 0 0 w w0 := Kp.below hb0 hB
  have ho0 : w0.ownsRow B 158 3 nv a.notes.length (a.notes.flatMap noteCells) := ownsRow_keep (hno n a nv ha hv) (Kp.below (chg := []) (p := 0) (eb := 0) hb0 hB) (by simp)
  have hk1 : Kp [158] B 0 0 w0 w1 := Kp.grown hgr (Nat.le_trans hB hb0.size) ho0 (by simp)
  have ho1 : w1.ownsRow B 109 8 (.slice (some ⟨g, 0, none⟩) L.length lc) L.length (rowCells L nvs) := ownsRow_keep ho (hk0.trans hk1) (by simp)
  obtain ⟨g', cap', cur, hv', _, hb, _⟩ := own_block ho1 (by omega)
  simp at hv'
  obtain ⟨rfl, rfl⟩ := hv'
  have hk2 : Kp [109] B g g w1 (w1.setCell ⟨g, n * 8 + 7, none⟩ (.slice (some ⟨gn, 0, none⟩) (a.notes.length + 1) cap)) := ⟨rfl, rfl, rfl, by simp [World.setCell], fun k _ h1 _ => Below.heap_setCell _ _ _ _ (by simpa using h1), fun k t cs fr hk ht => by
    rw [Below.heap_setCell _ _ _ _ (fun e => ht (by
      simp at e
      subst e
      have : w1.heap[k]? = some (.cells cur 109 (0, 0)) := hb
      rw [this] at hk
      simp at hk
      simp [← hk.2.1]))]
    exact hk⟩
  rw [modLast_eq _ hn ha]
  refine ⟨nvs.set n (.slice (some ⟨gn, 0, none⟩) (a.notes.length + 1) cap), by simpa using hl, ?_, fun i b u hi hu => ?_, fun i j u v k hi hj hu hv2 => ?_⟩
  · have h1 := own_set ho1 (i := n * 8 + 7) (by omega) (.slice (some ⟨gn, 0, none⟩) (a.notes.length + 1) cap)
    rw [rowCells_set (a' := { a with notes := a.notes ++ [q] }) hl (by omega) (by omega) ha hv rfl] at h1
    simpa using h1
  · by_cases hin : i = n
    · subst hin
      simp [show i < L.length by omega, show i < nvs.length by omega] at hi hu
      subst hi hu
      have := ownsRow_keep hown hk2 (by simp)
      simpa [List.flatMap_append] using this
    · rw [List.getElem?_set, if_neg (by omega)] at hi hu
      have h3 := ownsRow_keep (hno i b u hi hu) (Kp.below (chg := []) (p := 0) (eb := 0) hb0 hB) (by simp)
      refine ownsRow_keep (h3.kept hgr ?_) hk2 (by simp)
      cases hub : u.ownBlock with
      | none => exact Or.inl rfl
      | some k => exact Or.inr (fun e => hin (hd i n u nv k hu hv hub e.symm))
  · have hlow : ∀ (i : Nat) (u : Value) (k : Nat), nvs[i]? = some u → u.ownBlock = some k → k < w.heap.size := fun i u k hi hu => by
      have hiL : i < L.length := by rw [← hl]; exact (List.getElem?_eq_some_iff.1 hi).1
      exact ((hno i L[i] u (List.getElem?_eq_getElem hiL) hi).lt k hu).2
    by_cases hin : i = n <;> by_cases hjn : j = n
    · omega
    · subst hin
      rw [List.getElem?_set, if_neg (by omega)] at hj
      simp [show i < nvs.length by omega] at hi
      subst hi
      simp [Value.ownBlock] at hu
      subst hu
      rcases hat with hat | hat
      · exact hd i j nv v gn hv hj hat hv2
      · have := hlow j v gn hj hv2; omega
    · subst hjn
      rw [List.getElem?_set, if_neg (by omega)] at hi
      simp [show j < nvs.length by omega] at hj
      subst hj
      simp [Value.ownBlock] at hv2
      subst hv2
      rcases hat with hat | hat
      · exact hd i j u nv gn hi hv hu hat
      · have := hlow i u gn hi hu; omega
    · rw [List.getElem?_set, if_neg (by omega)] at hi hj
      exact hd i j u v k hi hj hu hv2

end Go.Proofs.Ytejadojilncbjaa
