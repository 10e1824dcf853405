import Derived.Test.YtejadojilncbjaaGreatG18
import Derived.Test.YtejadojilncbjaaGreatG40
import Derived.Test.YtejadojilncbjaaGreatG32
namespace Go.Proofs.YtejadojilncbjaaGreat
open Go.RowKit
set_option linter.unusedVariables false
attribute [local go_sem ↓] Go.wp_at_zero Go.wp_at_succ

/-! The keepers' order of places, with the slices of the notes. -/

def bubP : List (AttD × Value) → List (AttD × Value)
  | [] => []
  | [x] => [x]
  | x :: y :: r => if Sooner x.1 y.1 then y :: bubP (x :: r) else x :: bubP (y :: r)
termination_by l => l.length
def ordP : List (AttD × Value) → List (AttD × Value)
  | [] => []
  | x :: r => bubP (x :: ordP r)

theorem bubP_fst : ∀ (n : Nat) (l : List (AttD × Value)), l.length ≤ n → (bubP l).map (·.1) = bub (l.map (·.1))
  | 0, l, h => by
    have : l = [] := List.length_eq_zero_iff.1 (by omega)
    subst this
    simp [bub, bubP]
  | n + 1, l, h => by
    match l with
    | [] => simp [bub, bubP]
    | [x] => simp [bub, bubP]
    | x :: y :: r =>
      have h1 := bubP_fst n (x :: r) (by simp at h ⊢; omega)
      have h2 := bubP_fst n (y :: r) (by simp at h ⊢; omega)
      simp only [List.map_cons] at h1 h2 ⊢
      unfold bubP bub
      split
      · simp only [List.map_cons, h1]
      · simp only [List.map_cons, h2]
theorem ordP_fst : ∀ l : List (AttD × Value), (ordP l).map (·.1) = ordR (l.map (·.1))
  | [] => rfl
  | x :: r => by
    unfold ordP
    rw [bubP_fst _ _ (Nat.le_refl _), List.map_cons, ordP_fst r]
    rfl
theorem bubP_mem : ∀ (n : Nat) (l : List (AttD × Value)), l.length ≤ n → ∀ a, a ∈ bubP l ↔ a ∈ l
  | 0, l, h, a => by
    have : l = [] := List.length_eq_zero_iff.1 (by omega)
    subst this
    simp [bubP]
  | n + 1, l, h, a => by
    match l with
    | [] => simp [bubP]
    | [x] => simp [bubP]
    | x :: y :: r =>
      have h1 := bubP_mem n (x :: r) (by simp at h ⊢; omega) a
      have h2 := bubP_mem n (y :: r) (by simp at h ⊢; omega) a
      unfold bubP
      split
      · rw [List.mem_cons, h1]
        simp only [List.mem_cons]
        constructor
        · rintro (h | h | h)
          · exact Or.inr (Or.inl h)
          · exact Or.inl h
          · exact Or.inr (Or.inr h)
        · rintro (h | h | h)
          · exact Or.inr (Or.inl h)
          · exact Or.inl h
          · exact Or.inr (Or.inr h)
      · rw [List.mem_cons, h2]
        simp only [List.mem_cons]
theorem ordP_mem (a : AttD × Value) : ∀ l : List (AttD × Value), a ∈ ordP l ↔ a ∈ l
  | [] => Iff.rfl
  | x :: r => by
    unfold ordP
    rw [bubP_mem _ _ (Nat.le_refl _), List.mem_cons, ordP_mem a r, List.mem_cons]
theorem bubP_len : ∀ (n : Nat) (l : List (AttD × Value)), l.length ≤ n → (bubP l).length = l.length
  | 0, l, h => by
    have : l = [] := List.length_eq_zero_iff.1 (by omega)
    subst this
    simp [bubP]
  | n + 1, l, h => by
    match l with
    | [] => simp [bubP]
    | [x] => simp [bubP]
    | x :: y :: r =>
      have h1 := bubP_len n (x :: r) (by simp at h ⊢; omega)
      have h2 := bubP_len n (y :: r) (by simp at h ⊢; omega)
      unfold bubP
      split
      · simp [h1]
      · simp [h2]
theorem ordP_len : ∀ l : List (AttD × Value), (ordP l).length = l.length
  | [] => rfl
  | x :: r => by
    unfold ordP
    rw [bubP_len _ _ (Nat.le_refl _), List.length_cons, ordP_len r, List.length_cons]

/-- One comparison of the pass from the end. -/
def Pass (C : List (AttD × Value)) (k : Nat) (G : List (AttD × Value)) : Prop := ∃ dn rest, C.reverse = dn ++ rest ∧ rest.length = k + 1 ∧ dn ++ bubP rest = G

theorem Pass.start (C : List (AttD × Value)) (hC : C ≠ []) : Pass C (C.length - 1) (bubP C.reverse) :=
  ⟨[], C.reverse, rfl, by have := List.length_pos_iff.2 hC; simp; omega, rfl⟩
theorem Pass.done {C G : List (AttD × Value)} (h : Pass C 0 G) : C.reverse = G := by
  obtain ⟨dn, rest, h1, h2, h3⟩ := h
  match rest, h2 with
  | [x], _ => rw [h1, ← h3]; simp [bubP]
theorem Pass.step {C G : List (AttD × Value)} {k : Nat} (h : Pass C (k + 1) G) : ∃ x y, C[k + 1]? = some x ∧ C[k]? = some y ∧ (Sooner x.1 y.1 → Pass ((C.set (k + 1) y).set k x) k G) ∧ (¬ Sooner x.1 y.1 → Pass C k G) := by
  obtain ⟨dn, rest, h1, h2, h3⟩ := h
  match rest, h2 with
  | x :: y :: l, h2 =>
    have hl : l.length = k := by simpa using h2
    have hC : C = l.reverse ++ (y :: x :: dn.reverse) := by
      have := congrArg List.reverse h1
      rw [List.reverse_reverse] at this
      rw [this]
      simp
    have hlr : l.reverse.length = k := by simpa using hl
    refine ⟨x, y, ?_, ?_, fun hs => ?_, fun hs => ?_⟩
    · rw [hC, List.getElem?_append_right (by omega), hlr]
      simp
    · rw [hC, List.getElem?_append_right (by omega), hlr]
      simp
    · refine ⟨dn ++ [y], x :: l, ?_, by simp [hl], ?_⟩
      · have e : (C.set (k + 1) y).set k x = l.reverse ++ (x :: y :: dn.reverse) := by
          rw [hC, List.set_append_right _ _ (by omega), List.set_append_right _ _ (by omega), hlr]
          simp
        rw [e]
        simp
      · unfold bubP at h3
        rw [if_pos hs] at h3
        rw [← h3]
        simp
    · refine ⟨dn ++ [x], y :: l, ?_, by simp [hl], ?_⟩
      · rw [h1]
        simp
      · unfold bubP at h3
        rw [if_neg hs] at h3
        rw [← h3]
        simp

set_option maxHeartbeats 1000000 in
/-- The keepers' sooner. -/
theorem sooner_any (x y : AttD × Value) (w : World) : Calls Tryz.prog 52 #[.agg #[.int .i64 x.1.thread, .int .i64 x.1.job, .int .i64 x.1.start, .int .i64 x.1.fin, .int .i64 x.1.valid, .int .i64 x.1.stamp, .int .i64 x.1.fate, x.2], .agg #[.int .i64 y.1.thread, .int .i64 y.1.job, .int .i64 y.1.start, .int .i64 y.1.fin, .int .i64 y.1.valid, .int .i64 y.1.stamp, .int .i64 y.1.fate, y.2]] w fun e w' =>
    e = .returned (.bool (decide (Sooner x.1 y.1))) ∧ Below w.heap.size w w' := by
  obtain ⟨⟨a0, a1, a2, a3, a4, a5, a6, al⟩, av⟩ := x
  obtain ⟨⟨b0, b1, b2, b3, b4, b5, b6, bl⟩, bv⟩ := y
  simp only
  obtain ⟨sb, hsb⟩ : ∃ sb, sb = decide (Sooner ⟨a0, a1, a2, a3, a4, a5, a6, al⟩ ⟨b0, b1, b2, b3, b4, b5, b6, bl⟩) := ⟨_, rfl⟩
  have HS : Hid (sb = decide (Sooner ⟨a0, a1, a2, a3, a4, a5, a6, al⟩ ⟨b0, b1, b2, b3, b4, b5, b6, bl⟩)) := hsb
  rw [← hsb]
  obtain ⟨w0, hw0⟩ : ∃ w0, w0 = (w.alloc (.cells #[.int .i64 a0, .int .i64 a1, .int .i64 a2, .int .i64 a3, .int .i64 a4, .int .i64 a5, .int .i64 a6, av] 63)).alloc (.cells #[.int .i64 b0, .int .i64 b1, .int .i64 b2, .int .i64 b3, .int .i64 b4, .int .i64 b5, .int .i64 b6, bv] 63) := ⟨_, rfl⟩
  have HB : Hid (Below w.heap.size w w0) := by rw [hw0]; exact ((Below.refl w.heap.size w).alloc (Nat.le_refl _) _).alloc (by simp) _
  have hA : Blk w0 w.heap.size 63 #[.int .i64 a0, .int .i64 a1, .int .i64 a2, .int .i64 a3, .int .i64 a4, .int .i64 a5, .int .i64 a6, av] := by rw [hw0]; exact (Blk.new w 63 _).alloc _
  have hB : Blk w0 (w.heap.size + 1) 63 #[.int .i64 b0, .int .i64 b1, .int .i64 b2, .int .i64 b3, .int .i64 b4, .int .i64 b5, .int .i64 b6, bv] := by
    rw [hw0]
    have := Blk.new (w.alloc (.cells #[.int .i64 a0, .int .i64 a1, .int .i64 a2, .int .i64 a3, .int .i64 a4, .int .i64 a5, .int .i64 a6, av] 63)) 63 #[.int .i64 b0, .int .i64 b1, .int .i64 b2, .int .i64 b3, .int .i64 b4, .int .i64 b5, .int .i64 b6, bv]
    exact (by simpa using this : Blk _ _ _ _)
  have hcA := hA.cell
  have hcB := hB.cell
  clear hsb hA hB
  go_enter Tryz.func52, Tryz.ntmps52
  go_upto_region 1 with fail
  rw [← hw0]
  clear hw0
  by_cases h1 : a5 > 0 <;> by_cases h2 : b5 > 0
  · by_cases h3 : a5 < b5
    · go_wp2
      go_ret
      exact ⟨by rw [show sb = true from by rw [HS.out]; simp [Sooner, plA, plB]; omega]; simp, HB.out⟩
    · by_cases h4 : a5 = b5
      · have h4b : (a5 == b5) = true := by simp [h4]
        go_wp2
        go_ret
        exact ⟨by rw [show sb = false from by rw [HS.out]; simp [Sooner, plA, plB]; omega]; simp, HB.out⟩
      · have h4b : (a5 == b5) = false := by simp [h4]
        go_wp2
        go_ret
        exact ⟨by rw [show sb = false from by rw [HS.out]; simp [Sooner, plA, plB]; omega]; simp, HB.out⟩
  · by_cases h3 : a5 < b4
    · go_wp2
      go_ret
      exact ⟨by rw [show sb = true from by rw [HS.out]; simp [Sooner, plA, plB]; omega]; simp, HB.out⟩
    · by_cases h4 : a5 = b4
      · have h4b : (a5 == b4) = true := by simp [h4]
        go_wp2
        go_ret
        exact ⟨by rw [show sb = true from by rw [HS.out]; simp [Sooner, plA, plB]; omega]; simp, HB.out⟩
      · have h4b : (a5 == b4) = false := by simp [h4]
        go_wp2
        go_ret
        exact ⟨by rw [show sb = false from by rw [HS.out]; simp [Sooner, plA, plB]; omega]; simp, HB.out⟩
  · by_cases h3 : a4 < b5
    · go_wp2
      go_ret
      exact ⟨by rw [show sb = true from by rw [HS.out]; simp [Sooner, plA, plB]; omega]; simp, HB.out⟩
    · by_cases h4 : a4 = b5
      · have h4b : (a4 == b5) = true := by simp [h4]
        go_wp2
        go_ret
        exact ⟨by rw [show sb = false from by rw [HS.out]; simp [Sooner, plA, plB]; omega]; simp, HB.out⟩
      · have h4b : (a4 == b5) = false := by simp [h4]
        go_wp2
        go_ret
        exact ⟨by rw [show sb = false from by rw [HS.out]; simp [Sooner, plA, plB]; omega]; simp, HB.out⟩
  · by_cases h3 : a4 < b4
    · go_wp2
      go_ret
      exact ⟨by rw [show sb = true from by rw [HS.out]; simp [Sooner, plA, plB]; omega]; simp, HB.out⟩
    · by_cases h4 : a4 = b4
      · have h4b : (a4 == b4) = true := by simp [h4]
        go_wp2
        go_ret
        exact ⟨by rw [show sb = false from by rw [HS.out]; simp [Sooner, plA, plB]; omega]; simp, HB.out⟩
      · have h4b : (a4 == b4) = false := by simp [h4]
        go_wp2
        go_ret
        exact ⟨by rw [show sb = false from by rw [HS.out]; simp [Sooner, plA, plB]; omega]; simp, HB.out⟩

end Go.Proofs.YtejadojilncbjaaGreat

namespace Go.Proofs.YtejadojilncbjaaGreat
open Go.RowKit
set_option linter.unusedVariables false
attribute [local go_sem ↓] Go.wp_at_zero Go.wp_at_succ

/-- An attempt is stored into a row. -/
theorem att_store {w : World} {base g oc : Nat} {C : List (AttD × Value)} (h : AttsRow w base (some ⟨g, 0, none⟩) oc C) (m : Nat) (hm : m < C.length) (x : AttD × Value) :
    AttsRow ((((((((w.setCell ⟨g, m * 8, none⟩ (.int .i64 x.1.thread)).setCell ⟨g, m * 8 + 1, none⟩ (.int .i64 x.1.job)).setCell ⟨g, m * 8 + 2, none⟩ (.int .i64 x.1.start)).setCell ⟨g, m * 8 + 3, none⟩ (.int .i64 x.1.fin)).setCell ⟨g, m * 8 + 4, none⟩ (.int .i64 x.1.valid)).setCell ⟨g, m * 8 + 5, none⟩ (.int .i64 x.1.stamp)).setCell ⟨g, m * 8 + 6, none⟩ (.int .i64 x.1.fate)).setCell ⟨g, m * 8 + 7, none⟩ x.2) base (some ⟨g, 0, none⟩) oc (C.set m x) ∧
      Only g w ((((((((w.setCell ⟨g, m * 8, none⟩ (.int .i64 x.1.thread)).setCell ⟨g, m * 8 + 1, none⟩ (.int .i64 x.1.job)).setCell ⟨g, m * 8 + 2, none⟩ (.int .i64 x.1.start)).setCell ⟨g, m * 8 + 3, none⟩ (.int .i64 x.1.fin)).setCell ⟨g, m * 8 + 4, none⟩ (.int .i64 x.1.valid)).setCell ⟨g, m * 8 + 5, none⟩ (.int .i64 x.1.stamp)).setCell ⟨g, m * 8 + 6, none⟩ (.int .i64 x.1.fate)).setCell ⟨g, m * 8 + 7, none⟩ x.2) := by
  have hm8 : m * 8 + 7 < C.length * 8 := by omega
  refine ⟨?_, ((((((((Only.refl g w).set).set).set).set).set).set).set).set⟩
  have h' : w.ownsRow base 63 8 (.slice (some ⟨g, 0, none⟩) C.length oc) C.length (C.flatMap avCells) := h
  have hr8 := own_set (own_set (own_set (own_set (own_set (own_set (own_set (own_set h' (i := m * 8) (by omega) (.int .i64 x.1.thread)) (i := m * 8 + 1) (by omega) (.int .i64 x.1.job)) (i := m * 8 + 2) (by omega) (.int .i64 x.1.start)) (i := m * 8 + 3) (by omega) (.int .i64 x.1.fin)) (i := m * 8 + 4) (by omega) (.int .i64 x.1.valid)) (i := m * 8 + 5) (by omega) (.int .i64 x.1.stamp)) (i := m * 8 + 6) (by omega) (.int .i64 x.1.fate)) (i := m * 8 + 7) (by omega) x.2
  show World.ownsRow _ _ _ _ _ _ _
  rw [List.length_set, av_set C m hm]
  exact hr8

/-- What ordered tells. -/
def OrdIs (w : World) (AN : List (AttD × Value)) (e : Ending) (w' : World) : Prop :=
  ∃ (oa : Option Addr) (oc : Nat), e = .returned (.slice oa AN.length oc) ∧ AttsRow w' w.heap.size oa oc (ordP AN.reverse).reverse ∧ Below w.heap.size w w'

set_option maxRecDepth 100000 in
set_option maxHeartbeats 1000000 in
/-- The keepers' ordered. -/
theorem ordered_any (AN : List (AttD × Value)) (la : Option Addr) (lc baseh : Nat) (w : World) (hn : AN.length ≤ 2 ^ 30) (hr : AttsRow w baseh la lc AN) (hno : ∀ q ∈ AN, ∃ a n c, q.2 = Value.slice a n c) :
    Calls Tryz.prog 26 #[.slice la AN.length lc] w (OrdIs w AN) := by
  obtain ⟨iA, hiA, hzA0, hzA1, hzA2⟩ := info_parts Tryz.info63
  have HR : Hid (AttsRow w baseh la lc AN) := hr
  have HNo : Hid (∀ q ∈ AN, ∃ a n c, q.2 = Value.slice a n c) := hno
  have hn' : AN.length ≤ 1073741824 := hn
  clear hr hno hn
  go_enter Tryz.func26, Tryz.ntmps26
  go_wp2_with fail
  go_loopg [3, 4] (AN.length + 1) (fun m t3 t4 wr => ∃ (i : Nat) (oa : Option Addr) (oc : Nat) (C : List (AttD × Value)), t3 = .slice oa i oc ∧ t4 = .int .i64 (i : Int) ∧ i ≤ AN.length ∧ m = AN.length + 1 - i ∧ Hid (C.length = i ∧ C.reverse = ordP (AN.take i).reverse) ∧ Hid (AttsRow wr w.heap.size oa oc C) ∧ Hid (Below w.heap.size w wr))
  case atStart => exact ⟨0, none, 0, [], rfl, rfl, by omega, by omega, ⟨rfl, rfl⟩, World.ownsRow_nil _ _ _ _, Below.refl _ _⟩
  case round =>
    obtain ⟨i, oa, oc, C, rfl, rfl, hi, hgi, HC, HRo, HBx⟩ := hrel
    obtain ⟨wq, hwq⟩ : ∃ wq, wq = wr := ⟨_, rfl⟩
    subst hwq
    have hszq : w.heap.size ≤ wq.heap.size := (HBx.out).size
    by_cases hil : i < AN.length
    · obtain ⟨x, hx⟩ : ∃ x, AN[i]? = some x := ⟨_, List.getElem?_eq_getElem hil⟩
      obtain ⟨na, nn, nc, hxo⟩ := HNo.out x (List.mem_of_getElem? hx)
      obtain ⟨b, hb, hbl, c0, c1, c2, c3, c4, c5, c6, c7⟩ := AttsRow.at HR.out i x hx
      have hup : ∀ o, wq.cell? ⟨b, o, none⟩ = w.cell? ⟨b, o, none⟩ := fun o => World.cell?_of_block ((HBx.out).block b hbl)
      have d0 := (hup _).trans c0
      have d1 := (hup _).trans c1
      have d2 := (hup _).trans c2
      have d3 := (hup _).trans c3
      have d4 := (hup _).trans c4
      have d5 := (hup _).trans c5
      have d6 := (hup _).trans c6
      have d7 := (hup _).trans c7
      have hi0 : (0 : Int) ≤ (i : Int) := by omega
      have hi1 : (i : Int) < (AN.length : Int) := by omega
      have hwi : IntKind.i64.wrap ((i : Int) + 1) = (i : Int) + 1 := wrapF _ (by omega) (by omega)
      have hws : IntKind.i64.wrap (((i + 1 : Nat) : Int) - 1) = (i : Int) := by rw [show ((i + 1 : Nat) : Int) - 1 = (i : Int) by omega]; exact wrapF _ (by omega) (by omega)
      have HCl : Hid (C.length = i) := (HC.out).1
      obtain ⟨OT, hOT⟩ : ∃ OT, OT = C.flatMap avCells := ⟨_, rfl⟩
      have HOT : Hid (OT = C.flatMap avCells) := hOT
      have HRo2 : Hid (wq.ownsRow w.heap.size 63 8 (.slice oa i oc) i OT) := by
        have h : wq.ownsRow w.heap.size 63 8 (.slice oa C.length oc) C.length (C.flatMap avCells) := HRo.out
        rw [(HC.out).1] at h
        rw [hOT]
        exact h
      have HG : Hid (bubP (C ++ [x]).reverse = ordP (AN.take (i + 1)).reverse) := by
        show _ = _
        have e : (AN.take (i + 1)).reverse = x :: (AN.take i).reverse := by
          rw [List.take_add_one, hx]
          simp
        rw [e]
        unfold ordP
        rw [← (HC.out).2]
        simp
      subst hb
      obtain ⟨⟨a0, a1, a2, a3, a4, a5, a6, al⟩, av⟩ := x
      simp only at d0 d1 d2 d3 d4 d5 d6 d7 hxo
      subst hxo
      clear c0 c1 c2 c3 c4 c5 c6 c7 hup hx hOT HRo
      go_wp2_with
        (at_builtin;
         refine wpList_append_lies _ (by rfl) _ _ _ (by rfl) w.heap.size 63 iA _ 8 80 Tryz.underlying51 hiA hzA0 hzA1 hzA2 rfl (by omega) (.slice oa i oc) i OT (by rfl) ((HRo2.out).alloc _)
           ⟨wq.heap.size, 0, none⟩ 1 1 [.int .i64 a0, .int .i64 a1, .int .i64 a2, .int .i64 a3, .int .i64 a4, .int .i64 a5, .int .i64 a6, .slice na nn nc] (by rfl) (by rfl) (World.news_of_block (cs := #[.int .i64 a0, .int .i64 a1, .int .i64 a2, .int .i64 a3, .int .i64 a4, .int .i64 a5, .int .i64 a6, .slice na nn nc]) (t := 63) (fr := (0, 0)) (heap_alloc_new wq _)) (by simp [Value.oneCell'])
           (by omega) (by unfold maxLen; omega) (by omega) (by simp; omega) (wq.heap.size + 1) (by simp) ?_;
         intro gg cap wz hown1 hgrow hat hlt;
         have HKz : Hid (Kp [63] w.heap.size w.heap.size w.heap.size wq wz) := ((Kp.below ((Below.refl _ _).alloc (Nat.le_refl _) _) hszq).trans (Kp.grown hgrow (by simp; omega) ((HRo2.out).alloc _) (by simp)));
         have HRz : Hid (wz.ownsRow w.heap.size 63 8 (.slice (some ⟨gg, 0, none⟩) (i + 1) cap) (i + 1) (OT ++ [.int .i64 a0, .int .i64 a1, .int .i64 a2, .int .i64 a3, .int .i64 a4, .int .i64 a5, .int .i64 a6, .slice na nn nc])) := hown1;
         clear hown1 hgrow hat hlt)
      obtain ⟨C1, hC1⟩ : ∃ C1, C1 = C ++ [((⟨a0, a1, a2, a3, a4, a5, a6, al⟩ : AttD), Value.slice na nn nc)] := ⟨_, rfl⟩
      have hC1l : C1.length = i + 1 := by rw [hC1, List.length_append, HCl.out]; rfl
      have HA1 : Hid (AttsRow wz w.heap.size (some ⟨gg, 0, none⟩) cap C1) := by
        show World.ownsRow _ _ _ _ _ _ _
        rw [hC1l, hC1, List.flatMap_append, ← show OT = _ from HOT.out]
        exact HRz.out
      have HB1 : Hid (Below w.heap.size w wz) := by
        have hk := HKz.out
        have h := HBx.out
        exact ⟨hk.os.trans h.os, hk.tape.trans h.tape, hk.output.trans h.output, Nat.le_trans h.size hk.size, fun b hb => (hk.low b hb (by omega) (by omega)).trans (h.block b hb)⟩
      obtain ⟨G, hG⟩ : ∃ G, G = ordP (AN.take (i + 1)).reverse := ⟨_, rfl⟩
      have HPs : Hid (C1.length = i + 1 ∧ Pass C1 i G) := by
        refine ⟨hC1l, ?_⟩
        have h := Pass.start C1 (by rw [hC1]; simp)
        rw [hC1l, hC1, HG.out, ← hG, ← hC1] at h
        exact h
      have HGe : Hid (G = ordP (AN.take (i + 1)).reverse) := hG
      have HSl1 : Hid (∀ q ∈ C1, ∃ a n c, q.2 = Value.slice a n c) := fun q hq => by
        rw [hC1] at hq
        rcases List.mem_append.1 hq with hq | hq
        · have h1 : q ∈ C.reverse := by simpa using hq
          rw [(HC.out).2, ordP_mem] at h1
          exact HNo.out q (List.mem_of_mem_take (by simpa using h1))
        · simp at hq
          subst hq
          exact ⟨na, nn, nc, rfl⟩
      clear hC1 hC1l HRz HKz HOT HG HC HCl HRo2 d0 d1 d2 d3 d4 d5 d6 d7 HBx hG
      go_wp2_with fail
      go_loopg [5] (i + 1) (fun m t5 wr => ∃ (k : Nat) (D : List (AttD × Value)), t5 = .int .i64 (k : Int) ∧ k ≤ i ∧ m = k + 1 ∧ Hid (D.length = i + 1 ∧ Pass D k G) ∧ Hid (∀ q ∈ D, ∃ a n c, q.2 = Value.slice a n c) ∧ Hid (AttsRow wr w.heap.size (some ⟨gg, 0, none⟩) cap D) ∧ Hid (Below w.heap.size w wr))
      case atStart => exact ⟨i, C1, rfl, by omega, rfl, HPs, HSl1, HA1, HB1⟩
      case round =>
        obtain ⟨k, D, rfl, hk, hgk, HD, HSl, HA, HB⟩ := hrel
        clear HPs HA1 HB1 HSl1
        have hszr : w.heap.size ≤ wr.heap.size := (HB.out).size
        match k, hk, hgk, HD with
        | 0, hk, hgk, HD =>
          have hk2 : ¬ (((0 : Nat) : Int) > 0) := by omega
          have HF : Hid (D.length = i + 1 ∧ D.reverse = ordP (AN.take (i + 1)).reverse) := ⟨(HD.out).1, by rw [← show G = _ from HGe.out]; exact (HD.out).2.done⟩
          clear HD HGe
          go_wp2_with fail
          go_roundg (AN.length + 1 - (i + 1))
          case rel => exact ⟨i + 1, some ⟨gg, 0, none⟩, cap, D, rfl, by simp, by omega, by omega, HF, HA, HB⟩
          case measure => omega
        | p + 1, hk, hgk, HD =>
          obtain ⟨x, y, hx, hy, hs1, hs2⟩ := (HD.out).2.step
          obtain ⟨xa, xn, xc, hxs⟩ := HSl.out x (List.mem_of_getElem? hx)
          obtain ⟨ya, yn, yc, hys⟩ := HSl.out y (List.mem_of_getElem? hy)
          obtain ⟨x1, x2⟩ := x
          obtain ⟨y1, y2⟩ := y
          simp only at hxs hys hs1 hs2
          subst hxs hys
          obtain ⟨b1, hb1, hbl1, c0, c1, c2, c3, c4, c5, c6, c7⟩ := AttsRow.at HA.out (p + 1) (x1, .slice xa xn xc) hx
          obtain ⟨b2, hb2, hbl2, e0, e1, e2, e3, e4, e5, e6, e7⟩ := AttsRow.at HA.out p (y1, .slice ya yn yc) hy
          cases hb1
          cases hb2
          simp only at c0 c1 c2 c3 c4 c5 c6 c7 e0 e1 e2 e3 e4 e5 e6 e7
          obtain ⟨m, hm⟩ : ∃ m, m = p + 1 := ⟨_, rfl⟩
          rw [← hm] at c0 c1 c2 c3 c4 c5 c6 c7
          have hmp : ((p + 1 : Nat) : Int) = (m : Int) := by rw [hm]
          rw [hmp]
          have hm0 : (0 : Int) ≤ (m : Int) := by omega
          have hm1 : (m : Int) < ((i + 1 : Nat) : Int) := by omega
          have hm2 : (m : Int) > 0 := by omega
          have hp0 : (0 : Int) ≤ (p : Int) := by omega
          have hp1 : (p : Int) < ((i + 1 : Nat) : Int) := by omega
          have hsub : IntKind.i64.wrap ((m : Int) - 1) = (p : Int) := by rw [show (m : Int) - 1 = (p : Int) by omega]; exact wrapF _ (by omega) (by omega)
          have HM : Hid (m = p + 1) := hm
          have HS1 : Hid (Sooner x1 y1 → Pass ((D.set m (y1, .slice ya yn yc)).set p (x1, .slice xa xn xc)) p G) := by rw [hm]; exact hs1
          have HS2 : Hid (¬ Sooner x1 y1 → Pass D p G) := hs2
          have HDl : Hid (D.length = i + 1) := (HD.out).1
          have HY : Hid (D[p]? = some (y1, .slice ya yn yc)) := hy
          have hgf : ∀ o, wr.frozen? ⟨gg, o, none⟩ = false := own_frozen HA.out
          clear hs1 hs2 hx hy hm hmp HD
          go_wp2_with fail
          go_cut [6] (fun t wx => t = .bool (decide (Sooner x1 y1)) ∧ Hid (Below wr.heap.size wr wx))
          case first =>
            go_region_with (go_at_call 52; refine (sooner_any (x1, .slice xa xn xc) (y1, .slice ya yn yc) _).mono ?_; rintro e w4 ⟨rfl, hb4⟩)
            all_goals
              go_wp2
              go_meet
              case rel => exact ⟨rfl, by first | assumption | exact of_drew (by assumption)⟩
          case rest =>
            obtain ⟨rfl, HBc⟩ := hcut
            have HAc : Hid (AttsRow wc w.heap.size (some ⟨gg, 0, none⟩) cap D) := ownsRow_below HA.out HBc.out
            have HBw : Hid (Below w.heap.size w wc) := (HB.out).trans ((HBc.out).mono hszr)
            by_cases hs : Sooner x1 y1
            · have hsb : decide (Sooner x1 y1) = true := by simp [hs]
              have hgl := (HAc.out).lt gg rfl
              have hmD : m < D.length := by rw [HDl.out]; omega
              have hpD : p < D.length := by rw [HDl.out]; omega
              have HPd : Hid (((D.set m (y1, .slice ya yn yc)).set p (x1, .slice xa xn xc)).length = i + 1 ∧ Pass ((D.set m (y1, .slice ya yn yc)).set p (x1, .slice xa xn xc)) p G) := ⟨by rw [List.length_set, List.length_set]; exact HDl.out, HS1.out hs⟩
              have HSl2 : Hid (∀ q ∈ (D.set m (y1, Value.slice ya yn yc)).set p (x1, Value.slice xa xn xc), ∃ a n c, q.2 = Value.slice a n c) := fun q hq => by
                rcases List.mem_or_eq_of_mem_set hq with hq | rfl
                · rcases List.mem_or_eq_of_mem_set hq with hq | rfl
                  · exact HSl.out q hq
                  · exact ⟨ya, yn, yc, rfl⟩
                · exact ⟨xa, xn, xc, rfl⟩
              have hup : ∀ o, wc.cell? ⟨gg, o, none⟩ = wr.cell? ⟨gg, o, none⟩ := fun o => World.cell?_of_block ((HBc.out).block gg ((HA.out).lt gg rfl).2)
              have f0 := (hup _).trans c0
              have f1 := (hup _).trans c1
              have f2 := (hup _).trans c2
              have f3 := (hup _).trans c3
              have f4 := (hup _).trans c4
              have f5 := (hup _).trans c5
              have f6 := (hup _).trans c6
              have f7 := (hup _).trans c7
              obtain ⟨wa, hwa⟩ : ∃ wa, wa = wc.alloc (.cells #[.int .i64 x1.thread, .int .i64 x1.job, .int .i64 x1.start, .int .i64 x1.fin, .int .i64 x1.valid, .int .i64 x1.stamp, .int .i64 x1.fate, .slice xa xn xc] 63) := ⟨_, rfl⟩
              obtain ⟨n8, hn8⟩ : ∃ n8, n8 = wc.heap.size := ⟨_, rfl⟩
              have hBa : Below wc.heap.size wc wa := by rw [hwa]; exact (Below.refl _ _).alloc (Nat.le_refl _) _
              have HBk : Hid (Blk wa n8 63 #[.int .i64 x1.thread, .int .i64 x1.job, .int .i64 x1.start, .int .i64 x1.fin, .int .i64 x1.valid, .int .i64 x1.stamp, .int .i64 x1.fate, .slice xa xn xc]) := by rw [hwa, hn8]; exact Blk.new wc 63 _
              have HAa : Hid (AttsRow wa w.heap.size (some ⟨gg, 0, none⟩) cap D) := ownsRow_below HAc.out hBa
              have HBa : Hid (Below w.heap.size w wa) := (HBw.out).trans (hBa.mono (HBw.out).size)
              have hgn : gg ≠ n8 := by omega
              have HL : Hid (m < D.length ∧ p < D.length ∧ w.heap.size ≤ gg) := ⟨hmD, hpD, hgl.1⟩
              rw [hsb]
              clear hsb c0 c1 c2 c3 c4 c5 c6 c7 e0 e1 e2 e3 e4 e5 e6 e7 hgf hup hBa hmD hpD HS1 HS2 hs
              go_upto_region 12 with fail
              rw [← hwa, ← hn8]
              clear hwa hn8 f0 f1 f2 f3 f4 f5 f6 f7 hgl
              obtain ⟨x', hx'⟩ : ∃ x', D[m]? = some x' := ⟨_, List.getElem?_eq_getElem (HL.out).1⟩
              obtain ⟨b1, hb1, hbl1, c0, c1, c2, c3, c4, c5, c6, c7⟩ := AttsRow.at HAa.out m x' hx'
              obtain ⟨b2, hb2, hbl2, e0, e1, e2, e3, e4, e5, e6, e7⟩ := AttsRow.at HAa.out p (y1, .slice ya yn yc) HY.out
              cases hb1
              cases hb2
              simp only at e0 e1 e2 e3 e4 e5 e6 e7
              have hgf : ∀ o, wa.frozen? ⟨gg, o, none⟩ = false := own_frozen HAa.out
              clear hx'
              go_upto_region 13 with fail
              obtain ⟨wb, hwb⟩ : ∃ wb, wb = (((((((wa.setCell ⟨gg, m * 8, none⟩ (.int .i64 y1.thread)).setCell ⟨gg, m * 8 + 1, none⟩ (.int .i64 y1.job)).setCell ⟨gg, m * 8 + 2, none⟩ (.int .i64 y1.start)).setCell ⟨gg, m * 8 + 3, none⟩ (.int .i64 y1.fin)).setCell ⟨gg, m * 8 + 4, none⟩ (.int .i64 y1.valid)).setCell ⟨gg, m * 8 + 5, none⟩ (.int .i64 y1.stamp)).setCell ⟨gg, m * 8 + 6, none⟩ (.int .i64 y1.fate)).setCell ⟨gg, m * 8 + 7, none⟩ (.slice ya yn yc) := ⟨_, rfl⟩
              obtain ⟨hAb, hOb⟩ := att_store HAa.out m (HL.out).1 (y1, .slice ya yn yc)
              rw [← hwb] at hAb hOb ⊢
              have HAb : Hid (AttsRow wb w.heap.size (some ⟨gg, 0, none⟩) cap (D.set m (y1, .slice ya yn yc))) := hAb
              have HBb : Hid (Below w.heap.size w wb) := below_onto HBa.out hOb (HL.out).2.2 (HBa.out).size
              have HBkb : Hid (Blk wb n8 63 #[.int .i64 x1.thread, .int .i64 x1.job, .int .i64 x1.start, .int .i64 x1.fin, .int .i64 x1.valid, .int .i64 x1.stamp, .int .i64 x1.fate, .slice xa xn xc]) := (HBk.out).only hOb (Ne.symm hgn)
              have hyb : (D.set m (y1, .slice ya yn yc))[p]? = some (y1, .slice ya yn yc) := by
                rw [List.getElem?_set, if_neg (by have := HM.out; omega)]
                exact HY.out
              clear hwb hAb hOb c0 c1 c2 c3 c4 c5 c6 c7 e0 e1 e2 e3 e4 e5 e6 e7 hgf HAa HBa HBk
              obtain ⟨b2, hb2, hbl2, e0, e1, e2, e3, e4, e5, e6, e7⟩ := AttsRow.at HAb.out p (y1, .slice ya yn yc) hyb
              cases hb2
              simp only at e0 e1 e2 e3 e4 e5 e6 e7
              have hgf : ∀ o, wb.frozen? ⟨gg, o, none⟩ = false := own_frozen HAb.out
              have hbk := (HBkb.out).cell
              clear hyb
              go_wp2_with fail
              obtain ⟨hAd, hOd⟩ := att_store HAb.out p (by rw [List.length_set]; exact (HL.out).2.1) (x1, .slice xa xn xc)
              go_roundg (p + 1)
              case rel => exact ⟨p, (D.set m (y1, .slice ya yn yc)).set p (x1, .slice xa xn xc), rfl, by omega, rfl, HPd, HSl2, hAd, below_onto HBb.out hOd (HL.out).2.2 (HBb.out).size⟩
              case measure => omega
            · have hsb : decide (Sooner x1 y1) = false := by simp [hs]
              have HPd : Hid (D.length = i + 1 ∧ Pass D p G) := ⟨HDl.out, HS2.out hs⟩
              rw [hsb]
              clear hsb c0 c1 c2 c3 c4 c5 c6 c7 e0 e1 e2 e3 e4 e5 e6 e7 hgf HS1 HS2 hs
              go_wp2_with fail
              go_roundg (p + 1)
              case rel => exact ⟨p, D, rfl, by omega, rfl, HPd, HSl, HAc, HBw⟩
              case measure => omega
    · have hie : ¬ (i : Int) < (AN.length : Int) := by omega
      have hin : i = AN.length := by omega
      have HF : Hid (AttsRow wq w.heap.size oa oc (ordP AN.reverse).reverse ∧ Below w.heap.size w wq) := by
        refine ⟨?_, HBx.out⟩
        have h := (HC.out).2
        rw [hin, List.take_length] at h
        rw [← h, List.reverse_reverse]
        exact HRo.out
      clear HC HRo HBx
      subst hin
      go_wp2_with fail
      go_ret
      exact ⟨oa, oc, rfl, (HF.out).1, (HF.out).2⟩

end Go.Proofs.YtejadojilncbjaaGreat

namespace Go.Proofs.YtejadojilncbjaaGreat
set_option linter.unusedVariables false

/-! One order of all attempts, part 8: in the order of places each attempt reads what stands there. -/

theorem overN_at {a : Int} : ∀ (l : List NoteD) (f g : Int → Int), f a = g a → overN l f a = overN l g a
  | [], f, g, h => h
  | n :: r, f, g, h => by
    unfold overN
    refine overN_at r _ _ ?_
    split
    · exact h
    · unfold upd
      split
      · rfl
      · exact h

theorem AttOk.st {K : Cx} {G : Gh} {b : Int} {x : AttD} (A : AttOk K G b x) : 0 ≤ x.stamp ∧ x.stamp ≤ b ∧ x.valid ≤ b ∧ (0 < x.stamp → x.valid < x.stamp) := by
  have := A.va
  rcases A.snd with ⟨p, q, r⟩ | ⟨p, q, r⟩
  · omega
  · omega

theorem proc_ind (K : Cx) (G : Gh) (N : Int) : ∀ (l : List AttD) (n : Int) (f : Int → Int), 0 ≤ n → l.Pairwise Ahd → (∀ x ∈ l, AttOk K G N x) → (l.Pairwise fun a b => a.stamp ≠ 0 → a.stamp ≠ b.stamp) →
    (∀ x ∈ l, 0 < x.stamp → n < x.stamp) → (∀ x ∈ l, x.stamp = 0 → n ≤ x.valid) → (∀ v, n < v → v ≤ N → ∃ x ∈ l, x.stamp = v) → (∀ a, 0 ≤ a → a < K.c.wd → f a = G.W n a) →
    (∀ x ∈ l, ∀ y ∈ l, 0 < y.fin → y.fin < x.start → Ahd y x) → procOk f l
  | [], n, f, _, _, _, _, _, _, _, _, _ => trivial
  | x :: r, n, f, n0, hs, ha, hu, h1, h2, h3, hf, ht => by
    have A := ha x List.mem_cons_self
    have hst := A.st
    have hsx := List.pairwise_cons.1 hs
    have hux := List.pairwise_cons.1 hu
    have later : ∀ v, n < v → v ≤ N → x.stamp ≠ v → ∃ y ∈ r, y.stamp = v := fun v v1 v2 hne => by
      obtain ⟨y, hy, e⟩ := h3 v v1 v2
      rcases List.mem_cons.1 hy with q | q
      · rw [q] at e; exact absurd e hne
      · exact ⟨y, q, e⟩
    have real : ∀ y ∈ r, ¬ (0 < y.fin ∧ y.fin < x.start) := fun y hy q => by
      have a1 := ht x List.mem_cons_self y (List.mem_cons_of_mem _ hy) q.1 q.2
      have a2 := hsx.1 y hy
      unfold Ahd Sooner at a1 a2
      omega
    have rr : ∀ (m : Int) (g : Int → Int), 0 ≤ m → (∀ y ∈ r, 0 < y.stamp → m < y.stamp) → (∀ y ∈ r, y.stamp = 0 → m ≤ y.valid) → (∀ v, m < v → v ≤ N → ∃ y ∈ r, y.stamp = v) → (∀ a, 0 ≤ a → a < K.c.wd → g a = G.W m a) → procOk g r := fun m g m0 g1 g2 g3 g4 =>
      proc_ind K G N r m g m0 hsx.2 (fun y hy => ha y (List.mem_cons_of_mem _ hy)) hux.2 g1 g2 g3 g4 (fun p hp q hq => ht p (List.mem_cons_of_mem _ hp) q (List.mem_cons_of_mem _ hq))
    unfold procOk
    by_cases hp : 0 < x.stamp
    · have hn := h1 x List.mem_cons_self hp
      have e : x.stamp = n + 1 := by
        by_cases q : x.stamp = n + 1
        · exact q
        · obtain ⟨y, hy, e⟩ := later (n + 1) (by omega) (by omega) q
          have a2 := hsx.1 y hy
          unfold Ahd Sooner plA plB at a2
          rw [if_pos hp, if_pos hp, if_pos (by omega), if_pos (by omega)] at a2
          omega
      have hA : fOk x.notes (G.W (x.stamp - 1)) ∧ ∀ a, 0 ≤ a → a < K.c.wd → overN x.notes (G.W (x.stamp - 1)) a = G.W x.stamp a := by
        rcases A.snd with q | q
        · omega
        · exact ⟨q.2.2.1, q.2.2.2⟩
      rw [show x.stamp - 1 = n from by omega] at hA
      rw [if_pos hp]
      refine ⟨fOk_congr _ _ _ (fun m hm => (hf _ (A.inn m hm).2.1 (A.inn m hm).2.2).symm) hA.1, real, rr (n + 1) _ (by omega) (fun y hy q => ?_) (fun y hy q => ?_) (fun v v1 v2 => later v (by omega) v2 (by omega)) (fun a a0 a1 => ?_)⟩
      · have a2 := hsx.1 y hy
        have a3 := hux.1 y hy (by omega)
        unfold Ahd Sooner plA plB at a2
        rw [if_pos hp, if_pos hp, if_pos q, if_pos q] at a2
        omega
      · have a2 := hsx.1 y hy
        unfold Ahd Sooner plA plB at a2
        rw [if_pos hp, if_pos hp, if_neg (by omega), if_neg (by omega)] at a2
        omega
      · rw [overN_at x.notes f (G.W n) (hf a a0 a1), hA.2 a a0 a1, e]
    · have z : x.stamp = 0 := by omega
      have hn := h2 x List.mem_cons_self z
      have e : x.valid = n := by
        by_cases q : x.valid = n
        · exact q
        · obtain ⟨y, hy, e⟩ := later (n + 1) (by omega) (by omega) (by omega)
          have a2 := hsx.1 y hy
          unfold Ahd Sooner plA plB at a2
          rw [if_neg hp, if_neg hp, if_pos (by omega), if_pos (by omega)] at a2
          omega
      have hA : fOk x.notes (G.W x.valid) := by
        rcases A.snd with q | q
        · exact q.2.2
        · omega
      rw [e] at hA
      rw [if_neg hp]
      exact ⟨fOk_congr _ _ _ (fun m hm => (hf _ (A.inn m hm).2.1 (A.inn m hm).2.2).symm) hA, real, rr n f n0 (fun y hy => h1 y (List.mem_cons_of_mem _ hy)) (fun y hy => h2 y (List.mem_cons_of_mem _ hy)) (fun v v1 v2 => later v v1 v2 (by omega)) hf⟩

/-- What ended before another one began is ahead of it. -/
theorem real_time {R : Rn} (O : R.Ok) {x y : AttD} (hx : x ∈ R.hist) (hy : y ∈ R.hist) (h1 : 0 < y.fin) (h2 : y.fin < x.start) : Ahd y x := by
  obtain ⟨t, t0, t1, hx'⟩ := (hist_mem O).1 hx
  obtain ⟨u, u0, u1, hy'⟩ := (hist_mem O).1 hy
  have X := att_t O _ t t0 t1 hx'
  have Y := att_t O _ u u0 u1 hy'
  have AX : AttOk (R.K t) (R.gh R.ps.length) (R.clk R.ps.length) x := att_at O.c O.w O.m R.jobs R.ps _ t t0 t1 x hx'
  have AY : AttOk (R.K u) (R.gh R.ps.length) (R.clk R.ps.length) y := att_at O.c O.w O.m R.jobs R.ps _ u u0 u1 y hy'
  have sx := AX.st
  have sy := AY.st
  rcases Y.en with e | e
  · omega
  · have m := Rn.clk_mono O (j := (y.fin - 1).toNat) (k := (x.start - 1).toNat) (by omega)
    have v1 := X.vl
    have v2 := e.2.2.2.2.2.2
    have v3 := e.1
    have p1 : plA y ≤ x.valid := by unfold plA; split <;> omega
    have p2 : x.valid ≤ plA x ∧ (0 < x.stamp → x.valid < plA x) := by unfold plA; split <;> omega
    have p3 : 0 ≤ plB y ∧ plB y ≤ 1 := by unfold plB; split <;> omega
    have p4 : ¬ 0 < x.stamp → plB x = 1 := fun h => by unfold plB; rw [if_neg h]
    unfold Ahd Sooner
    by_cases hs : 0 < x.stamp
    · have := p2.2 hs
      omega
    · have := p4 hs
      omega

theorem stamp_un {R : Rn} (O : R.Ok) {x y : AttD} (hx : x ∈ R.hist) (hy : y ∈ R.hist) (h : x.stamp ≠ 0) (e : x.stamp = y.stamp) : x.start = y.start := by
  obtain ⟨t, t0, t1, hx'⟩ := (hist_mem O).1 hx
  obtain ⟨u, u0, u1, hy'⟩ := (hist_mem O).1 hy
  exact ((sti_at O R.ps.length).un t u t0 t1 u0 u1 (er x) (List.mem_map.2 ⟨x, hx', rfl⟩) (er y) (List.mem_map.2 ⟨y, hy', rfl⟩) h e).2
theorem stamp_ex {R : Rn} (O : R.Ok) {v : Int} (v1 : 1 ≤ v) (v2 : v ≤ R.clk R.ps.length) : ∃ x ∈ R.hist, x.stamp = v := by
  obtain ⟨t, t0, t1, a, ha, e⟩ := (sti_at O R.ps.length).ex v v1 v2
  obtain ⟨b, hb, e2⟩ := er_mem ha
  refine ⟨b, (hist_mem O).2 ⟨t, t0, t1, hb⟩, ?_⟩
  rw [← e, e2]
  rfl

theorem hist_ok {R : Rn} (O : R.Ok) {x : AttD} (hx : x ∈ R.hist) : AttOk (R.K 0) (R.gh R.ps.length) (R.clk R.ps.length) x := by
  obtain ⟨t, t0, t1, hx'⟩ := (hist_mem O).1 hx
  have A : AttOk (R.K t) (R.gh R.ps.length) (R.clk R.ps.length) x := att_at O.c O.w O.m R.jobs R.ps _ t t0 t1 x hx'
  exact ⟨A.inn, A.va, A.snd⟩

/-- THE TOP ONE: all attempts, one behind the other in the order of their places. -/
theorem opaque_ord {R : Rn} (O : R.Ok) (f : Int → Int) (hf : ∀ a, 0 ≤ a → a < R.c.wd → f a = (R.gh R.ps.length).W 0 a) : procOk f R.ord := by
  have hm : ∀ {x}, x ∈ R.ord → x ∈ R.hist := fun h => (hord_mem _).1 h
  refine proc_ind (R.K 0) (R.gh R.ps.length) (R.clk R.ps.length) R.ord 0 f (Int.le_refl _) (hord_srt O) (fun x hx => hist_ok O (hm hx)) ?_ (fun x _ h => h) (fun x hx _ => (hist_ok O (hm hx)).va) (fun v v1 v2 => ?_) hf (fun x hx y hy h1 h2 => real_time O (hm hx) (hm hy) h1 h2)
  · refine (hord_srt O).imp_of_mem fun {a b} ha hb h hs e => ?_
    have s := stamp_un O (hm ha) (hm hb) hs e
    have A := (hist_ok O (hm ha)).st
    unfold Ahd Sooner plA plB at h
    rw [if_pos (by omega), if_pos (by omega), if_pos (by omega), if_pos (by omega)] at h
    omega
  · obtain ⟨x, hx, e⟩ := stamp_ex O (v := v) (by omega) v2
    exact ⟨x, (hord_mem _).2 hx, e⟩

end Go.Proofs.YtejadojilncbjaaGreat
