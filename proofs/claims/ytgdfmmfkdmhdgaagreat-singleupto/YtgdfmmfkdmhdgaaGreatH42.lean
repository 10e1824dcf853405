import Derived.Test.YtgdfmmfkdmhdgaaGreatH03
import Derived.Test.YtgdfmmfkdmhdgaaGreatH41
import Derived.Test.YtgdfmmfkdmhdgaaGreatH26
namespace Go.Proofs.YtgdfmmfkdmhdgaaGreat
open Go.RowKit
set_option linter.unusedVariables false
attribute [local go_sem ↓] Go.wp_at_zero Go.wp_at_succ

theorem make_end {w wr : World} {rb nb : Nat} {cs : Array Value} {D : List Int} (hne : nb ≠ rb) (hr : Blk wr rb 46 cs) (hcs : cs.size = 4) (hO : Only nb w wr) (hrb : w.heap.size ≤ rb) (hp : Blk wr nb 3 (D.map (Value.int .i64 ·)).toArray) (a b c d : Value) :
    ((((wr.setCell ⟨rb, 0, none⟩ a).setCell ⟨rb, 1, none⟩ b).setCell ⟨rb, 2, none⟩ c).setCell ⟨rb, 3, none⟩ d).cell? ⟨rb, 0, none⟩ = some a ∧
    ((((wr.setCell ⟨rb, 0, none⟩ a).setCell ⟨rb, 1, none⟩ b).setCell ⟨rb, 2, none⟩ c).setCell ⟨rb, 3, none⟩ d).cell? ⟨rb, 1, none⟩ = some b ∧
    ((((wr.setCell ⟨rb, 0, none⟩ a).setCell ⟨rb, 1, none⟩ b).setCell ⟨rb, 2, none⟩ c).setCell ⟨rb, 3, none⟩ d).cell? ⟨rb, 2, none⟩ = some c ∧
    ((((wr.setCell ⟨rb, 0, none⟩ a).setCell ⟨rb, 1, none⟩ b).setCell ⟨rb, 2, none⟩ c).setCell ⟨rb, 3, none⟩ d).cell? ⟨rb, 3, none⟩ = some d ∧
    Blk ((((wr.setCell ⟨rb, 0, none⟩ a).setCell ⟨rb, 1, none⟩ b).setCell ⟨rb, 2, none⟩ c).setCell ⟨rb, 3, none⟩ d) nb 3 (D.map (Value.int .i64 ·)).toArray ∧
    Only nb w ((((wr.setCell ⟨rb, 0, none⟩ a).setCell ⟨rb, 1, none⟩ b).setCell ⟨rb, 2, none⟩ c).setCell ⟨rb, 3, none⟩ d) := by
  have hs := hr.set (i := 0) (v := a) |>.set (i := 1) (v := b) |>.set (i := 2) (v := c) |>.set (i := 3) (v := d)
  have ho : Only rb wr ((((wr.setCell ⟨rb, 0, none⟩ a).setCell ⟨rb, 1, none⟩ b).setCell ⟨rb, 2, none⟩ c).setCell ⟨rb, 3, none⟩ d) := ((((Only.refl _ _).set).set).set).set
  refine ⟨by rw [hs.cell]; simp [hcs], by rw [hs.cell]; simp [hcs], by rw [hs.cell]; simp [hcs], by rw [hs.cell]; simp [hcs], hp.only ho hne, ?_⟩
  exact ⟨ho.os.trans hO.os, ho.tape.trans hO.tape, ho.output.trans hO.output, Nat.le_trans hO.size ho.size, fun k hk h2 => (ho.block k (Nat.lt_of_lt_of_le hk hO.size) (by omega)).trans (hO.block k hk h2)⟩

/-- What Make leaves: the access it tells, the cell as it stands then. -/
def MadeIs (nb : Nat) (D : List Int) (k : Nat) (q : AskD) (w : World) (e : Ending) (w' : World) : Prop :=
  e = .returned (.agg #[.int .i64 q.kind, .int .i64 q.cell, .int .i64 (D.getD k 0), .int .i64 (putV q (D.getD k 0))]) ∧ Blk w' nb 3 ((D.set k (putV q (D.getD k 0))).map (Value.int .i64 ·)).toArray ∧ Only nb w w'

set_option maxRecDepth 100000 in
set_option maxHeartbeats 8000000 in
theorem make_any (cb co nb cap k : Nat) (D : List Int) (kind frm into : Int) (w : World) (hc : w.cell? ⟨cb, co, none⟩ = some (.slice (some ⟨nb, 0, none⟩) D.length cap)) (hcb : cb < w.heap.size) (hcn : cb ≠ nb)
    (hD : Blk w nb 3 (D.map (Value.int .i64 ·)).toArray) (hk : k < D.length) (hv1 : -1 ≤ D.getD k 0) (hv2 : D.getD k 0 ≤ 1125899906842624) (hkd : 1 ≤ kind ∧ kind ≤ 4) :
    Calls Tryz.prog 44 #[.pointer (some ⟨cb, co, none⟩), .agg #[.int .i64 kind, .int .i64 (k : Int), .int .i64 frm, .int .i64 into]] w (MadeIs nb D k ⟨kind, k, frm, into⟩ w) := by
  have hdc : w.cell? ⟨nb, k, none⟩ = some (.int .i64 (D.getD k 0)) := by
    rw [hD.cell]
    simp [List.getElem?_eq_getElem hk, List.getD]
  have hdf := hD.frozen k
  have HD : Hid (Blk w nb 3 (D.map (Value.int .i64 ·)).toArray) := hD
  have hnb := hD.lt
  have hcn1 : cb ≠ w.heap.size := by omega
  have hcn2 : cb ≠ w.heap.size + 1 := by omega
  have hnb1 : nb ≠ w.heap.size := by omega
  have hnb2 : nb ≠ w.heap.size + 1 := by omega
  have hcb1 : cb < w.heap.size + 1 := by omega
  have hnb3 : nb < w.heap.size + 1 := by omega
  have hk0 : (0 : Int) ≤ (k : Int) := by omega
  have hk1 : (k : Int) < (D.length : Int) := by omega
  obtain ⟨sv, HSV⟩ : ∃ sv, Hid (D.getD k 0 = sv) := ⟨_, rfl⟩
  rw [show D.getD k 0 = sv from HSV.out] at hdc hv1 hv2
  have hw1 : IntKind.i64.wrap (sv + 1) = sv + 1 := wrapP _ (by omega) (by omega)
  obtain ⟨pv, HPV⟩ : ∃ pv, Hid (putV ⟨kind, k, frm, into⟩ sv = pv) := ⟨_, rfl⟩
  have HG : Hid (∀ e w', e = .returned (.agg #[.int .i64 kind, .int .i64 (k : Int), .int .i64 sv, .int .i64 pv]) ∧ Blk w' nb 3 ((D.set k pv).map (Value.int .i64 ·)).toArray ∧ Only nb w w' → MadeIs nb D k ⟨kind, k, frm, into⟩ w e w') := fun e w' h => by
    unfold MadeIs
    rw [show D.getD k 0 = sv from HSV.out, show putV ⟨kind, k, frm, into⟩ sv = pv from HPV.out]
    exact h
  have hcases : (kind = 1 ∧ pv = sv) ∨ (kind = 2 ∧ pv = into) ∨ (kind = 3 ∧ sv = frm ∧ pv = into) ∨ (kind = 3 ∧ sv ≠ frm ∧ pv = sv) ∨ (kind = 4 ∧ pv = sv + 1) := by
    have h := HPV.out
    unfold putV at h
    simp only at h
    by_cases k2 : kind = 2
    · rw [if_pos k2] at h; exact Or.inr (Or.inl ⟨k2, h.symm⟩)
    rw [if_neg k2] at h
    by_cases k4 : kind = 4
    · rw [if_pos k4] at h; exact Or.inr (Or.inr (Or.inr (Or.inr ⟨k4, h.symm⟩)))
    rw [if_neg k4] at h
    by_cases k3 : kind = 3
    · rw [if_pos k3] at h
      by_cases hs : sv = frm
      · rw [if_pos hs] at h; exact Or.inr (Or.inr (Or.inl ⟨k3, hs, h.symm⟩))
      · rw [if_neg hs] at h; exact Or.inr (Or.inr (Or.inr (Or.inl ⟨k3, hs, h.symm⟩)))
    · rw [if_neg k3] at h; exact Or.inl ⟨by omega, h.symm⟩
  refine Calls.mono (R := fun e w' => e = .returned (.agg #[.int .i64 kind, .int .i64 (k : Int), .int .i64 sv, .int .i64 pv]) ∧ Blk w' nb 3 ((D.set k pv).map (Value.int .i64 ·)).toArray ∧ Only nb w w') ?_ HG.out
  clear hD HSV HPV HG hkd
  go_enter Tryz.func44, Tryz.ntmps44
  go_wp2_with fail
  obtain ⟨w1, hw1'⟩ : ∃ w1, w1 = (w.alloc (.cells #[.int .i64 kind, .int .i64 (k : Int), .int .i64 frm, .int .i64 into] 78)).alloc (.cells #[.int .i64 0, .int .i64 0, .int .i64 0, .int .i64 0] 46) := ⟨_, rfl⟩
  obtain ⟨ob, hob⟩ : ∃ ob, ob = w.heap.size := ⟨_, rfl⟩
  have hB1 : Below w.heap.size w w1 := by rw [hw1']; exact ((Below.refl _ _).alloc (Nat.le_refl _) _).alloc (by simp) _
  have HO1 : Hid (Blk w1 ob 78 #[.int .i64 kind, .int .i64 (k : Int), .int .i64 frm, .int .i64 into]) := by rw [hw1', hob]; exact (Blk.new w 78 _).alloc _
  have HR1 : Hid (Blk w1 (ob + 1) 46 #[.int .i64 0, .int .i64 0, .int .i64 0, .int .i64 0]) := by
    have := Blk.new (w.alloc (.cells #[.int .i64 kind, .int .i64 (k : Int), .int .i64 frm, .int .i64 into] 78)) 46 #[.int .i64 0, .int .i64 0, .int .i64 0, .int .i64 0]
    rw [hw1', hob]
    exact (by simpa using this : Blk _ (w.heap.size + 1) 46 _)
  have HD1 : Hid (Blk w1 nb 3 (D.map (Value.int .i64 ·)).toArray) := (HD.out).below hB1 hnb
  have HOn : Hid (Only nb w w1) := Only.below hB1
  have hc1 : w1.cell? ⟨cb, co, none⟩ = some (.slice (some ⟨nb, 0, none⟩) D.length cap) := (World.cell?_of_block (hB1.block cb hcb)).trans hc
  have HCb : Hid (cb < w1.heap.size) := Nat.lt_of_lt_of_le hcb hB1.size
  have HOb : Hid (w.heap.size = ob ∧ nb < ob ∧ cb < ob) := ⟨hob.symm, by omega, by omega⟩
  have hdc1 : w1.cell? ⟨nb, k, none⟩ = some (.int .i64 sv) := (World.cell?_of_block (hB1.block nb hnb)).trans hdc
  have hoc := (HO1.out).cell
  rw [← hw1', ← hob]
  clear hw1' hob hB1 hdc hc hcb hnb hdf hcn1 hcn2 hnb1 hnb2 hcb1 hnb3
  go_quiet (fail)
  have hoc2 := ((HO1.out).drewN nq).cell
  have hc2 : (w1.drewN nq).cell? ⟨cb, co, none⟩ = some (.slice (some ⟨nb, 0, none⟩) D.length cap) := hc1
  have hdc2 : (w1.drewN nq).cell? ⟨nb, k, none⟩ = some (.int .i64 sv) := hdc1
  have HO2 : Hid (Blk (w1.drewN nq) ob 78 #[.int .i64 kind, .int .i64 (k : Int), .int .i64 frm, .int .i64 into]) := (HO1.out).drewN nq
  have HR2 : Hid (Blk (w1.drewN nq) (ob + 1) 46 #[.int .i64 0, .int .i64 0, .int .i64 0, .int .i64 0]) := (HR1.out).drewN nq
  have HD2 : Hid (Blk (w1.drewN nq) nb 3 (D.map (Value.int .i64 ·)).toArray) := (HD1.out).drewN nq
  have HOn2 : Hid (Only nb w (w1.drewN nq)) := (HOn.out).drewN nq
  clear HO1 HR1 HD1 HOn hoc hc1 hdc1 HCb HD
  generalize w1.drewN nq = w2 at *
  have hf2 := (HD2.out).frozen k
  have hrc := (HR2.out).cell
  have hrf := (HR2.out).frozen
  obtain ⟨hobe, hno, hco⟩ := HOb.out
  have hne : nb ≠ ob + 1 := by omega
  have hne2 : nb ≠ ob := by omega
  have hne3 : ob ≠ nb := by omega
  have hne4 : ob + 1 ≠ nb := by omega
  have hrb : w.heap.size ≤ ob + 1 := by omega
  have HR3 : Hid (Blk (w2.setCell ⟨nb, k, none⟩ (.int .i64 pv)) (ob + 1) 46 #[.int .i64 0, .int .i64 0, .int .i64 0, .int .i64 0]) := (HR2.out).only ((Only.refl _ _).set) hne4
  have HD3 : Hid (Blk (w2.setCell ⟨nb, k, none⟩ (.int .i64 pv)) nb 3 ((D.set k pv).map (Value.int .i64 ·)).toArray) := blk_set HD2.out
  have HOn3 : Hid (Only nb w (w2.setCell ⟨nb, k, none⟩ (.int .i64 pv))) := (HOn2.out).set
  clear hobe hno hco HOb HR2 HD2 HOn2 HO2
  rcases hcases with ⟨rfl, rfl⟩ | ⟨rfl, rfl⟩ | ⟨rfl, rfl, rfl⟩ | ⟨rfl, hs, rfl⟩ | ⟨rfl, hp⟩
  · go_wp2_with fail
    go_region
    all_goals
      go_wp2
      obtain ⟨e0, e1, e2, e3, hB, hO⟩ := make_end hne HR3.out rfl HOn3.out hrb HD3.out (.int .i64 1) (.int .i64 (k : Int)) (.int .i64 pv) (.int .i64 pv)
      exact bodyPost_ret (v := .agg #[.int .i64 1, .int .i64 (k : Int), .int .i64 pv, .int .i64 pv]) (by simp [results, Tryz.results44, go_sem, e0, e1, e2, e3]) rfl ⟨rfl, hB, hO.drew⟩
  · go_wp2_with fail
    go_region
    all_goals
      go_wp2
      obtain ⟨e0, e1, e2, e3, hB, hO⟩ := make_end hne HR3.out rfl HOn3.out hrb HD3.out (.int .i64 2) (.int .i64 (k : Int)) (.int .i64 sv) (.int .i64 pv)
      exact bodyPost_ret (v := .agg #[.int .i64 2, .int .i64 (k : Int), .int .i64 sv, .int .i64 pv]) (by simp [results, Tryz.results44, go_sem, e0, e1, e2, e3]) rfl ⟨rfl, hB, hO.drew⟩
  · go_wp2_with fail
    go_region
    all_goals
      go_wp2
      obtain ⟨e0, e1, e2, e3, hB, hO⟩ := make_end hne HR3.out rfl HOn3.out hrb HD3.out (.int .i64 3) (.int .i64 (k : Int)) (.int .i64 sv) (.int .i64 pv)
      exact bodyPost_ret (v := .agg #[.int .i64 3, .int .i64 (k : Int), .int .i64 sv, .int .i64 pv]) (by simp [results, Tryz.results44, go_sem, e0, e1, e2, e3]) rfl ⟨rfl, hB, hO.drew⟩
  · have hsb : (pv == frm) = false := by simpa using hs
    go_wp2_with fail
    go_region
    all_goals
      go_wp2
      obtain ⟨e0, e1, e2, e3, hB, hO⟩ := make_end hne HR3.out rfl HOn3.out hrb HD3.out (.int .i64 3) (.int .i64 (k : Int)) (.int .i64 pv) (.int .i64 pv)
      exact bodyPost_ret (v := .agg #[.int .i64 3, .int .i64 (k : Int), .int .i64 pv, .int .i64 pv]) (by simp [results, Tryz.results44, go_sem, e0, e1, e2, e3]) rfl ⟨rfl, hB, hO.drew⟩
  · subst hp
    go_wp2_with fail
    go_region
    all_goals
      go_wp2
      obtain ⟨e0, e1, e2, e3, hB, hO⟩ := make_end hne HR3.out rfl HOn3.out hrb HD3.out (.int .i64 4) (.int .i64 (k : Int)) (.int .i64 sv) (.int .i64 (sv + 1))
      exact bodyPost_ret (v := .agg #[.int .i64 4, .int .i64 (k : Int), .int .i64 sv, .int .i64 (sv + 1)]) (by simp [results, Tryz.results44, go_sem, e0, e1, e2, e3]) rfl ⟨rfl, hB, hO.drew⟩

end Go.Proofs.YtgdfmmfkdmhdgaaGreat
