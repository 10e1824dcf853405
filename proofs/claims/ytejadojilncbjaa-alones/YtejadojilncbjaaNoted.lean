import Derived.Test.YtejadojilncbjaaRows2
import Derived.BigRegion
import Derived.Deep.RegionLaw
namespace Go.Proofs.Ytejadojilncbjaa
open Go.RowKit
set_option linter.unusedVariables false
attribute [local go_sem ↓] Go.wp_at_zero Go.wp_at_succ

theorem Try.info158 : (Try.prog.info? 158).map (fun i => (i.zero, i.size, i.bytes)) = some (some (.agg #[.int .i64 0, .int .i64 0, .int .i64 0]), 3, 24) := by kernel_rfl

theorem noted_close {E : Env} {H : Hd} {B p eb : Nat} {s : LS} {op addr val : Int} {w w0 w1 : World} {g lc n : Nat} {nvs : List Value} {a : AttD} {nv : Value} {gn cap : Nat} (hL : LifeR E H B p eb w s) (hb : Blk w p 78 (lifeArr E H (some ⟨g, 0, none⟩) lc s))
    (hl : nvs.length = s.list.length)
    (ho : w.ownsRow B 109 8 (.slice (some ⟨g, 0, none⟩) s.list.length lc) s.list.length (rowCells s.list nvs)) (hno : ∀ (i : Nat) (a : AttD) (nv : Value), s.list[i]? = some a → nvs[i]? = some nv → w.ownsRow B 158 3 nv a.notes.length (a.notes.flatMap noteCells))
    (hd : ∀ (i j : Nat) (u v : Value) (k : Nat), nvs[i]? = some u → nvs[j]? = some v → u.ownBlock = some k → v.ownBlock = some k → i = j) (hn : s.list.length = n + 1) (ha : s.list[n]? = some a) (hv : nvs[n]? = some nv)
    (hb0 : Below w.heap.size w w0) (hgr : w0.grownBy w1 nv.ownBlock) (hown : w1.ownsRow B 158 3 (.slice (some ⟨gn, 0, none⟩) (a.notes.length + 1) cap) (a.notes.length + 1) (a.notes.flatMap noteCells ++ [.int .i64 op, .int .i64 addr, .int .i64 val]))
    (hat : nv.ownBlock = some gn ∨ gn = w.heap.size + 1) :
    LifeR E H B p eb (w1.setCell ⟨g, n * 8 + 7, none⟩ (.slice (some ⟨gn, 0, none⟩) (a.notes.length + 1) cap)) (mNoted s op addr val) ∧ Kp [109, 158] B p eb w (w1.setCell ⟨g, n * 8 + 7, none⟩ (.slice (some ⟨gn, 0, none⟩) (a.notes.length + 1) cap)) := by
  have hB := hL.stat.size
  have hk0 : Kp [109, 158] B p eb w w0 := Kp.below hb0 hB
  have ho0 : w0.ownsRow B 158 3 nv a.notes.length (a.notes.flatMap noteCells) := ownsRow_keep (hno n a nv ha hv) (Kp.below (chg := []) (p := 0) (eb := 0) hb0 hB) (by simp)
  have hk1 : Kp [158] B p eb w0 w1 := Kp.grown hgr (Nat.le_trans hB hb0.size) ho0 (by simp)
  have ho1 : w1.ownsRow B 109 8 (.slice (some ⟨g, 0, none⟩) s.list.length lc) s.list.length (rowCells s.list nvs) := ownsRow_keep (ownsRow_keep ho (Kp.below (chg := []) (p := 0) (eb := 0) hb0 hB) (by simp)) hk1 (by simp)
  obtain ⟨g', cap', cur, hv', hgB, hgb, _⟩ := own_block ho1 (by omega)
  simp at hv'
  obtain ⟨rfl, rfl⟩ := hv'
  have hk2 : Kp [109, 158] B p eb w1 (w1.setCell ⟨g, n * 8 + 7, none⟩ (.slice (some ⟨gn, 0, none⟩) (a.notes.length + 1) cap)) := Kp.only (Only.refl _ _).set (by have := hb0.size; have := hgr.size; omega) hgb (by simp) (Or.inr (Or.inr hgB))
  have hk := hk0.trans ((hk1.wide (by simp)).trans hk2)
  refine ⟨⟨hL.stat.keep hk, ⟨some ⟨g, 0, none⟩, lc, ?_, ?_⟩, hL.ends.imp id (fun ⟨x, y⟩ => ⟨x, y.keep hk (by simp)⟩), hL.pB, hL.eB, hL.pe⟩, hk⟩
  · have := hb.keep hk (by simp)
    refine this.congr ?_
    simp [lifeArr, mNoted, modLast]
  · exact ListRep.note hl ho hno hd hn ha hv hb0 hB hgr hown (hat.imp id (fun h => by omega))

set_option maxRecDepth 100000 in
set_option maxHeartbeats 3200000 in
theorem noted_any (E : Env) (H : Hd) (B p eb : Nat) (s : LS) (op addr val : Int) (w : World) (hL : LifeR E H B p eb w s) (hne : s.list ≠ []) (hlen : s.list.length ≤ 2 ^ 42)
    (hnl : ∀ a ∈ s.list, a.notes.length ≤ 2 ^ 40) :
    Calls Try.prog 92 #[.pointer (some ⟨p, 0, none⟩), .int .i64 op, .int .i64 addr, .int .i64 val] w fun e w' =>
      e = .returned (.tuple #[]) ∧ LifeR E H B p eb w' (mNoted s op addr val) ∧ Kp [109, 158] B p eb w w' := by
  obtain ⟨i0, hi0, hz0, hz1, hz2⟩ := info_parts Try.info158
  obtain ⟨la, lc, hb, nvs, hl, ho, hno, hd⟩ := hL.life
  obtain ⟨n, hn⟩ : ∃ n, s.list.length = n + 1 := ⟨s.list.length - 1, by have := List.length_pos_iff.2 hne; omega⟩
  obtain ⟨a, ha⟩ : ∃ a, s.list[n]? = some a := ⟨s.list[n]'(by omega), List.getElem?_eq_getElem (by omega)⟩
  obtain ⟨nv, hv⟩ : ∃ nv, nvs[n]? = some nv := ⟨nvs[n]'(by omega), List.getElem?_eq_getElem (by omega)⟩
  obtain ⟨g, cap, cur, hgv, hgB, hgb, r1, r2, r3, r4⟩ := own_block ho (by omega)
  simp at hgv
  obtain ⟨rfl, rfl⟩ := hgv
  have hnlen : a.notes.length ≤ 2 ^ 40 := hnl a (List.mem_of_getElem? ha)
  have hown := hno n a nv ha hv
  have hc7 : w.cell? ⟨g, n * 8 + 7, none⟩ = some nv := by
    rw [hgb.cell]
    have e1 : (rowCells s.list nvs)[n * 8 + 7]? = some nv := by
      unfold rowCells
      rw [flat_at (n := 8) (fun _ => rfl) _ n 7 (by omega)]
      have : (s.list.zip nvs)[n]? = some (a, nv) := by rw [List.getElem?_zip_eq_some]; exact ⟨ha, hv⟩
      rw [this]; rfl
    rw [← e1, ← r4, List.getElem?_take, if_pos (by omega), Array.getElem?_toList]
  have hf7 : w.frozen? ⟨g, n * 8 + 7, none⟩ = false := hgb.frozen _
  have hc21 : w.cell? ⟨p, 21, none⟩ = some (.slice (some ⟨g, 0, none⟩) (n + 1) lc) := by rw [hb.cell]; simp [lifeArr, hn]
  obtain ⟨na, ncap, hnv⟩ : ∃ na ncap, nv = .slice na a.notes.length ncap := by
    rcases hown.2 with ⟨h1, h2⟩ | ⟨g', c', _, h1, _⟩
    · exact ⟨none, 0, by rw [h1, h2]⟩
    · exact ⟨_, c', h1⟩
  have hlt21 := block_lt hc21
  have hlt7 := block_lt hc7
  have hgne : nv.ownBlock ≠ some g := fun e => by
    rcases hown.2 with ⟨h1, _⟩ | ⟨g', c', cur', h1, _, h2, _⟩
    · rw [h1] at e; simp [Value.ownBlock] at e
    · rw [h1] at e; simp [Value.ownBlock] at e; subst e
      exact Blk.ne (show Blk w g' 158 cur' from h2) hgb (by decide) rfl
  have hpne : nv.ownBlock ≠ some p := fun e => by
    rcases hown.2 with ⟨h1, _⟩ | ⟨g', c', cur', h1, _, h2, _⟩
    · rw [h1] at e; simp [Value.ownBlock] at e
    · rw [h1] at e; simp [Value.ownBlock] at e; subst e
      exact Blk.ne (show Blk w g' 158 cur' from h2) hb (by decide) rfl
  have hpg : p ≠ g := Blk.ne hb hgb (by decide)
  have hgp : g ≠ p := fun e => hpg e.symm
  have hI0 : (0 : Int) ≤ (n : Int) := Int.natCast_nonneg _
  have hI1 : (n : Int) < ((n + 1 : Nat) : Int) := by omega
  have hn42 : (n : Int) ≤ 4398046511104 := by omega
  have hI2 : (n : Int) < (n : Int) + 1 := by omega
  have HL : Hid (LifeR E H B p eb w s) := hL
  have HN : Hid (s.list.length = n + 1) := hn
  have HNV : Hid (nv = .slice na a.notes.length ncap) := hnv
  have HA : Hid (s.list[n]? = some a) := ha
  have HV : Hid (nvs[n]? = some nv) := hv
  have HNL : Hid (nvs.length = s.list.length) := hl
  have HO : Hid (w.ownsRow B 109 8 (.slice (some ⟨g, 0, none⟩) s.list.length lc) s.list.length (rowCells s.list nvs)) := ho
  have HNO : Hid (∀ (i : Nat) (a : AttD) (nv : Value), s.list[i]? = some a → nvs[i]? = some nv → w.ownsRow B 158 3 nv a.notes.length (a.notes.flatMap noteCells)) := hno
  have HD : Hid (∀ (i j : Nat) (u v : Value) (k : Nat), nvs[i]? = some u → nvs[j]? = some v → u.ownBlock = some k → v.ownBlock = some k → i = j) := hd
  have HBk : Hid (Blk w p 78 (lifeArr E H (some ⟨g, 0, none⟩) lc s)) := hb
  have HW : Hid (w.ownsRow B 158 3 nv a.notes.length (a.notes.flatMap noteCells)) := hown
  have hBs := hL.stat.size
  clear hL hn hnv ha hv hl ho hno hd hb hown hgb r1 r2 r3 r4 hnl hne hlen
  go_enter Try.func92, Try.ntmps92
  go_wp2_with fail
  go_region_law
    ((refine step_append_lies _ (by rfl) _ _ _ (by rfl) B 158 i0 _ 3 24 Try.underlying107 hi0 hz0 hz1 hz2 rfl (by omega) nv a.notes.length (a.notes.flatMap noteCells) (by rfl) (((HW.out).alloc _).drew)
        ⟨w.heap.size, 0, none⟩ 1 1 [.int .i64 op, .int .i64 addr, .int .i64 val] (by rfl) (by rfl) (World.news_of_block (cs := #[.int .i64 op, .int .i64 addr, .int .i64 val]) (t := 158) (fr := (0, 0)) (heap_alloc_new w _)) (by simp [Value.oneCell'])
        (by omega) (by unfold maxLen; omega) (by omega) (by simp; omega) (w.heap.size + 1) (by simp) ?_; intro gg cap w1 hown1 hgrow hat hlt;
        have hd21 : w1.cell? ⟨p, 21, none⟩ = some (.slice (some ⟨g, 0, none⟩) (n + 1) lc) := (by rw [hgrow.cell_far _ (by simp; omega) (Ne.symm hpne)]; simpa [World.cell?_alloc_lt, hlt21] using hc21);
        have hd7 : w1.cell? ⟨g, n * 8 + 7, none⟩ = some nv := (by rw [hgrow.cell_far _ (by simp; omega) (Ne.symm hgne)]; simpa [World.cell?_alloc_lt, hlt7] using hc7);
        have he7 : w1.frozen? ⟨g, n * 8 + 7, none⟩ = false := (by rw [hgrow.frozen_far _ (by simp; omega) (Ne.symm hgne)]; simpa [World.frozen?_alloc_past, hlt7] using hf7)))
  all_goals
    go_wp2
    go_end0
    exact ⟨rfl, noted_close HL.out HBk.out HNL.out HO.out HNO.out HD.out HN.out HA.out HV.out ((Below.refl _ _).alloc (Nat.le_refl _) _).drew hgrow hown1 hat⟩

end Go.Proofs.Ytejadojilncbjaa
