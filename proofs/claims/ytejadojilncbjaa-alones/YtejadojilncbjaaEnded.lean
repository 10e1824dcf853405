import Derived.Test.YtejadojilncbjaaRows2
namespace Go.Proofs.Ytejadojilncbjaa
open Go.RowKit
set_option linter.unusedVariables false
attribute [local go_sem ↓] Go.wp_at_zero Go.wp_at_succ

/-- What is known of the row of attempts where there is one. -/
theorem LifeR.last {E : Env} {H : Hd} {B p eb : Nat} {w : World} {s : LS} (hL : LifeR E H B p eb w s) (hne : s.list ≠ []) :
    ∃ g lc n cur, s.list.length = n + 1 ∧ Blk w p 78 (lifeArr E H (some ⟨g, 0, none⟩) lc s) ∧ ListRep w B (some ⟨g, 0, none⟩) lc s.list ∧ Blk w g 109 cur ∧ B ≤ g ∧ n * 8 + 7 < cur.size := by
  obtain ⟨la, lc, hb, hl⟩ := hL.life
  have hl' := hl
  obtain ⟨nvs, hnl, ho, hno, hd⟩ := hl'
  obtain ⟨n, hn⟩ : ∃ n, s.list.length = n + 1 := ⟨s.list.length - 1, by have := List.length_pos_iff.2 hne; omega⟩
  obtain ⟨g, cap, cur, hgv, hgB, hgb, r1, r2, r3, r4⟩ := own_block ho (by omega)
  simp at hgv
  obtain ⟨rfl, rfl⟩ := hgv
  exact ⟨g, lc, n, cur, hn, hb, hl, hgb, hgB, by omega⟩

/-- A number of the last attempt is stored: the life behind it. -/
theorem LifeR.num {E : Env} {H : Hd} {B p eb g lc n j : Nat} {w : World} {s : LS} {v : Int} {f : AttD → AttD} {cur : Array Value} (hL : LifeR E H B p eb w s) (hn : s.list.length = n + 1) (hb : Blk w p 78 (lifeArr E H (some ⟨g, 0, none⟩) lc s))
    (hl : ListRep w B (some ⟨g, 0, none⟩) lc s.list) (hg : Blk w g 109 cur) (hgB : B ≤ g) (hj : j < 7) (hf : ∀ a nv, attCells (f a) nv = (attCells a nv).set j (.int .i64 v)) (hfn : ∀ a, (f a).notes = a.notes) :
    LifeR E H B p eb (w.setCell ⟨g, n * 8 + j, none⟩ (.int .i64 v)) { s with list := modLast s.list f } ∧ Kp [109] B p eb w (w.setCell ⟨g, n * 8 + j, none⟩ (.int .i64 v)) := by
  have hk : Kp [109] B p eb w (w.setCell ⟨g, n * 8 + j, none⟩ (.int .i64 v)) := Kp.only (Only.refl _ _).set hL.stat.size hg (by simp) (Or.inr (Or.inr hgB))
  refine ⟨⟨hL.stat.keep hk, ⟨some ⟨g, 0, none⟩, lc, ?_, hl.num hn hj hf hfn⟩, hL.ends.imp id (fun ⟨x, y⟩ => ⟨x, y.keep hk (by simp)⟩), hL.pB, hL.eB, hL.pe⟩, hk⟩
  refine (hb.keep hk (by simp)).congr ?_
  simp [lifeArr, modLast]

theorem modLast_modLast (L : List AttD) (f g : AttD → AttD) : modLast (modLast L f) g = modLast L (fun a => g (f a)) := by
  unfold modLast
  rw [List.length_modify, List.modify_modify_eq]
  rfl

theorem Blk.keepLen {w : World} {g i : Nat} {t : TypeId} {cs : Array Value} {v : Value} (h : Blk w g t cs) : ∃ ds : Array Value, Blk (w.setCell ⟨g, i, none⟩ v) g t ds ∧ ds.size = cs.size := ⟨_, h.set, by simp⟩

theorem LifeR.blk_of {E : Env} {H : Hd} {p g lc i : Nat} {w : World} {s : LS} {v : Value} (hb : Blk w p 78 (lifeArr E H (some ⟨g, 0, none⟩) lc s)) (hpg : p ≠ g) (f : AttD → AttD) :
    Blk (w.setCell ⟨g, i, none⟩ v) p 78 (lifeArr E H (some ⟨g, 0, none⟩) lc { s with list := modLast s.list f }) := by
  refine (hb.only (Only.refl g w).set hpg).congr ?_
  simp [lifeArr, modLast]

set_option maxRecDepth 100000 in
set_option maxHeartbeats 3200000 in
theorem ended_any (E : Env) (hE : EnvOk E) (H : Hd) (B p eb : Nat) (s : LS) (fate : Int) (w : World) (hL : LifeR E H B p eb w s) (hne : s.list ≠ []) (hlen : s.list.length ≤ 2 ^ 42) (hp0 : 0 < s.pos) (hp1 : s.pos ≤ E.seen.length) :
    Calls Try.prog 72 #[.pointer (some ⟨p, 0, none⟩), .int .i64 fate] w fun e w' =>
      e = .returned (.tuple #[]) ∧ LifeR E H B p eb w' (mEnded E s fate) ∧ Kp [109] B p eb w w' := by
  obtain ⟨g, lc, n, cur, hn, hb, hl, hgb, hgB, hsz⟩ := hL.last hne
  obtain ⟨m, hm⟩ : ∃ m, s.pos = m + 1 := ⟨s.pos - 1, by omega⟩
  have hwl := hE.wlen
  have hel := hE.len
  obtain ⟨b, off, hwa, hwb, hwc⟩ := hL.stat.whens m (by omega)
  obtain ⟨z, hz⟩ : ∃ z, z = E.whens.getD m 0 := ⟨_, rfl⟩
  rw [← hz] at hwc
  have hc21 : w.cell? ⟨p, 21, none⟩ = some (.slice (some ⟨g, 0, none⟩) (n + 1) lc) := by rw [hb.cell]; simp [lifeArr, hn]
  have hc12 : w.cell? ⟨p, 12, none⟩ = some (.slice (some ⟨b, off, none⟩) E.whens.length H.wc) := by rw [hb.cell]; simp [lifeArr, hwa]
  have hc13 : w.cell? ⟨p, 13, none⟩ = some (.int .i64 ((m : Int) + 1)) := by rw [hb.cell]; simp [lifeArr, hm]
  obtain ⟨u3, hg3⟩ : ∃ u, w.cell? ⟨g, n * 8 + 3, none⟩ = some u := ⟨cur[n * 8 + 3]'(by omega), by rw [hgb.cell]; exact Array.getElem?_eq_getElem _⟩
  obtain ⟨u6, hg6⟩ : ∃ u, w.cell? ⟨g, n * 8 + 6, none⟩ = some u := ⟨cur[n * 8 + 6]'(by omega), by rw [hgb.cell]; exact Array.getElem?_eq_getElem _⟩
  have hf := hgb.frozen
  have hpg : p ≠ g := Blk.ne hb hgb (by decide)
  have hgp : g ≠ p := fun e => hpg e.symm
  have hbg : b ≠ g := by have := (hL.stat.whensF b off hwa).1; omega
  have hgb' : g ≠ b := fun e => hbg e.symm
  have hI0 : (0 : Int) ≤ (n : Int) := Int.natCast_nonneg _
  have hI2 : (n : Int) < (n : Int) + 1 := by omega
  have hn42 : (n : Int) ≤ 4398046511104 := by omega
  have hm0 : (0 : Int) ≤ (m : Int) := Int.natCast_nonneg _
  have hm1 : (m : Int) < (E.whens.length : Int) := by omega
  have hm2 : (m : Int) ≤ 35184372088832 := by omega
  have HL : Hid (LifeR E H B p eb w s) := hL
  have HN : Hid (s.list.length = n + 1) := hn
  have HM : Hid (s.pos = m + 1) := hm
  have HZ : Hid (z = E.whens.getD m 0) := hz
  have HBk : Hid (Blk w p 78 (lifeArr E H (some ⟨g, 0, none⟩) lc s)) := hb
  have HR : Hid (ListRep w B (some ⟨g, 0, none⟩) lc s.list) := hl
  have HG : Hid (Blk w g 109 cur) := hgb
  clear hL hn hm hz hb hl hgb hE hne hlen hp0 hp1 hwl hel hwa
  go_enter Try.func72, Try.ntmps72
  go_wp2_with fail
  go_region
  all_goals
    go_wp2
    go_end0
    obtain ⟨hL1, hK1⟩ := (HL.out).num (j := 3) (v := z) (f := fun a => { a with fin := z }) HN.out HBk.out HR.out HG.out hgB (by omega) (fun _ _ => rfl) (fun _ => rfl)
    obtain ⟨ds, hd1, hd2⟩ := (HG.out).keepLen (i := n * 8 + 3) (v := .int .i64 z)
    obtain ⟨hL2, hK2⟩ := hL1.num (j := 6) (v := fate) (f := fun a => { a with fate := fate }) (by simp [modLast]; exact HN.out) (LifeR.blk_of HBk.out hpg _)
      ((HR.out).num HN.out (by omega) (fun _ _ => rfl) (fun _ => rfl)) hd1 hgB (by omega) (fun _ _ => rfl) (fun _ => rfl)
    refine ⟨rfl, ?_, (hK1.trans hK2).drew⟩
    have e : mEnded E s fate = { s with list := modLast (modLast s.list fun a => { a with fin := z }) fun a => { a with fate := fate } } := by
      rw [modLast_modLast]
      simp [mEnded, HM.out, HZ.out]
    rw [e]
    exact hL2.drew

end Go.Proofs.Ytejadojilncbjaa
