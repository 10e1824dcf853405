import Derived.Test.YtejadojilncbjaaStill
namespace Go.Proofs.Ytejadojilncbjaa
open Go.RowKit
set_option linter.unusedVariables false
attribute [local go_sem ↓] Go.wp_at_zero Go.wp_at_succ

/-- A number of an attempt is stored. -/
theorem TryR.set {B p eb xb i : Nat} {w : World} {x x' : TS} {v : Value} (hT : TryR B p eb xb w x) (hB : B ≤ w.heap.size) (h1 : x'.code = x.code) (h2 : x'.reads = x.reads) (h3 : x'.writes = x.writes) (h4 : x'.held = x.held) (h5 : x'.regs.length = 4)
    (ha : ∀ ca cc ra rc wa wc ha hc, (tryArr ca cc ra rc wa wc ha hc x).setIfInBounds i v = tryArr ca cc ra rc wa wc ha hc x') : TryR B p eb xb (w.setCell ⟨xb, i, none⟩ v) x' ∧ Kp [134] B p eb w (w.setCell ⟨xb, i, none⟩ v) := by
  obtain ⟨ca, cc, ra, rc, wa, wc, hha, hc, hb, hcd, hcf, g3, g4, g5, g6⟩ := hT.blk
  have hk : Kp [134] B p eb w (w.setCell ⟨xb, i, none⟩ v) := Kp.only (Only.refl _ _).set hB hb (by simp) (Or.inr (Or.inr hT.xB))
  refine ⟨⟨⟨ca, cc, ra, rc, wa, wc, hha, hc, hb.set.congr (ha ..), by rw [h1]; exact hcd.keep hcf hk, by rw [h1]; exact hcf, by rw [h2]; exact ownsRow_keep g3 hk (by simp), by rw [h3]; exact ownsRow_keep g4 hk (by simp), by rw [h4]; exact ownsRow_keep g5 hk (by simp), by rw [h2, h3]; exact g6⟩, hT.xB, h5⟩, hk⟩

theorem TryR.cells {B p eb xb : Nat} {w : World} {x : TS} (hT : TryR B p eb xb w x) : ∃ ca cc ra rc wa wc ha hc, (∀ i, w.cell? ⟨xb, i, none⟩ = (tryArr ca cc ra rc wa wc ha hc x)[i]?) ∧ (∀ i, w.frozen? ⟨xb, i, none⟩ = false) := by
  obtain ⟨ca, cc, ra, rc, wa, wc, hha, hc, hb, _⟩ := hT.blk
  exact ⟨ca, cc, ra, rc, wa, wc, hha, hc, hb.cell, hb.frozen⟩

theorem mStill_pos (E : Env) (x : TS) (skip : Bool) : ∀ (l : List EntD) (s : LS), s.pos ≤ E.seen.length → s.pos ≤ (mStill E x skip l s).2.pos ∧ (mStill E x skip l s).2.pos ≤ E.seen.length
  | [], s, h => ⟨Nat.le_refl _, h⟩
  | e :: r, s, h => by
    have h1 := mAsk_pos E s ⟨1, cVersion E e.what, 0, 0⟩ h
    unfold mStill
    split
    · exact mStill_pos E x skip r s h
    · show _ ≤ (if (mLoad E s (cVersion E e.what)).2.over = true then _ else if (mLoad E s (cVersion E e.what)).1 ≠ e.val then _ else _ : Int × LS).2.pos ∧ (if (mLoad E s (cVersion E e.what)).2.over = true then _ else if (mLoad E s (cVersion E e.what)).1 ≠ e.val then _ else _ : Int × LS).2.pos ≤ _
      split
      · exact h1
      · split
        · exact h1
        · have h2 := mStill_pos E x skip r (mLoad E s (cVersion E e.what)).2 h1.2
          exact ⟨Nat.le_trans h1.1 h2.1, h2.2⟩
theorem mStill_list (E : Env) (x : TS) (skip : Bool) : ∀ (l : List EntD) (s : LS), (mStill E x skip l s).2.list = s.list
  | [], s => rfl
  | e :: r, s => by
    have h1 : (mLoad E s (cVersion E e.what)).2.list = s.list := mAsk_list E s _
    unfold mStill
    split
    · exact mStill_list E x skip r s
    · show (if (mLoad E s (cVersion E e.what)).2.over = true then _ else if (mLoad E s (cVersion E e.what)).1 ≠ e.val then _ else _ : Int × LS).2.list = _
      split
      · exact h1
      · split
        · exact h1
        · exact (mStill_list E x skip r (mLoad E s (cVersion E e.what)).2).trans h1

set_option maxRecDepth 100000 in
set_option maxHeartbeats 2000000 in
theorem extend_any (E : Env) (hE : EnvOk E) (H : Hd) (B p eb xb : Nat) (s : LS) (x : TS) (w : World) (hL : LifeR E H B p eb w s) (hT : TryR B p eb xb w x) (hpos : s.pos ≤ E.seen.length) (hne : s.list ≠ []) (hlen : s.list.length ≤ 2 ^ 42)
    (hm : x.reads.length ≤ 2 ^ 45) (hm2 : x.held.length ≤ 2 ^ 45) (hst : ∀ e ∈ x.reads, -8 ≤ e.what ∧ e.what ≤ 8) :
    Calls Try.prog 110 #[.pointer (some ⟨p, 0, none⟩), .pointer (some ⟨xb, 0, none⟩)] w fun e w' =>
      e = .returned (.int .i64 (mExtend E s x).1) ∧ LifeR E H B p eb w' (mExtend E s x).2.1 ∧ TryR B p eb xb w' (mExtend E s x).2.2 ∧ Kp [78, 134, 109] B p eb w w' := by
  have HE : Hid (EnvOk E) := hE
  clear hE
  go_enter Try.func110, Try.ntmps110
  go_wp2_with fail
  refine (load_at E HE.out H B p eb xb s x _ w hL hT hpos).mono ?_
  rintro e w1 ⟨rfl, hL1, hT1, hK1⟩
  have hov := hL1.over
  have HM : Hid (mExtend E s x = (if (mLoad E s 0).2.over then (-1, (mLoad E s 0).2, x) else if (mStill E x false x.reads (mLoad E s 0).2).1 = 0 then
    (0, { (mStill E x false x.reads (mLoad E s 0).2).2 with list := modLast (mStill E x false x.reads (mLoad E s 0).2).2.list fun a => { a with valid := (mLoad E s 0).1 } }, { x with valid := (mLoad E s 0).1 })
      else ((mStill E x false x.reads (mLoad E s 0).2).1, (mStill E x false x.reads (mLoad E s 0).2).2, x))) := rfl
  have hp1 : (mLoad E s 0).2.pos ≤ E.seen.length := (mAsk_pos E s _ hpos).2
  have HLi : Hid ((mLoad E s 0).2.list = s.list) := mAsk_list E s _
  clear hL hT
  generalize hq : mLoad E s 0 = q at *
  obtain ⟨c, s1⟩ := q
  clear hq
  have HL1 : Hid (LifeR E H B p eb w1 s1) := hL1
  have HT1 : Hid (TryR B p eb xb w1 x) := hT1
  have HK1 : Hid (Kp [78] B p eb w w1) := hK1
  clear hL1 hT1 hK1
  cases hso : s1.over with
  | true =>
    go_wp2
    go_ret
    exact ⟨by rw [HM.out, if_pos hso]; rfl, by rw [HM.out, if_pos hso]; exact HL1.out, by rw [HM.out, if_pos hso]; exact HT1.out, (HK1.out).wide (by simp)⟩
  | false =>
    have HM2 : Hid (mExtend E s x = (if (mStill E x false x.reads s1).1 = 0 then
      (0, { (mStill E x false x.reads s1).2 with list := modLast (mStill E x false x.reads s1).2.list fun a => { a with valid := c } }, { x with valid := c })
        else ((mStill E x false x.reads s1).1, (mStill E x false x.reads s1).2, x))) := by
      show _ = _
      rw [HM.out, if_neg (by simp [hso])]
    clear HM
    go_wp2_with fail
    refine (still_any E HE.out H B p eb xb s1 x false _ HL1.out HT1.out hp1 hm hm2 hst).mono ?_
    rintro e w2 ⟨rfl, hL2, hT2, hK2⟩
    have HLi2 : Hid ((mStill E x false x.reads s1).2.list = s.list) := (mStill_list E x false x.reads s1).trans HLi.out
    clear hov hso
    generalize hq2 : mStill E x false x.reads s1 = q2 at *
    obtain ⟨e2, s2⟩ := q2
    clear hq2
    by_cases he : e2 = 0
    · subst he
      have HM3 : Hid (mExtend E s x = (0, { s2 with list := modLast s2.list fun a => { a with valid := c } }, { x with valid := c })) := by
        show _ = _
        rw [HM2.out]
        exact if_pos rfl
      clear HM2
      have hL2' : LifeR E H B p eb w2 s2 := hL2
      obtain ⟨g, lc, n, cur, hn, hb, hl, hgb, hgB, hsz⟩ := hL2'.last (by rw [show s2.list = s.list from HLi2.out]; exact hne)
      have hn42 : (n : Int) ≤ 4398046511104 := by have : s2.list.length = s.list.length := by rw [show s2.list = s.list from HLi2.out]
                                                  omega
      have hc21 : w2.cell? ⟨p, 21, none⟩ = some (.slice (some ⟨g, 0, none⟩) (n + 1) lc) := by rw [hb.cell]; simp [lifeArr, hn]
      obtain ⟨u4, hg4⟩ : ∃ u, w2.cell? ⟨g, n * 8 + 4, none⟩ = some u := ⟨cur[n * 8 + 4]'(by omega), by rw [hgb.cell]; exact Array.getElem?_eq_getElem _⟩
      have hfg := hgb.frozen
      obtain ⟨ca, cc, ra, rc, wa, wc, ha, hc, hxc, hxf⟩ := hT2.cells
      have hx7 : w2.cell? ⟨xb, 7, none⟩ = some (.int .i64 x.valid) := by rw [hxc]; rfl
      have hf7 := hxf 7
      have hI0 : (0 : Int) ≤ (n : Int) := Int.natCast_nonneg _
      have hI2 : (n : Int) < (n : Int) + 1 := by omega
      have hpg : p ≠ g := Blk.ne hb hgb (by decide)
      have hgp : g ≠ p := fun e => hpg e.symm
      have hpx : p ≠ xb := by obtain ⟨_, _, _, _, _, _, _, _, hxb, _⟩ := hT2.blk; exact Blk.ne hb hxb (by decide)
      have hxp : xb ≠ p := fun e => hpx e.symm
      have hgx : g ≠ xb := by obtain ⟨_, _, _, _, _, _, _, _, hxb, _⟩ := hT2.blk; exact Blk.ne hgb hxb (by decide)
      have hxg : xb ≠ g := fun e => hgx e.symm
      have HL2 : Hid (LifeR E H B p eb w2 s2) := hL2
      have HT2 : Hid (TryR B p eb xb w2 x) := hT2
      have HK2 : Hid (Kp [78] B p eb w1 w2) := hK2
      have HN : Hid (s2.list.length = n + 1) := hn
      have HBk : Hid (Blk w2 p 78 (lifeArr E H (some ⟨g, 0, none⟩) lc s2)) := hb
      have HR : Hid (ListRep w2 B (some ⟨g, 0, none⟩) lc s2.list) := hl
      have HG : Hid (Blk w2 g 109 cur) := hgb
      clear hL2' hL2 hT2 hK2 hn hb hl hgb hxc hxf hne hlen hst hm hm2
      go_wp2_with fail
      go_region
      all_goals
        go_wp2
        go_ret
        obtain ⟨hTa, hKa⟩ := (HT2.out).set (x' := { x with valid := c }) (i := 7) (v := .int .i64 c) (HL2.out).stat.size rfl rfl rfl rfl (HT2.out).regs (fun _ _ _ _ _ _ _ _ => rfl)
        have hLa := (HL2.out).keep hKa (by simp) (by simp) (by simp) (by simp)
        obtain ⟨hLb, hKb⟩ := hLa.num (j := 4) (v := c) (f := fun a => { a with valid := c }) HN.out ((HBk.out).keep hKa (by simp)) ((HR.out).keep hKa (by simp) (by simp)) ((HG.out).keep hKa (by simp)) hgB (by omega) (fun _ _ => rfl) (fun _ => rfl)
        have hTb := hTa.keep hKb (by simp) (by simp) (by simp)
        refine ⟨by rw [HM3.out]; rfl, by rw [HM3.out]; exact hLb.drew, by rw [HM3.out]; exact hTb.drew, ?_⟩
        exact ((((HK1.out).wide (by simp)).trans ((HK2.out).wide (by simp))).trans ((hKa.wide (by simp)).trans (hKb.wide (by simp)))).drew
    · have hbe : (e2 == 0) = false := by simp [he]
      have HM3 : Hid (mExtend E s x = (e2, s2, x)) := by
        show _ = _
        rw [HM2.out]
        exact if_neg he
      clear HM2
      have HL2 : Hid (LifeR E H B p eb w2 s2) := hL2
      have HT2 : Hid (TryR B p eb xb w2 x) := hT2
      have HK2 : Hid (Kp [78] B p eb w1 w2) := hK2
      clear hL2 hT2 hK2 he
      go_wp2
      go_ret
      exact ⟨by rw [HM3.out]; rfl, by rw [HM3.out]; exact HL2.out, by rw [HM3.out]; exact HT2.out, ((HK1.out).wide (by simp)).trans ((HK2.out).wide (by simp))⟩

end Go.Proofs.Ytejadojilncbjaa
