import Derived.Test.YtejadojilncbjaaStands
import Derived.Test.YtejadojilncbjaaNoted
import Derived.Test.YtejadojilncbjaaCommit2
import Derived.Test.YtejadojilncbjaaInv
namespace Go.Proofs.Ytejadojilncbjaa
open Go.RowKit
set_option linter.unusedVariables false
attribute [local go_sem ↓] Go.wp_at_zero Go.wp_at_succ

theorem lt4 {k : Nat} (h : k < 4) : k = 0 ∨ k = 1 ∨ k = 2 ∨ k = 3 := by omega

theorem TryR.reg {B p eb xb : Nat} {w : World} {x : TS} (hT : TryR B p eb xb w x) (k : Nat) (hk : k < 4) : w.cell? ⟨xb, 1 + k, none⟩ = some (.int .i64 (x.regs.getD k 0)) ∧ w.frozen? ⟨xb, 1 + k, none⟩ = false := by
  obtain ⟨_, _, _, _, _, _, _, _, hxc, hxf⟩ := hT.cells
  refine ⟨?_, hxf _⟩
  rw [hxc]
  rcases lt4 hk with rfl | rfl | rfl | rfl <;> rfl

theorem TryR.setReg {B p eb xb : Nat} {w : World} {x : TS} (hT : TryR B p eb xb w x) (hB : B ≤ w.heap.size) (k : Nat) (hk : k < 4) (v : Int) :
    TryR B p eb xb (w.setCell ⟨xb, 1 + k, none⟩ (.int .i64 v)) { x with regs := x.regs.set k v } ∧ Kp [134] B p eb w (w.setCell ⟨xb, 1 + k, none⟩ (.int .i64 v)) := by
  refine hT.set hB rfl rfl rfl rfl (by simp [hT.regs]) (fun _ _ _ _ _ _ _ _ => ?_)
  have h4 := hT.regs
  obtain ⟨code, regs, place, begun, valid, reads, writes, held, inGate, way⟩ := x
  match regs, h4 with
  | [r0, r1, r2, r3], _ =>
    rcases lt4 hk with rfl | rfl | rfl | rfl <;> rfl

/-- What a Read comes to once the value is there. -/
def mReadEnd (E : Env) (i : InsD) (a : Int) (t : Int × Int × LS × TS) : Int × LS × TS :=
  if t.2.2.1.over then (-1, t.2.2.1, t.2.2.2) else if t.2.1 ≠ 0 then (t.2.1, t.2.2.1, t.2.2.2) else (0, mNoted t.2.2.1 7 a t.1, setReg t.2.2.2 i.a t.1)

theorem mRead_eq (E : Env) (s : LS) (x : TS) (i : InsD) : mRead E s x i = if E.c.wd ≤ regOf x i.b then (3, s, x) else mReadEnd E i (regOf x i.b) (mReadV E s x (regOf x i.b)) := rfl

theorem tmodB (a s : Int) (h1 : 1 ≤ s) (h2 : s ≤ 8) : -8 ≤ a.tmod s ∧ a.tmod s ≤ 8 := by
  have h3 := Int.tmod_lt_of_pos a (show 0 < s by omega)
  have h4 := Int.lt_tmod_of_pos a (show 0 < s by omega)
  omega

theorem entIdx_lt {es : List EntD} {a : Int} {k : Nat} (h : entIdx es a = some k) : k < es.length := by
  unfold entIdx at h
  rw [List.findIdx?_eq_some_iff_getElem] at h
  exact h.1

set_option maxRecDepth 100000 in
set_option maxHeartbeats 8000000 in
theorem read_any (E : Env) (hE : EnvOk E) (H : Hd) (B p eb xb n m : Nat) (s : LS) (x : TS) (op a b c : Int) (w : World) (hL : LifeR E H B p eb w s) (hT : TryR B p eb xb w x) (hpos : s.pos ≤ E.seen.length) (hN : NotesOk m s) (hmn : m ≤ 2 ^ 40) (hX : TsOk n x) (hn : n ≤ 2 ^ 39)
    (ha0 : 0 ≤ a) (ha3 : a ≤ 3) (hb0 : 0 ≤ b) (hb3 : b ≤ 3) :
    Calls Try.prog 77 #[.pointer (some ⟨p, 0, none⟩), .pointer (some ⟨xb, 0, none⟩), .agg #[.int .i64 op, .int .i64 a, .int .i64 b, .int .i64 c]] w fun e w' =>
      e = .returned (.int .i64 (mRead E s x ⟨op, a, b, c⟩).1) ∧ LifeR E H B p eb w' (mRead E s x ⟨op, a, b, c⟩).2.1 ∧ TryR B p eb xb w' (mRead E s x ⟨op, a, b, c⟩).2.2 ∧ Kp [78, 134, 109, 144, 158] B p eb w w' := by
  have HE : Hid (EnvOk E) := hE
  obtain ⟨⟨ht1, ht2⟩, ⟨hwd1, hwd2⟩, ⟨hs1, hs2⟩, _⟩ := cfgB_true hE.cfg
  have HN : Hid (NotesOk m s) := hN
  have HX : Hid (TsOk n x) := hX
  obtain ⟨kb, rfl⟩ := Int.eq_ofNat_of_zero_le hb0
  obtain ⟨ka, rfl⟩ := Int.eq_ofNat_of_zero_le ha0
  have hkb : kb < 4 := by omega
  have hka : ka < 4 := by omega
  obtain ⟨R, HR⟩ : ∃ R, Hid (mRead E s x ⟨op, (ka : Int), (kb : Int), c⟩ = R) := ⟨_, rfl⟩
  rw [show mRead E s x ⟨op, (ka : Int), (kb : Int), c⟩ = R from HR.out]
  obtain ⟨ad, had⟩ : ∃ ad, ad = regOf x (kb : Int) := ⟨_, rfl⟩
  have hab := hX.reg (kb : Int)
  rw [← had] at hab
  have HU : Hid (R = if E.c.wd ≤ ad then (3, s, x) else mReadEnd E ⟨op, (ka : Int), (kb : Int), c⟩ ad (mReadV E s x ad)) := by
    show _ = _
    rw [← HR.out, mRead_eq, had]
  have hrb : ∀ w', TryR B p eb xb w' x → w'.cell? ⟨xb, 1 + kb, none⟩ = some (.int .i64 ad) := fun w' h => by rw [(h.reg kb hkb).1, had]; rfl
  have HRB : Hid (∀ w', TryR B p eb xb w' x → w'.cell? ⟨xb, 1 + kb, none⟩ = some (.int .i64 ad)) := hrb
  obtain ⟨hab1, hab2⟩ := hab
  have HAD : Hid (ad = regOf x (kb : Int)) := had
  have hBs := hL.stat.size
  have hbx := (Below.refl w.heap.size w).alloc (Nat.le_refl _) (.cells #[.int .i64 op, .int .i64 (ka : Int), .int .i64 (kb : Int), .int .i64 c] 120)
  obtain ⟨w0, hw0⟩ : ∃ w0, w0 = w.alloc (.cells #[.int .i64 op, .int .i64 (ka : Int), .int .i64 (kb : Int), .int .i64 c] 120) := ⟨_, rfl⟩
  have HL0 : Hid (LifeR E H B p eb w0 s) := by rw [hw0]; exact hL.below hbx
  have HT0 : Hid (TryR B p eb xb w0 x) := by rw [hw0]; exact hT.below hbx hBs
  have HK0 : Hid (Kp [] B p eb w w0) := by rw [hw0]; exact Kp.below hbx hBs
  obtain ⟨ib, hib⟩ : ∃ ib, ib = w.heap.size := ⟨_, rfl⟩
  have HB0 : Hid (Blk w0 ib 120 #[.int .i64 op, .int .i64 (ka : Int), .int .i64 (kb : Int), .int .i64 c]) := by rw [hw0, hib]; exact Blk.new _ _ _
  have hkI0 : (0 : Int) ≤ (kb : Int) := Int.natCast_nonneg _
  have hkI1 : (kb : Int) < 4 := by omega
  have hkA0 : (0 : Int) ≤ (ka : Int) := Int.natCast_nonneg _
  have hkA1 : (ka : Int) < 4 := by omega
  clear hE hL hT hN hX had hbx hBs hrb ha0 ha3 hb0 hb3 HR
  go_enter Try.func77, Try.ntmps77
  go_wp2_with fail
  rw [← hw0, ← hib]
  clear hw0 hib
  have hci := (HB0.out).cell
  have hcb := HRB.out w0 HT0.out
  go_quiet (fail)
  have hhd := (HL0.out).head
  by_cases hwd : E.c.wd ≤ ad
  · have HF : Hid (R = (3, s, x)) := (HU.out).trans (if_pos hwd)
    clear HU
    go_wp2
    go_ret
    exact ⟨by rw [HF.out]; rfl, by rw [HF.out]; exact (HL0.out).drewN _, by rw [HF.out]; exact (HT0.out).drewN _, ((HK0.out).up).drewN _⟩
  · have HU2 : Hid (R = mReadEnd E ⟨op, (ka : Int), (kb : Int), c⟩ ad (mReadV E s x ad)) := (HU.out).trans (if_neg hwd)
    clear HU
    obtain ⟨hst1, hst2⟩ := tmodB ad E.c.s hs1 hs2
    obtain ⟨st, hst⟩ : ∃ st, st = ad.tmod E.c.s := ⟨_, rfl⟩
    rw [← hst] at hst1 hst2
    have hst' : ad.tmod E.c.s = st := hst.symm
    have HST : Hid (ad.tmod E.c.s = st) := hst'
    clear hst
    obtain ⟨wa, wc, hw9, hen⟩ := (HT0.out).writes
    have HEN : Hid (EntsIn w0 wa x.writes) := hen
    have hwl : x.writes.length ≤ 2 ^ 45 := by have := (HX.out).wl; omega
    have hhl : x.held.length ≤ 2 ^ 45 := by have := (HX.out).hl; omega
    have hrl : x.reads.length ≤ 2 ^ 40 := by have := (HX.out).rl; omega
    clear hen
    go_wp2_with fail
    refine (find_any _ _ _ x.writes _ _ rfl hwl (show EntsIn (w0.drewN nq) wa x.writes from HEN.out)).mono ?_
    rintro e w' ⟨rfl, hw'⟩
    have hw2 := hw'.symm
    subst hw2
    go_wp2_with fail
    refine (holds_any B p eb xb x _ _ ((HT0.out).drewN nq) hhl).mono ?_
    rintro e w' ⟨rfl, hw'⟩
    have hw2 := hw'.symm
    subst hw2
    obtain ⟨w1, hw1⟩ : ∃ w1, w1 = w0.drewN nq := ⟨_, rfl⟩
    have HL1 : Hid (LifeR E H B p eb w1 s) := by rw [hw1]; exact (HL0.out).drewN nq
    have HT1 : Hid (TryR B p eb xb w1 x) := by rw [hw1]; exact (HT0.out).drewN nq
    have HK1 : Hid (Kp [] B p eb w w1) := by rw [hw1]; exact (HK0.out).drewN nq
    have HB1 : Hid (Blk w1 ib 120 #[.int .i64 op, .int .i64 (ka : Int), .int .i64 (kb : Int), .int .i64 c]) := by rw [hw1]; exact (HB0.out).drewN nq
    have HEN1 : Hid (EntsIn w1 wa x.writes) := by rw [hw1]; exact HEN.out
    have hw91 : w1.cell? ⟨xb, 9, none⟩ = some (.slice wa x.writes.length wc) := by rw [hw1]; exact hw9
    rw [← hw1]
    clear hw1 HL0 HT0 HK0 HB0 HEN hw9 hci hcb hhd
    rcases hfi : entIdx x.writes ad with _ | k
    rotate_left
    focus
      have hkl := entIdx_lt hfi
      obtain ⟨bb, hwa, _, hcv, _⟩ := HEN1.out k hkl
      obtain ⟨v, hv⟩ : ∃ v, v = (x.writes.getD k ⟨0, 0⟩).val := ⟨_, rfl⟩
      rw [← hv] at hcv
      rw [hwa] at hw91
      have hk0 : (0 : Int) ≤ (k : Int) := Int.natCast_nonneg _
      have hk1 : (k : Int) < (x.writes.length : Int) := by omega
      have HV : Hid (mReadV E s x ad = (v, 0, s, x)) := by
        show _ = _
        unfold mReadV
        dsimp only
        rw [hfi]
        dsimp only
        rw [← hv]
      obtain ⟨w4, hw4⟩ : ∃ w4, w4 = w1 := ⟨_, rfl⟩
      obtain ⟨s4, hs4⟩ : ∃ s4, s4 = s := ⟨_, rfl⟩
      obtain ⟨x4, hx4⟩ : ∃ x4, x4 = x := ⟨_, rfl⟩
      have HL4 : Hid (LifeR E H B p eb w4 s4) := by rw [hw4, hs4]; exact HL1
      have HT4 : Hid (TryR B p eb xb w4 x4) := by rw [hw4, hx4]; exact HT1
      have HK4 : Hid (Kp [78, 134, 109, 144] B p eb w w4) := by rw [hw4]; exact (HK1.out).up
      have HB4 : Hid (Blk w4 ib 120 #[.int .i64 op, .int .i64 (ka : Int), .int .i64 (kb : Int), .int .i64 c]) := by rw [hw4]; exact HB1
      have HV4 : Hid (mReadV E s x ad = (v, 0, s4, x4)) := by rw [hs4, hx4]; exact HV
      have HN4 : Hid (NotesOk m s4 ∧ s4.pos ≤ E.seen.length) := by rw [hs4]; exact ⟨HN.out, hpos⟩
      rw [← hw4] at hw91 hcv
      rw [← hw4]
      unfold idxN
      clear hw4 hs4 HL1 HT1 HK1 HB1 HEN1 HV hv
      rw [← hx4] at hw91 hk1
      clear hx4
      have HU4 : Hid (R = mReadEnd E ⟨op, (ka : Int), (kb : Int), c⟩ ad (v, (0 : Int), s4, x4)) := by
        show _ = _
        rw [HU2.out, HV4.out]
      clear HU2 HV4
      have hov4 := (HL4.out).over
      have hci4 := (HB4.out).cell
      obtain ⟨hreg4, hfrz4⟩ := (HT4.out).reg ka hka
      cases ho4 : s4.over with
      | true =>
        have HF : Hid (R = (-1, s4, x4)) := (HU4.out).trans (if_pos ho4)
        clear HU4
        go_wp2
        go_ret
        exact ⟨by rw [HF.out]; rfl, by rw [HF.out]; exact HL4.out, by rw [HF.out]; exact HT4.out, (HK4.out).wide (by simp)⟩
      | false =>
        have HU5 : Hid (R = if (0 : Int) ≠ 0 then ((0 : Int), s4, x4) else (0, mNoted s4 7 ad v, setReg x4 (ka : Int) v)) := (HU4.out).trans (if_neg (by simp [ho4]))
        clear HU4
        by_cases hev0 : (0 : Int) = 0
        · have HF : Hid (R = (0, mNoted s4 7 ad v, setReg x4 (ka : Int) v)) := (HU5.out).trans (if_neg (by simp))
          clear HU5
          have hbe : ((0 : Int) != 0) = false := by simp
          clear hev0
          go_wp2_with fail
          go_region
          all_goals
            have hTK := (HT4.out).setReg (HL4.out).stat.size ka hka v
            have HL5 : Hid (LifeR E H B p eb (w4.setCell ⟨xb, 1 + ka, none⟩ (.int .i64 v)).drew s4) := ((HL4.out).keep hTK.2 (by simp) (by simp) (by simp) (by simp)).drew
            have HT5 : Hid (TryR B p eb xb (w4.setCell ⟨xb, 1 + ka, none⟩ (.int .i64 v)).drew { x4 with regs := x4.regs.set ka v }) := hTK.1.drew
            have HK5 : Hid (Kp [78, 134, 109, 144] B p eb w (w4.setCell ⟨xb, 1 + ka, none⟩ (.int .i64 v)).drew) := ((HK4.out).trans (hTK.2.wide (by simp))).drew
            clear hTK hov4 hci4 hreg4 hfrz4
            go_wp2_with fail
            refine (noted_any E H B p eb s4 _ _ _ _ HL5.out (HN4.out).1.ne (HN4.out).1.len (fun a ha => Nat.le_trans ((HN4.out).1.nt a ha) hmn)).mono ?_
            rintro e w6 ⟨rfl, hL6, hK6⟩
            have HL6 : Hid (LifeR E H B p eb w6 (mNoted s4 7 ad v)) := hL6
            have HT6 : Hid (TryR B p eb xb w6 { x4 with regs := x4.regs.set ka v }) := (HT5.out).keep hK6 (by simp) (by simp) (by simp)
            have HK6 : Hid (Kp [78, 134, 109, 144, 158] B p eb w w6) := ((HK5.out).wide (by simp)).trans (hK6.wide (by simp))
            clear hL6 hK6
            go_wp2_with fail
            go_ret
            exact ⟨by rw [HF.out]; rfl, by rw [HF.out]; exact HL6.out, by rw [HF.out]; exact HT6.out, HK6.out⟩
        · exact absurd rfl hev0
    cases hhe : heldB x st with
    | true =>
      have HV : Hid (mReadV E s x ad = ((mLoad E s (cWord E ad)).1, 0, (mLoad E s (cWord E ad)).2, x)) := by
        show _ = _
        unfold mReadV
        dsimp only
        rw [hfi, show ad.tmod E.c.s = st from HST.out, hhe]
        rfl
      have hhd := (HL1.out).head
      unfold idxN
      go_wp2_with fail
      refine (word_at E HE.out H B p eb xb _ _ _ _ HL1.out HT1.out (by omega) (by omega)).mono ?_
      rintro e w2 ⟨rfl, hLa, hTa, hKa⟩
      clear hhd
      go_wp2_with fail
      refine (load_at E HE.out H B p eb xb _ _ _ _ hLa hTa hpos).mono ?_
      rintro e w4 ⟨rfl, hLb, hTb, hKb⟩
      have HK4 : Hid (Kp [78, 134, 109, 144] B p eb w w4) := (HK1.out).up.trans (hKa.up.trans (hKb.wide (by simp)))
      have HB4 : Hid (Blk w4 ib 120 #[.int .i64 op, .int .i64 (ka : Int), .int .i64 (kb : Int), .int .i64 c]) := ((HB1.out).keep hKa (by simp)).keep hKb (by simp)
      have HN4 : Hid (NotesOk m (mLoad E s (cWord E ad)).2 ∧ (mLoad E s (cWord E ad)).2.pos ≤ E.seen.length) := ⟨(HN.out).sn (mLoad_sn E s _), (mAsk_pos E s _ hpos).2⟩
      generalize mLoad E s (cWord E ad) = q4 at *
      obtain ⟨v, s4⟩ := q4
      have HL4 : Hid (LifeR E H B p eb w4 s4) := hLb
      obtain ⟨x4, hx4⟩ : ∃ x4, x4 = x := ⟨_, rfl⟩
      have HT4 : Hid (TryR B p eb xb w4 x4) := by rw [hx4]; exact hTb
      have HV4 : Hid (mReadV E s x ad = (v, 0, s4, x4)) := by rw [hx4]; exact HV
      clear hLa hTa hKa hLb hTb hKb HL1 HT1 HK1 HB1 HEN1 HV hw91 hx4
      have HU4 : Hid (R = mReadEnd E ⟨op, (ka : Int), (kb : Int), c⟩ ad (v, (0 : Int), s4, x4)) := by
        show _ = _
        rw [HU2.out, HV4.out]
      clear HU2 HV4
      have hov4 := (HL4.out).over
      have hci4 := (HB4.out).cell
      obtain ⟨hreg4, hfrz4⟩ := (HT4.out).reg ka hka
      cases ho4 : s4.over with
      | true =>
        have HF : Hid (R = (-1, s4, x4)) := (HU4.out).trans (if_pos ho4)
        clear HU4
        go_wp2
        go_ret
        exact ⟨by rw [HF.out]; rfl, by rw [HF.out]; exact HL4.out, by rw [HF.out]; exact HT4.out, (HK4.out).wide (by simp)⟩
      | false =>
        have HU5 : Hid (R = if (0 : Int) ≠ 0 then ((0 : Int), s4, x4) else (0, mNoted s4 7 ad v, setReg x4 (ka : Int) v)) := (HU4.out).trans (if_neg (by simp [ho4]))
        clear HU4
        by_cases hev0 : (0 : Int) = 0
        · have HF : Hid (R = (0, mNoted s4 7 ad v, setReg x4 (ka : Int) v)) := (HU5.out).trans (if_neg (by simp))
          clear HU5
          have hbe : ((0 : Int) != 0) = false := by simp
          clear hev0
          go_wp2_with fail
          go_region
          all_goals
            have hTK := (HT4.out).setReg (HL4.out).stat.size ka hka v
            have HL5 : Hid (LifeR E H B p eb (w4.setCell ⟨xb, 1 + ka, none⟩ (.int .i64 v)).drew s4) := ((HL4.out).keep hTK.2 (by simp) (by simp) (by simp) (by simp)).drew
            have HT5 : Hid (TryR B p eb xb (w4.setCell ⟨xb, 1 + ka, none⟩ (.int .i64 v)).drew { x4 with regs := x4.regs.set ka v }) := hTK.1.drew
            have HK5 : Hid (Kp [78, 134, 109, 144] B p eb w (w4.setCell ⟨xb, 1 + ka, none⟩ (.int .i64 v)).drew) := ((HK4.out).trans (hTK.2.wide (by simp))).drew
            clear hTK hov4 hci4 hreg4 hfrz4
            go_wp2_with fail
            refine (noted_any E H B p eb s4 _ _ _ _ HL5.out (HN4.out).1.ne (HN4.out).1.len (fun a ha => Nat.le_trans ((HN4.out).1.nt a ha) hmn)).mono ?_
            rintro e w6 ⟨rfl, hL6, hK6⟩
            have HL6 : Hid (LifeR E H B p eb w6 (mNoted s4 7 ad v)) := hL6
            have HT6 : Hid (TryR B p eb xb w6 { x4 with regs := x4.regs.set ka v }) := (HT5.out).keep hK6 (by simp) (by simp) (by simp)
            have HK6 : Hid (Kp [78, 134, 109, 144, 158] B p eb w w6) := ((HK5.out).wide (by simp)).trans (hK6.wide (by simp))
            clear hL6 hK6
            go_wp2_with fail
            go_ret
            exact ⟨by rw [HF.out]; rfl, by rw [HF.out]; exact HL6.out, by rw [HF.out]; exact HT6.out, HK6.out⟩
        · exact absurd rfl hev0
    | false =>
      have HV : Hid (mReadV E s x ad = mStands E x ad st (loopFuel E s) s) := by
        show _ = _
        unfold mReadV
        dsimp only
        rw [hfi, show ad.tmod E.c.s = st from HST.out, hhe]
        rfl
      unfold idxN
      go_wp2_with fail
      refine (stands_any E HE.out H B p eb xb s x ad st _ HL1.out HT1.out hpos (HN.out).ne (HN.out).len hrl hhl (HX.out).rd hst1 hst2 hab1 hab2).mono ?_
      rintro e w4 ⟨rfl, hLb, hTb, hKb⟩
      have hok := mStands_ok E HE.out x ad st hst1 hst2 HX.out (loopFuel E s) s hpos
      have HN4 : Hid (NotesOk m (mStands E x ad st (loopFuel E s) s).2.2.1 ∧ (mStands E x ad st (loopFuel E s) s).2.2.1.pos ≤ E.seen.length) := ⟨(HN.out).sn hok.1.sn, hok.1.pos⟩
      have HK4 : Hid (Kp [78, 134, 109, 144] B p eb w w4) := (HK1.out).up.trans hKb
      have HB4 : Hid (Blk w4 ib 120 #[.int .i64 op, .int .i64 (ka : Int), .int .i64 (kb : Int), .int .i64 c]) := (HB1.out).keep hKb (by simp)
      clear hok
      generalize mStands E x ad st (loopFuel E s) s = q4 at *
      obtain ⟨v, ev, s4, x4⟩ := q4
      have HL4 : Hid (LifeR E H B p eb w4 s4) := hLb
      have HT4 : Hid (TryR B p eb xb w4 x4) := hTb
      have HV4 : Hid (mReadV E s x ad = (v, ev, s4, x4)) := HV
      clear hLb hTb hKb HL1 HT1 HK1 HB1 HEN1 HV hw91
      have HU4 : Hid (R = mReadEnd E ⟨op, (ka : Int), (kb : Int), c⟩ ad (v, ev, s4, x4)) := by
        show _ = _
        rw [HU2.out, HV4.out]
      clear HU2 HV4
      have hov4 := (HL4.out).over
      have hci4 := (HB4.out).cell
      obtain ⟨hreg4, hfrz4⟩ := (HT4.out).reg ka hka
      cases ho4 : s4.over with
      | true =>
        have HF : Hid (R = (-1, s4, x4)) := (HU4.out).trans (if_pos ho4)
        clear HU4
        go_wp2
        go_ret
        exact ⟨by rw [HF.out]; rfl, by rw [HF.out]; exact HL4.out, by rw [HF.out]; exact HT4.out, (HK4.out).wide (by simp)⟩
      | false =>
        have HU5 : Hid (R = if ev ≠ 0 then (ev, s4, x4) else (0, mNoted s4 7 ad v, setReg x4 (ka : Int) v)) := (HU4.out).trans (if_neg (by simp [ho4]))
        clear HU4
        by_cases hev0 : ev = 0
        · have HF : Hid (R = (0, mNoted s4 7 ad v, setReg x4 (ka : Int) v)) := (HU5.out).trans (if_neg (by simp [hev0]))
          clear HU5
          have hbe : (ev != 0) = false := by simp [hev0]
          clear hev0
          go_wp2_with fail
          go_region
          all_goals
            have hTK := (HT4.out).setReg (HL4.out).stat.size ka hka v
            have HL5 : Hid (LifeR E H B p eb (w4.setCell ⟨xb, 1 + ka, none⟩ (.int .i64 v)).drew s4) := ((HL4.out).keep hTK.2 (by simp) (by simp) (by simp) (by simp)).drew
            have HT5 : Hid (TryR B p eb xb (w4.setCell ⟨xb, 1 + ka, none⟩ (.int .i64 v)).drew { x4 with regs := x4.regs.set ka v }) := hTK.1.drew
            have HK5 : Hid (Kp [78, 134, 109, 144] B p eb w (w4.setCell ⟨xb, 1 + ka, none⟩ (.int .i64 v)).drew) := ((HK4.out).trans (hTK.2.wide (by simp))).drew
            clear hTK hov4 hci4 hreg4 hfrz4
            go_wp2_with fail
            refine (noted_any E H B p eb s4 _ _ _ _ HL5.out (HN4.out).1.ne (HN4.out).1.len (fun a ha => Nat.le_trans ((HN4.out).1.nt a ha) hmn)).mono ?_
            rintro e w6 ⟨rfl, hL6, hK6⟩
            have HL6 : Hid (LifeR E H B p eb w6 (mNoted s4 7 ad v)) := hL6
            have HT6 : Hid (TryR B p eb xb w6 { x4 with regs := x4.regs.set ka v }) := (HT5.out).keep hK6 (by simp) (by simp) (by simp)
            have HK6 : Hid (Kp [78, 134, 109, 144, 158] B p eb w w6) := ((HK5.out).wide (by simp)).trans (hK6.wide (by simp))
            clear hL6 hK6
            go_wp2_with fail
            go_ret
            exact ⟨by rw [HF.out]; rfl, by rw [HF.out]; exact HL6.out, by rw [HF.out]; exact HT6.out, HK6.out⟩
        · have HF : Hid (R = (ev, s4, x4)) := (HU5.out).trans (if_pos hev0)
          clear HU5
          have hbe : (ev != 0) = true := by simp [hev0]
          clear hev0
          go_wp2
          go_ret
          exact ⟨by rw [HF.out]; rfl, by rw [HF.out]; exact HL4.out, by rw [HF.out]; exact HT4.out, (HK4.out).wide (by simp)⟩

end Go.Proofs.Ytejadojilncbjaa
