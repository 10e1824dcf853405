import Derived.Test.YtejadojilncbjaaGreatG10
import Derived.Test.YtejadojilncbjaaGreatG11
namespace Go.Proofs.YtejadojilncbjaaGreat
open Go.RowKit
set_option linter.unusedVariables false
attribute [local go_sem ↓] Go.wp_at_zero Go.wp_at_succ
theorem entIdx_what {es : List EntD} {a : Int} {k : Nat} (h : entIdx es a = some k) : (es.getD k ⟨0, 0⟩).what = a := by
 have hk := entIdx_lt h
 unfold entIdx at h
 rw [List.findIdx?_eq_some_iff_getElem] at h
 obtain ⟨_, h1, _⟩ := h
 simpa [List.getD, List.getElem?_eq_getElem hk] using h1
theorem putEnt_some {es : List EntD} {a v : Int} {k : Nat} (h : entIdx es a = some k) : putEnt es a v = es.set k ⟨a, v⟩ := by unfold putEnt; rw [h]
theorem putEnt_none {es : List EntD} {a v : Int} (h : entIdx es a = none) : putEnt es a v = es ++ [⟨a, v⟩] := by unfold putEnt; rw [h]
theorem trySetWrite {B p eb xb bb wc k : Nat} {w : World} {x : TS} {a v : Int} (hT : TryR B p eb xb w x) (hB : B ≤ w.heap.size) (hw9 : w.cell? ⟨xb, 9, none⟩ = some (.slice (some ⟨bb, 0, none⟩) x.writes.length wc)) (hk : k < x.writes.length)
  (hwh : (x.writes.getD k ⟨0, 0⟩).what = a) :
  TryR B p eb xb (w.setCell ⟨bb, k * 2 + 1, none⟩ (.int .i64 v)) { x with writes := x.writes.set k ⟨a, v⟩ } ∧ Kp [160] B p eb w (w.setCell ⟨bb, k * 2 + 1, none⟩ (.int .i64 v)) := by
 obtain ⟨ca, cc, ra, rc, wa, wc', ha, hc, hb, hcd, hcf, g3, g4, g5, g6⟩ := hT.blk
 rw [hb.cell] at hw9
 simp [tryArr] at hw9
 obtain ⟨rfl, rfl⟩ := hw9
 obtain ⟨g, cap, cur, hv, hgB, hg, _⟩ := own_block g4 (by omega)
 simp at hv
 obtain ⟨rfl, rfl⟩ := hv
 have hk' : Kp [160] B p eb w (w.setCell ⟨bb, k * 2 + 1, none⟩ (.int .i64 v)) := Kp.only (Only.refl _ _).set hB hg (by simp) (Or.inr (Or.inr hgB))
 refine ⟨⟨⟨ca, cc, ra, rc, some ⟨bb, 0, none⟩, wc', ha, hc, (hb.keep hk' (by simp)).congr ?_, hcd.keep hcf hk', hcf, ?_, ?_, ownsRow_keep g5 hk' (by simp), ?_⟩, hT.xB, hT.regs⟩, hk'⟩
 ·simp [tryArr]
 ·exact ownsRow_setCell_other g3 (fun e => g6 bb e rfl) _
 ·have h1 := own_set g4 (i := k * 2 + 1) (by omega) (.int .i64 v)
  rw [flat_set (n := 2) (fun _ => rfl) x.writes k 1 (.int .i64 v) ⟨a, v⟩ (by omega) hk (fun e he => ?_)] at h1
  ·simpa using h1
  ·have : e.what = a := by rw [← hwh]; simp [List.getD, he]
   simp [entCells, this]
 ·intro q hq
  have := g6 q hq
  simpa [Value.ownBlock] using this
def mTicket (E : Env) (s1 : LS) (x1 : TS) : Int × LS × TS :=
 let q := mAsk E s1 ⟨4, 1, 0, 0⟩
 if q.2.over then (-1, q.2, x1) else
  let s2 := { q.2 with rank := q.1 + 1 }
  let q2 := mAsk E s2 ⟨3, cStatus E E.me, 0, 8 * (q.1 + 1)⟩
  if q2.2.over then (-1, q2.2, x1) else if q2.1 ≠ 0 then (5, q2.2, x1) else (0, q2.2, x1)
theorem mWrote_eq (E : Env) (s : LS) (x : TS) (i : InsD) (a : Int) (had : Bool) : mWrote E s x i a had =
  if had = true ∨ (mNoted s 8 a (regOf x i.b)).rank ≠ 0 ∨ E.c.g = 0 ∨ (x.held.length : Int) ≠ E.c.g then (0, mNoted s 8 a (regOf x i.b), { x with writes := putEnt x.writes a (regOf x i.b) })
  else mTicket E (mNoted s 8 a (regOf x i.b)) { x with writes := putEnt x.writes a (regOf x i.b) } := rfl
theorem TsOk.putEnt {n : Nat} {x : TS} (h : TsOk n x) (a v : Int) (h1 : -70000 ≤ a) (h2 : a ≤ 1125899906842624) : TsOk (n + 1) { x with writes := Go.Proofs.YtejadojilncbjaaGreat.putEnt x.writes a v } := by
 have hw : (∀ e ∈ Go.Proofs.YtejadojilncbjaaGreat.putEnt x.writes a v, -70000 ≤ e.what ∧ e.what ≤ 1125899906842624) ∧ (Go.Proofs.YtejadojilncbjaaGreat.putEnt x.writes a v).length ≤ n + 1 := by
  unfold Go.Proofs.YtejadojilncbjaaGreat.putEnt
  split
  ·refine ⟨fun e he => ?_, by have := h.wl; simp; omega⟩
   rcases List.mem_or_eq_of_mem_set he with h3 | h3
   ·exact h.wr e h3
   ·rw [h3]; exact ⟨h1, h2⟩
  ·refine ⟨fun e he => ?_, by have := h.wl; simp; omega⟩
   rcases List.mem_append.1 he with h3 | h3
   ·exact h.wr e h3
   ·simp at h3; subst h3; exact ⟨h1, h2⟩
 exact ⟨h.rd, hw.1, h.hd, h.rg, Nat.le_trans h.rl (Nat.le_succ n), hw.2, Nat.le_trans h.hl (Nat.le_succ n), h.way0, h.way1, h.four⟩
theorem lifeSetRank {E : Env} {H : Hd} {B p eb : Nat} {w : World} {s : LS} (r : Int) (hL : LifeR E H B p eb w s) :
  LifeR E H B p eb (w.setCell ⟨p, 19, none⟩ (.int .i64 r)) { s with rank := r } ∧ Kp [88] B p eb w (w.setCell ⟨p, 19, none⟩ (.int .i64 r)) := by
 obtain ⟨la, lc, hb, hl⟩ := hL.life
 have hk : Kp [88] B p eb w (w.setCell ⟨p, 19, none⟩ (.int .i64 r)) := Kp.only (Only.refl _ _).set hL.stat.size hb (by simp) (Or.inl rfl)
 exact ⟨⟨hL.stat.keep hk, ⟨la, lc, hb.set.congr rfl, hl.keep hk (by simp) (by simp)⟩, hL.ends.imp id (fun ⟨a, b⟩ => ⟨a, b.keep hk (by simp)⟩), hL.pB, hL.eB, hL.pe⟩, hk⟩
set_option maxRecDepth 100000 in
set_option maxHeartbeats 8000000 in
theorem write_any (E : Env) (hE : EnvOk E) (H : Hd) (B p eb xb n m : Nat) (s : LS) (x : TS) (op a b c : Int) (w : World) (hL : LifeR E H B p eb w s) (hT : TryR B p eb xb w x) (hpos : s.pos ≤ E.seen.length) (hN : NotesOk m s) (hmn : m ≤ 2 ^ 40) (hX : TsOk n x) (hn : n ≤ 2 ^ 39)
  (ha0 : 0 ≤ a) (ha3 : a ≤ 3) (hb0 : 0 ≤ b) (hb3 : b ≤ 3) (hr0 : 0 ≤ s.rank) (hr1 : s.rank ≤ 1125899906842625) :
  Calls Tryz.prog 97 #[.pointer (some ⟨p, 0, none⟩), .pointer (some ⟨xb, 0, none⟩), .agg #[.int .i64 op, .int .i64 a, .int .i64 b, .int .i64 c]] w fun e w' =>
   e = .returned (.int .i64 (mWrite E s x ⟨op, a, b, c⟩).1) ∧ LifeR E H B p eb w' (mWrite E s x ⟨op, a, b, c⟩).2.1 ∧ TryR B p eb xb w' (mWrite E s x ⟨op, a, b, c⟩).2.2 ∧ Kp [88, 145, 63, 160, 95, 3] B p eb w w' := by
 have HE : Hid (EnvOk E) := hE
 obtain ⟨⟨ht1, ht2⟩, ⟨hwd1, hwd2⟩, ⟨hs1, hs2⟩, ⟨hg1, hg2⟩, _⟩ := cfgB_true hE.cfg
 obtain ⟨i0, hi0, hz0, hz1, hz2⟩ := info_parts Tryz.info160
 have hme0 := hE.me0
 have hme3 := hE.me3
 have HN : Hid (NotesOk m s) := hN
 have HX : Hid (TsOk n x) := hX
 obtain ⟨kb, rfl⟩ := Int.eq_ofNat_of_zero_le hb0
 obtain ⟨ka, rfl⟩ := Int.eq_ofNat_of_zero_le ha0
 have hkb : kb < 4 := by omega
 have hka : ka < 4 := by omega
 obtain ⟨R, HR⟩ : ∃ R, Hid (mWrite E s x ⟨op, (ka : Int), (kb : Int), c⟩ = R) := ⟨_, rfl⟩
 rw [show mWrite E s x ⟨op, (ka : Int), (kb : Int), c⟩ = R from HR.out]
 obtain ⟨ad, had⟩ : ∃ ad, ad = regOf x (ka : Int) := ⟨_, rfl⟩
 have hab := hX.reg (ka : Int)
 rw [← had] at hab
 have HU : Hid (R = if E.c.wd ≤ ad then (3, s, x) else if heldB x (ad.tmod E.c.s) then mWrote E s x ⟨op, (ka : Int), (kb : Int), c⟩ ad true else
      if (mGet E x (ad.tmod E.c.s) (loopFuel E s) s).1 ≠ 0 then mGet E x (ad.tmod E.c.s) (loopFuel E s) s else mWrote E (mGet E x (ad.tmod E.c.s) (loopFuel E s) s).2.1 (mGet E x (ad.tmod E.c.s) (loopFuel E s) s).2.2 ⟨op, (ka : Int), (kb : Int), c⟩ ad false) := by
  show _ = _
  rw [← HR.out, had]
  rfl
 have HRB : Hid (∀ w', TryR B p eb xb w' x → w'.cell? ⟨xb, 1 + ka, none⟩ = some (.int .i64 ad)) := fun w' h => by rw [(h.reg ka hka).1, had]; rfl
 obtain ⟨hab1, hab2⟩ := hab
 have hBs := hL.stat.size
 have hbx := (Below.refl w.heap.size w).alloc (Nat.le_refl _) (.cells #[.int .i64 op, .int .i64 (ka : Int), .int .i64 (kb : Int), .int .i64 c] 155)
 obtain ⟨w0, hw0⟩ : ∃ w0, w0 = w.alloc (.cells #[.int .i64 op, .int .i64 (ka : Int), .int .i64 (kb : Int), .int .i64 c] 155) := ⟨_, rfl⟩
 have HL0 : Hid (LifeR E H B p eb w0 s) := by rw [hw0]; exact hL.below hbx
 have HT0 : Hid (TryR B p eb xb w0 x) := by rw [hw0]; exact hT.below hbx hBs
 have HK0 : Hid (Kp [] B p eb w w0) := by rw [hw0]; exact Kp.below hbx hBs
 obtain ⟨ib, hib⟩ : ∃ ib, ib = w.heap.size := ⟨_, rfl⟩
 have HB0 : Hid (Blk w0 ib 155 #[.int .i64 op, .int .i64 (ka : Int), .int .i64 (kb : Int), .int .i64 c]) := by rw [hw0, hib]; exact Blk.new _ _ _
 have hkI0 : (0 : Int) ≤ (kb : Int) := Int.natCast_nonneg _
 have hkI1 : (kb : Int) < 4 := by omega
 have hkA0 : (0 : Int) ≤ (ka : Int) := Int.natCast_nonneg _
 have hkA1 : (ka : Int) < 4 := by omega
 clear hE hL hT hN hX had hbx hBs ha0 ha3 hb0 hb3 HR
 go_enter Tryz.func97, Tryz.ntmps97
 go_wp2_with fail
 rw [← hw0, ← hib]
 clear hw0 hib
 have hci := (HB0.out).cell
 have hcb := HRB.out w0 HT0.out
 go_quiet (fail)
 have hhd := (HL0.out).head
 by_cases hwd : E.c.wd ≤ ad
 ·have HF : Hid (R = (3, s, x)) := (HU.out).trans (if_pos hwd)
  clear HU
  go_wp2
  go_ret
  exact ⟨by rw [HF.out]; rfl, by rw [HF.out]; exact (HL0.out).drewN _, by rw [HF.out]; exact (HT0.out).drewN _, ((HK0.out).up).drewN _⟩
 ·have HU2 : Hid (R = _) := (HU.out).trans (if_neg hwd)
  clear HU
  obtain ⟨hst1, hst2⟩ := tmodB ad E.c.s hs1 hs2
  obtain ⟨st, hst⟩ : ∃ st, st = ad.tmod E.c.s := ⟨_, rfl⟩
  rw [← hst] at hst1 hst2 HU2
  have hst' : ad.tmod E.c.s = st := hst.symm
  clear hst
  have hhl : x.held.length ≤ 2 ^ 40 := by have := (HX.out).hl; omega
  have hrl : x.reads.length ≤ 2 ^ 40 := by have := (HX.out).rl; omega
  go_wp2_with fail
  refine (holds_any B p eb xb x _ _ ((HT0.out).drewN nq) (by omega)).mono ?_
  rintro e w' ⟨rfl, hw'⟩
  have hw2 := hw'.symm
  subst hw2
  obtain ⟨w1, hw1⟩ : ∃ w1, w1 = w0.drewN nq := ⟨_, rfl⟩
  have HL1 : Hid (LifeR E H B p eb w1 s) := by rw [hw1]; exact (HL0.out).drewN nq
  have HT1 : Hid (TryR B p eb xb w1 x) := by rw [hw1]; exact (HT0.out).drewN nq
  have HK1 : Hid (Kp [] B p eb w w1) := by rw [hw1]; exact (HK0.out).drewN nq
  have HB1 : Hid (Blk w1 ib 155 #[.int .i64 op, .int .i64 (ka : Int), .int .i64 (kb : Int), .int .i64 c]) := by rw [hw1]; exact (HB0.out).drewN nq
  rw [← hw1]
  clear hw1 HL0 HT0 HK0 HB0 hci hcb hhd hst' hwd
  cases hhe : heldB x st with
  | true =>
   rw [hhe] at HU2
   simp only [if_true] at HU2
   obtain ⟨w4, hw4⟩ : ∃ w4, w4 = w1 := ⟨_, rfl⟩
   obtain ⟨s4, hs4⟩ : ∃ s4, s4 = s := ⟨_, rfl⟩
   obtain ⟨x4, hx4⟩ : ∃ x4, x4 = x := ⟨_, rfl⟩
   have HL4 : Hid (LifeR E H B p eb w4 s4) := by rw [hw4, hs4]; exact HL1
   have HT4 : Hid (TryR B p eb xb w4 x4) := by rw [hw4, hx4]; exact HT1
   have HK4 : Hid (Kp [88, 145, 63, 3] B p eb w w4) := by rw [hw4]; exact (HK1.out).up
   have HB4 : Hid (Blk w4 ib 155 #[.int .i64 op, .int .i64 (ka : Int), .int .i64 (kb : Int), .int .i64 c]) := by rw [hw4]; exact HB1
   have HN4 : Hid (NotesOk m s4 ∧ s4.pos ≤ E.seen.length ∧ 0 ≤ s4.rank ∧ s4.rank ≤ 1125899906842625) := by rw [hs4]; exact ⟨HN.out, hpos, hr0, hr1⟩
   have HX4 : Hid (TsOk (n + 1) x4) := by rw [hx4]; exact (HX.out).more (Nat.le_succ n)
   have HW : Hid (R = mWrote E s4 x4 ⟨op, (ka : Int), (kb : Int), c⟩ ad true) := by rw [hs4, hx4]; exact HU2
   rw [← hw4]
   clear hw4 hs4 hx4 HL1 HT1 HK1 HB1 HU2
   have hci4 := (HB4.out).cell
   obtain ⟨vv, hvv⟩ : ∃ vv, vv = regOf x4 (kb : Int) := ⟨_, rfl⟩
   have hreg4 : w4.cell? ⟨xb, 1 + kb, none⟩ = some (.int .i64 vv) := by rw [((HT4.out).reg kb hkb).1, hvv]; rfl
   have HW2 : Hid (R = if (true : Bool) = true ∨ (mNoted s4 8 ad vv).rank ≠ 0 ∨ E.c.g = 0 ∨ (x4.held.length : Int) ≠ E.c.g then (0, mNoted s4 8 ad vv, { x4 with writes := putEnt x4.writes ad vv })
        else mTicket E (mNoted s4 8 ad vv) { x4 with writes := putEnt x4.writes ad vv }) := by
    show _ = _
    rw [HW.out, mWrote_eq, hvv]
   clear HW hvv
   go_wp2_with fail
   go_quiet (fail)
   obtain ⟨w5, hw5⟩ : ∃ w5, w5 = w4.drewN nq := ⟨_, rfl⟩
   have HL5 : Hid (LifeR E H B p eb w5 s4) := by rw [hw5]; exact (HL4.out).drewN nq
   have HT5 : Hid (TryR B p eb xb w5 x4) := by rw [hw5]; exact (HT4.out).drewN nq
   have HK5 : Hid (Kp [88, 145, 63, 3] B p eb w w5) := by rw [hw5]; exact (HK4.out).drewN nq
   have hreg5 : w5.cell? ⟨xb, 1 + kb, none⟩ = some (.int .i64 vv) := by rw [hw5]; exact hreg4
   have hci5 : ∀ i, w5.cell? ⟨ib, i, none⟩ = (#[.int .i64 op, .int .i64 (ka : Int), .int .i64 (kb : Int), .int .i64 c] : Array Value)[i]? := by rw [hw5]; exact hci4
   rw [← hw5]
   clear hw5 HL4 HT4 HK4 HB4 hci4 hreg4
   obtain ⟨wa, wc, hx9, hen⟩ := (HT5.out).writes
   have HEN : Hid (EntsIn w5 wa x4.writes) := hen
   have hwl : x4.writes.length ≤ 2 ^ 40 := by have := (HX4.out).wl; omega
   clear hen
   go_wp2_with fail
   refine (find_any _ _ _ x4.writes _ _ rfl (by omega) HEN.out).mono ?_
   rintro e w' ⟨rfl, hw'⟩
   have hw2 := hw'.symm
   subst hw2
   rcases hfi : entIdx x4.writes ad with _ | k
   focus
    have hput := putEnt_none (v := vv) hfi
    obtain ⟨ca, cc, ra, rc, wa', wc', ha, hc, hb, hcd, hcf, g3, g4, g5, g6⟩ := (HT5.out).blk
    have e9 := hx9
    rw [hb.cell] at e9
    simp [tryArr] at e9
    obtain ⟨rfl, rfl⟩ := e9
    have hxlt := hb.lt
    have HBl : Hid (Blk w5 xb 145 (tryArr ca cc ra rc wa' wc' ha hc x4)) := hb
    have HCd : Hid (CodeIn w5 B ca x4.code) := hcd
    have HCf : Hid _ := hcf
    have H3 : Hid (w5.ownsRow B 160 2 (.slice ra x4.reads.length rc) x4.reads.length (x4.reads.flatMap entCells)) := g3
    have H4 : Hid (w5.ownsRow B 160 2 (.slice wa' x4.writes.length wc') x4.writes.length (x4.writes.flatMap entCells)) := g4
    have H5 : Hid (w5.ownsRow B 3 1 (.slice ha x4.held.length hc) x4.held.length (x4.held.map (.int .i64 ·))) := g5
    have H6 : Hid (∀ k, (Value.slice ra x4.reads.length rc).ownBlock = some k → (Value.slice wa' x4.writes.length wc').ownBlock ≠ some k) := g6
    have hBs := (HL5.out).stat.size
    have hxne : (Value.slice wa' x4.writes.length wc').ownBlock ≠ some xb := fun e => by
     rcases g4.2 with ⟨h1, _⟩ | ⟨g', c', cur', h1, _, h2, _⟩
     ·rw [h1] at e; simp [Value.ownBlock] at e
     ·rw [h1] at e; simp [Value.ownBlock] at e; subst e
      exact Blk.ne (show Blk w5 g' 160 cur' from h2) hb (by decide) rfl
    clear hb hcd hcf g3 g4 g5 g6
    have hfx : w5.frozen? ⟨xb, 9, none⟩ = false := (HBl.out).frozen _
    unfold idxN
    go_wp2_with
     (at_builtin;
         refine wpList_append_lies _ (by rfl) _ _ _ (by rfl) B 160 i0 _ 2 16 Tryz.underlying143 hi0 hz0 hz1 hz2 rfl (by omega) (.slice wa' x4.writes.length wc') x4.writes.length (x4.writes.flatMap entCells) (by rfl) ((H4.out).alloc _)
          ⟨w5.heap.size, 0, none⟩ 1 1 [.int .i64 ad, .int .i64 vv] (by rfl) (by rfl) (World.news_of_block (cs := #[.int .i64 ad, .int .i64 vv]) (t := 160) (fr := (0, 0)) (heap_alloc_new w5 _)) (by simp [Value.oneCell'])
          (by omega) (by unfold maxLen; omega) (by omega) (by simp; omega) (w5.heap.size + 1) (by simp) ?_;
         intro gg cap w7 hown1 hgrow hat hlt;
         have hd9 : w7.cell? ⟨xb, 9, none⟩ = some (.slice wa' x4.writes.length wc') := (by rw [hgrow.cell_far _ (by simp; omega) (Ne.symm hxne)]; simpa [World.cell?_alloc_lt, hxlt] using hx9);
         have he9 : w7.frozen? ⟨xb, 9, none⟩ = false := (by rw [hgrow.frozen_far _ (by simp; omega) (Ne.symm hxne)]; simpa [World.frozen?_alloc_past, hxlt] using hfx);
         have hTK := tryAddWrite (p := p) (eb := eb) (a := ad) (v := vv) HBl.out HCd.out HCf.out H3.out H4.out H5.out H6.out hBs (HT5.out).xB (HT5.out).regs ((Below.refl _ _).alloc (Nat.le_refl _) _) hgrow hown1 hat)
    obtain ⟨w6, hw6⟩ : ∃ w6, w6 = w7.setCell ⟨xb, 9, none⟩ (.slice (some ⟨gg, 0, none⟩) (x4.writes.length + 1) cap) := ⟨_, rfl⟩
    obtain ⟨x6, hx6⟩ : ∃ x6 : TS, x6 = { x4 with writes := putEnt x4.writes ad vv } := ⟨_, rfl⟩
    have HL6 : Hid (LifeR E H B p eb w6 s4) := by rw [hw6]; exact (HL5.out).keep hTK.2 (by simp) (by simp) (by simp) (by simp)
    have HT6 : Hid (TryR B p eb xb w6 x6) := by rw [hw6, hx6, hput]; exact hTK.1
    have HK6 : Hid (Kp [88, 145, 63, 160, 3] B p eb w w6) := by rw [hw6]; exact ((HK5.out).wide (by simp)).trans (hTK.2.wide (by simp))
    rw [← hw6]
    rw [← hx6] at HW2
    have HXL : Hid (x6.held = x4.held) := by rw [hx6]; rfl
    clear hw6 hx6 hTK hown1 hgrow hat hlt hd9 he9 hx9 hfx hput hxne hxlt HBl HCd HCf H3 H4 H5 H6 hBs HL5 HT5 HK5 HEN hreg5 hci5 hwl
   rotate_left
   focus
    have hput := putEnt_some (v := vv) hfi
    have hkl := entIdx_lt hfi
    obtain ⟨bb, hwa, _, hcv, hfv⟩ := HEN.out k hkl
    rw [hwa] at hx9
    have hTK := trySetWrite (v := vv) HT5.out (HL5.out).stat.size hx9 hkl (entIdx_what hfi)
    have hk0 : (0 : Int) ≤ (k : Int) := Int.natCast_nonneg _
    have hk1 : (k : Int) < (x4.writes.length : Int) := by omega
    have hbx : bb ≠ xb := fun e => by
     have h1 := ((HT5.out).writesKeep (Kp.refl [] B p eb w5) (by simp) (by simp) hx9 (by omega)).2 0
     obtain ⟨ca, cc, ra, rc, wa', wc', ha, hc, hb, hcd, hcf, g3, g4, g5, g6⟩ := (HT5.out).blk
     have e9 := hx9
     rw [hb.cell] at e9
     simp [tryArr] at e9
     obtain ⟨rfl, rfl⟩ := e9
     obtain ⟨g, cap, cur, hv, hgB, hg, _⟩ := own_block g4 (by omega)
     simp at hv
     obtain ⟨rfl, rfl⟩ := hv
     exact Blk.ne hg hb (by decide) e
    unfold idxN
    generalize hzz : (x4.writes.getD k ⟨0, 0⟩).val = zz at hcv
    clear hzz
    go_wp2_with fail
    obtain ⟨w6, hw6⟩ : ∃ w6, w6 = w5.setCell ⟨bb, k * 2 + 1, none⟩ (.int .i64 vv) := ⟨_, rfl⟩
    obtain ⟨x6, hx6⟩ : ∃ x6 : TS, x6 = { x4 with writes := putEnt x4.writes ad vv } := ⟨_, rfl⟩
    have HL6 : Hid (LifeR E H B p eb w6 s4) := by rw [hw6]; exact (HL5.out).keep hTK.2 (by simp) (by simp) (by simp) (by simp)
    have HT6 : Hid (TryR B p eb xb w6 x6) := by rw [hw6, hx6, hput]; exact hTK.1
    have HK6 : Hid (Kp [88, 145, 63, 160, 3] B p eb w w6) := by rw [hw6]; exact ((HK5.out).wide (by simp)).trans (hTK.2.wide (by simp))
    rw [← hw6]
    rw [← hx6] at HW2
    have HXL : Hid (x6.held = x4.held) := by rw [hx6]; rfl
    clear hw6 hx6 hTK hx9 hcv hfv hput hkl hk0 hk1 hbx HL5 HT5 HK5 HEN hreg5 hci5 hwl
   all_goals
    clear hfi
    refine (noted_any E H B p eb s4 _ _ _ _ HL6.out (HN4.out).1.ne (HN4.out).1.len (fun a ha => Nat.le_trans ((HN4.out).1.nt a ha) hmn)).mono ?_
    rintro e w8 ⟨rfl, hL8, hK8⟩
    have HL8 : Hid (LifeR E H B p eb w8 (mNoted s4 8 ad vv)) := hL8
    have HT8 : Hid (TryR B p eb xb w8 x6) := (HT6.out).keep hK8 (by simp) (by simp) (by simp)
    have HK8 : Hid (Kp [88, 145, 63, 160, 95, 3] B p eb w w8) := ((HK6.out).wide (by simp)).trans (hK8.wide (by simp))
    have HP8 : Hid ((mNoted s4 8 ad vv).pos ≤ E.seen.length ∧ (mNoted s4 8 ad vv).rank = s4.rank) := ⟨(HN4.out).2.1, rfl⟩
    clear hL8 hK8 HL6 HT6 HK6
    generalize mNoted s4 8 ad vv = s8 at *
    have hrk8 := (HL8.out).rank
    have hhd8 := (HL8.out).head
    obtain ⟨hha, hhc, hh8, _⟩ := (HT8.out).held
    have HF : Hid (R = (0, s8, x6)) := (HW2.out).trans (if_pos (Or.inl trivial))
    clear HW2
    go_wp2_with fail
    go_quiet (fail)
    go_wp2
    go_ret
    exact ⟨by rw [HF.out]; rfl, by rw [HF.out]; exact (HL8.out).drewN _, by rw [HF.out]; exact (HT8.out).drewN _, (HK8.out).drewN _⟩
  | false =>
   rw [hhe] at HU2
   simp only [Bool.false_eq_true, if_false] at HU2
   go_wp2_with fail
   refine (get_any E HE.out H B p eb xb s x st _ HL1.out HT1.out hpos (HN.out).ne (HN.out).len hrl hhl (HX.out).rd hst1 hst2).mono ?_
   rintro e w4 ⟨rfl, hLb, hTb, hKb⟩
   have hok := mGet_ok E HE.out x st hst1 hst2 HX.out (loopFuel E s) s hpos
   have HN4 : Hid (NotesOk m (mGet E x st (loopFuel E s) s).2.1 ∧ (mGet E x st (loopFuel E s) s).2.1.pos ≤ E.seen.length ∧ 0 ≤ (mGet E x st (loopFuel E s) s).2.1.rank ∧ (mGet E x st (loopFuel E s) s).2.1.rank ≤ 1125899906842625) := ⟨(HN.out).sn hok.1.sn, hok.1.pos, by rw [hok.1.rank]; exact hr0, by rw [hok.1.rank]; exact hr1⟩
   have HX4 : Hid (TsOk (n + 1) (mGet E x st (loopFuel E s) s).2.2) := hok.2
   have HK4 : Hid (Kp [88, 145, 63, 3] B p eb w w4) := (HK1.out).up.trans hKb
   have HB4 : Hid (Blk w4 ib 155 #[.int .i64 op, .int .i64 (ka : Int), .int .i64 (kb : Int), .int .i64 c]) := (HB1.out).keep hKb (by simp)
   clear hok
   generalize mGet E x st (loopFuel E s) s = q4 at *
   obtain ⟨e4, s4, x4⟩ := q4
   have HL4 : Hid (LifeR E H B p eb w4 s4) := hLb
   have HT4 : Hid (TryR B p eb xb w4 x4) := hTb
   clear hLb hTb hKb HL1 HT1 HK1 HB1
   by_cases he4 : e4 = 0
   rotate_left
   focus
    have HF : Hid (R = (e4, s4, x4)) := (HU2.out).trans (if_pos he4)
    have hbe : (e4 != 0) = true := by simp [he4]
    clear HU2 he4
    go_wp2
    go_ret
    exact ⟨by rw [HF.out]; rfl, by rw [HF.out]; exact HL4.out, by rw [HF.out]; exact HT4.out, (HK4.out).wide (by simp)⟩
   subst he4
   have HW : Hid (R = mWrote E s4 x4 ⟨op, (ka : Int), (kb : Int), c⟩ ad false) := (HU2.out).trans (if_neg (by simp))
   clear HU2
   have hci4 := (HB4.out).cell
   obtain ⟨vv, hvv⟩ : ∃ vv, vv = regOf x4 (kb : Int) := ⟨_, rfl⟩
   have hreg4 : w4.cell? ⟨xb, 1 + kb, none⟩ = some (.int .i64 vv) := by rw [((HT4.out).reg kb hkb).1, hvv]; rfl
   have HW2 : Hid (R = if (false : Bool) = true ∨ (mNoted s4 8 ad vv).rank ≠ 0 ∨ E.c.g = 0 ∨ (x4.held.length : Int) ≠ E.c.g then (0, mNoted s4 8 ad vv, { x4 with writes := putEnt x4.writes ad vv })
        else mTicket E (mNoted s4 8 ad vv) { x4 with writes := putEnt x4.writes ad vv }) := by
    show _ = _
    rw [HW.out, mWrote_eq, hvv]
   clear HW hvv
   go_wp2_with fail
   go_quiet (fail)
   obtain ⟨w5, hw5⟩ : ∃ w5, w5 = w4.drewN nq := ⟨_, rfl⟩
   have HL5 : Hid (LifeR E H B p eb w5 s4) := by rw [hw5]; exact (HL4.out).drewN nq
   have HT5 : Hid (TryR B p eb xb w5 x4) := by rw [hw5]; exact (HT4.out).drewN nq
   have HK5 : Hid (Kp [88, 145, 63, 3] B p eb w w5) := by rw [hw5]; exact (HK4.out).drewN nq
   have hreg5 : w5.cell? ⟨xb, 1 + kb, none⟩ = some (.int .i64 vv) := by rw [hw5]; exact hreg4
   have hci5 : ∀ i, w5.cell? ⟨ib, i, none⟩ = (#[.int .i64 op, .int .i64 (ka : Int), .int .i64 (kb : Int), .int .i64 c] : Array Value)[i]? := by rw [hw5]; exact hci4
   rw [← hw5]
   clear hw5 HL4 HT4 HK4 HB4 hci4 hreg4
   obtain ⟨wa, wc, hx9, hen⟩ := (HT5.out).writes
   have HEN : Hid (EntsIn w5 wa x4.writes) := hen
   have hwl : x4.writes.length ≤ 2 ^ 40 := by have := (HX4.out).wl; omega
   clear hen
   go_wp2_with fail
   refine (find_any _ _ _ x4.writes _ _ rfl (by omega) HEN.out).mono ?_
   rintro e w' ⟨rfl, hw'⟩
   have hw2 := hw'.symm
   subst hw2
   rcases hfi : entIdx x4.writes ad with _ | k
   focus
    have hput := putEnt_none (v := vv) hfi
    obtain ⟨ca, cc, ra, rc, wa', wc', ha, hc, hb, hcd, hcf, g3, g4, g5, g6⟩ := (HT5.out).blk
    have e9 := hx9
    rw [hb.cell] at e9
    simp [tryArr] at e9
    obtain ⟨rfl, rfl⟩ := e9
    have hxlt := hb.lt
    have HBl : Hid (Blk w5 xb 145 (tryArr ca cc ra rc wa' wc' ha hc x4)) := hb
    have HCd : Hid (CodeIn w5 B ca x4.code) := hcd
    have HCf : Hid _ := hcf
    have H3 : Hid (w5.ownsRow B 160 2 (.slice ra x4.reads.length rc) x4.reads.length (x4.reads.flatMap entCells)) := g3
    have H4 : Hid (w5.ownsRow B 160 2 (.slice wa' x4.writes.length wc') x4.writes.length (x4.writes.flatMap entCells)) := g4
    have H5 : Hid (w5.ownsRow B 3 1 (.slice ha x4.held.length hc) x4.held.length (x4.held.map (.int .i64 ·))) := g5
    have H6 : Hid (∀ k, (Value.slice ra x4.reads.length rc).ownBlock = some k → (Value.slice wa' x4.writes.length wc').ownBlock ≠ some k) := g6
    have hBs := (HL5.out).stat.size
    have hxne : (Value.slice wa' x4.writes.length wc').ownBlock ≠ some xb := fun e => by
     rcases g4.2 with ⟨h1, _⟩ | ⟨g', c', cur', h1, _, h2, _⟩
     ·rw [h1] at e; simp [Value.ownBlock] at e
     ·rw [h1] at e; simp [Value.ownBlock] at e; subst e
      exact Blk.ne (show Blk w5 g' 160 cur' from h2) hb (by decide) rfl
    clear hb hcd hcf g3 g4 g5 g6
    have hfx : w5.frozen? ⟨xb, 9, none⟩ = false := (HBl.out).frozen _
    unfold idxN
    go_wp2_with
     (at_builtin;
         refine wpList_append_lies _ (by rfl) _ _ _ (by rfl) B 160 i0 _ 2 16 Tryz.underlying143 hi0 hz0 hz1 hz2 rfl (by omega) (.slice wa' x4.writes.length wc') x4.writes.length (x4.writes.flatMap entCells) (by rfl) ((H4.out).alloc _)
          ⟨w5.heap.size, 0, none⟩ 1 1 [.int .i64 ad, .int .i64 vv] (by rfl) (by rfl) (World.news_of_block (cs := #[.int .i64 ad, .int .i64 vv]) (t := 160) (fr := (0, 0)) (heap_alloc_new w5 _)) (by simp [Value.oneCell'])
          (by omega) (by unfold maxLen; omega) (by omega) (by simp; omega) (w5.heap.size + 1) (by simp) ?_;
         intro gg cap w7 hown1 hgrow hat hlt;
         have hd9 : w7.cell? ⟨xb, 9, none⟩ = some (.slice wa' x4.writes.length wc') := (by rw [hgrow.cell_far _ (by simp; omega) (Ne.symm hxne)]; simpa [World.cell?_alloc_lt, hxlt] using hx9);
         have he9 : w7.frozen? ⟨xb, 9, none⟩ = false := (by rw [hgrow.frozen_far _ (by simp; omega) (Ne.symm hxne)]; simpa [World.frozen?_alloc_past, hxlt] using hfx);
         have hTK := tryAddWrite (p := p) (eb := eb) (a := ad) (v := vv) HBl.out HCd.out HCf.out H3.out H4.out H5.out H6.out hBs (HT5.out).xB (HT5.out).regs ((Below.refl _ _).alloc (Nat.le_refl _) _) hgrow hown1 hat)
    obtain ⟨w6, hw6⟩ : ∃ w6, w6 = w7.setCell ⟨xb, 9, none⟩ (.slice (some ⟨gg, 0, none⟩) (x4.writes.length + 1) cap) := ⟨_, rfl⟩
    obtain ⟨x6, hx6⟩ : ∃ x6 : TS, x6 = { x4 with writes := putEnt x4.writes ad vv } := ⟨_, rfl⟩
    have HL6 : Hid (LifeR E H B p eb w6 s4) := by rw [hw6]; exact (HL5.out).keep hTK.2 (by simp) (by simp) (by simp) (by simp)
    have HT6 : Hid (TryR B p eb xb w6 x6) := by rw [hw6, hx6, hput]; exact hTK.1
    have HK6 : Hid (Kp [88, 145, 63, 160, 3] B p eb w w6) := by rw [hw6]; exact ((HK5.out).wide (by simp)).trans (hTK.2.wide (by simp))
    rw [← hw6]
    rw [← hx6] at HW2
    have HXL : Hid (x6.held = x4.held) := by rw [hx6]; rfl
    clear hw6 hx6 hTK hown1 hgrow hat hlt hd9 he9 hx9 hfx hput hxne hxlt HBl HCd HCf H3 H4 H5 H6 hBs HL5 HT5 HK5 HEN hreg5 hci5 hwl
   rotate_left
   focus
    have hput := putEnt_some (v := vv) hfi
    have hkl := entIdx_lt hfi
    obtain ⟨bb, hwa, _, hcv, hfv⟩ := HEN.out k hkl
    rw [hwa] at hx9
    have hTK := trySetWrite (v := vv) HT5.out (HL5.out).stat.size hx9 hkl (entIdx_what hfi)
    have hk0 : (0 : Int) ≤ (k : Int) := Int.natCast_nonneg _
    have hk1 : (k : Int) < (x4.writes.length : Int) := by omega
    have hbx : bb ≠ xb := fun e => by
     have h1 := ((HT5.out).writesKeep (Kp.refl [] B p eb w5) (by simp) (by simp) hx9 (by omega)).2 0
     obtain ⟨ca, cc, ra, rc, wa', wc', ha, hc, hb, hcd, hcf, g3, g4, g5, g6⟩ := (HT5.out).blk
     have e9 := hx9
     rw [hb.cell] at e9
     simp [tryArr] at e9
     obtain ⟨rfl, rfl⟩ := e9
     obtain ⟨g, cap, cur, hv, hgB, hg, _⟩ := own_block g4 (by omega)
     simp at hv
     obtain ⟨rfl, rfl⟩ := hv
     exact Blk.ne hg hb (by decide) e
    unfold idxN
    generalize hzz : (x4.writes.getD k ⟨0, 0⟩).val = zz at hcv
    clear hzz
    go_wp2_with fail
    obtain ⟨w6, hw6⟩ : ∃ w6, w6 = w5.setCell ⟨bb, k * 2 + 1, none⟩ (.int .i64 vv) := ⟨_, rfl⟩
    obtain ⟨x6, hx6⟩ : ∃ x6 : TS, x6 = { x4 with writes := putEnt x4.writes ad vv } := ⟨_, rfl⟩
    have HL6 : Hid (LifeR E H B p eb w6 s4) := by rw [hw6]; exact (HL5.out).keep hTK.2 (by simp) (by simp) (by simp) (by simp)
    have HT6 : Hid (TryR B p eb xb w6 x6) := by rw [hw6, hx6, hput]; exact hTK.1
    have HK6 : Hid (Kp [88, 145, 63, 160, 3] B p eb w w6) := by rw [hw6]; exact ((HK5.out).wide (by simp)).trans (hTK.2.wide (by simp))
    rw [← hw6]
    rw [← hx6] at HW2
    have HXL : Hid (x6.held = x4.held) := by rw [hx6]; rfl
    clear hw6 hx6 hTK hx9 hcv hfv hput hkl hk0 hk1 hbx HL5 HT5 HK5 HEN hreg5 hci5 hwl
   all_goals
    clear hfi
    refine (noted_any E H B p eb s4 _ _ _ _ HL6.out (HN4.out).1.ne (HN4.out).1.len (fun a ha => Nat.le_trans ((HN4.out).1.nt a ha) hmn)).mono ?_
    rintro e w8 ⟨rfl, hL8, hK8⟩
    have HL8 : Hid (LifeR E H B p eb w8 (mNoted s4 8 ad vv)) := hL8
    have HT8 : Hid (TryR B p eb xb w8 x6) := (HT6.out).keep hK8 (by simp) (by simp) (by simp)
    have HK8 : Hid (Kp [88, 145, 63, 160, 95, 3] B p eb w w8) := ((HK6.out).wide (by simp)).trans (hK8.wide (by simp))
    have HP8 : Hid ((mNoted s4 8 ad vv).pos ≤ E.seen.length ∧ (mNoted s4 8 ad vv).rank = s4.rank) := ⟨(HN4.out).2.1, rfl⟩
    clear hL8 hK8 HL6 HT6 HK6
    generalize mNoted s4 8 ad vv = s8 at *
    have hrk8 := (HL8.out).rank
    have hhd8 := (HL8.out).head
    obtain ⟨hha, hhc, hh8, _⟩ := (HT8.out).held
    by_cases hr8 : s8.rank = 0
    ·by_cases hgz : E.c.g = 0
     ·have hb1 : (s8.rank != 0) = false := by simp [hr8]
      have hb2 : (E.c.g == 0) = true := by simp [hgz]
      have HF : Hid (R = (0, s8, x6)) := (HW2.out).trans (if_pos (Or.inr (Or.inr (Or.inl hgz))))
      clear HW2 hr8 hgz
      go_wp2_with fail
      go_quiet (fail)
      go_wp2
      go_ret
      exact ⟨by rw [HF.out]; rfl, by rw [HF.out]; exact (HL8.out).drewN _, by rw [HF.out]; exact (HT8.out).drewN _, (HK8.out).drewN _⟩
     ·by_cases hlg : (x4.held.length : Int) = E.c.g
      ·have HF : Hid (R = mTicket E s8 x6) := (HW2.out).trans (if_neg (by
              rintro (h | h | h | h)
              ·cases h
              ·exact h hr8
              ·exact hgz h
              ·exact h hlg))
       clear HW2
       have hb1 : (s8.rank != 0) = false := by simp [hr8]
       have hb2 : (E.c.g == 0) = false := by simpa using hgz
       have hb3 : ((x6.held.length : Int) != E.c.g) = false := by rw [show x6.held = x4.held from HXL.out]; simpa using hlg
       clear hr8 hgz hlg
       go_wp2_with fail
       go_quiet (fail)
       go_wp2_with fail
       refine (ask_at E HE.out H B p eb xb _ _ _ _ _ _ _ ((HL8.out).drewN nq) ((HT8.out).drewN nq) (HP8.out).1).mono ?_
       rintro e w9 ⟨rfl, hL9, hT9, hK9⟩
       have hp9 : (mAsk E s8 ⟨4, 1, 0, 0⟩).2.pos ≤ E.seen.length := (mAsk_pos E s8 _ (HP8.out).1).2
       have hv9 : -1 ≤ (mAsk E s8 ⟨4, 1, 0, 0⟩).1 ∧ (mAsk E s8 ⟨4, 1, 0, 0⟩).1 ≤ 1125899906842624 := mAsk_val E HE.out s8 _
       have HK9 : Hid (Kp [88, 145, 63, 160, 95, 3] B p eb w w9) := ((HK8.out).drewN nq).trans (hK9.wide (by simp))
       have HU9 : Hid (R = (if (mAsk E s8 ⟨4, 1, 0, 0⟩).2.over then (-1, (mAsk E s8 ⟨4, 1, 0, 0⟩).2, x6) else
               if (mAsk E { (mAsk E s8 ⟨4, 1, 0, 0⟩).2 with rank := (mAsk E s8 ⟨4, 1, 0, 0⟩).1 + 1 } ⟨3, cStatus E E.me, 0, 8 * ((mAsk E s8 ⟨4, 1, 0, 0⟩).1 + 1)⟩).2.over then (-1, (mAsk E { (mAsk E s8 ⟨4, 1, 0, 0⟩).2 with rank := (mAsk E s8 ⟨4, 1, 0, 0⟩).1 + 1 } ⟨3, cStatus E E.me, 0, 8 * ((mAsk E s8 ⟨4, 1, 0, 0⟩).1 + 1)⟩).2, x6) else
               if (mAsk E { (mAsk E s8 ⟨4, 1, 0, 0⟩).2 with rank := (mAsk E s8 ⟨4, 1, 0, 0⟩).1 + 1 } ⟨3, cStatus E E.me, 0, 8 * ((mAsk E s8 ⟨4, 1, 0, 0⟩).1 + 1)⟩).1 ≠ 0 then (5, (mAsk E { (mAsk E s8 ⟨4, 1, 0, 0⟩).2 with rank := (mAsk E s8 ⟨4, 1, 0, 0⟩).1 + 1 } ⟨3, cStatus E E.me, 0, 8 * ((mAsk E s8 ⟨4, 1, 0, 0⟩).1 + 1)⟩).2, x6) else
               (0, (mAsk E { (mAsk E s8 ⟨4, 1, 0, 0⟩).2 with rank := (mAsk E s8 ⟨4, 1, 0, 0⟩).1 + 1 } ⟨3, cStatus E E.me, 0, 8 * ((mAsk E s8 ⟨4, 1, 0, 0⟩).1 + 1)⟩).2, x6))) := HF.out
       clear HF hK9 hrk8 hhd8 hh8
       generalize mAsk E s8 ⟨4, 1, 0, 0⟩ = q9 at *
       obtain ⟨v9, s9⟩ := q9
       have HL9 : Hid (LifeR E H B p eb w9 s9) := hL9
       have HT9 : Hid (TryR B p eb xb w9 x6) := hT9
       have hov9 : w9.cell? ⟨p, 14, none⟩ = some (.bool s9.over) := hL9.over
       have hrk9 : w9.cell? ⟨p, 19, none⟩ = some (.int .i64 s9.rank) := hL9.rank
       obtain ⟨la9, lc9, hb9, _⟩ := hL9.life
       have hfz9 := hb9.frozen 19
       obtain ⟨hv9a, hv9b⟩ := hv9
       clear hL9 hT9 hb9
       simp only at hp9 hv9a hv9b
       cases ho9 : s9.over with
       | true =>
        have HF : Hid (R = (-1, s9, x6)) := (HU9.out).trans (if_pos ho9)
        clear HU9
        go_wp2
        go_ret
        exact ⟨by rw [HF.out]; rfl, by rw [HF.out]; exact HL9.out, by rw [HF.out]; exact HT9.out, HK9.out⟩
       | false =>
        have HU10 : Hid (R = _) := (HU9.out).trans (if_neg (by simp [ho9]))
        clear HU9
        have hLK := lifeSetRank (v9 + 1) HL9.out
        have hw1' : IntKind.i64.wrap (v9 + 1) = v9 + 1 := wrapI _ (by omega) (by omega)
        have hw8' : IntKind.i64.wrap (8 * (v9 + 1)) = 8 * (v9 + 1) := wrapI _ (by omega) (by omega)
        obtain ⟨wA, hwA⟩ : ∃ wA, wA = w9.setCell ⟨p, 19, none⟩ (.int .i64 (v9 + 1)) := ⟨_, rfl⟩
        obtain ⟨sA, hsA⟩ : ∃ sA : LS, sA = { s9 with rank := v9 + 1 } := ⟨_, rfl⟩
        have HLA : Hid (LifeR E H B p eb wA sA) := by rw [hwA, hsA]; exact hLK.1
        have HTA : Hid (TryR B p eb xb wA x6) := by rw [hwA]; exact (HT9.out).keep hLK.2 (by simp) (by simp) (by simp)
        have HKA : Hid (Kp [88, 145, 63, 160, 95, 3] B p eb w wA) := by rw [hwA]; exact (HK9.out).trans (hLK.2.wide (by simp))
        have HPA : Hid (sA.pos ≤ E.seen.length ∧ sA.rank = v9 + 1) := by rw [hsA]; exact ⟨hp9, rfl⟩
        have HUA : Hid (R = if (mAsk E sA ⟨3, cStatus E E.me, 0, 8 * (v9 + 1)⟩).2.over then (-1, (mAsk E sA ⟨3, cStatus E E.me, 0, 8 * (v9 + 1)⟩).2, x6) else
            if (mAsk E sA ⟨3, cStatus E E.me, 0, 8 * (v9 + 1)⟩).1 ≠ 0 then (5, (mAsk E sA ⟨3, cStatus E E.me, 0, 8 * (v9 + 1)⟩).2, x6) else (0, (mAsk E sA ⟨3, cStatus E E.me, 0, 8 * (v9 + 1)⟩).2, x6)) := by rw [hsA]; exact HU10
        have hrkA : wA.cell? ⟨p, 19, none⟩ = some (.int .i64 (v9 + 1)) := by rw [(HLA.out).rank, (HPA.out).2]
        clear HU10 hLK
        go_wp2_with fail
        rw [← hwA]
        clear hwA hsA HL9 HT9 HK9 hov9 hrk9 hfz9 ho9
        have HS0 : Hid (HeadAt E H p wA.drew ∧ wA.drew.cell? ⟨p, 19, none⟩ = some (.int .i64 (v9 + 1))) := ⟨(HLA.out).drew.head, hrkA⟩
        go_region_held3 (fun w' => HeadAt E H p w' ∧ w'.cell? ⟨p, 19, none⟩ = some (.int .i64 (v9 + 1)))
         (first | exact HS2.out | exact HS1.out | exact HS0.out)
         (first
             | (go_at_call 88; refine (status_at E HE.out H B p eb xb _ _ _ _ (HLA.out).drew (HTA.out).drew (by omega) (by omega)).mono ?_; rintro e wB ⟨rfl, hL2, hT2, hK2⟩; have HLB : Hid (LifeR E H B p eb wB sA) := hL2; have HTB : Hid (TryR B p eb xb wB x6) := hT2; have HKB : Hid (Kp [] B p eb wA wB) := (Kp.below (Below.refl _ _).drew (HLA.out).stat.size).trans hK2; clear hL2 hT2 hK2;
                have HS1 : Hid (HeadAt E H p wB ∧ wB.cell? ⟨p, 19, none⟩ = some (.int .i64 (v9 + 1))) := ⟨(HLB.out).head, by rw [(HLB.out).rank, (HPA.out).2]⟩)
             | (go_at_call 78; refine (ask_at E HE.out H B p eb xb _ _ _ _ _ _ _ HLB.out HTB.out (HPA.out).1).mono ?_; rintro e wC ⟨rfl, hL3, hT3, hK3⟩; have HLC : Hid (LifeR E H B p eb wC (mAsk E sA ⟨3, cStatus E E.me, 0, 8 * (v9 + 1)⟩).2) := hL3; have HTC : Hid (TryR B p eb xb wC x6) := hT3; have HKC : Hid (Kp [88, 145, 63, 160, 95, 3] B p eb w wC) := (HKA.out).trans ((HKB.out).up.trans (hK3.wide (by simp))); clear hL3 hT3 hK3;
                have HS2 : Hid (HeadAt E H p wC ∧ wC.cell? ⟨p, 19, none⟩ = some (.int .i64 (v9 + 1))) := ⟨(HLC.out).head, by rw [(HLC.out).rank, mAsk_rank, (HPA.out).2]⟩))
        clear HS0 HS1 HS2 HLB HTB HKB HLA HTA HKA hrkA
        generalize mAsk E sA ⟨3, cStatus E E.me, 0, 8 * (v9 + 1)⟩ = qC at *
        obtain ⟨vC, sC⟩ := qC
        have hovC : wC.cell? ⟨p, 14, none⟩ = some (.bool sC.over) := (HLC.out).over
        cases hoC : sC.over with
        | true =>
         have HF : Hid (R = (-1, sC, x6)) := (HUA.out).trans (if_pos hoC)
         clear HUA
         go_wp2
         go_ret
         exact ⟨by rw [HF.out]; rfl, by rw [HF.out]; exact HLC.out, by rw [HF.out]; exact HTC.out, HKC.out⟩
        | false =>
         have HUB : Hid (R = if vC ≠ 0 then (5, sC, x6) else (0, sC, x6)) := (HUA.out).trans (if_neg (by simp [hoC]))
         clear HUA
         by_cases hvC : vC = 0
         ·have HF : Hid (R = (0, sC, x6)) := (HUB.out).trans (if_neg (by simp [hvC]))
          have hbC : (vC != 0) = false := by simp [hvC]
          clear HUB hvC
          go_wp2
          go_ret
          exact ⟨by rw [HF.out]; rfl, by rw [HF.out]; exact HLC.out, by rw [HF.out]; exact HTC.out, HKC.out⟩
         ·have HF : Hid (R = (5, sC, x6)) := (HUB.out).trans (if_pos hvC)
          have hbC : (vC != 0) = true := by simp [hvC]
          clear HUB hvC
          go_wp2
          go_ret
          exact ⟨by rw [HF.out]; rfl, by rw [HF.out]; exact HLC.out, by rw [HF.out]; exact HTC.out, HKC.out⟩
      ·have hb1 : (s8.rank != 0) = false := by simp [hr8]
       have hb2 : (E.c.g == 0) = false := by simpa using hgz
       have hb3 : ((x6.held.length : Int) != E.c.g) = true := by rw [show x6.held = x4.held from HXL.out]; simpa using hlg
       have HF : Hid (R = (0, s8, x6)) := (HW2.out).trans (if_pos (Or.inr (Or.inr (Or.inr hlg))))
       clear HW2 hr8 hgz hlg
       go_wp2_with fail
       go_quiet (fail)
       go_wp2
       go_ret
       exact ⟨by rw [HF.out]; rfl, by rw [HF.out]; exact (HL8.out).drewN _, by rw [HF.out]; exact (HT8.out).drewN _, (HK8.out).drewN _⟩
    ·have hb1 : (s8.rank != 0) = true := by simp [hr8]
     have HF : Hid (R = (0, s8, x6)) := (HW2.out).trans (if_pos (Or.inr (Or.inl hr8)))
     clear HW2 hr8
     go_wp2_with fail
     go_quiet (fail)
     go_wp2
     go_ret
     exact ⟨by rw [HF.out]; rfl, by rw [HF.out]; exact (HL8.out).drewN _, by rw [HF.out]; exact (HT8.out).drewN _, (HK8.out).drewN _⟩
end Go.Proofs.YtejadojilncbjaaGreat
