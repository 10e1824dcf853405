import Derived.Test.YtejadojilncbjaaGreatG05
import Derived.Test.YtejadojilncbjaaGreatG15
import Derived.Deep.DeepCutAuto
namespace Go.Proofs.YtejadojilncbjaaGreat
open Go.RowKit
set_option linter.unusedVariables false
attribute [local go_sem ↓] Go.wp_at_zero Go.wp_at_succ
theorem wp_normal {P : Program} {code : Code} {Q : Exit → Act → World → Prop} {a : Act} {w : World} (h : code.wp P (NormalOnly fun a w => Q .normal a w) a w) : code.wp P Q a w :=
 Code.wp_mono (fun e a w h => by cases e <;> first | exact h | exact (h : False).elim) h
theorem listAdd {E : Env} {H : Hd} {B p eb : Nat} {w w0 w1 : World} {s : LS} {la : Option Addr} {lc g cap : Nat} {nvs : List Value} {a : AttD} (hL : LifeR E H B p eb w s) (hb : Blk w p 88 (lifeArr E H la lc s)) (hl : nvs.length = s.list.length)
  (ho : w.ownsRow B 63 8 (.slice la s.list.length lc) s.list.length (rowCells s.list nvs)) (hno : ∀ (i : Nat) (a : AttD) (nv : Value), s.list[i]? = some a → nvs[i]? = some nv → w.ownsRow B 95 3 nv a.notes.length (a.notes.flatMap noteCells))
  (hd : ∀ (i j : Nat) (u v : Value) (k : Nat), nvs[i]? = some u → nvs[j]? = some v → u.ownBlock = some k → v.ownBlock = some k → i = j) (ha : a.notes = [])
  (hb0 : Below w.heap.size w w0) (hgr : w0.grownBy w1 (Value.slice la s.list.length lc).ownBlock) (hown : w1.ownsRow B 63 8 (.slice (some ⟨g, 0, none⟩) (s.list.length + 1) cap) (s.list.length + 1) (rowCells s.list nvs ++ attCells a (.slice none 0 0))) :
  LifeR E H B p eb (w1.setCell ⟨p, 21, none⟩ (.slice (some ⟨g, 0, none⟩) (s.list.length + 1) cap)) { s with list := s.list ++ [a] } ∧ Kp [88, 63] B p eb w (w1.setCell ⟨p, 21, none⟩ (.slice (some ⟨g, 0, none⟩) (s.list.length + 1) cap)) := by
 have hB := hL.stat.size
 have hk0 : Kp [] B p eb w w0 := Kp.below hb0 hB
 have hk1 : Kp [63] B p eb w0 w1 := Kp.grown hgr (Nat.le_trans hB hb0.size) (ownsRow_keep ho hk0 (by simp)) (by simp)
 have hb1 : Blk w1 p 88 (lifeArr E H la lc s) := (hb.keep hk0 (by simp)).keep hk1 (by simp)
 have hk2 : Kp [88] B p eb w1 (w1.setCell ⟨p, 21, none⟩ (.slice (some ⟨g, 0, none⟩) (s.list.length + 1) cap)) := Kp.only (Only.refl _ _).set (by have := hb0.size; have := hgr.size; omega) hb1 (by simp) (Or.inl rfl)
 have hk : Kp [88, 63] B p eb w (w1.setCell ⟨p, 21, none⟩ (.slice (some ⟨g, 0, none⟩) (s.list.length + 1) cap)) := hk0.up.trans ((hk1.wide (by simp)).trans (hk2.wide (by simp)))
 refine ⟨⟨hL.stat.keep hk, ⟨some ⟨g, 0, none⟩, cap, hb1.set.congr ?_, ?_⟩, hL.ends.imp id (fun ⟨x, y⟩ => ⟨x, y.keep hk (by simp)⟩), hL.pB, hL.eB, hL.pe⟩, hk⟩
 ·simp [lifeArr]
 ·refine ⟨nvs ++ [.slice none 0 0], by simp [hl], ?_, fun i b u hi hu => ?_, fun i j u v k hi hj hu hv => ?_⟩
  ·have h1 := ownsRow_keep hown hk2 (by simp)
   have e : rowCells (s.list ++ [a]) (nvs ++ [.slice none 0 0]) = rowCells s.list nvs ++ attCells a (.slice none 0 0) := by
    unfold rowCells
    rw [List.zip_append hl.symm]
    simp
   rw [show ({ s with list := s.list ++ [a] } : LS).list = s.list ++ [a] from rfl, e]
   simpa using h1
  ·by_cases hi' : i < s.list.length
   ·rw [List.getElem?_append_left hi'] at hi
    rw [List.getElem?_append_left (by omega)] at hu
    exact ownsRow_keep (hno i b u hi hu) hk (by simp)
   ·have e : i = s.list.length := by
     have := (List.getElem?_eq_some_iff.1 hi).1
     simp at this
     omega
    subst e
    simp at hi
    rw [← hl] at hu
    simp at hu
    subst hi hu
    rw [ha]
    exact World.ownsRow_nil _ _ _ _
  ·have low : ∀ (i : Nat) (u : Value) (k : Nat), (nvs ++ [Value.slice none 0 0])[i]? = some u → u.ownBlock = some k → nvs[i]? = some u := fun i u k hi hu => by
    by_cases hi' : i < nvs.length
    ·rwa [List.getElem?_append_left hi'] at hi
    ·rw [List.getElem?_append_right (by omega)] at hi
     have : u = .slice none 0 0 := by
      cases h : i - nvs.length with
      | zero => rw [h] at hi; simpa using hi.symm
      | succ n => rw [h] at hi; simp at hi
     rw [this] at hu
     simp [Value.ownBlock] at hu
   exact hd i j u v k (low i u k hi hu) (low j v k hj hv) hu hv
theorem TryR.new {E : Env} {B p eb : Nat} {w : World} {ca : Option Addr} {cc : Nat} {code : List InsD} {v : Int} (hB : B ≤ w.heap.size) (hcd : CodeIn w B ca code) (hcf : FarC B p eb ca code) :
  TryR B p eb w.heap.size (w.alloc (.cells #[.slice ca code.length cc, .int .i64 0, .int .i64 0, .int .i64 0, .int .i64 0, .int .i64 0, .int .i64 0, .int .i64 v, .slice none 0 0, .slice none 0 0, .slice none 0 0, .bool false, .int .i64 (-1)] 145)) (newTS code v) := by
 have hk : Kp [] B p eb w (w.alloc (.cells #[.slice ca code.length cc, .int .i64 0, .int .i64 0, .int .i64 0, .int .i64 0, .int .i64 0, .int .i64 0, .int .i64 v, .slice none 0 0, .slice none 0 0, .slice none 0 0, .bool false, .int .i64 (-1)] 145)) := Kp.below ((Below.refl _ _).alloc (Nat.le_refl _) _) hB
 exact ⟨⟨ca, cc, none, 0, none, 0, none, 0, Blk.new _ _ _, hcd.keep hcf hk, hcf, World.ownsRow_nil _ _ _ _, World.ownsRow_nil _ _ _ _, World.ownsRow_nil _ _ _ _, fun k h => by simp [Value.ownBlock] at h⟩, hB, rfl⟩
theorem LifeR.endSet {E : Env} {H : Hd} {B p eb job : Nat} {w : World} {s : LS} (hL : LifeR E H B p eb w s) (hj : job < s.ends.length) (hea : H.ea = some ⟨eb, 0, none⟩) (heb : Blk w eb 84 (s.ends.flatMap resCells).toArray) (r : ResD) :
  LifeR E H B p eb (((((w.setCell ⟨eb, job * 5, none⟩ (.int .i64 r.fate)).setCell ⟨eb, job * 5 + 1, none⟩ (.int .i64 r.r0)).setCell ⟨eb, job * 5 + 2, none⟩ (.int .i64 r.r1)).setCell ⟨eb, job * 5 + 3, none⟩ (.int .i64 r.r2)).setCell ⟨eb, job * 5 + 4, none⟩ (.int .i64 r.r3)) { s with ends := s.ends.set job r } ∧
   Kp [84] B p eb w (((((w.setCell ⟨eb, job * 5, none⟩ (.int .i64 r.fate)).setCell ⟨eb, job * 5 + 1, none⟩ (.int .i64 r.r0)).setCell ⟨eb, job * 5 + 2, none⟩ (.int .i64 r.r1)).setCell ⟨eb, job * 5 + 3, none⟩ (.int .i64 r.r2)).setCell ⟨eb, job * 5 + 4, none⟩ (.int .i64 r.r3)) := by
 have hk : Kp [84] B p eb w (((((w.setCell ⟨eb, job * 5, none⟩ (.int .i64 r.fate)).setCell ⟨eb, job * 5 + 1, none⟩ (.int .i64 r.r0)).setCell ⟨eb, job * 5 + 2, none⟩ (.int .i64 r.r1)).setCell ⟨eb, job * 5 + 3, none⟩ (.int .i64 r.r2)).setCell ⟨eb, job * 5 + 4, none⟩ (.int .i64 r.r3)) :=
  Kp.only ((((((Only.refl _ _).set).set).set).set).set) hL.stat.size heb (by simp) (Or.inr (Or.inl rfl))
 obtain ⟨la, lc, hb, hl⟩ := hL.life
 refine ⟨⟨hL.stat.keep hk, ⟨la, lc, (hb.keep hk (by simp)).congr (by simp [lifeArr]), hl.keep hk (by simp) (by simp)⟩, Or.inr ⟨hea, (heb.set.set.set.set.set).congr ?_⟩, hL.pB, hL.eB, hL.pe⟩, hk⟩
 obtain ⟨r9, hr9⟩ : ∃ r9, s.ends[job]? = some r9 := ⟨_, List.getElem?_eq_getElem hj⟩
 have h0 := flat_set (f := resCells) (n := 5) (fun _ => rfl) s.ends job 0 (.int .i64 r.fate) { r9 with fate := r.fate } (by omega) hj (fun a ha => by rw [hr9] at ha; cases ha; rfl)
 have h1 := flat_set (f := resCells) (n := 5) (fun _ => rfl) (s.ends.set job { r9 with fate := r.fate }) job 1 (.int .i64 r.r0) { r9 with fate := r.fate, r0 := r.r0 } (by omega) (by simpa using hj) (fun a ha => by rw [List.getElem?_set_self hj] at ha; cases ha; rfl)
 have h2 := flat_set (f := resCells) (n := 5) (fun _ => rfl) (s.ends.set job { r9 with fate := r.fate, r0 := r.r0 }) job 2 (.int .i64 r.r1) { r9 with fate := r.fate, r0 := r.r0, r1 := r.r1 } (by omega) (by simpa using hj) (fun a ha => by rw [List.getElem?_set_self hj] at ha; cases ha; rfl)
 have h3 := flat_set (f := resCells) (n := 5) (fun _ => rfl) (s.ends.set job { r9 with fate := r.fate, r0 := r.r0, r1 := r.r1 }) job 3 (.int .i64 r.r2) { r9 with fate := r.fate, r0 := r.r0, r1 := r.r1, r2 := r.r2 } (by omega) (by simpa using hj) (fun a ha => by rw [List.getElem?_set_self hj] at ha; cases ha; rfl)
 have h4 := flat_set (f := resCells) (n := 5) (fun _ => rfl) (s.ends.set job { r9 with fate := r.fate, r0 := r.r0, r1 := r.r1, r2 := r.r2 }) job 4 (.int .i64 r.r3) r (by omega) (by simpa using hj) (fun a ha => by rw [List.getElem?_set_self hj] at ha; cases ha; rfl)
 rw [List.set_set] at h1 h2 h3 h4
 simp only [List.setIfInBounds_toArray]
 rw [show job * 5 = job * 5 + 0 from rfl, h0, h1, h2, h3, h4]
set_option maxRecDepth 100000 in
set_option maxHeartbeats 8000000 in
theorem attempt_any (E : Env) (hE : EnvOk E) (H : Hd) (B p eb job : Nat) (s : LS) (w : World) (hL : LifeR E H B p eb w s) (hK : LifeOk E s) (h33 : E.seen.length ≤ 2 ^ 33) (hj : job < E.jobs.length) :
  Calls Tryz.prog 77 #[.pointer (some ⟨p, 0, none⟩), .int .i64 (job : Int)] w fun e w' =>
   e = .returned (.int .i64 (mAttempt E s job).1) ∧ LifeR E H B p eb w' (mAttempt E s job).2 ∧ Kp [88, 145, 63, 160, 95, 3, 84] B p eb w w' := by
 have HE : Hid (EnvOk E) := hE
 have hjl := hE.jobs
 have hel := hE.len
 have hme0 := hE.me0
 have hme3 := hE.me3
 have HO : Hid (LifeOk E s) := hK
 obtain ⟨R, HR⟩ : ∃ R, Hid (mAttempt E s job = R) := ⟨_, rfl⟩
 rw [show mAttempt E s job = R from HR.out]
 go_enter Tryz.func77, Tryz.ntmps77
 go_wp2_with fail
 refine (loadL E HE.out H B p eb s _ _ hL hK.pos).mono ?_
 rintro e w1 ⟨rfl, hL1, hK1⟩
 have hle := mAsk_le E s ⟨1, 0, 0, 0⟩ hK.pos
 have hval : -1 ≤ (mLoad E s 0).1 ∧ (mLoad E s 0).1 ≤ 1125899906842624 := mAsk_val E hE s _
 have HLE : Hid (LeOk E s (mLoad E s 0).2) := hle
 have HAdv : Hid (s.over = false → (mLoad E s 0).2.over = true ∨ ((mLoad E s 0).2.over = false ∧ (mLoad E s 0).2.pos = s.pos + 1)) := fun h => mAsk_adv E s _ h hK.pos
 have HDead : Hid (s.over = true → (mLoad E s 0).2 = s) := fun h => by show (mAsk E s _).2 = s; rw [mAsk_dead h]
 have HU : Hid (R = _) := (HR.out).symm.trans (show mAttempt E s job = (if (mLoad E s 0).2.over then (-1, (mLoad E s 0).2) else _) from rfl)
 clear hL hE hK hle HR
 generalize hq : mLoad E s 0 = q at *
 obtain ⟨v, s1⟩ := q
 clear hq
 have HL1 : Hid (LifeR E H B p eb w1 s1) := hL1
 have HK1 : Hid (Kp [88] B p eb w w1) := hK1
 have hov := hL1.over
 clear hL1 hK1
 simp only at hov
 cases ho1 : s1.over with
 | true =>
  have HF : Hid (R = (-1, s1)) := (HU.out).trans (if_pos ho1)
  clear HU
  go_wp2
  go_ret
  exact ⟨by rw [HF.out]; rfl, by rw [HF.out]; exact HL1.out, (HK1.out).wide (by simp)⟩
 | false =>
  have HU2 : Hid (R = _) := (HU.out).trans (if_neg (by simp [ho1]))
  clear HU
  have hp1 : s1.pos = s.pos + 1 := by
   cases h : s.over with
   | true =>
    have e := HDead.out h
    simp only at e
    rw [e, h] at ho1; cases ho1
   | false =>
    rcases HAdv.out h with h2 | h2
    ·simp only at h2; rw [h2] at ho1; cases ho1
    ·exact h2.2
  obtain ⟨js, hjs, hji, hjc⟩ := (HL1.out).stat.jobs
  obtain ⟨jb, joff, hja, hjb, hjt, hjs2⟩ := hji job (by omega)
  obtain ⟨_, hjlen, hjcode, hjfar⟩ := hjc job (by omega)
  obtain ⟨jd, hjd⟩ : ∃ jd, jd = jobAt js job := ⟨_, rfl⟩
  obtain ⟨code, hcode⟩ : ∃ code, code = (E.jobs.getD job (0, [])).2 := ⟨_, rfl⟩
  rw [← hjd] at hjt hjs2 hjlen hjcode hjfar
  rw [← hcode] at hjlen hjcode hjfar
  rw [hjlen] at hjs2
  have hj0 : (0 : Int) ≤ (job : Int) := Int.natCast_nonneg _
  have hj1 : (job : Int) < (E.jobs.length : Int) := by omega
  have hc8 : w1.cell? ⟨p, 8, none⟩ = some (.slice (some ⟨jb, joff, none⟩) E.jobs.length H.jc) := by
   have h := (HL1.out).head 8 (by omega)
   rw [h]
   simp [hja]
  have HCD : Hid (CodeIn w1 B jd.a code ∧ FarC B p eb jd.a code) := ⟨hjcode, hjfar⟩
  have hc20 : code.length ≤ 20 := by
   rw [hcode]
   have hm : E.jobs.getD job (0, []) ∈ E.jobs := by
    rw [show E.jobs.getD job (0, []) = E.jobs[job] from by simp [List.getD, List.getElem?_eq_getElem hj]]
    exact List.getElem_mem hj
   exact (HE.out).codes _ hm
  have HCode : Hid (code = (E.jobs.getD job (0, [])).2) := hcode
  have hTn := TryR.new (E := E) (cc := jd.cap) (v := v) (HL1.out).stat.size hjcode hjfar
  clear hjs hji hjc hjt hjlen hjcode hjfar hjd hcode hja
  have hbx := (Below.refl w1.heap.size w1).alloc (Nat.le_refl _) (.cells #[.slice jd.a code.length jd.cap, .int .i64 0, .int .i64 0, .int .i64 0, .int .i64 0, .int .i64 0, .int .i64 0, .int .i64 v, .slice none 0 0, .slice none 0 0, .slice none 0 0, .bool false, .int .i64 (-1)] 145)
  go_wp2_with fail
  obtain ⟨w2, hw2⟩ : ∃ w2, w2 = w1.alloc (.cells #[.slice jd.a code.length jd.cap, .int .i64 0, .int .i64 0, .int .i64 0, .int .i64 0, .int .i64 0, .int .i64 0, .int .i64 v, .slice none 0 0, .slice none 0 0, .slice none 0 0, .bool false, .int .i64 (-1)] 145) := ⟨_, rfl⟩
  obtain ⟨xb, hxb⟩ : ∃ xb, xb = w1.heap.size := ⟨_, rfl⟩
  have HL2 : Hid (LifeR E H B p eb w2 s1) := by rw [hw2]; exact (HL1.out).below hbx
  have HT2 : Hid (TryR B p eb xb w2 (newTS code v)) := by rw [hw2, hxb]; exact hTn
  have HK2 : Hid (Kp [88, 145, 63, 160, 95, 3, 84] B p eb w w2) := by rw [hw2]; exact ((HK1.out).wide (by simp)).trans (Kp.below hbx (HL1.out).stat.size)
  rw [← hw2, ← hxb]
  clear hw2 hxb hTn hbx HL1 HK1 hc8 hjs2 hov HCD
  obtain ⟨la, lc, hb, nvs, hnl, ho, hno, hd⟩ := (HL2.out).life
  obtain ⟨m, hm⟩ : ∃ m, s1.pos = m + 1 := ⟨s.pos, hp1⟩
  have hsl : s1.list.length ≤ s1.pos ∧ s1.pos ≤ E.seen.length := by
   have h1 : s1.list.length = s.list.length := (HLE.out).ls.sn.len
   have h2 : s1.pos ≤ E.seen.length := (HLE.out).ls.pos
   have h3 := (HO.out).len
   exact ⟨by omega, h2⟩
  obtain ⟨hsl1, hsl2⟩ := hsl
  obtain ⟨b, off, hwa, hwb, hwc⟩ := (HL2.out).stat.whens m (by rw [(HE.out).wlen]; omega)
  obtain ⟨z, hz⟩ : ∃ z, z = E.whens.getD m 0 := ⟨_, rfl⟩
  rw [← hz] at hwc
  have hc21 : w2.cell? ⟨p, 21, none⟩ = some (.slice la s1.list.length lc) := by rw [hb.cell]; rfl
  have hc12 : w2.cell? ⟨p, 12, none⟩ = some (.slice (some ⟨b, off, none⟩) E.whens.length H.wc) := by rw [hb.cell]; simp [lifeArr, hwa]
  have hc13 : w2.cell? ⟨p, 13, none⟩ = some (.int .i64 ((m : Int) + 1)) := by rw [hb.cell]; simp [lifeArr, hm]
  have hc9 : w2.cell? ⟨p, 9, none⟩ = some (.int .i64 E.me) := by rw [hb.cell]; rfl
  have hfp : w2.frozen? ⟨p, 21, none⟩ = false := hb.frozen _
  have hplt := hb.lt
  have hblt := block_lt hwc
  have hpne : (Value.slice la s1.list.length lc).ownBlock ≠ some p := fun e => by
   have := (ho.lt p e).1
   have := (HL2.out).pB
   omega
  have hbne : (Value.slice la s1.list.length lc).ownBlock ≠ some b := fun e => by
   have := (ho.lt b e).1
   have := ((HL2.out).stat.whensF b off hwa).1
   omega
  have hm0 : (0 : Int) ≤ (m : Int) := Int.natCast_nonneg _
  have hm1 : (m : Int) < (E.whens.length : Int) := by rw [(HE.out).wlen]; omega
  have hm2 : (m : Int) ≤ 35184372088832 := by omega
  have hwm : IntKind.i64.wrap ((m : Int) + 1 - 1) = (m : Int) := by rw [show (m : Int) + 1 - 1 = (m : Int) from by omega]; exact wrapF _ (by omega) (by omega)
  have hwm2 : IntKind.i64.wrap (m : Int) = (m : Int) := wrapF _ (by omega) (by omega)
  have hll : s1.list.length ≤ 8589934592 := by omega
  have HBk : Hid (Blk w2 p 88 (lifeArr E H la lc s1)) := hb
  have HNL : Hid (nvs.length = s1.list.length) := hnl
  have HOw : Hid (w2.ownsRow B 63 8 (.slice la s1.list.length lc) s1.list.length (rowCells s1.list nvs)) := ho
  have HNO : Hid (∀ (i : Nat) (a : AttD) (nv : Value), s1.list[i]? = some a → nvs[i]? = some nv → w2.ownsRow B 95 3 nv a.notes.length (a.notes.flatMap noteCells)) := hno
  have HD : Hid (∀ (i j : Nat) (u v : Value) (k : Nat), nvs[i]? = some u → nvs[j]? = some v → u.ownBlock = some k → v.ownBlock = some k → i = j) := hd
  have HM : Hid (s1.pos = m + 1) := hm
  have HZ : Hid (z = E.whens.getD m 0) := hz
  have HP1 : Hid (s1.pos = s.pos + 1) := hp1
  have hBs := (HL2.out).stat.size
  have hpB := (HL2.out).pB
  have hbB : b < B := ((HL2.out).stat.whensF b off hwa).1
  clear hb hnl ho hno hd hm hz hp1 hwa hwb hsl1
  go_cut [5] (fun t wc => t = .int .i64 v ∧ Hid (LifeR E H B p eb wc { s1 with list := s1.list ++ [⟨E.me, job, z, 0, v, 0, 0, []⟩] }) ∧ Hid (TryR B p eb xb wc (newTS code v)) ∧ Hid (Kp [88, 145, 63, 160, 95, 3, 84] B p eb w wc))
  case first =>
   clear HU2 HDead HAdv HLE HE HO HM HZ HP1 hval ho1 hme0 hme3 hjl hel hc20 HCode hsl2 hj hj0 hj1
   refine wp_normal (att_region _ _ B p job b off E.whens.length H.wc m s1.list.length lc la (rowCells s1.list nvs) E.me z v _ _ _ _ _ _ _ _ _ _ _ _ _ _ _ _ _ _ _ _ w2 HOw.out hc21 hc12 hc13 hc9 hwc hfp hplt hblt hpB hbB hBs hm0 hm1 hm2 hll ?_)
   intro a' gg cap w3 hgrow hown1 hfin
   obtain ⟨u26, u27, u28, u29, u30, u31, u32, u33, u34, u35, u36, u37, u38, u39, u40, u41, u42, u43, u44, u45, u46, u47, u48, u49, u50, u51, u52, rfl⟩ := hfin
   have hLK := listAdd (a := ⟨E.me, job, z, 0, v, 0, 0, []⟩) HL2.out HBk.out HNL.out HOw.out HNO.out HD.out rfl ((Below.refl _ _).alloc (Nat.le_refl _) _).drew hgrow hown1
   go_wp2
   go_meet
   case rel => exact ⟨rfl, hLK.1, (HT2.out).keep hLK.2 (by simp) (by simp) (by simp), (HK2.out).trans (hLK.2.wide (by simp))⟩
  case rest =>
   obtain ⟨rfl, HLc, HTc, HKc⟩ := hcut
   obtain ⟨s2, hs2⟩ : ∃ s2 : LS, s2 = { s1 with list := s1.list ++ [⟨E.me, job, z, 0, v, 0, 0, []⟩] } := ⟨_, rfl⟩
   rw [← hs2] at HLc
   obtain ⟨_, _, _, _, _, _, ⟨hfu1, hfu2⟩⟩ := cfgB_true (HE.out).cfg
   obtain ⟨f, hf⟩ : ∃ f : Nat, (f : Int) = E.c.f := ⟨E.c.f.toNat, by omega⟩
   have HN2 : Hid (NotesOk (64 * s.pos) s2) := by
    have h1 : s1.list.length = s.list.length := (HLE.out).ls.sn.len
    have h2 := (HO.out).len
    have h3 := (HO.out).pos
    refine ⟨by rw [hs2]; simp, by rw [hs2]; simp; omega, fun a ha => ?_⟩
    rw [hs2] at ha
    rcases List.mem_append.1 ha with h | h
    ·have h4 : a.notes.length ∈ s1.list.map (fun a => a.notes.length) := List.mem_map_of_mem h
     have h5 : s1.list.map (fun a => a.notes.length) = s.list.map (fun a => a.notes.length) := (HLE.out).ls.sn
     rw [h5] at h4
     obtain ⟨b', hb', e'⟩ := List.mem_map.1 h4
     rw [← e']; exact (HO.out).nt b' hb'
    ·simp at h; subst h; simp
   have HX2 : Hid (TsOk 0 (newTS code v) ∧ WvOk (newTS code v)) := ⟨⟨by simp [newTS], by simp [newTS], by simp [newTS], by simp [newTS], by simp [newTS], by simp [newTS], by simp [newTS], by simp [newTS], by simp [newTS], rfl⟩, by simp [newTS, WvOk]⟩
   have HG2 : Hid (s2.pos = s.pos + 1 ∧ s2.pos ≤ E.seen.length ∧ 0 ≤ s2.rank ∧ s2.rank ≤ 1125899906842625 ∧ s2.fails = s.fails ∧ s2.ends = s.ends ∧ s2.list.length = s.list.length + 1) := by
    rw [hs2]
    have r1 : s1.rank = s.rank := (HLE.out).ls.rank
    have hlen1 : (s1.list ++ [(⟨E.me, job, z, 0, v, 0, 0, []⟩ : AttD)]).length = s.list.length + 1 := by
     have h1 : s1.list.length = s.list.length := (HLE.out).ls.sn.len
     simp [h1]
    exact ⟨HP1.out, hsl2, by rw [show ({ s1 with list := s1.list ++ [⟨E.me, job, z, 0, v, 0, 0, []⟩] } : LS).rank = s1.rank from rfl, r1]; exact (HO.out).r0, by rw [show ({ s1 with list := s1.list ++ [⟨E.me, job, z, 0, v, 0, 0, []⟩] } : LS).rank = s1.rank from rfl, r1]; exact (HO.out).r1, (HLE.out).ls.fails, (HLE.out).ends, hlen1⟩
   obtain ⟨T, hT⟩ : ∃ T, T = mSteps E (f + 2) s2 (newTS code v) := ⟨_, rfl⟩
   have HU3 : Hid (R = if T.1 = -1 then (-1, T.2.1) else if (mClose E T.1 T.2.1 T.2.2).1 = 5 then mFail E (mClose E T.1 T.2.1 T.2.2).2.1 (mClose E T.1 T.2.1 T.2.2).2.2 else
        if (mStore E (mClose E T.1 T.2.1 T.2.2).2.1 (cStatus E E.me) 0).2.over then (-1, (mStore E (mClose E T.1 T.2.1 T.2.2).2.1 (cStatus E E.me) 0).2) else
        ((mClose E T.1 T.2.1 T.2.2).1, { mEnded E (mStore E (mClose E T.1 T.2.1 T.2.2).2.1 (cStatus E E.me) 0).2 (mClose E T.1 T.2.1 T.2.2).1 with
          ends := (mEnded E (mStore E (mClose E T.1 T.2.1 T.2.2).2.1 (cStatus E E.me) 0).2 (mClose E T.1 T.2.1 T.2.2).1).ends.set job ⟨(mClose E T.1 T.2.1 T.2.2).1, regOf (mClose E T.1 T.2.1 T.2.2).2.2 0, regOf (mClose E T.1 T.2.1 T.2.2).2.2 1, regOf (mClose E T.1 T.2.1 T.2.2).2.2 2, regOf (mClose E T.1 T.2.1 T.2.2).2.2 3⟩ })) := by
    show _ = _
    rw [HU2.out, hT, hs2, show z = E.whens.getD (s1.pos - 1) 0 from by rw [HM.out, Nat.add_sub_cancel]; exact HZ.out, HCode.out, show f = E.c.f.toNat from by omega]
   have HT0 : Hid (mSteps E (f + 2) s2 (newTS code v) = T) := hT.symm
   clear HU2 hs2 hT HL2 HT2 HK2 HBk HNL HOw HNO HD hc21 hc12 hc13 hc9 hfp hwc hpne hbne hplt hblt HDead HAdv hm0 hm1 hm2 hwm hwm2 hll hBs hpB hbB
   go_wp2
   go_loopg [7] (f + 3) (fun n t wr => ∃ (ev : Int) (sk : LS) (xk : TS) (j : Nat), t = .int .i64 ev ∧ Hid (LifeR E H B p eb wr sk) ∧ Hid (TryR B p eb xb wr xk) ∧ Hid (Kp [88, 145, 63, 160, 95, 3, 84] B p eb w wr) ∧
       Hid (StOk E (64 * s.pos + j) (2 * j) s2 (newTS code v) sk xk) ∧ j ≤ 42 ∧ Hid (xk.place ≤ code.length ∧ (ev = 0 → (xk.begun : Int) ≤ E.c.f)) ∧
       Hid ((ev = 0 ∧ j = xk.begun ∧ ∃ n', n = n' + 1 ∧ mSteps E n' sk xk = T ∧ f + 2 ≤ xk.begun + n') ∨ (ev ≠ 0 ∧ T = (ev, sk, xk))))
   case atStart =>
    refine ⟨0, s2, newTS code v, 0, rfl, HLc, HTc, HKc, ⟨(HG2.out).2.1, Nat.le_refl _, (HN2.out).more (by omega), (HX2.out).1, (HG2.out).2.2.1, (HG2.out).2.2.2.1, rfl, rfl, rfl, rfl, (HX2.out).2⟩, by omega, ⟨by simp [newTS], by intro _; simp [newTS]; omega⟩, Or.inl ⟨rfl, rfl, f + 2, rfl, HT0.out, by simp [newTS]⟩⟩
   case round =>
    obtain ⟨ev, sk, xk, j, rfl, HLk, HTk, HKk, HSt, hj42, HPb, HCs⟩ := hrel
    clear HLc HTc HKc
    by_cases hev : ev = 0
    ·have hcs : j = xk.begun ∧ ∃ n', gk = n' + 1 ∧ mSteps E n' sk xk = T ∧ f + 2 ≤ xk.begun + n' := by
      rcases HCs.out with h | h
      ·exact h.2
      ·exact absurd hev h.1
     obtain ⟨hjb, n', hgk, hms, hfn⟩ := hcs
     have hbg := (HPb.out).2 hev
     obtain ⟨n2, hn2⟩ : ∃ n2, n' = n2 + 1 := ⟨n' - 1, by omega⟩
     have hbe : (ev == 0) = true := by simp [hev]
     have hst := mStep_ok E HE.out sk xk (HSt.out).pos (HSt.out).notes (HSt.out).ts (HSt.out).wv (HSt.out).r0 (HSt.out).r1 (by rw [(HSt.out).code]; exact (HPb.out).1) hbg
     have HMS : Hid (T = if (mStep E sk xk).1 = 0 then mSteps E n2 (mStep E sk xk).2.1 (mStep E sk xk).2.2 else mStep E sk xk) := by
      show _ = _
      rw [← hms, hn2]
      rfl
     have HST : Hid _ := hst
     have HGK : Hid (gk = n2 + 1 + 1 ∧ j = xk.begun ∧ f + 2 ≤ xk.begun + (n2 + 1) ∧ (xk.begun : Int) ≤ E.c.f) := ⟨by omega, hjb, by omega, hbg⟩
     have hj40 : j ≤ 40 := by omega
     clear hst hms hev hjb hgk hfn hbg hn2
     go_wp2_with fail
     refine (step_any E HE.out H B p eb xb (2 * j) (64 * s.pos + j) sk xk _ HLk.out HTk.out (HSt.out).pos (HSt.out).notes (by have := (HO.out).pos; omega) (HSt.out).ts (by omega) (HSt.out).r0 (HSt.out).r1 (by rw [(HSt.out).code]; exact (HPb.out).1) (by rw [(HSt.out).code]; exact hc20) (HGK.out).2.2.2).mono ?_
     rintro e w5 ⟨rfl, hL5, hT5, hK5⟩
     have HL5 : Hid (LifeR E H B p eb w5 (mStep E sk xk).2.1) := hL5
     have HT5 : Hid (TryR B p eb xb w5 (mStep E sk xk).2.2) := hT5
     have HK5 : Hid (Kp [88, 145, 63, 160, 95, 3, 84] B p eb w w5) := (HKk.out).trans (hK5.wide (by simp))
     clear hL5 hT5 hK5
     generalize mStep E sk xk = q5 at *
     go_wp2
     go_roundg (gk - 1)
     case rel =>
      obtain ⟨a1, a2, a3⟩ := HST.out
      have h0 := HSt.out
      refine ⟨q5.1, q5.2.1, q5.2.2, j + 1, rfl, HL5, HT5, HK5, ⟨a1.pos, Nat.le_trans h0.mono a1.mono, a1.notes.more (by omega), a1.ts.more (by omega), a1.r0, a1.r1, a1.fails.trans h0.fails, a1.len.trans h0.len, a1.code.trans h0.code, a1.ends.trans h0.ends, a1.wv⟩, by omega, ?_, ?_⟩
      ·exact ⟨by have := a2; rw [h0.code] at this; exact this, fun h => by rw [(a3 h).1]; have := (a3 h).2; omega⟩
      ·by_cases h : q5.1 = 0
       ·have hT5' : T = mSteps E n2 q5.2.1 q5.2.2 := (HMS.out).trans (if_pos h)
        refine Or.inl ⟨h, by rw [(a3 h).1, (HGK.out).2.1], n2, by have := (HGK.out).1; omega, hT5'.symm, by rw [(a3 h).1]; have := (HGK.out).2.2.1; omega⟩
       ·exact Or.inr ⟨h, (HMS.out).trans (if_neg h)⟩
     case measure => have := (HGK.out).1; omega
    ·have hTe : T = (ev, sk, xk) := by
      rcases HCs.out with h | h
      ·exact absurd h.1 hev
      ·exact h.2
     have hbe : (ev == 0) = false := by simpa using hev
     have HU4 : Hid (R = if ev = -1 then (-1, sk) else if (mClose E ev sk xk).1 = 5 then mFail E (mClose E ev sk xk).2.1 (mClose E ev sk xk).2.2 else
          if (mStore E (mClose E ev sk xk).2.1 (cStatus E E.me) 0).2.over then (-1, (mStore E (mClose E ev sk xk).2.1 (cStatus E E.me) 0).2) else
          ((mClose E ev sk xk).1, { mEnded E (mStore E (mClose E ev sk xk).2.1 (cStatus E E.me) 0).2 (mClose E ev sk xk).1 with
            ends := (mEnded E (mStore E (mClose E ev sk xk).2.1 (cStatus E E.me) 0).2 (mClose E ev sk xk).1).ends.set job ⟨(mClose E ev sk xk).1, regOf (mClose E ev sk xk).2.2 0, regOf (mClose E ev sk xk).2.2 1, regOf (mClose E ev sk xk).2.2 2, regOf (mClose E ev sk xk).2.2 3⟩ })) := by
      have h := HU3.out
      rw [hTe] at h
      exact h
     clear HU3 hTe HCs
     by_cases hem : ev = -1
     ·have HF : Hid (R = (-1, sk)) := (HU4.out).trans (if_pos hem)
      have hbm : (ev == -1) = true := by simp [hem]
      clear HU4 hem hev
      go_wp2
      go_ret
      exact ⟨by rw [HF.out]; rfl, by rw [HF.out]; exact HLk.out, HKk.out⟩
     have hbm : (ev == -1) = false := by simpa using hem
     have HU5 : Hid (R = _) := (HU4.out).trans (if_neg hem)
     clear HU4
     have h0 := HSt.out
     have hcl : xk.code = code := h0.code
     obtain ⟨_, _, hh10, _⟩ := (HTk.out).held
     have hheld : xk.held.length ≤ 2 ^ 40 := by have := h0.ts.hl; omega
     have hreads : xk.reads.length ≤ 2 ^ 40 := by have := h0.ts.rl; omega
     have hwrites : xk.writes.length ≤ 2 ^ 40 := by have := h0.ts.wl; omega
     have HC1 : Hid (ev = 1 ∧ xk.held ≠ [] → mClose E ev sk xk = mCommit E sk xk) := fun h => if_pos h
     have HC2 : Hid (¬ (ev = 1 ∧ xk.held ≠ []) → ev ≠ 5 → mClose E ev sk xk = (ev, mFree E xk sk, xk)) := fun h h2 => by unfold mClose; rw [if_neg h, if_pos h2]
     have HC3 : Hid (¬ (ev = 1 ∧ xk.held ≠ []) → ¬ ev ≠ 5 → mClose E ev sk xk = (ev, sk, xk)) := fun h h2 => by unfold mClose; rw [if_neg h, if_neg h2]
     clear h0 hcl
     by_cases hc1 : ev = 1 ∧ xk.held ≠ []
     focus
      obtain ⟨hc1a, hc1b⟩ := hc1
      have hm1 : (ev == 1) = true := by simp [hc1a]
      have hm2 : (0 : Int) < (xk.held.length : Int) := by have := List.length_pos_iff.2 hc1b; omega
      have HCl : Hid (mClose E ev sk xk = mCommit E sk xk) := HC1.out ⟨hc1a, hc1b⟩
      clear HC1 HC2 HC3 hc1a hc1b hev hem
      go_wp2_with fail
      refine (commit_any E HE.out H B p eb xb sk xk _ HLk.out HTk.out (HSt.out).pos (HSt.out).notes.ne (HSt.out).notes.len hreads hheld hwrites (HSt.out).ts.rd (HSt.out).ts.hd (HSt.out).ts.wr).mono ?_
      rintro e w6 ⟨rfl, hL6, hT6, hK6⟩
      obtain ⟨hle6, ig, hig⟩ := mCommit_le E sk xk (HSt.out).pos
      rw [← show mClose E ev sk xk = mCommit E sk xk from HCl.out] at hL6 hT6 hle6 hig ⊢
      have HL6 : Hid (LifeR E H B p eb w6 (mClose E ev sk xk).2.1) := hL6
      have HT6 : Hid (TryR B p eb xb w6 (mClose E ev sk xk).2.2) := hT6
      have HK6 : Hid (Kp [88, 145, 63, 160, 95, 3, 84] B p eb w w6) := (HKk.out).trans (hK6.wide (by simp))
      have HLe6 : Hid (LeOk E sk (mClose E ev sk xk).2.1) := hle6
      have HX6 : Hid ((mClose E ev sk xk).2.2.held = xk.held ∧ (mClose E ev sk xk).2.2.way = xk.way) := by rw [hig]; exact ⟨rfl, rfl⟩
      clear hL6 hT6 hK6 hle6 hig HCl hbe hbm hm1 hm2 hh10
      generalize mClose E ev sk xk = u at *
      have h5n : u.1 = 5 ∨ u.1 ≠ 5 := Decidable.em _
     rotate_left
     by_cases hc5 : ev = 5
     focus
      have HCl : Hid (mClose E ev sk xk = (ev, sk, xk)) := HC3.out hc1 (fun h => h hc5)
      have hm1 : (ev == 1) = false := by simp; omega
      have hm5 : (ev != 5) = false := by simp [hc5]
      have HL6 : Hid (LifeR E H B p eb wr (mClose E ev sk xk).2.1) := by rw [show mClose E ev sk xk = (ev, sk, xk) from HCl.out]; exact HLk
      have HT6 : Hid (TryR B p eb xb wr (mClose E ev sk xk).2.2) := by rw [show mClose E ev sk xk = (ev, sk, xk) from HCl.out]; exact HTk
      have HK6 : Hid (Kp [88, 145, 63, 160, 95, 3, 84] B p eb w wr) := HKk
      have HLe6 : Hid (LeOk E sk (mClose E ev sk xk).2.1) := by rw [show mClose E ev sk xk = (ev, sk, xk) from HCl.out]; exact LeOk.refl (HSt.out).pos
      have HX6 : Hid ((mClose E ev sk xk).2.2.held = xk.held ∧ (mClose E ev sk xk).2.2.way = xk.way) := by rw [show mClose E ev sk xk = (ev, sk, xk) from HCl.out]; exact ⟨rfl, rfl⟩
      have hue : (mClose E ev sk xk).1 = ev := by rw [show mClose E ev sk xk = (ev, sk, xk) from HCl.out]
      have h5n : (mClose E ev sk xk).1 = 5 ∨ (mClose E ev sk xk).1 ≠ 5 := Or.inl (hue.trans hc5)
      clear HCl hc5 HC1 HC2 HC3 hev hem hc1
      generalize mClose E ev sk xk = u at *
      subst hue
      obtain ⟨w6, hw6⟩ : ∃ w6, w6 = wr := ⟨_, rfl⟩
      subst hw6
     rotate_left
     focus
      have HCl : Hid (mClose E ev sk xk = (ev, mFree E xk sk, xk)) := HC2.out hc1 hc5
      have hm5 : (ev != 5) = true := by simpa using hc5
      have hm1 : ((ev == 1) = false) ∨ ((ev == 1) = true ∧ ¬ (0 : Int) < (xk.held.length : Int)) := by
       by_cases h : ev = 1
       ·refine Or.inr ⟨by simp [h], fun h2 => hc1 ⟨h, fun h3 => ?_⟩⟩
        rw [h3] at h2
        simp at h2
       ·exact Or.inl (by simpa using h)
      have hue : (mClose E ev sk xk).1 = ev := by rw [show mClose E ev sk xk = (ev, mFree E xk sk, xk) from HCl.out]
      have h5n : (mClose E ev sk xk).1 = 5 ∨ (mClose E ev sk xk).1 ≠ 5 := Or.inr (by rw [hue]; exact hc5)
      clear HC1 HC2 HC3 hev hem hc1 hc5
      rcases hm1 with hm1 | ⟨hm1, hm2⟩
      all_goals
       go_wp2_with fail
       refine (free_any E HE.out H B p eb xb sk xk _ HLk.out HTk.out (HSt.out).pos (by omega) (HSt.out).ts.hd).mono ?_
       rintro e w6 ⟨rfl, hL6, hT6, hK6⟩
       have HL6 : Hid (LifeR E H B p eb w6 (mClose E ev sk xk).2.1) := by rw [show mClose E ev sk xk = (ev, mFree E xk sk, xk) from HCl.out]; exact hL6
       have HT6 : Hid (TryR B p eb xb w6 (mClose E ev sk xk).2.2) := by rw [show mClose E ev sk xk = (ev, mFree E xk sk, xk) from HCl.out]; exact hT6
       have HK6 : Hid (Kp [88, 145, 63, 160, 95, 3, 84] B p eb w w6) := (HKk.out).trans (hK6.wide (by simp))
       have HLe6 : Hid (LeOk E sk (mClose E ev sk xk).2.1) := by rw [show mClose E ev sk xk = (ev, mFree E xk sk, xk) from HCl.out]; exact mFree_le E xk sk (HSt.out).pos
       have HX6 : Hid ((mClose E ev sk xk).2.2.held = xk.held ∧ (mClose E ev sk xk).2.2.way = xk.way) := by rw [show mClose E ev sk xk = (ev, mFree E xk sk, xk) from HCl.out]; exact ⟨rfl, rfl⟩
       clear hL6 hT6 hK6 HCl hbe hbm hm1 hm5 hh10
       try clear hm2
       generalize mClose E ev sk xk = u at *
       subst hue
     all_goals
      have HB6 : Hid (u.2.1.pos ≤ E.seen.length ∧ 0 < u.2.1.pos ∧ u.2.1.list ≠ [] ∧ u.2.1.list.length ≤ 2 ^ 42 ∧ u.2.2.held.length ≤ 2 ^ 40 ∧ (∀ h ∈ u.2.2.held, -8 ≤ h ∧ h ≤ 8) ∧ 0 ≤ u.2.1.fails ∧ u.2.1.fails ≤ 2 ^ 46 ∧ 0 ≤ u.2.1.rank ∧ u.2.1.rank ≤ 1125899906842625 ∧ -2 ≤ u.2.2.way ∧ u.2.2.way ≤ 1125899906842624 ∧ u.2.1.ends.length = E.jobs.length) := by
       obtain ⟨⟨a1, a2, a3, a4, a5⟩, a6⟩ := HLe6.out
       have b := HSt.out
       obtain ⟨c1, c2⟩ := HX6.out
       obtain ⟨g1, g2, g3, g4, g5, g6, g7⟩ := HG2.out
       have o := HO.out
       have e1 := a3.len
       have hb1 := b.mono
       have hb2 := b.notes.len
       have hb3 := b.fails
       have hb4 := b.r0
       have hb5 := b.r1
       have hb6 := b.ts.way0
       have hb7 := b.ts.way1
       have ho1 := o.f0
       have ho2 := o.f1
       have ho3 := o.pos
       refine ⟨a1, by omega, fun h => ?_, by omega, by rw [c1]; exact hheld, by rw [c1]; exact b.ts.hd, by omega, by omega, by omega, by omega, by omega, by omega, ?_⟩
       ·have h1 := b.notes.ne
        rw [h] at e1
        exact h1 (List.eq_nil_of_length_eq_zero e1.symm)
       ·rw [a6, b.ends, g6]; exact o.ends
      clear HLe6 HX6 HSt HLk HTk HKk hheld hreads hwrites HPb
      by_cases h5 : u.1 = 5
      focus
       have hb5 : (u.1 == 5) = true := by simp [h5]
       have HF : Hid (R = mFail E u.2.1 u.2.2) := (HU5.out).trans (if_pos h5)
       clear HU5 h5n h5
       go_wp2_with fail
       refine (fail_any E HE.out H B p eb xb u.2.1 u.2.2 _ HL6.out HT6.out (HB6.out).1 (HB6.out).2.1 (HB6.out).2.2.1 (HB6.out).2.2.2.1 (HB6.out).2.2.2.2.1 (HB6.out).2.2.2.2.2.1 (HB6.out).2.2.2.2.2.2.1 (HB6.out).2.2.2.2.2.2.2.1 (HB6.out).2.2.2.2.2.2.2.2.1 (HB6.out).2.2.2.2.2.2.2.2.2.1 (HB6.out).2.2.2.2.2.2.2.2.2.2.1 (HB6.out).2.2.2.2.2.2.2.2.2.2.2.1).mono ?_
       rintro e w7 ⟨rfl, hL7, hT7, hK7⟩
       have HL7 : Hid (LifeR E H B p eb w7 (mFail E u.2.1 u.2.2).2) := hL7
       have HK7 : Hid (Kp [88, 145, 63, 160, 95, 3, 84] B p eb w w7) := (HK6.out).trans (hK7.wide (by simp))
       clear hL7 hT7 hK7
       go_wp2
       go_ret
       exact ⟨by rw [HF.out]; rfl, by rw [HF.out]; exact HL7.out, HK7.out⟩
      focus
       have hb5 : (u.1 == 5) = false := by simpa using h5
       have HU6 : Hid (R = _) := (HU5.out).trans (if_neg h5)
       clear HU5 h5n h5
       have hg1 := (HB6.out).1
       have HS0 : Hid (HeadAt E H p w6.drew) := (HL6.out).drew.head
       go_wp2_with fail
       go_region_held3 (fun w' => HeadAt E H p w')
        (first | exact HS2.out | exact HS1.out | exact HS0.out)
        (first
            | (go_at_call 88; refine (status_at E HE.out H B p eb xb _ _ _ _ (HL6.out).drew (HT6.out).drew (by omega) (by omega)).mono ?_; rintro e w7 ⟨rfl, hL2, hT2, hK2⟩; have HL7 : Hid (LifeR E H B p eb w7 u.2.1) := hL2; have HT7 : Hid (TryR B p eb xb w7 u.2.2) := hT2; have HK7 : Hid (Kp [] B p eb w6 w7) := (Kp.below (Below.refl _ _).drew (HL6.out).stat.size).trans hK2; clear hL2 hT2 hK2;
               have HS1 : Hid (HeadAt E H p w7) := (HL7.out).head)
            | (go_at_call 87; refine (store_at E HE.out H B p eb xb _ _ _ _ _ HL7.out HT7.out hg1).mono ?_; rintro e w8 ⟨rfl, hL3, hT3, hK3⟩; have HL8 : Hid (LifeR E H B p eb w8 (mStore E u.2.1 (cStatus E E.me) 0).2) := hL3; have HT8 : Hid (TryR B p eb xb w8 u.2.2) := hT3; have HK8 : Hid (Kp [88, 145, 63, 160, 95, 3, 84] B p eb w w8) := (HK6.out).trans ((HK7.out).up.trans (hK3.wide (by simp))); clear hL3 hT3 hK3;
               have HS2 : Hid (HeadAt E H p w8) := (HL8.out).head))
       clear HS0 HS1 HS2 HL7 HT7 HK7 HL6 HT6 HK6
       have HB8 : Hid ((mStore E u.2.1 (cStatus E E.me) 0).2.pos ≤ E.seen.length ∧ 0 < (mStore E u.2.1 (cStatus E E.me) 0).2.pos ∧ (mStore E u.2.1 (cStatus E E.me) 0).2.list ≠ [] ∧ (mStore E u.2.1 (cStatus E E.me) 0).2.list.length ≤ 2 ^ 42 ∧ (mStore E u.2.1 (cStatus E E.me) 0).2.ends.length = E.jobs.length) := by
        obtain ⟨a1, a2, a3, a4, _, _, _, _, _, _, _, _, a5⟩ := HB6.out
        have hl : (mStore E u.2.1 (cStatus E E.me) 0).2.list = u.2.1.list := mAsk_list E _ _
        have he : (mStore E u.2.1 (cStatus E E.me) 0).2.ends = u.2.1.ends := mAsk_ends E _ _
        have hp := mAsk_pos E u.2.1 ⟨2, cStatus E E.me, 0, 0⟩ a1
        have hp1 : u.2.1.pos ≤ (mStore E u.2.1 (cStatus E E.me) 0).2.pos := hp.1
        exact ⟨hp.2, by omega, by rw [hl]; exact a3, by rw [hl]; exact a4, by rw [he]; exact a5⟩
       clear HB6
       generalize mStore E u.2.1 (cStatus E E.me) 0 = q8 at *
       have hov8 := (HL8.out).over
       cases ho8 : q8.2.over
       rotate_left
       focus
        have HF : Hid (R = (-1, q8.2)) := (HU6.out).trans (if_pos ho8)
        clear HU6
        go_wp2
        go_ret
        exact ⟨by rw [HF.out]; rfl, by rw [HF.out]; exact HL8.out, HK8.out⟩
       have HU7 : Hid (R = _) := (HU6.out).trans (if_neg (by simp [ho8]))
       clear HU6
       go_wp2_with fail
       refine (ended_any E HE.out H B p eb q8.2 u.1 _ HL8.out (HB8.out).2.2.1 (HB8.out).2.2.2.1 (HB8.out).2.1 (HB8.out).1).mono ?_
       rintro e w9 ⟨rfl, hL9, hK9⟩
       have HL9 : Hid (LifeR E H B p eb w9 (mEnded E q8.2 u.1)) := hL9
       have HT9 : Hid (TryR B p eb xb w9 u.2.2) := (HT8.out).keep hK9 (by simp) (by simp) (by simp)
       have HK9 : Hid (Kp [88, 145, 63, 160, 95, 3, 84] B p eb w w9) := (HK8.out).trans (hK9.wide (by simp))
       have HE9 : Hid ((mEnded E q8.2 u.1).ends.length = E.jobs.length) := (HB8.out).2.2.2.2
       clear hL9 hK9 HL8 HT8 HK8 HB8 hov8
       generalize mEnded E q8.2 u.1 = s9 at *
       obtain ⟨hea, heb⟩ : H.ea = some ⟨eb, 0, none⟩ ∧ Blk w9 eb 84 (s9.ends.flatMap resCells).toArray := by
        rcases (HL9.out).ends with h | h
        ·have := HE9.out
         rw [h] at this
         simp at this
         omega
        ·exact h
       obtain ⟨la9, lc9, hb9, _⟩ := (HL9.out).life
       have hc22 : w9.cell? ⟨p, 22, none⟩ = some (.slice (some ⟨eb, 0, none⟩) E.jobs.length H.ec) := by
        rw [hb9.cell, ← show s9.ends.length = E.jobs.length from HE9.out]
        simp [lifeArr, hea]
       obtain ⟨_, _, _, _, _, _, _, _, hxc, _⟩ := (HT9.out).cells
       have hx1 : w9.cell? ⟨xb, 1, none⟩ = some (.int .i64 (regOf u.2.2 0)) := by rw [hxc]; rfl
       have hx2 : w9.cell? ⟨xb, 2, none⟩ = some (.int .i64 (regOf u.2.2 1)) := by rw [hxc]; rfl
       have hx3 : w9.cell? ⟨xb, 3, none⟩ = some (.int .i64 (regOf u.2.2 2)) := by rw [hxc]; rfl
       have hx4 : w9.cell? ⟨xb, 4, none⟩ = some (.int .i64 (regOf u.2.2 3)) := by rw [hxc]; rfl
       have hfe := heb.frozen
       have hjl9 : job < s9.ends.length := by rw [show s9.ends.length = E.jobs.length from HE9.out]; exact hj
       obtain ⟨r9, hr9⟩ : ∃ r9, s9.ends[job]? = some r9 := ⟨_, List.getElem?_eq_getElem hjl9⟩
       have hce : ∀ k, k < 5 → w9.cell? ⟨eb, job * 5 + k, none⟩ = (resCells r9)[k]? := fun k hk => by
        rw [heb.cell]
        have := flat_at (f := resCells) (n := 5) (fun _ => rfl) s9.ends job k hk
        rw [hr9] at this
        simpa using this
       have hce0 : w9.cell? ⟨eb, job * 5, none⟩ = some (.int .i64 r9.fate) := hce 0 (by omega)
       have hce1 : w9.cell? ⟨eb, job * 5 + 1, none⟩ = some (.int .i64 r9.r0) := hce 1 (by omega)
       have hce2 : w9.cell? ⟨eb, job * 5 + 2, none⟩ = some (.int .i64 r9.r1) := hce 2 (by omega)
       have hce3 : w9.cell? ⟨eb, job * 5 + 3, none⟩ = some (.int .i64 r9.r2) := hce 3 (by omega)
       have hce4 : w9.cell? ⟨eb, job * 5 + 4, none⟩ = some (.int .i64 r9.r3) := hce 4 (by omega)
       have helt := heb.lt
       clear hce hr9
       have HEb : Hid (Blk w9 eb 84 (s9.ends.flatMap resCells).toArray) := heb
       clear hxc hb9 heb
       go_wp2_with fail
       go_region
       all_goals
        go_wp2
        go_ret
        have hLK := (HL9.out).endSet (job := job) hjl9 hea HEb.out ⟨u.1, regOf u.2.2 0, regOf u.2.2 1, regOf u.2.2 2, regOf u.2.2 3⟩
        exact ⟨by rw [HU7.out]; rfl, by rw [HU7.out]; exact hLK.1.drew, ((HK9.out).trans (hLK.2.wide (by simp))).drew⟩
end Go.Proofs.YtejadojilncbjaaGreat
