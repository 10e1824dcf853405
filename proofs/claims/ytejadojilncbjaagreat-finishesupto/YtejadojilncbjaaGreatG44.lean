import Derived.Test.YtejadojilncbjaaGreatG25
import Derived.Test.YtejadojilncbjaaGreatG21
import Derived.Test.YtejadojilncbjaaGreatG39
import Derived.Test.YtejadojilncbjaaGreatG42
import Derived.Test.YtejadojilncbjaaGreatG43
import Derived.Test.YtejadojilncbjaaGreatG23
import Derived.Test.YtejadojilncbjaaGreatG41
namespace Go.Proofs.YtejadojilncbjaaGreat
open Go.RowKit
set_option linter.unusedVariables false
theorem res_cells {w : World} {b : Nat} {l : List ResD} (h : Blk w b 84 (l.flatMap resCells).toArray) (k : Nat) (hk : k < l.length) :
  w.cell? ⟨b, k * 5, none⟩ = some (.int .i64 (l.getD k noRes).fate) ∧ w.cell? ⟨b, k * 5 + 1, none⟩ = some (.int .i64 (l.getD k noRes).r0) ∧ w.cell? ⟨b, k * 5 + 2, none⟩ = some (.int .i64 (l.getD k noRes).r1) ∧ w.cell? ⟨b, k * 5 + 3, none⟩ = some (.int .i64 (l.getD k noRes).r2) ∧ w.cell? ⟨b, k * 5 + 4, none⟩ = some (.int .i64 (l.getD k noRes).r3) := by
 have e : ∀ j, j < 5 → w.cell? ⟨b, k * 5 + j, none⟩ = (resCells (l.getD k noRes))[j]? := fun j hj => by
  rw [h.cell]
  simp only [List.getElem?_toArray]
  rw [flat_at (n := 5) (fun _ => rfl) _ k j hj, List.getElem?_eq_getElem hk]
  simp [List.getD, List.getElem?_eq_getElem hk]
 exact ⟨e 0 (by omega), e 1 (by omega), e 2 (by omega), e 3 (by omega), e 4 (by omega)⟩
theorem res_store {w : World} {b : Nat} {l : List ResD} (h : Blk w b 84 (l.flatMap resCells).toArray) (k : Nat) (hk : k < l.length) (r : ResD) :
  Blk (((((w.setCell ⟨b, k * 5, none⟩ (.int .i64 r.fate)).setCell ⟨b, k * 5 + 1, none⟩ (.int .i64 r.r0)).setCell ⟨b, k * 5 + 2, none⟩ (.int .i64 r.r1)).setCell ⟨b, k * 5 + 3, none⟩ (.int .i64 r.r2)).setCell ⟨b, k * 5 + 4, none⟩ (.int .i64 r.r3)) b 84 ((l.set k r).flatMap resCells).toArray := by
 refine (((((h.set).set).set).set).set).congr ?_
 rw [res_set l k hk r]
 simp
end Go.Proofs.YtejadojilncbjaaGreat
namespace Go.Proofs.YtejadojilncbjaaGreat
set_option linter.unusedVariables false
def EN (h h' : Th) : Prop := h'.ends.length = h.ends.length
theorem EN.refl (h : Th) : EN h h := rfl
theorem EN.trans {h h' h2 : Th} (a : EN h h') (b : EN h' h2) : EN h h2 := Eq.trans b a
theorem en_noted (h : Th) (op a v : Int) : EN h (h.noted op a v) := rfl
theorem en_ended (h : Th) (n f : Int) : EN h (h.ended n f) := rfl
theorem en_ite {h : Th} {c : Prop} [Decidable c] {a b : Bool × Th} (h1 : EN h a.2) (h2 : EN h b.2) : EN h (if c then a else b).2 := by split <;> assumption
theorem en_iteT {h : Th} {c : Prop} [Decidable c] {a b : Th} (h1 : EN h a) (h2 : EN h b) : EN h (if c then a else b) := by split <;> assumption
theorem eq_to (K : Cx) (j : Nat) (h : Th) : EN h (hTo K j h) := by unfold hTo; split <;> rfl
theorem eq_freeAt (e : Int) (r : List Int) (h : Th) : EN h (hFreeAt e r h) := by unfold hFreeAt; split <;> rfl
theorem eq_close (e : Int) (h : Th) : EN h (hClose e h) := by
 unfold hClose
 split
 ·rfl
 ·exact eq_freeAt _ _ _
theorem eq_count (K : Cx) (h : Th) : EN h (hCount K h) := by unfold hCount; split <;> rfl
theorem eq_failOwn (K : Cx) (r : List Int) (h : Th) : EN h (hFailOwn K r h) := by
 unfold hFailOwn
 split
 ·exact eq_count _ _
 ·rfl
theorem eq_fail (K : Cx) (h : Th) : EN h (hFail K h) := by
 unfold hFail
 split
 ·rfl
 ·exact eq_failOwn _ _ _
theorem en_read (K : Cx) (i : InsD) (h : Th) : EN h (hRead K i h).2 := by
 unfold hRead
 simp only
 split
 ·exact (eq_close _ _)
 ·split
  ·exact en_noted _ _ _ _
  ·simp only
   split <;> exact EN.refl _
theorem en_put (i : InsD) (a : Int) (h : Th) : EN h (hPut i a h) := en_noted _ _ _ _
theorem en_write (K : Cx) (i : InsD) (h : Th) : EN h (hWrite K i h).2 := by
 unfold hWrite
 simp only
 split
 ·exact (eq_close _ _)
 ·split
  ·exact en_put _ _ _
  ·exact EN.refl _
attribute [local irreducible] hRead hWrite in
theorem en_step (K : Cx) (h : Th) : EN h (hStep K h).2 := by
 unfold hStep
 simp only
 repeat' (refine en_ite ?_ ?_)
 all_goals first
  | exact (eq_close _ _)
  | exact EN.refl _
  | exact en_read K _ _
  | exact en_write K _ _
theorem en_adv (K : Cx) : ∀ (n : Nat) (h : Th), EN h (hAdv K n h)
 | 0, h => EN.refl _
 | n + 1, h => by
  unfold hAdv
  split
  ·exact (en_step K h).trans (en_adv K n _)
  ·exact en_step K h
theorem en_go (K : Cx) (h : Th) : EN h (hGo K h) := en_adv K _ h
theorem en_got (K : Cx) (i : InsD) (a v : Int) (h : Th) : EN h (hGot K i a v h) := (en_noted ({ h with x := setReg h.x i.a v } : Th) 7 a v).trans (en_go K _)
theorem en_wrote (K : Cx) (i : InsD) (a : Int) (h : Th) : EN h (hWrote K i a h) := by
 unfold hWrote
 split
 ·exact (en_put i a h).trans (en_go K _)
 ·exact en_put i a h
theorem en_exDone (K : Cx) (k : Ex) (c : Int) (h : Th) : EN h (hExDone K k c h) := by
 unfold hExDone
 simp only
 split
 ·exact EN.trans (h := h) rfl (en_got K _ _ _ _)
 ·exact EN.trans (h := h) rfl (en_wrote K _ _ _)
theorem en_exStill (K : Cx) (k : Ex) (c : Int) (r : List EntD) (h : Th) : EN h (hExStill K k c r h) := by
 unfold hExStill
 split
 ·exact en_exDone _ _ _ _
 ·exact EN.refl _
theorem eq_openAt (c : Int) (r : List Int) (h : Th) : EN h (hOpenAt c r h) := by unfold hOpenAt; split <;> rfl
theorem eq_wordAt (c : Int) (r : List EntD) (h : Th) : EN h (hWordAt c r h) := by
 unfold hWordAt
 split
 ·exact eq_openAt _ _ _
 ·rfl
theorem eq_shutAt (c : Int) (r : List Int) (h : Th) : EN h (hShutAt c r h) := by unfold hShutAt; split <;> rfl
theorem eq_stillAt (c : Int) : ∀ (r : List EntD) (h : Th), EN h (hStillAt c r h)
 | [], h => by unfold hStillAt; exact eq_shutAt _ _ _
 | e :: r, h => by
  unfold hStillAt
  split
  ·exact eq_stillAt c r h
  ·rfl
theorem eq_rest (K : Cx) (d : Int) (h : Th) : EN h (hRest K d h) := by
 unfold hRest
 simp only
 split <;> split <;> rfl
attribute [local irreducible] hWrote hFail hRest hFailOwn hCount hGot hGo hExStill hShutAt hStillAt hTo hFreeAt hOpenAt hWordAt in
theorem en_next (K : Cx) (h : Th) (v : AnsD) : EN h (hNext K h v) := by
 unfold hNext
 split
 all_goals first
  | exact EN.refl _
  | skip
 all_goals try simp only
 all_goals repeat' (refine en_iteT ?_ ?_)
 all_goals first
  | exact EN.refl _
  | exact en_got K _ _ _ _
  | exact en_exStill K _ _ _ _
  | exact (eq_fail _ _)
  | exact en_wrote K _ _ _
  | exact en_go K _
  | exact (eq_stillAt _ _ _)
  | exact (eq_shutAt _ _ _)
  | rfl
  | exact (eq_wordAt _ _ _)
  | exact (eq_openAt _ _ _)
  | exact (eq_freeAt _ _ _)
  | exact EN.trans (h := h) (by simp [EN]) (eq_to _ _ _)
  | exact (eq_failOwn _ _ _)
  | exact en_ended h _ _
  | exact (en_ended h _ _).trans ((eq_rest _ _ _))
theorem ends_len (c : Cfg) (mem : List Int) (jobs : List (Int × List InsD)) (ps : List PickD) (t : Int) : ∀ k : Nat, ((gAt c mem jobs ps k).th t).ends.length = jobs.length
 | 0 => by
  show (hTo (cxOf c jobs t) 0 _).ends.length = _
  exact Eq.trans (eq_to _ _ _) (List.length_map _)
 | k + 1 => by
  have ih := ends_len c mem jobs ps t k
  show ((gStep c jobs (gAt c mem jobs ps k) ((k : Int) + 1) (pickAt ps k)).1.th t).ends.length = _
  unfold gStep
  split
  ·show (if t = (pickAt ps k).thread then _ else _ : Th).ends.length = _
   split
   ·rename_i e
    subst e
    exact Eq.trans (en_next _ _ _) ih
   ·exact ih
  ·exact ih
end Go.Proofs.YtejadojilncbjaaGreat
namespace Go.Proofs.YtejadojilncbjaaGreat
open Go.RowKit
set_option linter.unusedVariables false
attribute [local go_sem ↓] Go.wp_at_zero Go.wp_at_succ
set_option maxRecDepth 100000 in
set_option maxHeartbeats 4000000 in
theorem refJobs_any (c : Cfg) (mem : List Int) (jobs : List (Int × List InsD)) (ps : List PickD) (hps : ps.length ≤ 2 ^ 33) (ma ja pa : Option Addr) (mc jc pc : Nat) (w : World) (hml : mem.length ≤ maxLen) (hjl : jobs.length ≤ maxLen)
  (hm : Ints w w.heap.size ma mem) (hj : JobsRep w w.heap.size ja jobs) (hp : PicksIn w w.heap.size pa ps) :
  Calls Tryz.prog 18 #[.agg #[.int .i64 c.t, .int .i64 c.wd, .int .i64 c.s, .int .i64 c.g, .int .i64 c.r, .int .i64 c.cp, .int .i64 c.f, .slice ma mem.length mc, .slice ja jobs.length jc], .slice pa ps.length pc] w (JobsIs w (jobsA c mem jobs ps) (errS c mem jobs)) := by
 have HM : Hid (Ints w w.heap.size ma mem) := hm
 have HJ : Hid (JobsRep w w.heap.size ja jobs) := hj
 have HP : Hid (PicksIn w w.heap.size pa ps) := hp
 have HPS : Hid (ps.length ≤ 2 ^ 33) := hps
 obtain ⟨L, HL⟩ : ∃ L, Hid (jobsA c mem jobs ps = L) := ⟨_, rfl⟩
 obtain ⟨ER, HER⟩ : ∃ ER, Hid (errS c mem jobs = ER) := ⟨_, rfl⟩
 rw [show jobsA c mem jobs ps = L from HL.out, show errS c mem jobs = ER from HER.out]
 clear hm hj hp hps
 go_enter Tryz.func18, Tryz.ntmps18
 go_wp2_with fail
 obtain ⟨w0, hw0⟩ : ∃ w0, w0 = w.alloc (.cells #[.int .i64 c.t, .int .i64 c.wd, .int .i64 c.s, .int .i64 c.g, .int .i64 c.r, .int .i64 c.cp, .int .i64 c.f, .slice ma mem.length mc, .slice ja jobs.length jc] 27) := ⟨_, rfl⟩
 have hB0 : Below w.heap.size w w0 := by rw [hw0]; exact (Below.refl w.heap.size w).alloc (Nat.le_refl _) _
 have hSb : Blk w0 w.heap.size 27 #[.int .i64 c.t, .int .i64 c.wd, .int .i64 c.s, .int .i64 c.g, .int .i64 c.r, .int .i64 c.cp, .int .i64 c.f, .slice ma mem.length mc, .slice ja jobs.length jc] := by rw [hw0]; exact Blk.new w 27 _
 have hs0 : w0.heap.size = w.heap.size + 1 := by rw [hw0]; simp
 rw [← hw0]
 clear hw0
 refine (refCheck_rep c mem jobs ma ja mc jc w0 hml hjl ((HM.out).up hB0) ((HJ.out).up2 hB0)).mono ?_
 rintro e w1 ⟨rfl, hb1⟩
 have hB1 : Below w.heap.size w w1 := hB0.trans (hb1.mono hB0.size)
 have HSb1 : Hid (Blk w1 w.heap.size 27 #[.int .i64 c.t, .int .i64 c.wd, .int .i64 c.s, .int .i64 c.g, .int .i64 c.r, .int .i64 c.cp, .int .i64 c.f, .slice ma mem.length mc, .slice ja jobs.length jc]) := hSb.below hb1 (by omega)
 have hsc := (HSb1.out).cell
 have hsz1 : w.heap.size < w1.heap.size := (HSb1.out).lt
 have HB1 : Hid (Below w.heap.size w w1) := hB1
 have HM1 : Hid (Ints w1 w1.heap.size ma mem) := (HM.out).up hB1
 have HJ1 : Hid (JobsRep w1 w1.heap.size ja jobs) := (HJ.out).up2 hB1
 have HP1 : Hid (PicksIn w1 w1.heap.size pa ps) := (HP.out).up2 hB1
 clear hB0 hSb hs0 hb1 hB1 HM HJ HP
 rw [show errS c mem jobs = ER from HER.out]
 by_cases he : ER = 0
 ·have hbn : (ER != 0) = false := by simp [he]
  have HLe : Hid (L = jobsOf c mem jobs ps) := (HL.out).symm.trans (if_pos ((HER.out).trans he))
  have HSo : Hid (SetupOk c mem jobs ∧ ∀ j ∈ jobs, 0 ≤ j.1 ∧ j.1 < c.t) := errS_ok ((HER.out).trans he)
  have HE0 : Hid (ER = 0) := he
  have hj8 := (HSo.out).1.j8
  have hmk := run_make35 jobs.length hj8
  clear he HL HER
  go_wp2_with fail
  refine (accesses_any (HSo.out).1 ps HPS.out ma ja pa mc jc pc w1 HM1.out HJ1.out HP1.out).mono ?_
  rintro e w2 ⟨la, lc, rfl, hl2, hb2⟩
  have HL2 : Hid (LogIn w2 w2.heap.size la (gLog c mem jobs ps ps.length)) := hl2
  have HB2 : Hid (Below w.heap.size w w2) := (HB1.out).trans (hb2.mono (HB1.out).size)
  have HSb2 : Hid (Blk w2 w.heap.size 27 #[.int .i64 c.t, .int .i64 c.wd, .int .i64 c.s, .int .i64 c.g, .int .i64 c.r, .int .i64 c.cp, .int .i64 c.f, .slice ma mem.length mc, .slice ja jobs.length jc]) := (HSb1.out).below hb2 hsz1
  have HJ2 : Hid (JobsRep w2 w2.heap.size ja jobs) := (HJ1.out).up2 hb2
  have HP2 : Hid (PicksIn w2 w2.heap.size pa ps) := (HP1.out).up2 hb2
  have hlen : (accs c mem jobs ps).length = ps.length := gLog_len c mem jobs ps ps.length
  rw [hlen]
  obtain ⟨EE, HEE⟩ : ∃ EE : Int → Nat → ResD, Hid (∀ t j, EE t j = ((gAt c mem jobs ps ps.length).th t).ends.getD j noRes) := ⟨fun t j => ((gAt c mem jobs ps ps.length).th t).ends.getD j noRes, fun _ _ => rfl⟩
  have HOf : Hid (jobsOf c mem jobs ps = outAt EE jobs c.t 0) := by
   show _ = _
   rw [outAt_all (fun j hj => ((HSo.out).2 j hj).2)]
   unfold jobsOf
   refine List.map_congr_left (fun j _ => ?_)
   rw [HEE.out]
  have HTd : Hid (∀ (T : Int) (wx : World), 0 ≤ T → T < c.t → Below w2.heap.size w2 wx → Calls Tryz.prog 45 #[.agg #[.int .i64 c.t, .int .i64 c.wd, .int .i64 c.s, .int .i64 c.g, .int .i64 c.r, .int .i64 c.cp, .int .i64 c.f, .slice ma mem.length mc, .slice ja jobs.length jc], .slice pa ps.length pc, .slice la ps.length lc, .int .i64 T] wx fun e w' =>
       e = .returned (.pointer (some ⟨wx.heap.size + 2, 0, none⟩)) ∧ (0 < jobs.length → w'.cell? ⟨wx.heap.size + 2, 22, none⟩ = some (.slice (some ⟨wx.heap.size + 1, 0, none⟩) jobs.length jobs.length) ∧ ∃ ends : List ResD, ends.length = jobs.length ∧ (∀ j, ends.getD j noRes = EE T j) ∧ Blk w' (wx.heap.size + 1) 84 (ends.flatMap resCells).toArray) ∧ Below wx.heap.size wx w') := fun T wx h0 h1 hb => by
   refine (told_full (HSo.out).1 ps HPS.out ps.length (Nat.le_refl _) T h0 h1 ma ja pa la mc jc pc lc wx ((HJ2.out).up2 hb) ((HP2.out).up2 hb) ((HL2.out).up hb)).mono ?_
   rintro e w' ⟨rfl, ⟨H, B, s, hL, hH1, hH2, hsl, hse⟩, hb'⟩
   refine ⟨rfl, fun hn => ?_, hb'⟩
   have hel : ((gAt c mem jobs ps ps.length).th T).ends.length = jobs.length := ends_len c mem jobs ps T ps.length
   obtain ⟨g1, g2⟩ := ends_cells hL hH1 hH2 (by rw [hse]; exact hel) hn
   exact ⟨g1, _, hel, fun j => (HEE.out T j).symm, by rw [← hse]; exact g2⟩
  obtain ⟨tn, HTN⟩ : ∃ tn : Nat, Hid (c.t = (tn : Int)) := ⟨c.t.toNat, by show c.t = _; have := (cfgB_true (HSo.out).1.cfg).1; omega⟩
  have htn4 : tn ≤ 4 := by have := (cfgB_true (HSo.out).1.cfg).1; have := HTN.out; omega
  have hsc2 := (HSb2.out).cell
  obtain ⟨ob, hob⟩ : ∃ ob, ob = w2.heap.size := ⟨_, rfl⟩
  obtain ⟨Z, hZ⟩ : ∃ Z, Z = ((List.replicate jobs.length (⟨0, 0, 0, 0, 0⟩ : ResD)).flatMap resCells).toArray := ⟨_, rfl⟩
  rw [← hZ] at hmk
  have hB3 : Below w2.heap.size w2 (w2.alloc (.cells Z 84)) := (Below.refl _ _).alloc (Nat.le_refl _) _
  have HB3 : Hid (Below w2.heap.size w2 (w2.alloc (.cells Z 84))) := hB3
  have HO3 : Hid (Blk (w2.alloc (.cells Z 84)) ob 84 ((outAt EE jobs 0 0).flatMap resCells).toArray) := by
   show Blk _ _ _ _
   rw [hob, outAt_zero (fun j hj => ((HSo.out).2 j hj).1), ← hZ]
   exact Blk.new w2 84 _
  have hwl2 : w.heap.size < w2.heap.size := (HSb2.out).lt
  clear hl2 hb2 hsc hbn HM1 HJ1 HP1 HSb1 HB1 hsz1 hB3 hZ hlen HL2 HP2
  have HOb : Hid (ob = w2.heap.size) := hob
  go_upto_region 6 with fail
  rw [← hob]
  clear hmk hsc2
  generalize w2.alloc (.cells Z 84) = w3 at *
  have hobw : w.heap.size ≠ ob := by omega
  clear hob
  go_wp2_with fail
  go_loopg [9] (tn + 1) (fun m t9 wr => ∃ (T : Nat), t9 = .int .i64 (T : Int) ∧ T ≤ tn ∧ m = tn + 1 - T ∧ Hid (Below w2.heap.size w2 wr) ∧ Hid (Blk wr ob 84 ((outAt EE jobs (T : Int) 0).flatMap resCells).toArray))
  case atStart => exact ⟨0, rfl, by omega, by omega, HB3, HO3⟩
  case round =>
   obtain ⟨T, rfl, hT, hgT, HBq, HOq⟩ := hrel
   clear HB3 HO3
   obtain ⟨wq, hwq⟩ : ∃ wq, wq = wr := ⟨_, rfl⟩
   subst hwq
   have hsq := ((HSb2.out).below HBq.out hwl2).cell
   by_cases hTl : T < tn
   ·have hT1 : (T : Int) < c.t := by have := HTN.out; omega
    have hwT : IntKind.i64.wrap ((T : Int) + 1) = (T : Int) + 1 := wrapP _ (by omega) (by omega)
    go_wp2_with fail
    refine (HTd.out (T : Int) wq (by omega) hT1 HBq.out).mono ?_
    rintro e w4 ⟨rfl, hE4, hb4⟩
    have HE4 : Hid (0 < jobs.length → w4.cell? ⟨wq.heap.size + 2, 22, none⟩ = some (.slice (some ⟨wq.heap.size + 1, 0, none⟩) jobs.length jobs.length) ∧ ∃ ends : List ResD, ends.length = jobs.length ∧ (∀ j, ends.getD j noRes = EE (T : Int) j) ∧ Blk w4 (wq.heap.size + 1) 84 (ends.flatMap resCells).toArray) := hE4
    have HB4 : Hid (Below w2.heap.size w2 w4) := (HBq.out).trans (hb4.mono (HBq.out).size)
    have HO4 : Hid (Blk w4 ob 84 ((outAt EE jobs (T : Int) 0).flatMap resCells).toArray) := (HOq.out).below hb4 (HOq.out).lt
    have hobq : ob < wq.heap.size := (HOq.out).lt
    clear hE4 hb4 hsq HBq HOq
    obtain ⟨p, hp⟩ : ∃ p, p = wq.heap.size + 2 := ⟨_, rfl⟩
    obtain ⟨eb, heb⟩ : ∃ eb, eb = wq.heap.size + 1 := ⟨_, rfl⟩
    rw [← hp, ← heb] at HE4
    rw [← hp]
    have hpo : p ≠ ob := by omega
    have hebo : eb ≠ ob := by omega
    clear hp heb hobq
    go_wp2_with fail
    go_loopg [11] (jobs.length + 1) (fun m t11 wr => ∃ (J : Nat), t11 = .int .i64 (J : Int) ∧ J ≤ jobs.length ∧ m = jobs.length + 1 - J ∧ Hid (Only ob w4 wr) ∧ Hid (Blk wr ob 84 ((outAt EE jobs (T : Int) J).flatMap resCells).toArray))
    case atStart => exact ⟨0, rfl, by omega, by omega, Only.refl _ _, HO4⟩
    case round =>
     obtain ⟨J, rfl, hJ, hgJ, HOn, HOr⟩ := hrel
     clear HO4
     have HBr : Hid (Below w2.heap.size w2 wr) := below_onto HB4.out HOn.out (by have := HOb.out; omega) (HB4.out).size
     have hsr := ((HSb2.out).below HBr.out hwl2).cell
     have hsr8 : wr.cell? ⟨w.heap.size, 8, none⟩ = some (.slice ja jobs.length jc) := by rw [hsr]; rfl
     by_cases hJl : J < jobs.length
     ·obtain ⟨h22, ends, hel, hee, heb⟩ := HE4.out (by omega)
      have hebr : Blk wr eb 84 (ends.flatMap resCells).toArray := heb.only HOn.out hebo
      have h22r : wr.cell? ⟨p, 22, none⟩ = some (.slice (some ⟨eb, 0, none⟩) jobs.length jobs.length) := (World.cell?_of_block ((HOn.out).block p (block_lt h22) hpo)).trans h22
      obtain ⟨c0, c1, c2, c3, c4⟩ := res_cells hebr J (by rw [hel]; exact hJl)
      obtain ⟨r, hr⟩ : ∃ r, r = ends.getD J noRes := ⟨_, rfl⟩
      rw [← hr] at c0 c1 c2 c3 c4
      have hrE : r = EE (T : Int) J := hr.trans (hee J)
      obtain ⟨js, hj1, hj2, hj3⟩ := (HJ2.out).up HBr.out
      obtain ⟨jb, joff, hja, hjb, hjc0, hjc1⟩ := hj2 J (by omega)
      have hjt3 := (hj3 J (by omega)).1
      obtain ⟨th, hth⟩ : ∃ th, th = (jobs.getD J (0, [])).1 := ⟨_, rfl⟩
      rw [hjt3, ← hth] at hjc0
      have hJ0 : (0 : Int) ≤ (J : Int) := by omega
      have hJ1 : (J : Int) < (jobs.length : Int) := by omega
      have hwJ : IntKind.i64.wrap ((J : Int) + 1) = (J : Int) + 1 := wrapP _ (by omega) (by omega)
      have HTh : Hid (th = (jobs.getD J (0, [])).1) := hth
      have HJl : Hid (J < jobs.length) := hJl
      subst hja
      by_cases heq : th = (T : Int)
      ·have heb' : (th == (T : Int)) = true := by simp [heq]
       have HNx : Hid (outAt EE jobs (T : Int) (J + 1) = (outAt EE jobs (T : Int) J).set J r) := by
        show _ = _
        rw [hrE]
        exact outAt_yes hJl (by rw [← hth]; exact heq)
       have o0 := (HOr.out).cell
       have of := (HOr.out).frozen
       obtain ⟨k0, k1, k2, k3, k4⟩ := res_cells HOr.out J (by rw [outAt_len]; exact hJl)
       clear HE4 hsr h22 hel hee heb hebr hr hrE hj1 hj2 hj3 hjt3 hth heq o0
       go_wp2_with fail
       go_roundg (gk - 1)
       case rel =>
        refine ⟨J + 1, by simp, by omega, by omega, (((((HOn.out).set).set).set).set).set, ?_⟩
        rw [HNx.out]
        exact res_store HOr.out J (by rw [outAt_len]; exact HJl.out) r
       case measure => omega
      ·have heb' : (th == (T : Int)) = false := by rw [beq_eq_false_iff_ne]; exact heq
       have HNx : Hid (outAt EE jobs (T : Int) (J + 1) = outAt EE jobs (T : Int) J) := outAt_no (by rw [← hth]; exact heq)
       clear HE4 hsr h22 hel hee heb hebr hr hrE hj1 hj2 hj3 hjt3 hth heq c0 c1 c2 c3 c4 h22r
       go_wp2_with fail
       go_roundg (gk - 1)
       case rel => exact ⟨J + 1, by simp, by omega, by omega, HOn, by rw [HNx.out]; exact HOr⟩
       case measure => omega
     ·have hJe : J = jobs.length := by omega
      subst hJe
      have hJ2 : ¬ ((jobs.length : Int) < (jobs.length : Int)) := by omega
      have HN2 : Hid (Blk wr ob 84 ((outAt EE jobs ((T + 1 : Nat) : Int) 0).flatMap resCells).toArray) := by
       show Blk _ _ _ _
       rw [show ((T + 1 : Nat) : Int) = (T : Int) + 1 from by simp, outAt_thread]
       exact HOr.out
      clear HE4 HOr hsr
      go_wp2_with fail
      go_roundg (tn - T)
      case rel => exact ⟨T + 1, by simp, by omega, by omega, HBr, HN2⟩
      case measure => omega
   ·have hTe : T = tn := by omega
    subst hTe
    have hT2 : ¬ ((T : Int) < c.t) := by have := HTN.out; omega
    have HR : Hid (wq.ownsRow w.heap.size 84 5 (.slice (some ⟨ob, 0, none⟩) jobs.length jobs.length) jobs.length ((jobsOf c mem jobs ps).flatMap resCells)) := by
     refine row_of_blk (xs := (jobsOf c mem jobs ps).flatMap resCells) ?_ (by have := HOb.out; omega) ?_ (by unfold maxLen; omega)
     ·rw [HOf.out, show c.t = _ from HTN.out]; exact HOq.out
     ·rw [flat_len (f := resCells) (n := 5) (fun _ => rfl)]
      simp [jobsOf]
    have HF : Hid (Below w.heap.size w wq) := (HB2.out).trans ((HBq.out).mono (HB2.out).size)
    have HLl : Hid (L.length = jobs.length) := by show _ = _; rw [HLe.out]; simp [jobsOf]
    clear HOq HBq
    go_wp2_with fail
    exact bodyPost_ret (v := .tuple #[.slice (some ⟨ob, 0, none⟩) jobs.length jobs.length, .int .i64 0]) (by simp [results, Tryz.results18, go_sem]) rfl ⟨some ⟨ob, 0, none⟩, jobs.length, by rw [HLl.out, HE0.out], by rw [HLl.out, HLe.out]; exact HR.out, HF.out⟩
 ·have hbn : (ER != 0) = true := by simp [he]
  have HLe : Hid (L = []) := (HL.out).symm.trans (if_neg (by rw [HER.out]; exact he))
  clear he HL HER hsc
  go_wp2
  exact bodyPost_ret (v := .tuple #[.slice none 0 0, .int .i64 ER]) (by simp [results, Tryz.results18, go_sem]) rfl ⟨none, 0, by rw [HLe.out]; rfl, by rw [HLe.out]; exact World.ownsRow_nil _ _ _ _, HB1.out⟩
theorem WR.apart2 {base p nb cb cap tcap rb : Nat} {pn : Int} {X : List Value} {w w' : World} {q : List (PT × Ls)} {Ds : List Int} (W : WR base p nb cb cap tcap pn X w q Ds) (o : Only rb w w') (h1 : p ≠ rb) (h2 : nb ≠ rb) (h3 : cb ≠ rb) (h4 : ¬ OwnW q rb) : WR base p nb cb cap tcap pn X w' q Ds :=
 ⟨W.thr.only o h1, fun i hi => (W.rows i hi).kept (fun k ok => o.block k ((W.rows i hi).own k ok).2 (fun e => h4 ⟨i, hi, e ▸ ok⟩)), W.dis, W.num.only o h2, W.nown, W.wst.only o h3, W.pb, W.nbb, W.cbb, Nat.le_trans W.bs o.size⟩
set_option maxRecDepth 100000 in
set_option maxHeartbeats 2000000 in
theorem playJobs_any {c : Cfg} {mem : List Int} {jobs : List (Int × List InsD)} (S : SetupOk c mem jobs) (hjt : ∀ j ∈ jobs, 0 ≤ j.1 ∧ j.1 < c.t) (ps : List PickD) (hps : ps.length ≤ 2 ^ 23) (ma ja pa : Option Addr) (mc jc pc : Nat) (w : World)
  (hm : Ints w w.heap.size ma mem) (hj : JobsRep w w.heap.size ja jobs) (hp : PicksIn w w.heap.size pa ps) :
  Calls Tryz.prog 42 #[.agg #[.int .i64 c.t, .int .i64 c.wd, .int .i64 c.s, .int .i64 c.g, .int .i64 c.r, .int .i64 c.cp, .int .i64 c.f, .slice ma mem.length mc, .slice ja jobs.length jc], .slice pa ps.length pc] w (ResIs w (jobsOf c mem jobs ps)) := by
 have HS : Hid (SetupOk c mem jobs ∧ ∀ j ∈ jobs, 0 ≤ j.1 ∧ j.1 < c.t) := ⟨S, hjt⟩
 obtain ⟨RS, HRS⟩ : ∃ RS, Hid (jobsOf c mem jobs ps = RS) := ⟨_, rfl⟩
 have hRl : RS.length = jobs.length := by rw [← HRS.out]; simp [jobsOf]
 have HRl : Hid (RS.length = jobs.length) := hRl
 rw [show jobsOf c mem jobs ps = RS from HRS.out]
 have hps' : ps.length ≤ 8388608 := hps
 have hB1 : Below w.heap.size w (w.alloc (.cells #[.int .i64 c.t, .int .i64 c.wd, .int .i64 c.s, .int .i64 c.g, .int .i64 c.r, .int .i64 c.cp, .int .i64 c.f, .slice ma mem.length mc, .slice ja jobs.length jc] 27)) := (Below.refl w.heap.size w).alloc (Nat.le_refl _) _
 have HB1 : Hid (Below w.heap.size w (w.alloc (.cells #[.int .i64 c.t, .int .i64 c.wd, .int .i64 c.s, .int .i64 c.g, .int .i64 c.r, .int .i64 c.cp, .int .i64 c.f, .slice ma mem.length mc, .slice ja jobs.length jc] 27))) := hB1
 have HSb : Hid (Blk (w.alloc (.cells #[.int .i64 c.t, .int .i64 c.wd, .int .i64 c.s, .int .i64 c.g, .int .i64 c.r, .int .i64 c.cp, .int .i64 c.f, .slice ma mem.length mc, .slice ja jobs.length jc] 27)) w.heap.size 27 #[.int .i64 c.t, .int .i64 c.wd, .int .i64 c.s, .int .i64 c.g, .int .i64 c.r, .int .i64 c.cp, .int .i64 c.f, .slice ma mem.length mc, .slice ja jobs.length jc]) := Blk.new w 27 _
 have HJ1 : Hid (JobsRep (w.alloc (.cells #[.int .i64 c.t, .int .i64 c.wd, .int .i64 c.s, .int .i64 c.g, .int .i64 c.r, .int .i64 c.cp, .int .i64 c.f, .slice ma mem.length mc, .slice ja jobs.length jc] 27)) (w.alloc (.cells #[.int .i64 c.t, .int .i64 c.wd, .int .i64 c.s, .int .i64 c.g, .int .i64 c.r, .int .i64 c.cp, .int .i64 c.f, .slice ma mem.length mc, .slice ja jobs.length jc] 27)).heap.size ja jobs) := hj.up2 hB1
 have HC : Hid (Calls Tryz.prog 60 #[.agg #[.int .i64 c.t, .int .i64 c.wd, .int .i64 c.s, .int .i64 c.g, .int .i64 c.r, .int .i64 c.cp, .int .i64 c.f, .slice ma mem.length mc, .slice ja jobs.length jc], .slice pa ps.length pc] (w.alloc (.cells #[.int .i64 c.t, .int .i64 c.wd, .int .i64 c.s, .int .i64 c.g, .int .i64 c.r, .int .i64 c.cp, .int .i64 c.f, .slice ma mem.length mc, .slice ja jobs.length jc] 27)) (BehindIs c mem jobs ps (w.alloc (.cells #[.int .i64 c.t, .int .i64 c.wd, .int .i64 c.s, .int .i64 c.g, .int .i64 c.r, .int .i64 c.cp, .int .i64 c.f, .slice ma mem.length mc, .slice ja jobs.length jc] 27)))) :=
  behind_any S ps hps ma ja pa mc jc pc _ (hm.up hB1) (hj.up2 hB1) (hp.up2 hB1)
 have hs1 : (w.alloc (.cells #[.int .i64 c.t, .int .i64 c.wd, .int .i64 c.s, .int .i64 c.g, .int .i64 c.r, .int .i64 c.cp, .int .i64 c.f, .slice ma mem.length mc, .slice ja jobs.length jc] 27)).heap.size = w.heap.size + 1 := by simp
 have hmk := run_make35 jobs.length S.j8
 have hj8 := S.j8
 clear hm hj hp S hps hB1 hjt hRl
 go_enter Tryz.func42, Tryz.ntmps42
 go_wp2_with fail
 generalize w.alloc (.cells #[.int .i64 c.t, .int .i64 c.wd, .int .i64 c.s, .int .i64 c.g, .int .i64 c.r, .int .i64 c.cp, .int .i64 c.f, .slice ma mem.length mc, .slice ja jobs.length jc] 27) = w1 at *
 refine (HC.out).mono ?_
 rintro e w2 ⟨nb, p, cap, tcap, q, Ds, X, rfl, hW, hM, hb2⟩
 obtain ⟨cb, hcb⟩ : ∃ cb, cb = w2.heap.size := ⟨_, rfl⟩
 have hB3 : Below w2.heap.size w2 (w2.alloc (.cells #[.slice (some ⟨nb, 0, none⟩) Ds.length cap, .slice (some ⟨p, 0, none⟩) q.length tcap, .int .i64 (ps.length : Int)] 106)) := (Below.refl _ _).alloc (Nat.le_refl _) _
 have W3 := hW _ cb hB3 (by rw [hcb]; exact Blk.new w2 106 _) (by rw [hcb]; exact hb2.size)
 have HW3 : Hid (WR w1.heap.size p nb cb cap tcap (ps.length : Int) X (w2.alloc (.cells #[.slice (some ⟨nb, 0, none⟩) Ds.length cap, .slice (some ⟨p, 0, none⟩) q.length tcap, .int .i64 (ps.length : Int)] 106)) q Ds) := W3
 have HM3 : Hid (SimW c jobs (ps.length : Int) (gAt c mem jobs ps ps.length) q Ds) := hM
 have HB3 : Hid (Below w1.heap.size w1 (w2.alloc (.cells #[.slice (some ⟨nb, 0, none⟩) Ds.length cap, .slice (some ⟨p, 0, none⟩) q.length tcap, .int .i64 (ps.length : Int)] 106))) := hb2.trans (hB3.mono hb2.size)
 clear hW hM hB3 hb2 W3 HC
 go_upto_region 2 with fail
 rw [← hcb]
 clear hcb
 generalize w2.alloc (.cells #[.slice (some ⟨nb, 0, none⟩) Ds.length cap, .slice (some ⟨p, 0, none⟩) q.length tcap, .int .i64 (ps.length : Int)] 106) = w3 at *
 have hs3 : ∀ i, w3.cell? ⟨w.heap.size, i, none⟩ = (#[.int .i64 c.t, .int .i64 c.wd, .int .i64 c.s, .int .i64 c.g, .int .i64 c.r, .int .i64 c.cp, .int .i64 c.f, .slice ma mem.length mc, .slice ja jobs.length jc] : Array Value)[i]? := ((HSb.out).below HB3.out (by omega)).cell
 obtain ⟨ob, hob⟩ : ∃ ob, ob = w3.heap.size := ⟨_, rfl⟩
 obtain ⟨Z, hZ⟩ : ∃ Z, Z = ((List.replicate jobs.length (⟨0, 0, 0, 0, 0⟩ : ResD)).flatMap resCells).toArray := ⟨_, rfl⟩
 rw [← hZ] at hmk
 have hB4 : Below w3.heap.size w3 (w3.alloc (.cells Z 84)) := (Below.refl _ _).alloc (Nat.le_refl _) _
 have HW4 : Hid (WR w1.heap.size p nb cb cap tcap (ps.length : Int) X (w3.alloc (.cells Z 84)) q Ds) := (HW3.out).below hB4
 have HB4 : Hid (Below w1.heap.size w1 (w3.alloc (.cells Z 84))) := (HB3.out).trans (hB4.mono (HB3.out).size)
 have HO4 : Hid (Blk (w3.alloc (.cells Z 84)) ob 84 ((resPad RS 0).flatMap resCells).toArray) := by
  show Blk _ _ _ _
  rw [hob, resPad_zero, HRl.out, ← hZ]
  exact Blk.new w3 84 _
 have HOb : Hid (w1.heap.size ≤ ob ∧ p ≠ ob ∧ nb ≠ ob ∧ cb ≠ ob ∧ ¬ OwnW q ob) := by
  have h1 := (HW3.out).thr.lt
  have h2 := (HW3.out).num.lt
  have h3 := (HW3.out).wst.lt
  exact ⟨by rw [hob]; exact (HB3.out).size, by omega, by omega, by omega, fun o => by have := (HW3.out).ownW ob o; omega⟩
 have hwn : w.heap.size ≠ ob := by have := (HB3.out).size; omega
 have hwl : w.heap.size < w3.heap.size := by have := (HB3.out).size; omega
 clear HW3 HB3 hB4 hZ
 go_upto_region 3 with fail
 rw [← hob]
 clear hob hmk
 generalize w3.alloc (.cells Z 84) = w4 at *
 have hs4 : ∀ i, w4.cell? ⟨w.heap.size, i, none⟩ = (#[.int .i64 c.t, .int .i64 c.wd, .int .i64 c.s, .int .i64 c.g, .int .i64 c.r, .int .i64 c.cp, .int .i64 c.f, .slice ma mem.length mc, .slice ja jobs.length jc] : Array Value)[i]? := ((HSb.out).below HB4.out (by omega)).cell
 clear hs3 hwl
 go_wp2_with fail
 clear hs4
 go_loopg [19] (jobs.length + 1) (fun m t19 wr => ∃ (k : Nat), t19 = .int .i64 (k : Int) ∧ k ≤ jobs.length ∧ m = jobs.length + 1 - k ∧ Hid (WR w1.heap.size p nb cb cap tcap (ps.length : Int) X wr q Ds) ∧ Hid (Below w1.heap.size w1 wr) ∧ Hid (Blk wr ob 84 ((resPad RS k).flatMap resCells).toArray))
 case atStart => exact ⟨0, rfl, by omega, by omega, HW4, HB4, HO4⟩
 case round =>
  obtain ⟨k, rfl, hk, hgk, HW, HB, HO⟩ := hrel
  clear HW4 HB4 HO4
  by_cases hkl : k < jobs.length
  ·obtain ⟨js, hj1, hj2, hj3⟩ := (HJ1.out).up HB.out
   obtain ⟨jb, joff, hja, hjb, hjc0, hjc1⟩ := hj2 k (by omega)
   have hjt3 := (hj3 k (by omega)).1
   obtain ⟨th, hth⟩ : ∃ th, th = (jobs.getD k (0, [])).1 := ⟨_, rfl⟩
   rw [hjt3, ← hth] at hjc0
   have hmem : jobs.getD k (0, []) ∈ jobs := by
    rw [show jobs.getD k (0, []) = jobs[k] from by simp [List.getD, List.getElem?_eq_getElem hkl]]
    exact List.getElem_mem hkl
   have hthr := (HS.out).2 _ hmem
   rw [← hth] at hthr
   obtain ⟨ti, hti⟩ := Int.eq_ofNat_of_zero_le hthr.1
   have hql := (HM3.out).len
   have htq : ti < q.length := by omega
   have S1 := (HM3.out).sim ti htq
   have O1 := (HM3.out).own ti htq
   have hres : (Tol (cxOf c jobs ti) q[ti].1 ((gAt c mem jobs ps ps.length).th ti)) := S1.tol
   have hrk : RS.getD k noRes = ((gAt c mem jobs ps ps.length).th (ti : Int)).ends.getD k noRes := by
    rw [← HRS.out]
    unfold jobsOf
    simp only [List.getD, List.getElem?_map, List.getElem?_range hkl, Option.map_some, Option.getD_some]
    rw [show (jobs[k]?.getD (0, [])).1 = (ti : Int) from by rw [← hti, hth]; rfl]
   have hT := TolF.result hres k
   rw [← hrk] at hT
   obtain ⟨r, hr⟩ : ∃ r, r = RS.getD k noRes := ⟨_, rfl⟩
   rw [← hr] at hT
   have HNx : Hid (resPad RS (k + 1) = (resPad RS k).set k r) := by
    show _ = _
    rw [hr]
    exact resPad_next RS k (by rw [HRl.out]; exact hkl)
   obtain ⟨ca, hca⟩ : ∃ ca, ca = (jobAt js k).a := ⟨_, rfl⟩
   obtain ⟨cl, hcl⟩ : ∃ cl, cl = (jobAt js k).len := ⟨_, rfl⟩
   obtain ⟨cc, hcc⟩ : ∃ cc, cc = (jobAt js k).cap := ⟨_, rfl⟩
   rw [← hca, ← hcl, ← hcc] at hjc1
   have hBa : Below wr.heap.size wr (wr.alloc (.cells #[.int .i64 th, .slice ca cl cc] 66)) := (Below.refl _ _).alloc (Nat.le_refl _) _
   have HWa : Hid (WR w1.heap.size p nb cb cap tcap (ps.length : Int) X (wr.alloc (.cells #[.int .i64 th, .slice ca cl cc] 66)) q Ds) := (HW.out).below hBa
   have HBa : Hid (Below w1.heap.size w1 (wr.alloc (.cells #[.int .i64 th, .slice ca cl cc] 66))) := (HB.out).trans (hBa.mono (HB.out).size)
   have HOa : Hid (Blk (wr.alloc (.cells #[.int .i64 th, .slice ca cl cc] 66)) ob 84 ((resPad RS k).flatMap resCells).toArray) := (HO.out).alloc _
   have HRc : Hid (Calls Tryz.prog 61 #[.pointer (some ⟨p, ti * 47, none⟩), .int .i64 (k : Int)] (wr.alloc (.cells #[.int .i64 th, .slice ca cl cc] 66)) fun e w' => e = .returned (.agg #[.int .i64 r.fate, .int .i64 r.r0, .int .i64 r.r1, .int .i64 r.r2, .int .i64 r.r3]) ∧ Below (wr.alloc (.cells #[.int .i64 th, .slice ca cl cc] 66)).heap.size (wr.alloc (.cells #[.int .i64 th, .slice ca cl cc] 66)) w') :=
    t_result w1.heap.size p (ti * 47) _ _ q[ti].1 q[ti].2 _ ((HWa.out).tr ti htq) (by have := hres.rl; have := hres.cu; have := O1.mine; omega) (by have := hres.rl; have := hres.cu; omega) (k : Int) r hT.1 hT.2
   have m1 : wr.cell? ⟨cb, 1, none⟩ = some (.slice (some ⟨p, 0, none⟩) q.length tcap) := by rw [(HW.out).wst.cell]; rfl
   have hcbl : cb < wr.heap.size := (HW.out).wst.lt
   have hcbn : cb ≠ wr.heap.size := by omega
   have hk0 : (0 : Int) ≤ (k : Int) := by omega
   have hk1 : (k : Int) < (jobs.length : Int) := by omega
   have ht0 : (0 : Int) ≤ th := hthr.1
   have ht1 : th < (q.length : Int) := by omega
   have hwk : IntKind.i64.wrap ((k : Int) + 1) = (k : Int) + 1 := wrapP _ (by omega) (by omega)
   have hjbl : jb < wr.heap.size := Nat.lt_of_lt_of_le hjb (HB.out).size
   have HKr : Hid (k < RS.length) := by show _ < _; rw [HRl.out]; exact hkl
   subst hja
   have hto : th.toNat = ti := by omega
   clear HW HB HO hres hT hr hrk S1 O1 hj1 hj2 hj3 hjt3 hmem hthr hti hth hca hcl hcc hBa
   go_wp2_with fail
   clear hjc0 hjc1 m1
   refine (HRc.out).mono ?_
   rintro e w5 ⟨rfl, hb5⟩
   have HW5 : Hid (WR w1.heap.size p nb cb cap tcap (ps.length : Int) X w5 q Ds) := (HWa.out).below hb5
   have HB5 : Hid (Below w1.heap.size w1 w5) := (HBa.out).trans (hb5.mono (HBa.out).size)
   have HO5 : Hid (Blk w5 ob 84 ((resPad RS k).flatMap resCells).toArray) := (HOa.out).below hb5 (HOa.out).lt
   obtain ⟨k0, k1, k2, k3, k4⟩ := res_cells HO5.out k (by rw [resPad_len RS k (by have := HKr.out; omega)]; exact HKr.out)
   have of := (HO5.out).frozen
   clear hb5 HRc HWa HBa HOa
   go_wp2_with fail
   have ho6 : Only ob w5 (((((w5.setCell ⟨ob, k * 5, none⟩ (.int .i64 r.fate)).setCell ⟨ob, k * 5 + 1, none⟩ (.int .i64 r.r0)).setCell ⟨ob, k * 5 + 2, none⟩ (.int .i64 r.r1)).setCell ⟨ob, k * 5 + 3, none⟩ (.int .i64 r.r2)).setCell ⟨ob, k * 5 + 4, none⟩ (.int .i64 r.r3)) := (((((Only.refl _ _).set).set).set).set).set
   obtain ⟨o1, o2, o3, o4, o5⟩ := HOb.out
   go_roundg (gk - 1)
   case rel => exact ⟨k + 1, by simp, by omega, by omega, (HW5.out).apart2 ho6 o2 o3 o4 o5, below_onto HB5.out ho6 o1 (HB5.out).size, by rw [HNx.out]; exact res_store HO5.out k (by rw [resPad_len RS k (by have := HKr.out; omega)]; exact HKr.out) r⟩
   case measure => omega
  ·have hkj : k = jobs.length := by omega
   subst hkj
   have hk2 : ¬ ((jobs.length : Int) < (jobs.length : Int)) := by omega
   have HR : Hid (wr.ownsRow w.heap.size 84 5 (.slice (some ⟨ob, 0, none⟩) RS.length jobs.length) RS.length (RS.flatMap resCells)) := by
    have h1 := HO.out
    rw [show jobs.length = RS.length from (HRl.out).symm, resPad_all] at h1
    rw [show jobs.length = RS.length from (HRl.out).symm]
    exact row_of_blk h1 (by have := (HOb.out).1; omega) (flat_len (f := resCells) (n := 5) (fun _ => rfl) RS) (by unfold maxLen; have := HRl.out; omega)
   have HF : Hid (Below w.heap.size w wr) := (HB1.out).trans ((HB.out).mono (HB1.out).size)
   have HLl : Hid (jobs.length = RS.length) := (HRl.out).symm
   clear HW HB HO
   go_wp2_with fail
   go_ret
   exact ⟨some ⟨ob, 0, none⟩, jobs.length, by have := HLl.out; simp [this], HR.out, HF.out⟩
set_option maxRecDepth 100000 in
set_option maxHeartbeats 4000000 in
theorem jobsGood : JobsGood := by
 intro c mem jobs ps ma ja pa mc jc pc w hps hml hjl hm hj hp
 have HM : Hid (Ints w w.heap.size ma mem) := hm
 have HJ : Hid (JobsRep w w.heap.size ja jobs) := hj
 have HP : Hid (PicksIn w w.heap.size pa ps) := hp
 have HPS : Hid (ps.length ≤ 2 ^ 23) := hps
 obtain ⟨L, HL⟩ : ∃ L, Hid (jobsA c mem jobs ps = L) := ⟨_, rfl⟩
 obtain ⟨ER, HER⟩ : ∃ ER, Hid (errS c mem jobs = ER) := ⟨_, rfl⟩
 rw [show jobsA c mem jobs ps = L from HL.out, show errS c mem jobs = ER from HER.out]
 clear hm hj hp hps
 go_enter Tryz.func17, Tryz.ntmps17
 go_wp2_with fail
 obtain ⟨w0, hw0⟩ : ∃ w0, w0 = w.alloc (.cells #[.int .i64 c.t, .int .i64 c.wd, .int .i64 c.s, .int .i64 c.g, .int .i64 c.r, .int .i64 c.cp, .int .i64 c.f, .slice ma mem.length mc, .slice ja jobs.length jc] 27) := ⟨_, rfl⟩
 have hB0 : Below w.heap.size w w0 := by rw [hw0]; exact (Below.refl w.heap.size w).alloc (Nat.le_refl _) _
 have hSb : Blk w0 w.heap.size 27 #[.int .i64 c.t, .int .i64 c.wd, .int .i64 c.s, .int .i64 c.g, .int .i64 c.r, .int .i64 c.cp, .int .i64 c.f, .slice ma mem.length mc, .slice ja jobs.length jc] := by rw [hw0]; exact Blk.new w 27 _
 have hs0 : w0.heap.size = w.heap.size + 1 := by rw [hw0]; simp
 rw [← hw0]
 clear hw0
 refine (setup_rep c mem jobs ma ja mc jc w0 hml hjl ((HM.out).up hB0) ((HJ.out).up2 hB0)).mono ?_
 rintro e w1 ⟨rfl, hb1⟩
 have hB1 : Below w.heap.size w w1 := hB0.trans (hb1.mono hB0.size)
 have hsc : ∀ i, w1.cell? ⟨w.heap.size, i, none⟩ = (#[.int .i64 c.t, .int .i64 c.wd, .int .i64 c.s, .int .i64 c.g, .int .i64 c.r, .int .i64 c.cp, .int .i64 c.f, .slice ma mem.length mc, .slice ja jobs.length jc] : Array Value)[i]? := (hSb.below hb1 (by omega)).cell
 have HB1 : Hid (Below w.heap.size w w1) := hB1
 have HM1 : Hid (Ints w1 w1.heap.size ma mem) := (HM.out).up hB1
 have HJ1 : Hid (JobsRep w1 w1.heap.size ja jobs) := (HJ.out).up2 hB1
 have HP1 : Hid (PicksIn w1 w1.heap.size pa ps) := (HP.out).up2 hB1
 clear hB0 hSb hs0 hb1 hB1 HM HJ HP
 rw [show errS c mem jobs = ER from HER.out]
 by_cases he : ER = 0
 ·have hbn : (ER != 0) = false := by simp [he]
  have HLe : Hid (L = jobsOf c mem jobs ps) := (HL.out).symm.trans (if_pos ((HER.out).trans he))
  have HSo : Hid (SetupOk c mem jobs ∧ ∀ j ∈ jobs, 0 ≤ j.1 ∧ j.1 < c.t) := errS_ok ((HER.out).trans he)
  have HE0 : Hid (ER = 0) := he
  clear he HL HER
  go_wp2_with fail
  refine (playJobs_any (HSo.out).1 (HSo.out).2 ps HPS.out ma ja pa mc jc pc w1 HM1.out HJ1.out HP1.out).mono ?_
  rintro e w2 ⟨la, lc, rfl, hl2, hb2⟩
  have HL2 : Hid (w2.ownsRow w.heap.size 84 5 (.slice la (jobsOf c mem jobs ps).length lc) (jobsOf c mem jobs ps).length ((jobsOf c mem jobs ps).flatMap resCells)) := ownsRow_low hl2 (HB1.out).size
  have HB2 : Hid (Below w.heap.size w w2) := (HB1.out).trans (hb2.mono (HB1.out).size)
  clear hl2 hb2 hsc hbn
  go_wp2
  exact bodyPost_ret (v := .tuple #[.slice la (jobsOf c mem jobs ps).length lc, .int .i64 0]) (by simp [results, Tryz.results17, go_sem]) rfl ⟨la, lc, by rw [HLe.out, HE0.out], by rw [HLe.out]; exact HL2.out, HB2.out⟩
 ·have hbn : (ER != 0) = true := by simp [he]
  have HLe : Hid (L = []) := (HL.out).symm.trans (if_neg (by rw [HER.out]; exact he))
  clear he HL HER hsc
  go_wp2
  exact bodyPost_ret (v := .tuple #[.slice none 0 0, .int .i64 ER]) (by simp [results, Tryz.results17, go_sem]) rfl ⟨none, 0, by rw [HLe.out]; rfl, by rw [HLe.out]; exact World.ownsRow_nil _ _ _ _, HB1.out⟩
def ResIn (w : World) (B : Nat) (a : Option Addr) (l : List ResD) : Prop :=
 ∀ k, k < l.length → ∃ b, a = some ⟨b, 0, none⟩ ∧ b < B ∧ w.cell? ⟨b, k * 5, none⟩ = some (.int .i64 (l.getD k noRes).fate) ∧ w.cell? ⟨b, k * 5 + 1, none⟩ = some (.int .i64 (l.getD k noRes).r0) ∧ w.cell? ⟨b, k * 5 + 2, none⟩ = some (.int .i64 (l.getD k noRes).r1) ∧ w.cell? ⟨b, k * 5 + 3, none⟩ = some (.int .i64 (l.getD k noRes).r2) ∧ w.cell? ⟨b, k * 5 + 4, none⟩ = some (.int .i64 (l.getD k noRes).r3)
theorem resIn_row {w : World} {base : Nat} {a : Option Addr} {c : Nat} {rs : List ResD} (h : w.ownsRow base 84 5 (.slice a rs.length c) rs.length (rs.flatMap resCells)) : ResIn w w.heap.size a rs := fun k hk => by
 obtain ⟨b, ha, h0, h1, h2, h3, h4⟩ := ress_at h k hk
 subst ha
 exact ⟨b, rfl, (World.ownsRow.lt h b rfl).2, h0, h1, h2, h3, h4⟩
theorem ResIn.up {w w' : World} {a : Option Addr} {l : List ResD} (h : ResIn w w.heap.size a l) (hb : Below w.heap.size w w') : ResIn w' w'.heap.size a l := fun k hk => by
 obtain ⟨b, ha, hB, h0, h1, h2, h3, h4⟩ := h k hk
 have e := hb.block b hB
 have := hb.size
 exact ⟨b, ha, by omega, (World.cell?_of_block e).trans h0, (World.cell?_of_block e).trans h1, (World.cell?_of_block e).trans h2, (World.cell?_of_block e).trans h3, (World.cell?_of_block e).trans h4⟩
theorem jobsA_len (c : Cfg) (mem : List Int) (jobs : List (Int × List InsD)) (ps : List PickD) : (jobsA c mem jobs ps).length ≤ 8 := by
 unfold jobsA
 split
 ·rename_i h
  have := (errS_ok h).1.j8
  simpa [jobsOf] using this
 ·simp
set_option maxRecDepth 100000 in
set_option maxHeartbeats 1000000 in
theorem sameResults_any (a b : Option Addr) (ca cb : Nat) (l : List ResD) (w : World) (hn : l.length ≤ 2 ^ 40) (ha : ResIn w w.heap.size a l) (hb : ResIn w w.heap.size b l) :
  Calls Tryz.prog 19 #[.slice a l.length ca, .slice b l.length cb] w fun e w' => e = .returned (.bool true) ∧ Below w.heap.size w w' := by
 have HA : Hid (ResIn w w.heap.size a l) := ha
 have HB : Hid (ResIn w w.heap.size b l) := hb
 clear ha hb
 go_enter Tryz.func19, Tryz.ntmps19
 go_wp2
 go_loopg [5] (l.length + 1) (fun m t wr => ∃ k : Nat, t = .int .i64 (k : Int) ∧ k ≤ l.length ∧ m = l.length + 1 - k ∧ Hid (Below w.heap.size w wr))
 case atStart => exact ⟨0, rfl, by omega, by omega, Below.refl _ _⟩
 case round =>
  obtain ⟨k, rfl, hk, hgk, HBk⟩ := hrel
  by_cases hlt : k < l.length
  ·obtain ⟨b1, hA1, hb1, hc10, hc11, hc12, hc13, hc14⟩ := HA.out k hlt
   obtain ⟨b2, hB1, hb2, hc20, hc21, hc22, hc23, hc24⟩ := HB.out k hlt
   have up : ∀ (b o : Nat), b < w.heap.size → wr.cell? ⟨b, o, none⟩ = w.cell? ⟨b, o, none⟩ := fun b o hb => World.cell?_of_block ((HBk.out).block b hb)
   have d10 := (up b1 _ hb1).trans hc10
   have d11 := (up b1 _ hb1).trans hc11
   have d12 := (up b1 _ hb1).trans hc12
   have d13 := (up b1 _ hb1).trans hc13
   have d14 := (up b1 _ hb1).trans hc14
   have d20 := (up b2 _ hb2).trans hc20
   have d21 := (up b2 _ hb2).trans hc21
   have d22 := (up b2 _ hb2).trans hc22
   have d23 := (up b2 _ hb2).trans hc23
   have d24 := (up b2 _ hb2).trans hc24
   have hk0 : (0 : Int) ≤ (k : Int) := by omega
   have hk1 : (k : Int) < (l.length : Int) := by omega
   have hwk : IntKind.i64.wrap ((k : Int) + 1) = (k : Int) + 1 := wrapF _ (by omega) (by omega)
   subst hA1 hB1
   generalize l.getD k noRes = z at *
   have hsz := (HBk.out).size
   clear hc10 hc11 hc12 hc13 hc14 hc20 hc21 hc22 hc23 hc24 HA HB up
   go_wp2_with fail
   go_cut [6] (fun t wx => t = .bool true ∧ Hid (Below wr.heap.size wr wx))
   case first =>
    go_region_with (go_at_call 46; refine (sameResult_any _ _ _ _ _ _).mono ?_; rintro e w4 ⟨rfl, hb4⟩)
    all_goals
     go_wp2
     go_meet
     case rel => exact ⟨rfl, by first | assumption | exact of_drew (by assumption)⟩
   case rest =>
    obtain ⟨rfl, HBc⟩ := hcut
    clear d10 d11 d12 d13 d14 d20 d21 d22 d23 d24
    go_wp2_with fail
    go_roundg (gk - 1)
    case rel => exact ⟨k + 1, by simp, by omega, by omega, (HBk.out).trans ((HBc.out).mono hsz)⟩
    case measure => omega
  ·have hke : ¬ (k : Int) < (l.length : Int) := by omega
   go_wp2
   go_ret
   exact ⟨rfl, HBk.out⟩
end Go.Proofs.YtejadojilncbjaaGreat
