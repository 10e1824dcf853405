import Derived.Test.YtejadojilncbjaaGreatG25
import Derived.Test.YtejadojilncbjaaGreatG46
import Derived.Test.YtejadojilncbjaaGreatG28
import Derived.Test.YtejadojilncbjaaGreatG35
namespace Go.Proofs.YtejadojilncbjaaGreat
open Go.RowKit
set_option linter.unusedVariables false
attribute [local go_sem ↓] Go.wp_at_zero Go.wp_at_succ
theorem told_list {c : Cfg} {mem : List Int} {jobs : List (Int × List InsD)} (S : SetupOk c mem jobs) (ps : List PickD) (hps : ps.length ≤ 2 ^ 33) (t : Int) (t0 : 0 ≤ t) (t1 : t < c.t) (ma ja pa la : Option Addr) (mc jc pc lc : Nat) (w : World)
  (hj : JobsRep w w.heap.size ja jobs) (hp : PicksIn w w.heap.size pa ps) (hl : LogIn w w.heap.size la (gLog c mem jobs ps ps.length)) :
  Calls Tryz.prog 45 #[.agg #[.int .i64 c.t, .int .i64 c.wd, .int .i64 c.s, .int .i64 c.g, .int .i64 c.r, .int .i64 c.cp, .int .i64 c.f, .slice ma mem.length mc, .slice ja jobs.length jc], .slice pa ps.length pc, .slice la ps.length lc, .int .i64 t] w fun e w' =>
   e = .returned (.pointer (some ⟨w.heap.size + 2, 0, none⟩)) ∧ (∃ (al : Option Addr) (cl : Nat) (AL : List (AttD × Value)), AL.map (·.1) = ((gAt c mem jobs ps ps.length).th t).list ∧ w'.cell? ⟨w.heap.size + 2, 21, none⟩ = some (.slice al AL.length cl) ∧ AttsRow w' 0 al cl AL ∧ NotesOf w' AL) ∧ Below w.heap.size w w' := by
 refine (told_full S ps hps ps.length (Nat.le_refl _) t t0 t1 ma ja pa la mc jc pc lc w hj hp hl).mono ?_
 rintro e w' ⟨rfl, ⟨H, B, s, hL, _, _, hsl, _⟩, hb⟩
 obtain ⟨al, cl, hbk, hr⟩ := hL.life
 obtain ⟨AL, h1, h2, h3⟩ := list_av hr
 refine ⟨rfl, ⟨al, cl, AL, h1.trans hsl, ?_, ownsRow_low h2 (Nat.zero_le _), h3⟩, hb⟩
 rw [hbk.cell]
 have : AL.length = s.list.length := by rw [← h1]; simp
 simp [lifeArr, this]
set_option maxRecDepth 100000 in
set_option maxHeartbeats 1000000 in
theorem refHistory_any (c : Cfg) (mem : List Int) (jobs : List (Int × List InsD)) (ps : List PickD) (hps : ps.length ≤ 2 ^ 33) (ma ja pa : Option Addr) (mc jc pc : Nat) (w : World) (hml : mem.length ≤ maxLen) (hjl : jobs.length ≤ maxLen)
  (hm : Ints w w.heap.size ma mem) (hj : JobsRep w w.heap.size ja jobs) (hp : PicksIn w w.heap.size pa ps) :
  Calls Tryz.prog 22 #[.agg #[.int .i64 c.t, .int .i64 c.wd, .int .i64 c.s, .int .i64 c.g, .int .i64 c.r, .int .i64 c.cp, .int .i64 c.f, .slice ma mem.length mc, .slice ja jobs.length jc], .slice pa ps.length pc] w (HistIs w (histA c mem jobs ps) (errS c mem jobs)) := by
 have HM : Hid (Ints w w.heap.size ma mem) := hm
 have HJ : Hid (JobsRep w w.heap.size ja jobs) := hj
 have HP : Hid (PicksIn w w.heap.size pa ps) := hp
 have HPS : Hid (ps.length ≤ 2 ^ 33) := hps
 obtain ⟨L, HL⟩ : ∃ L, Hid (histA c mem jobs ps = L) := ⟨_, rfl⟩
 obtain ⟨ER, HER⟩ : ∃ ER, Hid (errS c mem jobs = ER) := ⟨_, rfl⟩
 rw [show histA c mem jobs ps = L from HL.out, show errS c mem jobs = ER from HER.out]
 clear hm hj hp hps
 go_enter Tryz.func22, Tryz.ntmps22
 go_wp2_with fail
 obtain ⟨w0, hw0⟩ : ∃ w0, w0 = w.alloc (.cells #[.int .i64 c.t, .int .i64 c.wd, .int .i64 c.s, .int .i64 c.g, .int .i64 c.r, .int .i64 c.cp, .int .i64 c.f, .slice ma mem.length mc, .slice ja jobs.length jc] 27) := ⟨_, rfl⟩
 have hB0 : Below w.heap.size w w0 := by rw [hw0]; exact (Below.refl w.heap.size w).alloc (Nat.le_refl _) _
 have hSb : Blk w0 w.heap.size 27 #[.int .i64 c.t, .int .i64 c.wd, .int .i64 c.s, .int .i64 c.g, .int .i64 c.r, .int .i64 c.cp, .int .i64 c.f, .slice ma mem.length mc, .slice ja jobs.length jc] := by rw [hw0]; exact Blk.new w 27 _
 have hs0 : w0.heap.size = w.heap.size + 1 := by rw [hw0]; simp
 rw [← hw0]
 clear hw0
 refine (refCheck_rep c mem jobs ma ja mc jc w0 hml hjl ((HM.out).up hB0) ((HJ.out).up2 hB0)).mono ?_
 rintro e w1 ⟨rfl, hb1⟩
 have hB1 : Below w.heap.size w w1 := hB0.trans (hb1.mono hB0.size)
 have HSb1 : Hid (Blk w1 w.heap.size 27 #[.int .i64 c.t, .int .i64 c.wd, .int .i64 c.s, .int .i64 c.g, .int .i64 c.r, .int .i64 c.cp, .int .i64 c.f, .slice ma mem.length mc, .slice ja jobs.length jc]) := hSb.below hb1 (by omega)
 have hsc := (HSb1.out).cell
 have hsz1 : w.heap.size < w1.heap.size := (HSb1.out).lt
 have HB1 : Hid (Below w.heap.size w w1) := hB1
 have HM1 : Hid (Ints w1 w1.heap.size ma mem) := (HM.out).up hB1
 have HJ1 : Hid (JobsRep w1 w1.heap.size ja jobs) := (HJ.out).up2 hB1
 have HP1 : Hid (PicksIn w1 w1.heap.size pa ps) := (HP.out).up2 hB1
 clear hB0 hSb hs0 hb1 hB1 HM HJ HP
 rw [show errS c mem jobs = ER from HER.out]
 by_cases he : ER = 0
 ·have hbn : (ER != 0) = false := by simp [he]
  have HLe : Hid (L = (⟨c, mem, jobs, ps⟩ : Rn).hist) := (HL.out).symm.trans (if_pos ((HER.out).trans he))
  have HSo : Hid (SetupOk c mem jobs ∧ ∀ j ∈ jobs, 0 ≤ j.1 ∧ j.1 < c.t) := errS_ok ((HER.out).trans he)
  have HE0 : Hid (ER = 0) := he
  have hj8 := (HSo.out).1.j8
  clear he HL HER
  go_wp2_with fail
  refine (accesses_any (HSo.out).1 ps HPS.out ma ja pa mc jc pc w1 HM1.out HJ1.out HP1.out).mono ?_
  rintro e w2 ⟨la, lc, rfl, hl2, hb2⟩
  have HL2 : Hid (LogIn w2 w2.heap.size la (gLog c mem jobs ps ps.length)) := hl2
  have HB2 : Hid (Below w.heap.size w w2) := (HB1.out).trans (hb2.mono (HB1.out).size)
  have HSb2 : Hid (Blk w2 w.heap.size 27 #[.int .i64 c.t, .int .i64 c.wd, .int .i64 c.s, .int .i64 c.g, .int .i64 c.r, .int .i64 c.cp, .int .i64 c.f, .slice ma mem.length mc, .slice ja jobs.length jc]) := (HSb1.out).below hb2 hsz1
  have HJ2 : Hid (JobsRep w2 w2.heap.size ja jobs) := (HJ1.out).up2 hb2
  have HP2 : Hid (PicksIn w2 w2.heap.size pa ps) := (HP1.out).up2 hb2
  have hlen : (accs c mem jobs ps).length = ps.length := gLog_len c mem jobs ps ps.length
  rw [hlen]
  obtain ⟨R, HR⟩ : ∃ R : Rn, Hid (R = ⟨c, mem, jobs, ps⟩) := ⟨_, rfl⟩
  have HOk : Hid (R.Ok) := by show R.Ok; rw [show R = _ from HR.out]; exact ⟨(HSo.out).1.cfg, (HSo.out).1.mw, (HSo.out).1.mb⟩
  have HLr : Hid (L = R.hist) := by show _ = _; rw [show R = _ from HR.out]; exact HLe.out
  have HTd : Hid (∀ (T : Int) (wx : World), 0 ≤ T → T < c.t → Below w2.heap.size w2 wx → Calls Tryz.prog 45 #[.agg #[.int .i64 c.t, .int .i64 c.wd, .int .i64 c.s, .int .i64 c.g, .int .i64 c.r, .int .i64 c.cp, .int .i64 c.f, .slice ma mem.length mc, .slice ja jobs.length jc], .slice pa ps.length pc, .slice la ps.length lc, .int .i64 T] wx fun e w' =>
       e = .returned (.pointer (some ⟨wx.heap.size + 2, 0, none⟩)) ∧ (∃ (al : Option Addr) (cl : Nat) (AL : List (AttD × Value)), AL.map (·.1) = ((R.g R.ps.length).th T).list ∧ w'.cell? ⟨wx.heap.size + 2, 21, none⟩ = some (.slice al AL.length cl) ∧ AttsRow w' 0 al cl AL ∧ NotesOf w' AL) ∧ Below wx.heap.size wx w') := fun T wx h0 h1 hb => by
   rw [show R = _ from HR.out]
   exact told_list (HSo.out).1 ps HPS.out T h0 h1 ma ja pa la mc jc pc lc wx ((HJ2.out).up2 hb) ((HP2.out).up2 hb) ((HL2.out).up hb)
  obtain ⟨tn, HTN⟩ : ∃ tn : Nat, Hid (c.t = (tn : Int)) := ⟨c.t.toNat, by show c.t = _; have := (cfgB_true (HSo.out).1.cfg).1; omega⟩
  have htn4 : tn ≤ 4 := by have := (cfgB_true (HSo.out).1.cfg).1; have := HTN.out; omega
  have HRt : Hid (R.c.t = (tn : Int)) := by show _ = _; rw [show R = _ from HR.out]; exact HTN.out
  have HRp : Hid (R.ps.length = ps.length) := by show _ = _; rw [show R = _ from HR.out]
  have HAl : Hid (∀ T : Nat, T ≤ tn → (allTo R T).length ≤ T * ps.length) := fun T hT => by
   have := allTo_len HOk.out T (by have := HRt.out; omega)
   rw [HRp.out] at this
   exact this
  have hwl2 : w.heap.size < w2.heap.size := (HSb2.out).lt
  have hp33 : ps.length ≤ 2 ^ 33 := HPS.out
  obtain ⟨iA, hiA, hzA0, hzA1, hzA2⟩ := info_parts Tryz.info63
  clear hl2 hb2 hsc hbn HM1 HJ1 HP1 HSb1 HB1 hsz1 hlen HL2 HP2 HJ2 HLe HR
  go_wp2_with fail
  go_loopg [8, 9] (tn + 1) (fun m t8 t9 wr => ∃ (T : Nat) (aa : Option Addr) (ac : Nat) (AN : List (AttD × Value)), t8 = .slice aa AN.length ac ∧ t9 = .int .i64 (T : Int) ∧ T ≤ tn ∧ m = tn + 1 - T ∧ Hid (AN.map (·.1) = allTo R T) ∧ Hid (AttsRow wr w2.heap.size aa ac AN) ∧ Hid (NotesOf wr AN) ∧ Hid (Below w2.heap.size w2 wr))
  case atStart => exact ⟨0, none, 0, [], rfl, rfl, by omega, by omega, rfl, World.ownsRow_nil _ _ _ _, (fun q hq => by cases hq), Below.refl _ _⟩
  case round =>
   obtain ⟨T, aa, ac, AN, rfl, rfl, hT, hgT, HAN, HRw, HNt, HBq⟩ := hrel
   obtain ⟨wq, hwq⟩ : ∃ wq, wq = wr := ⟨_, rfl⟩
   subst hwq
   have hsq := ((HSb2.out).below HBq.out hwl2).cell
   have hszq : w2.heap.size ≤ wq.heap.size := (HBq.out).size
   have hANl : AN.length ≤ T * ps.length := by
    have h := HAl.out T hT
    rw [← show AN.map (·.1) = allTo R T from HAN.out] at h
    simpa using h
   by_cases hTl : T < tn
   ·have hT1 : (T : Int) < c.t := by have := HTN.out; omega
    have hwT : IntKind.i64.wrap ((T : Int) + 1) = (T : Int) + 1 := wrapP _ (by omega) (by omega)
    go_wp2_with fail
    refine (HTd.out (T : Int) wq (by omega) hT1 HBq.out).mono ?_
    rintro e w4 ⟨rfl, ⟨al, cl, AL, hA1, hA2, hA3, hA4⟩, hb4⟩
    have HB4 : Hid (Below w2.heap.size w2 w4) := (HBq.out).trans (hb4.mono hszq)
    have HRw4 : Hid (AttsRow w4 w2.heap.size aa ac AN) := ownsRow_below HRw.out hb4
    have HNt4 : Hid (NotesOf w4 AN) := (HNt.out).below hb4
    have HAL : Hid (AttsRow w4 0 al cl AL) := hA3
    have HNL : Hid (NotesOf w4 AL) := hA4
    have HAN2 : Hid ((AN ++ AL).map (·.1) = allTo R (T + 1)) := by
     show _ = _
     rw [List.map_append, hA1, allTo_next, show AN.map (·.1) = allTo R T from HAN.out]
    have hsz4 : w2.heap.size ≤ w4.heap.size := (HB4.out).size
    have hlenT : AN.length + AL.length ≤ (T + 1) * ps.length := by
     have h := HAl.out (T + 1) (by omega)
     rw [← show (AN ++ AL).map (·.1) = allTo R (T + 1) from HAN2.out] at h
     simpa using h
    have hbig : (T + 1) * ps.length ≤ 4 * ps.length := Nat.mul_le_mul_right _ (by omega)
    clear hA1 hA3 hA4 hb4 hsq HBq HRw HNt HAN
    by_cases he : AL = []
    ·have hcap := own_cap HRw4.out
     obtain ⟨AZ, HAZ⟩ : ∃ AZ, Hid (AL.length = AZ) := ⟨_, rfl⟩
     have HA0 : Hid (AZ = 0) := by show _ = _; rw [← show AL.length = AZ from HAZ.out, he]; rfl
     rw [show AL.length = AZ from HAZ.out] at hA2
     have HAN3 : Hid (AN.map (·.1) = allTo R (T + 1)) := by show _ = _; rw [← show (AN ++ AL).map (·.1) = allTo R (T + 1) from HAN2.out, he, List.append_nil]
     clear he HAZ HAN2 hlenT
     go_wp2_with (at_builtin; refine append_empty (by rfl) _ _ _ (by rfl) _ iA Tryz.underlying51 hiA aa AN.length ac hcap (by rfl) al cl (by exact congrArg (fun n => Value.slice al n cl) HA0.out) ?_)
     go_roundg (gk - 1)
     case rel => exact ⟨T + 1, aa, ac, AN, rfl, by simp, by omega, by omega, HAN3, HRw4, HNt4, HB4⟩
     case measure => omega
    ·have hpos : 0 < AL.length := List.length_pos_iff.2 he
     obtain ⟨lb, hlb, _, _, hcl⟩ := (HAL.out).cells hpos
     subst hlb
     have HCL : Hid (∀ j u, (AL.flatMap avCells)[j]? = some u → w4.cell? ((⟨lb, 0, none⟩ : Addr).add j) = some u) := fun j u hj => by
      rw [Addr.add_lit, Nat.zero_add]
      exact hcl j u hj
     obtain ⟨XS, HXS⟩ : ∃ XS, Hid (XS = AN.flatMap avCells) := ⟨_, rfl⟩
     obtain ⟨NS, HNS⟩ : ∃ NS, Hid (NS = AL.flatMap avCells) := ⟨_, rfl⟩
     have HRw5 : Hid (w4.ownsRow w2.heap.size 63 8 (.slice aa AN.length ac) AN.length XS) := by rw [show XS = _ from HXS.out]; exact HRw4.out
     have HCL5 : Hid (∀ j u, NS[j]? = some u → w4.cell? ((⟨lb, 0, none⟩ : Addr).add j) = some u) := by rw [show NS = _ from HNS.out]; exact HCL
     have HNSl : Hid (NS.length = AL.length * 8) := by show _ = _; rw [show NS = _ from HNS.out]; exact av_len AL
     have HOne : Hid (∀ u ∈ NS, u.oneCell' = true) := by rw [show NS = _ from HNS.out]; exact av_one HNL.out
     clear hcl HCL HRw4
     go_wp2_with
      (at_builtin;
          refine wpList_append_lies _ (by rfl) _ _ _ (by rfl) w2.heap.size 63 iA _ 8 80 Tryz.underlying51 hiA hzA0 hzA1 hzA2 rfl (by omega) (.slice aa AN.length ac) AN.length XS (by rfl) HRw5.out
           ⟨lb, 0, none⟩ AL.length cl NS (by rfl) HNSl.out HCL5.out HOne.out hpos (by unfold maxLen; omega) (by omega) hsz4 w4.heap.size rfl ?_;
          intro gg cap wz hown1 hgrow hat hlt;
          have HKz : Hid (Kp [63] w2.heap.size w2.heap.size w2.heap.size w4 wz) := Kp.grown hgrow hsz4 HRw5.out (by simp);
          have HRz : Hid (wz.ownsRow w2.heap.size 63 8 (.slice (some ⟨gg, 0, none⟩) (AN.length + AL.length) cap) (AN.length + AL.length) (XS ++ NS)) := hown1;
          clear hown1 hgrow hat hlt)
     go_roundg (gk - 1)
     case rel =>
      refine ⟨T + 1, some ⟨gg, 0, none⟩, cap, AN ++ AL, by simp, by simp, by omega, by omega, HAN2, ?_, ?_, ?_⟩
      ·show AttsRow _ _ _ _ _
       unfold AttsRow
       rw [List.length_append, List.flatMap_append, ← show XS = _ from HXS.out, ← show NS = _ from HNS.out]
       exact HRz.out
      ·show NotesOf _ _
       intro q hq
       rcases List.mem_append.1 hq with hq | hq
       ·exact ((HNt4.out).keep HKz.out (by simp)) q hq
       ·exact ((HNL.out).keep HKz.out (by simp)) q hq
      ·have hk := HKz.out
       have h := HB4.out
       exact ⟨hk.os.trans h.os, hk.tape.trans h.tape, hk.output.trans h.output, Nat.le_trans h.size hk.size, fun b hb => (hk.low b hb (by omega) (by omega)).trans (h.block b hb)⟩
     case measure => omega
   ·have hTe : T = tn := by omega
    subst hTe
    have hT2 : ¬ ((T : Int) < c.t) := by have := HTN.out; omega
    have HBF : Hid (Below w.heap.size w wq) := (HB2.out).trans ((HBq.out).mono (HB2.out).size)
    have HAh : Hid ((histP AN ps.length).map (·.1) = L) := by
     show _ = _
     rw [← HRp.out, hist_allTo HRt.out AN HAN.out]
     exact (HLr.out).symm
    have hA4 : AN.length ≤ 4 * ps.length := Nat.le_trans hANl (Nat.mul_le_mul_right _ htn4)
    have HAll : Hid (AttsRow wq w2.heap.size aa ac AN) := HRw.out
    have hszw : w.heap.size ≤ wq.heap.size := (HBF.out).size
    clear HTd HAN HRw HBq hANl HAl HRp HRt HOk HLr HB2
    go_wp2_with fail
    go_loopg [11, 12] (ps.length + 1) (fun m t11 t12 wp => ∃ (i : Nat) (oa : Option Addr) (oc : Nat), t11 = .slice oa (outP AN i 0).length oc ∧ t12 = .int .i64 ((i : Int) + 1) ∧ i ≤ ps.length ∧ m = ps.length + 1 - i ∧ Hid (AttsRow wp wq.heap.size oa oc (outP AN i 0)) ∧ Hid (Below wq.heap.size wq wp))
    case atStart => exact ⟨0, none, 0, rfl, rfl, by omega, by omega, World.ownsRow_nil _ _ _ _, Below.refl _ _⟩
    case round =>
     obtain ⟨i, oa, oc, rfl, rfl, hi, hgi, HOi, HBi⟩ := hrel
     obtain ⟨wi, hwi⟩ : ∃ wi, wi = wr := ⟨_, rfl⟩
     subst hwi
     by_cases hil : i < ps.length
     ·have hi1 : (i : Int) + 1 ≤ (ps.length : Int) := by omega
      have hwi : IntKind.i64.wrap ((i : Int) + 1 + 1) = (i : Int) + 1 + 1 := wrapP _ (by omega) (by omega)
      go_wp2_with fail
      go_loopg [11, 13] (AN.length + 1) (fun m t11 t13 wp => ∃ (j : Nat) (oa : Option Addr) (oc : Nat), t11 = .slice oa (outP AN i j).length oc ∧ t13 = .int .i64 (j : Int) ∧ j ≤ AN.length ∧ m = AN.length + 1 - j ∧ Hid (AttsRow wp wq.heap.size oa oc (outP AN i j)) ∧ Hid (Below wq.heap.size wq wp))
      case atStart => exact ⟨0, oa, oc, rfl, rfl, by omega, by omega, HOi, HBi⟩
      case round =>
       obtain ⟨j, oa, oc, rfl, rfl, hj, hgj, HOj, HBj⟩ := hrel
       clear HOi HBi
       have hszj : wq.heap.size ≤ wr.heap.size := (HBj.out).size
       by_cases hjl : j < AN.length
       ·obtain ⟨q, hq⟩ : ∃ q, AN[j]? = some q := ⟨_, List.getElem?_eq_getElem hjl⟩
        obtain ⟨b, hb, hbl, c0, c1, c2, c3, c4, c5, c6, c7⟩ := (HAll.out).at j q hq
        have up : ∀ o, wr.cell? ⟨b, o, none⟩ = wq.cell? ⟨b, o, none⟩ := fun o => World.cell?_of_block ((HBj.out).block b hbl)
        have d0 := (up _).trans c0
        have d1 := (up _).trans c1
        have d2 := (up _).trans c2
        have d3 := (up _).trans c3
        have d4 := (up _).trans c4
        have d5 := (up _).trans c5
        have d6 := (up _).trans c6
        have d7 := (up _).trans c7
        have hj0 : (0 : Int) ≤ (j : Int) := by omega
        have hj1 : (j : Int) < (AN.length : Int) := by omega
        have hwj : IntKind.i64.wrap ((j : Int) + 1) = (j : Int) + 1 := wrapP _ (by omega) (by omega)
        have HQ : Hid (AN[j]? = some q) := hq
        subst hb
        clear up c0 c1 c2 c3 c4 c5 c6 c7 hq
        by_cases heq : q.1.start = (i : Int) + 1
        ·have heb : (q.1.start == (i : Int) + 1) = true := by simp [heq]
         have HNx : Hid (outP AN i (j + 1) = outP AN i j ++ [q]) := outP_yes HQ.out heq
         have hol : (outP AN i j).length ≤ AN.length := outP_len AN i j
         obtain ⟨OL, HOL⟩ : ∃ OL, Hid ((outP AN i j).length = OL) := ⟨_, rfl⟩
         obtain ⟨XS, HXS⟩ : ∃ XS, Hid (XS = (outP AN i j).flatMap avCells) := ⟨_, rfl⟩
         have HRo : Hid (wr.ownsRow wq.heap.size 63 8 (.slice oa OL oc) OL XS) := by rw [show XS = _ from HXS.out, ← show _ = OL from HOL.out]; exact HOj.out
         have HN2 : Hid (q.2.oneCell' = true) := own_one ((HNt.out) q (List.mem_of_getElem? HQ.out))
         rw [show (outP AN i j).length = OL from HOL.out] at hol ⊢
         obtain ⟨st, hst⟩ : ∃ st, st = q.1.start := ⟨_, rfl⟩
         rw [← hst] at d2 heb
         have HST : Hid (st = q.1.start) := hst
         have HONE : Hid (∀ u ∈ [Value.int .i64 q.1.thread, .int .i64 q.1.job, .int .i64 st, .int .i64 q.1.fin, .int .i64 q.1.valid, .int .i64 q.1.stamp, .int .i64 q.1.fate, q.2], u.oneCell' = true) := by
          intro u hu
          simp only [List.mem_cons, List.not_mem_nil, or_false] at hu
          rcases hu with rfl | rfl | rfl | rfl | rfl | rfl | rfl | rfl
          all_goals first
           | rfl
           | exact HN2.out
         clear heq HOj hst
         go_wp2_with
          (at_builtin;
              refine wpList_append_lies _ (by rfl) _ _ _ (by rfl) wq.heap.size 63 iA _ 8 80 Tryz.underlying51 hiA hzA0 hzA1 hzA2 rfl (by omega) (.slice oa OL oc) OL XS (by rfl) ((HRo.out).alloc _)
               ⟨wr.heap.size, 0, none⟩ 1 1 [.int .i64 q.1.thread, .int .i64 q.1.job, .int .i64 st, .int .i64 q.1.fin, .int .i64 q.1.valid, .int .i64 q.1.stamp, .int .i64 q.1.fate, q.2] (by rfl) (by rfl) (World.news_of_block (cs := #[.int .i64 q.1.thread, .int .i64 q.1.job, .int .i64 st, .int .i64 q.1.fin, .int .i64 q.1.valid, .int .i64 q.1.stamp, .int .i64 q.1.fate, q.2]) (t := 63) (fr := (0, 0)) (heap_alloc_new wr _)) HONE.out
               (by omega) (by unfold maxLen; omega) (by omega) (by simp; omega) (wr.heap.size + 1) (by simp) ?_;
              intro gg cap wz hown1 hgrow hat hlt;
              have HKz : Hid (Kp [63] wq.heap.size wq.heap.size wq.heap.size wr wz) := ((Kp.below ((Below.refl _ _).alloc (Nat.le_refl _) _) hszj).trans (Kp.grown hgrow (by simp; omega) ((HRo.out).alloc _) (by simp)));
              have HRz : Hid (wz.ownsRow wq.heap.size 63 8 (.slice (some ⟨gg, 0, none⟩) (OL + 1) cap) (OL + 1) (XS ++ [.int .i64 q.1.thread, .int .i64 q.1.job, .int .i64 st, .int .i64 q.1.fin, .int .i64 q.1.valid, .int .i64 q.1.stamp, .int .i64 q.1.fate, q.2])) := hown1;
              clear hown1 hgrow hat hlt)
         go_roundg (gk - 1)
         case rel =>
          refine ⟨j + 1, some ⟨gg, 0, none⟩, cap, ?_, by simp, by omega, by omega, ?_, ?_⟩
          ·rw [HNx.out, List.length_append, show (outP AN i j).length = OL from HOL.out]
           rfl
          ·show AttsRow _ _ _ _ _
           rw [HNx.out]
           unfold AttsRow
           rw [List.length_append, show (outP AN i j).length = OL from HOL.out, List.flatMap_append, ← show XS = _ from HXS.out]
           have e1 : [q].flatMap avCells = [.int .i64 q.1.thread, .int .i64 q.1.job, .int .i64 st, .int .i64 q.1.fin, .int .i64 q.1.valid, .int .i64 q.1.stamp, .int .i64 q.1.fate, q.2] := by
            rw [show st = q.1.start from HST.out]
            rfl
           rw [e1]
           exact HRz.out
          ·have hk := HKz.out
           have h := HBj.out
           exact ⟨hk.os.trans h.os, hk.tape.trans h.tape, hk.output.trans h.output, Nat.le_trans h.size hk.size, fun b hb => (hk.low b hb (by omega) (by omega)).trans (h.block b hb)⟩
         case measure => omega
        ·have heb : (q.1.start == (i : Int) + 1) = false := by rw [beq_eq_false_iff_ne]; exact heq
         have HNx : Hid (outP AN i (j + 1) = outP AN i j) := outP_no HQ.out heq
         clear heq d0 d1 d3 d4 d5 d6 d7
         go_wp2_with fail
         go_roundg (gk - 1)
         case rel => exact ⟨j + 1, oa, oc, by rw [HNx.out], by simp, by omega, by omega, by rw [HNx.out]; exact HOj, HBj⟩
         case measure => omega
       ·have hje : j = AN.length := by omega
        subst hje
        have hj2 : ¬ ((AN.length : Int) < (AN.length : Int)) := by omega
        rw [outP_end] at HOj ⊢
        go_wp2_with fail
        go_roundg (ps.length - i)
        case rel => exact ⟨i + 1, oa, oc, rfl, by simp, by omega, by omega, HOj, HBj⟩
        case measure => omega
     ·have hie : i = ps.length := by omega
      subst hie
      have hi2 : ¬ ((ps.length : Int) + 1 ≤ (ps.length : Int)) := by omega
      rw [outP_zero] at HOi ⊢
      go_wp2_with fail
      exact bodyPost_ret (v := .tuple #[.slice oa (histP AN ps.length).length oc, .int .i64 0]) (by simp [results, Tryz.results22, go_sem]) rfl ⟨oa, oc, histP AN ps.length, HAh.out, by rw [HE0.out], ownsRow_low HOi.out hszw, fun q hq => ((HNt.out).below HBi.out) q (histP_mem hq), (HBF.out).trans ((HBi.out).mono hszw)⟩
 ·have hbn : (ER != 0) = true := by simp [he]
  have HLe : Hid (L = []) := (HL.out).symm.trans (if_neg (by rw [HER.out]; exact he))
  clear he HL HER hsc
  go_wp2
  exact bodyPost_ret (v := .tuple #[.slice none 0 0, .int .i64 ER]) (by simp [results, Tryz.results22, go_sem]) rfl ⟨none, 0, [], by rw [HLe.out]; rfl, rfl, World.ownsRow_nil _ _ _ _, (fun q hq => by cases hq), HB1.out⟩
end Go.Proofs.YtejadojilncbjaaGreat
namespace Go.Proofs.YtejadojilncbjaaGreat
set_option linter.unusedVariables false
def Srt (l : List AttD) : Prop := l.Pairwise fun a b => a.start < b.start
theorem srt_eq : ∀ (l l' : List AttD), Srt l → Srt l' → (∀ a, a ∈ l ↔ a ∈ l') → l = l'
 | [], [], _, _, _ => rfl
 | [], b :: l', _, _, h => by have := (h b).2 (by simp); cases this
 | a :: l, [], _, _, h => by have := (h a).1 (by simp); cases this
 | a :: l, b :: l', h1, h2, h => by
  obtain ⟨p1, p2⟩ := List.pairwise_cons.1 h1
  obtain ⟨q1, q2⟩ := List.pairwise_cons.1 h2
  have e : a = b := by
   have ha := (h a).1 (by simp)
   have hb := (h b).2 (by simp)
   simp only [List.mem_cons] at ha hb
   rcases ha with ha | ha
   ·exact ha
   ·rcases hb with hb | hb
    ·exact hb.symm
    ·have := q1 a ha
     have := p1 b hb
     omega
  subst e
  have : l = l' := srt_eq l l' p2 q2 (fun c => by
      have := h c
      simp only [List.mem_cons] at this
      constructor
      ·intro hc
       rcases this.1 (Or.inr hc) with rfl | h3
       ·have := p1 c hc; omega
       ·exact h3
      ·intro hc
       rcases this.2 (Or.inr hc) with rfl | h3
       ·have := q1 c hc; omega
       ·exact h3)
  rw [this]
structure BkI (R : Rn) (k : Nat) (l : List AttD) (lat : List Int) : Prop where
 srt : Srt l
 mem : ∀ a, a ∈ l ↔ ∃ t, 0 ≤ t ∧ t < R.c.t ∧ a ∈ ((R.g k).th t).list
 lst : ∀ t : Nat, (t : Int) < R.c.t → ∀ z, ((R.g k).th (t : Int)).list.getLast? = some z → ∃ m : Nat, lat.getD t 0 = (m : Int) ∧ l[m]? = some z
theorem BkI.hist {R : Rn} (O : R.Ok) {l : List AttD} {lat : List Int} (h : BkI R R.ps.length l lat) : l = R.hist :=
 srt_eq l R.hist h.srt (histL_srt R) (fun a => by rw [h.mem a, histL_mem])
theorem BkI.same {R : Rn} {k : Nat} {l : List AttD} {lat : List Int} (h : BkI R k l lat) (e : ∀ t, 0 ≤ t → t < R.c.t → ((R.g (k + 1)).th t).list = ((R.g k).th t).list) : BkI R (k + 1) l lat := by
 refine ⟨h.srt, fun a => ?_, fun t ht z hz => h.lst t ht z (by rw [← e t (by omega) ht]; exact hz)⟩
 rw [h.mem a]
 constructor
 ·rintro ⟨t, h0, h1, h2⟩; exact ⟨t, h0, h1, by rw [e t h0 h1]; exact h2⟩
 ·rintro ⟨t, h0, h1, h2⟩; exact ⟨t, h0, h1, by rw [← e t h0 h1]; exact h2⟩
theorem BkI.new {R : Rn} (O : R.Ok) {k : Nat} {l : List AttD} {lat : List Int} (h : BkI R k l lat) (t : Nat) (ht : (t : Int) < R.c.t) (hlat : t < lat.length) (a : AttD) (hs : a.start = (k : Int) + 1)
  (e1 : ((R.g (k + 1)).th (t : Int)).list = ((R.g k).th (t : Int)).list ++ [a]) (e : ∀ u, 0 ≤ u → u < R.c.t → u ≠ (t : Int) → ((R.g (k + 1)).th u).list = ((R.g k).th u).list) : BkI R (k + 1) (l ++ [a]) (lat.set t (l.length : Int)) := by
 refine ⟨?_, fun b => ?_, fun u hu z hz => ?_⟩
 ·unfold Srt
  rw [List.pairwise_append]
  refine ⟨h.srt, by simp, fun b hb c hc => ?_⟩
  simp at hc
  subst hc
  obtain ⟨u, u0, u1, u2⟩ := (h.mem b).1 hb
  have := (la_t k u u0 u1 u2).s2
  omega
 ·rw [List.mem_append, h.mem b]
  constructor
  ·rintro (⟨u, u0, u1, u2⟩ | hb)
   ·by_cases hu : u = (t : Int)
    ·subst hu; exact ⟨_, u0, u1, by rw [e1]; simp [u2]⟩
    ·exact ⟨u, u0, u1, by rw [e u u0 u1 hu]; exact u2⟩
   ·simp at hb; subst hb; exact ⟨(t : Int), by omega, ht, by rw [e1]; simp⟩
  ·rintro ⟨u, u0, u1, u2⟩
   by_cases hu : u = (t : Int)
   ·subst hu
    rw [e1, List.mem_append] at u2
    rcases u2 with u2 | u2
    ·exact Or.inl ⟨_, u0, u1, u2⟩
    ·exact Or.inr u2
   ·exact Or.inl ⟨u, u0, u1, by rw [← e u u0 u1 hu]; exact u2⟩
 ·by_cases hu' : u = t
  ·subst hu'
   rw [e1, List.getLast?_append] at hz
   simp at hz
   subst hz
   exact ⟨l.length, by simp [List.getD, hlat], by simp⟩
  ·rw [e (u : Int) (by omega) hu (by omega)] at hz
   obtain ⟨m, h1, h2⟩ := h.lst u hu z hz
   refine ⟨m, ?_, ?_⟩
   ·rw [← h1]
    simp [List.getD, Ne.symm hu']
   ·rw [List.getElem?_append_left (List.getElem?_eq_some_iff.1 h2).1]
    exact h2
theorem srt_at {l : List AttD} (h : Srt l) {i j : Nat} {a b : AttD} (hi : l[i]? = some a) (hj : l[j]? = some b) (hs : a.start = b.start) : i = j := by
 obtain ⟨li, rfl⟩ := List.getElem?_eq_some_iff.1 hi
 obtain ⟨lj, rfl⟩ := List.getElem?_eq_some_iff.1 hj
 have hp := List.pairwise_iff_getElem.1 h
 rcases Nat.lt_trichotomy i j with h1 | h1 | h1
 ·have := hp i j li lj h1; omega
 ·exact h1
 ·have := hp j i lj li h1; omega
theorem mem_modLast {l : List AttD} {f : AttD → AttD} {z b : AttD} (hz : l.getLast? = some z) (hl : Srt l) (hf : (f z).start = z.start) : b ∈ modLast l f ↔ b = f z ∨ (b ∈ l ∧ b.start ≠ z.start) := by
 obtain ⟨l0, rfl⟩ := List.getLast?_eq_some_iff.1 hz
 have hm : modLast (l0 ++ [z]) f = l0 ++ [f z] := modLast_snoc _ _ _
 obtain ⟨p1, p2, p3⟩ := List.pairwise_append.1 hl
 rw [hm, List.mem_append, List.mem_append]
 constructor
 ·rintro (h | h)
  ·have := p3 b h z (by simp)
   exact Or.inr ⟨Or.inl h, by omega⟩
  ·simp at h; exact Or.inl h
 ·rintro (h | ⟨h | h, h2⟩)
  ·exact Or.inr (by simp [h])
  ·exact Or.inl h
  ·simp at h; subst h; exact absurd rfl h2
theorem BkI.mod {R : Rn} (O : R.Ok) {k : Nat} {l : List AttD} {lat : List Int} (h : BkI R k l lat) (t : Nat) (ht : (t : Int) < R.c.t) (z : AttD) (hz : ((R.g k).th (t : Int)).list.getLast? = some z) (f : AttD → AttD) (hf : (f z).start = z.start)
  (e1 : ((R.g (k + 1)).th (t : Int)).list = modLast ((R.g k).th (t : Int)).list f) (e : ∀ u, 0 ≤ u → u < R.c.t → u ≠ (t : Int) → ((R.g (k + 1)).th u).list = ((R.g k).th u).list) :
  ∃ m : Nat, m < l.length ∧ lat.getD t 0 = (m : Int) ∧ BkI R (k + 1) (l.set m (f z)) lat := by
 obtain ⟨m, hm1, hm2⟩ := h.lst t ht z hz
 obtain ⟨hml, hme⟩ := List.getElem?_eq_some_iff.1 hm2
 have hzm : z ∈ ((R.g k).th (t : Int)).list := List.mem_of_getLast? hz
 have hst := la_srt k (t : Int) (by omega) ht
 have hset : ∀ b, b ∈ l.set m (f z) ↔ b = f z ∨ (b ∈ l ∧ b.start ≠ z.start) := fun b => by
  rw [List.mem_iff_getElem?]
  constructor
  ·rintro ⟨i, hi⟩
   rw [List.getElem?_set] at hi
   by_cases hmi : m = i
   ·rw [if_pos hmi, if_pos hml] at hi
    exact Or.inl (Option.some.inj hi).symm
   ·rw [if_neg hmi] at hi
    exact Or.inr ⟨List.mem_of_getElem? hi, fun hs => hmi (srt_at h.srt hi hm2 hs).symm⟩
  ·rintro (rfl | ⟨hb, hs⟩)
   ·exact ⟨m, by rw [List.getElem?_set, if_pos rfl, if_pos hml]⟩
   ·obtain ⟨i, hi⟩ := List.mem_iff_getElem?.1 hb
    refine ⟨i, ?_⟩
    rw [List.getElem?_set, if_neg]
    ·exact hi
    ·rintro rfl
     rw [hm2] at hi
     exact hs (by rw [← Option.some.inj hi])
 refine ⟨m, hml, hm1, ?_, fun b => ?_, fun u hu y hy => ?_⟩
 ·unfold Srt
  rw [List.pairwise_iff_getElem]
  intro i j hi hj hij
  have hp := List.pairwise_iff_getElem.1 h.srt
  have key : ∀ (i : Nat) (hi : i < (l.set m (f z)).length), ((l.set m (f z))[i]).start = (l[i]'(by simpa using hi)).start := fun i hi => by
   rw [List.getElem_set]
   split
   ·rename_i hmi
    subst hmi
    rw [hf, hme]
   ·rfl
  rw [key i hi, key j hj]
  exact hp i j _ _ hij
 ·rw [hset b, h.mem b]
  constructor
  ·rintro (hb | ⟨⟨u, u0, u1, u2⟩, hs⟩)
   ·exact ⟨(t : Int), by omega, ht, by rw [e1]; exact (mem_modLast hz hst hf).2 (Or.inl hb)⟩
   ·by_cases hu : u = (t : Int)
    ·subst hu
     exact ⟨_, u0, u1, by rw [e1]; exact (mem_modLast hz hst hf).2 (Or.inr ⟨u2, hs⟩)⟩
    ·exact ⟨u, u0, u1, by rw [e u u0 u1 hu]; exact u2⟩
  ·rintro ⟨u, u0, u1, u2⟩
   by_cases hu : u = (t : Int)
   ·subst hu
    rw [e1] at u2
    rcases (mem_modLast hz hst hf).1 u2 with h1 | ⟨h1, h2⟩
    ·exact Or.inl h1
    ·exact Or.inr ⟨⟨_, u0, u1, h1⟩, h2⟩
   ·rw [e u u0 u1 hu] at u2
    refine Or.inr ⟨⟨u, u0, u1, u2⟩, fun hs => hu ?_⟩
    have A := la_t k u u0 u1 u2
    have B := la_t k (t : Int) (by omega) ht hzm
    have p1 := A.pk
    have p2 := B.pk
    rw [hs] at p1
    exact p1.symm.trans p2
 ·by_cases hu' : u = t
  ·subst hu'
   have hy2 : y = f z := by
    obtain ⟨l0, hl0⟩ := List.getLast?_eq_some_iff.1 hz
    rw [e1, hl0] at hy
    have hm : modLast (l0 ++ [z]) f = l0 ++ [f z] := modLast_snoc _ _ _
    rw [hm] at hy
    simp at hy
    exact hy.symm
   exact ⟨m, hm1, by rw [List.getElem?_set, if_pos rfl, if_pos hml, hy2]⟩
  ·rw [e (u : Int) (by omega) hu (by omega)] at hy
   obtain ⟨n, h1, h2⟩ := h.lst u hu y hy
   refine ⟨n, h1, ?_⟩
   rw [List.getElem?_set, if_neg]
   ·exact h2
   ·rintro rfl
    rw [hm2] at h2
    have hyz := Option.some.inj h2
    have A := la_t k (u : Int) (by omega) hu (List.mem_of_getLast? hy)
    have B := la_t k (t : Int) (by omega) ht hzm
    have p1 := A.pk
    have p2 := B.pk
    rw [← hyz] at p1
    have := p1.symm.trans p2
    omega
theorem list_kind0 {K : Cx} {h : Th} {v : AnsD} (h0 : (hOut K h).kind = 0) : (hNext K h v).list = h.list := by
 unfold hNext
 split
 all_goals rename_i heq
 all_goals first
  | rfl
  | (exfalso; unfold hOut at h0; rw [heq] at h0; simp at h0; done)
  | (split <;> rfl)
theorem BkI.step {R : Rn} (O : R.Ok) {k : Nat} {l : List AttD} {lat : List Int} (h : BkI R k l lat) (hlat : R.c.t ≤ (lat.length : Int)) (hne : ∀ t, 0 ≤ t → t < R.c.t → ((R.g k).th t).st ≠ .start → (R.out k t).kind ≠ 0 → ((R.g k).th t).list ≠ []) :
  ((¬ (0 ≤ (R.pk k).thread ∧ (R.pk k).thread < R.c.t) ∨ (R.out k (R.pk k).thread).kind = 0) ∧ BkI R (k + 1) l lat) ∨
  (∃ (t : Nat) (z : AttD), (R.pk k).thread = (t : Int) ∧ (t : Int) < R.c.t ∧ (R.out k (t : Int)).kind ≠ 0 ∧ ((R.g (k + 1)).th (t : Int)).list.getLast? = some z ∧
      ((z.start = (k : Int) + 1 ∧ BkI R (k + 1) (l ++ [z]) (lat.set t (l.length : Int))) ∨ (z.start ≠ (k : Int) + 1 ∧ ∃ m : Nat, m < l.length ∧ lat.getD t 0 = (m : Int) ∧ BkI R (k + 1) (l.set m z) lat))) := by
 by_cases hr : 0 ≤ (R.pk k).thread ∧ (R.pk k).thread < R.c.t
 ·obtain ⟨t, ht⟩ := Int.eq_ofNat_of_zero_le hr.1
  have ht' : (R.pk k).thread = (t : Int) := ht
  have h1 : (t : Int) < R.c.t := by omega
  have off : ∀ u, 0 ≤ u → u < R.c.t → u ≠ (t : Int) → ((R.g (k + 1)).th u).list = ((R.g k).th u).list := fun u _ _ hu => by rw [R.off k (by rw [ht']; exact fun e => hu e.symm)]
  have at_ := R.at k ht' (by omega) h1
  by_cases h0 : (R.out k (t : Int)).kind = 0
  ·refine Or.inl ⟨Or.inr (by rw [ht']; exact h0), h.same fun u u0 u1 => ?_⟩
   by_cases hu : u = (t : Int)
   ·subst hu
    rw [at_]
    exact list_kind0 h0
   ·exact off u u0 u1 hu
  ·refine Or.inr ⟨t, ?_⟩
   by_cases hs : ((R.g k).th (t : Int)).st = .start
   ·obtain ⟨a, e1, e2, _⟩ := lm_start (R.K (t : Int)) ((R.g k).th (t : Int)) ⟨(accBy (R.g k).m (R.out k (t : Int))).seen, (R.pk k).draw, (k : Int) + 1⟩ hs
    rw [← at_] at e1
    exact ⟨a, ht', h1, h0, by rw [e1]; simp, Or.inl ⟨e2, h.new O t h1 (by omega) a e2 e1 off⟩⟩
   ·obtain ⟨f, hf, e1⟩ := lm_next (R.K (t : Int)) ((R.g k).th (t : Int)) ⟨(accBy (R.g k).m (R.out k (t : Int))).seen, (R.pk k).draw, (k : Int) + 1⟩ hs
    rw [← at_] at e1
    obtain ⟨l0, z, hz⟩ := snoc_of (hne (t : Int) (by omega) h1 hs h0)
    have hzl : ((R.g k).th (t : Int)).list.getLast? = some z := by rw [hz]; simp
    obtain ⟨m, m1, m2, m3⟩ := h.mod O t h1 z hzl f (hf z).1 e1 off
    have A := la_t k (t : Int) (by omega) h1 (List.mem_of_getLast? hzl)
    refine ⟨f z, ht', h1, h0, ?_, Or.inr ⟨?_, m, m1, m2, m3⟩⟩
    ·rw [e1, hz, modLast_snoc]; simp
    ·rw [(hf z).1]; have := A.s2; omega
 ·refine Or.inl ⟨Or.inl hr, h.same fun u u0 u1 => ?_⟩
  rw [R.off k (fun e => hr (by rw [e]; exact ⟨u0, u1⟩))]
end Go.Proofs.YtejadojilncbjaaGreat
namespace Go.Proofs.YtejadojilncbjaaGreat
open Go.RowKit
set_option linter.unusedVariables false
attribute [local go_sem ↓] Go.wp_at_zero Go.wp_at_succ
def BookB (w : World) (q : Nat) (aa : Option Addr) (n ac : Nat) (lat : List Int) : Prop := Blk w q 125 (.slice aa n ac :: lat.map (.int .i64 ·)).toArray ∧ lat.length = 4
set_option maxRecDepth 100000 in
set_option maxHeartbeats 1000000 in
theorem enter_new {base q : Nat} {aa : Option Addr} {ac : Nat} {lat : List Int} {AN : List (AttD × Value)} {w : World} (hB : BookB w q aa AN.length ac lat) (hr : AttsRow w base aa ac AN) (hbs : base ≤ w.heap.size) (hq : base ≤ q) (hnl : AN.length ≤ 2 ^ 38)
  (x : AttD) (na : Option Addr) (nc : Nat) (k : Nat) (hk : k < 4) (hth : x.thread = (k : Int)) :
  Calls Tryz.prog 69 #[.pointer (some ⟨q, 0, none⟩), .agg #[.int .i64 x.thread, .int .i64 x.job, .int .i64 x.start, .int .i64 x.fin, .int .i64 x.valid, .int .i64 x.stamp, .int .i64 x.fate, .slice na x.notes.length nc], .int .i64 x.start] w fun e w' =>
   e = .returned (.tuple #[]) ∧ (∃ (a' : Option Addr) (c' : Nat), BookB w' q a' (AN.length + 1) c' (lat.set k AN.length) ∧ AttsRow w' base a' c' (AN ++ [(x, .slice na x.notes.length nc)])) ∧ Kp [63, 125] base base base w w' := by
 obtain ⟨iA, hiA, hzA0, hzA1, hzA2⟩ := info_parts Tryz.info63
 obtain ⟨x0, x1, x2, x3, x4, x5, x6, xl⟩ := x
 simp only at hth ⊢
 subst hth
 obtain ⟨NN, HNN⟩ : ∃ NN, Hid (xl.length = NN) := ⟨_, rfl⟩
 rw [show xl.length = NN from HNN.out]
 obtain ⟨w0, hw0⟩ : ∃ w0, w0 = w.alloc (.cells #[.int .i64 (k : Int), .int .i64 x1, .int .i64 x2, .int .i64 x3, .int .i64 x4, .int .i64 x5, .int .i64 x6, .slice na NN nc] 63) := ⟨_, rfl⟩
 have hB0 : Below w.heap.size w w0 := by rw [hw0]; exact (Below.refl w.heap.size w).alloc (Nat.le_refl _) _
 have hT0 : Blk w0 w.heap.size 63 #[.int .i64 (k : Int), .int .i64 x1, .int .i64 x2, .int .i64 x3, .int .i64 x4, .int .i64 x5, .int .i64 x6, .slice na NN nc] := by rw [hw0]; exact Blk.new w 63 _
 have hb0 : Blk w0 q 125 (.slice aa AN.length ac :: lat.map (.int .i64 ·)).toArray := hB.1.below hB0 hB.1.lt
 have hqc : w0.cell? ⟨q, 0, none⟩ = some (.slice aa AN.length ac) := by rw [hb0.cell]; rfl
 have hqk : w0.cell? ⟨q, 1 + k, none⟩ = some (.int .i64 (lat.getD k 0)) := by
  rw [hb0.cell, Nat.add_comm]
  have := hB.2
  simp [List.getElem?_eq_getElem (show k < lat.length by omega), List.getD]
 have hqf := hb0.frozen
 have htc := hT0.cell
 have hk0 : (0 : Int) ≤ (k : Int) := by omega
 have hk4 : (k : Int) < 4 := by omega
 go_enter Tryz.func69, Tryz.ntmps69
 go_upto_region 1 with fail
 rw [← hw0]
 have HT0 : Hid (Blk w0 w.heap.size 63 #[.int .i64 (k : Int), .int .i64 x1, .int .i64 x2, .int .i64 x3, .int .i64 x4, .int .i64 x5, .int .i64 x6, .slice na NN nc]) := hT0
 have HB0 : Hid (Below w.heap.size w w0) := hB0
 have Hb0 : Hid (Blk w0 q 125 (.slice aa AN.length ac :: lat.map (.int .i64 ·)).toArray) := hb0
 clear hw0 hB0 hT0 hb0
 have HR0 : Hid (w0.ownsRow base 63 8 (.slice aa AN.length ac) AN.length (AN.flatMap avCells)) := ownsRow_below hr HB0.out
 have hqt : q ≠ w.heap.size := by have := hB.1.lt; omega
 have hqlt : q < w0.heap.size := (Hb0.out).lt
 have HQ4 : Hid (lat.length = 4) := hB.2
 have hbs0 : base ≤ w0.heap.size := Nat.le_trans hbs (HB0.out).size
 clear hr hB
 go_wp2_with fail
 go_still_tail 11, (by kernel_rfl)
 go_wp2_with fail
 obtain ⟨w1, hw1⟩ : ∃ w1, w1 = (w0.setCell ⟨q, 1 + k, none⟩ (.int .i64 (AN.length : Int))).drew := ⟨_, rfl⟩
 have hO1 : Only q w0 w1 := by rw [hw1]; exact ((Only.refl q w0).set).drew
 have HO1 : Hid (Only q w0 w1) := hO1
 have hb1 : Blk w1 q 125 (.slice aa AN.length ac :: (lat.set k (AN.length : Int)).map (.int .i64 ·)).toArray := by
  rw [hw1]
  have h := ((Hb0.out).set (i := 1 + k) (v := .int .i64 (AN.length : Int))).congr (ds := (.slice aa AN.length ac :: (lat.set k (AN.length : Int)).map (.int .i64 ·)).toArray) (by
      rw [Nat.add_comm 1 k]
      simp [List.map_set])
  exact h
 have Hb1 : Hid (Blk w1 q 125 (.slice aa AN.length ac :: (lat.set k (AN.length : Int)).map (.int .i64 ·)).toArray) := hb1
 have hT1 : Blk w1 w.heap.size 63 #[.int .i64 (k : Int), .int .i64 x1, .int .i64 x2, .int .i64 x3, .int .i64 x4, .int .i64 x5, .int .i64 x6, .slice na NN nc] := (HT0.out).only hO1 (Ne.symm hqt)
 have htc1 := hT1.cell
 have hq0 : w1.cell? ⟨q, 0, none⟩ = some (.slice aa AN.length ac) := by rw [hb1.cell]; rfl
 have hqf0 : w1.frozen? ⟨q, 0, none⟩ = false := hb1.frozen 0
 have HR1 : Hid (w1.ownsRow base 63 8 (.slice aa AN.length ac) AN.length (AN.flatMap avCells)) := ownsRow_only HR0.out hO1 (own_tag HR0.out Hb0.out (by decide))
 have hpne : (Value.slice aa AN.length ac).ownBlock ≠ some q := fun e => own_tag HR1.out Hb1.out (by decide) q e rfl
 have hq1 : q < w1.heap.size := hb1.lt
 have hbs1 : base ≤ w1.heap.size := Nat.le_trans hbs0 hO1.size
 rw [← hw1]
 clear hw1 hO1 hb1 hT1 htc hqc hqk hqf HR0
 go_region_law
  ((refine step_append_lies _ (by rfl) _ _ _ (by rfl) base 63 iA _ 8 80 Tryz.underlying51 hiA hzA0 hzA1 hzA2 rfl (by omega) (.slice aa AN.length ac) AN.length (AN.flatMap avCells) (by rfl) (((HR1.out).alloc _).drew)
          ⟨w1.heap.size, 0, none⟩ 1 1 [.int .i64 (k : Int), .int .i64 x1, .int .i64 x2, .int .i64 x3, .int .i64 x4, .int .i64 x5, .int .i64 x6, .slice na NN nc] (by rfl) (by rfl) (World.news_of_block (cs := #[.int .i64 (k : Int), .int .i64 x1, .int .i64 x2, .int .i64 x3, .int .i64 x4, .int .i64 x5, .int .i64 x6, .slice na NN nc]) (t := 63) (fr := (0, 0)) (heap_alloc_new w1 _)) (by simp [Value.oneCell'])
          (by omega) (by unfold maxLen; omega) (by omega) (by simp; omega) (w1.heap.size + 1) (by simp) ?_; intro gg cap w7 hown1 hgrow hat hlt7;
          have hd8 : w7.cell? ⟨q, 0, none⟩ = some (.slice aa AN.length ac) := (by rw [hgrow.cell_far _ (by simp; omega) (Ne.symm hpne)]; simpa [World.cell?_alloc_lt, hq1] using hq0);
          have he8 : w7.frozen? ⟨q, 0, none⟩ = false := (by rw [hgrow.frozen_far _ (by simp; omega) (Ne.symm hpne)]; simpa [World.frozen?_alloc_past, hq1] using hqf0)))
 all_goals
  go_wp2
  refine bodyPost_ret (v := .tuple #[]) (by first | rfl | simp [results, Tryz.results69, go_sem]) rfl ?_
  have K1 : Kp [63, 125] base base base w w0 := Kp.below HB0.out hbs
  have K2 : Kp [63, 125] base base base w0 w1 := Kp.only HO1.out hbs0 Hb0.out (by simp) (Or.inr (Or.inr hq))
  have K3 : Kp [63] base base base w1 w7 := (Kp.below (((Below.refl _ _).alloc (Nat.le_refl _) _).drew) hbs1).trans (Kp.grown hgrow (by simp; omega) (((HR1.out).alloc _).drew) (by simp))
  have hb7 : Blk w7 q 125 (.slice aa AN.length ac :: (lat.set k (AN.length : Int)).map (.int .i64 ·)).toArray := (Hb1.out).keep K3 (by decide)
  have hO8 : Only q w7 (w7.setCell ⟨q, 0, none⟩ (.slice (some ⟨gg, 0, none⟩) (AN.length + 1) cap)) := (Only.refl q w7).set
  have K4 : Kp [63, 125] base base base w7 (w7.setCell ⟨q, 0, none⟩ (.slice (some ⟨gg, 0, none⟩) (AN.length + 1) cap)) := Kp.only hO8 (Nat.le_trans hbs1 K3.size) hb7 (by simp) (Or.inr (Or.inr hq))
  refine ⟨rfl, ⟨some ⟨gg, 0, none⟩, cap, ⟨(hb7.set (i := 0) (v := .slice (some ⟨gg, 0, none⟩) (AN.length + 1) cap)).congr (by simp), by rw [List.length_set]; exact HQ4.out⟩, ?_⟩, ((K1.trans K2).trans (K3.wide (by simp))).trans K4⟩
  have h9 := ownsRow_only hown1 hO8 (own_tag hown1 hb7 (by decide))
  unfold AttsRow
  rw [List.length_append, List.flatMap_append]
  exact h9
end Go.Proofs.YtejadojilncbjaaGreat
