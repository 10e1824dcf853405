import Derived.Test.YtejadojilncbjaaH36
namespace Go.Proofs.Ytejadojilncbjaa
open Go.RowKit
set_option linter.unusedVariables false
attribute [local go_sem ↓] Go.wp_at_zero Go.wp_at_succ

/-- All cells behind k picks. -/
def cellsL (c : Cfg) (mem : List Int) (jobs : List (Int × List InsD)) (ps : List PickD) (k : Nat) : List Int := (List.range (total c).toNat).map fun i : Nat => (gAt c mem jobs ps k).m (i : Int)

theorem cellsL_len (c : Cfg) (mem : List Int) (jobs : List (Int × List InsD)) (ps : List PickD) (k : Nat) : (cellsL c mem jobs ps k).length = (total c).toNat := by simp [cellsL]
theorem cellsL_get (c : Cfg) (mem : List Int) (jobs : List (Int × List InsD)) (ps : List PickD) (k n : Nat) (h : n < (total c).toNat) : (cellsL c mem jobs ps k).getD n 0 = (gAt c mem jobs ps k).m (n : Int) := by simp [cellsL, List.getD, h]

theorem cellsL_start {c : Cfg} {mem : List Int} {jobs : List (Int × List InsD)} (S : SetupOk c mem jobs) (ps : List PickD) : cells0 c mem = cellsL c mem jobs ps 0 := by
  obtain ⟨⟨t1, t2⟩, ⟨x1, x2⟩, ⟨s1, s2⟩, _⟩ := cfgB_true S.cfg
  have hmw := S.mw
  unfold cells0
  apply List.ext_getElem
  · rw [cellsL_len]
    simp only [List.length_append, List.length_replicate, total_eq]
    omega
  · intro i h1 h2
    rw [cellsL_len, total_eq] at h2
    have e2 : (cellsL c mem jobs ps 0)[i] = startVal c mem (i : Int) := by simp only [cellsL, List.getElem_map, List.getElem_range]; rfl
    rw [e2]
    unfold startVal wordBase
    by_cases hi : i < (3 + 2 * c.s + c.t).toNat
    · rw [List.getElem_append_left (by rw [List.length_replicate]; exact hi), if_neg (by omega)]
      simp
    · rw [List.getElem_append_right (by rw [List.length_replicate]; omega), if_pos (by omega)]
      simp only [List.length_replicate]
      have e : ((i : Int) - (3 + 2 * c.s + c.t)).toNat = i - (3 + 2 * c.s + c.t).toNat := by omega
      rw [e]
      have hl : i - (3 + 2 * c.s + c.t).toNat < mem.length := by omega
      simp [List.getD, List.getElem?_eq_getElem hl]

theorem ask_kinds {K : Cx} {h : Th} : (hOut K h).kind = 0 ∨ (hOut K h).kind = 1 ∨ (hOut K h).kind = 2 ∨ (hOut K h).kind = 3 ∨ (hOut K h).kind = 4 := by
  unfold hOut
  split <;> simp

theorem touch_step {c : Cfg} {mem : List Int} {jobs : List (Int × List InsD)} (S : SetupOk c mem jobs) (ps : List PickD) (k : Nat) (hk : k < ps.length) :
    TouchOk (cellsL c mem jobs ps k) (accAt (accs c mem jobs ps) k) ∧ touch (cellsL c mem jobs ps k) (accAt (accs c mem jobs ps) k) = cellsL c mem jobs ps (k + 1) ∧ -1 ≤ (accAt (accs c mem jobs ps) k).seen ∧ (accAt (accs c mem jobs ps) k).seen ≤ 8 * k + 65535 := by
  have G := gat_ok S.cfg S.mw S.mb jobs ps k
  have hsame : (gAt c mem jobs ps (k + 1)).m = (gAt c mem jobs ps k).m → accAt (accs c mem jobs ps) k = noAcc → TouchOk (cellsL c mem jobs ps k) (accAt (accs c mem jobs ps) k) ∧ touch (cellsL c mem jobs ps k) (accAt (accs c mem jobs ps) k) = cellsL c mem jobs ps (k + 1) ∧ -1 ≤ (accAt (accs c mem jobs ps) k).seen ∧ (accAt (accs c mem jobs ps) k).seen ≤ 8 * k + 65535 := fun e a => by
    rw [a]
    refine ⟨Or.inl ⟨rfl, rfl, rfl, rfl⟩, ?_, by simp [noAcc], by simp [noAcc]; omega⟩
    unfold touch
    rw [if_pos (show noAcc.kind = 0 from rfl)]
    unfold cellsL
    rw [e]
  have ha := accs_get c mem jobs ps k hk
  by_cases ht : 0 ≤ (pickAt ps k).thread ∧ (pickAt ps k).thread < c.t
  · rw [gstep_in ht] at ha
    have hm : (gAt c mem jobs ps (k + 1)).m = mNext (gAt c mem jobs ps k).m (hOut (cxOf c jobs (pickAt ps k).thread) ((gAt c mem jobs ps k).th (pickAt ps k).thread)) := by
      show (gStep c jobs (gAt c mem jobs ps k) _ (pickAt ps k)).1.m = _
      unfold gStep
      rw [if_pos ht]
      rfl
    by_cases h0 : (hOut (cxOf c jobs (pickAt ps k).thread) ((gAt c mem jobs ps k).th (pickAt ps k).thread)).kind = 0
    · exact hsame (by rw [hm]; unfold mNext; rw [if_pos h0]) (by rw [ha, acc_none h0])
    · have hcK : cfgB (cxOf c jobs (pickAt ps k).thread).c = true := S.cfg
      obtain ⟨hcell, _⟩ := ask_ok hcK ht (by omega) (G.th _ ht.1 ht.2) h0
      have hkd := ask_kinds (K := cxOf c jobs (pickAt ps k).thread) (h := (gAt c mem jobs ps k).th (pickAt ps k).thread)
      have h4 := take_ask (K := cxOf c jobs (pickAt ps k).thread) (h := (gAt c mem jobs ps k).th (pickAt ps k).thread)
      rw [ha, acc_some h0]
      have hcell' : 0 ≤ (hOut (cxOf c jobs (pickAt ps k).thread) ((gAt c mem jobs ps k).th (pickAt ps k).thread)).cell ∧ (hOut (cxOf c jobs (pickAt ps k).thread) ((gAt c mem jobs ps k).th (pickAt ps k).thread)).cell < total c := hcell
      have hbd := (G.m _ hcell'.1 hcell'.2).bd S.cfg (by omega) hcell'.1 hcell'.2
      generalize hOut (cxOf c jobs (pickAt ps k).thread) ((gAt c mem jobs ps k).th (pickAt ps k).thread) = q at *
      refine ⟨Or.inr ⟨⟨hcell'.1, by rw [cellsL_len]; show q.cell < _; omega⟩, ?_, ?_⟩, ?_, hbd.1, hbd.2⟩
      · show (cellsL c mem jobs ps k).getD q.cell.toNat 0 = _
        rw [cellsL_get _ _ _ _ _ _ (by omega), show ((q.cell.toNat : Nat) : Int) = q.cell from by omega]
      · show q.kind = 1 ∧ putV q _ = _ ∨ q.kind = 2 ∨ q.kind = 3 ∨ q.kind = 4 ∧ q.cell = 1 ∧ putV q _ = _
        rcases hkd with e | e | e | e | e
        · exact absurd e h0
        · left
          exact ⟨e, by simp [putV, e]⟩
        · exact Or.inr (Or.inl e)
        · exact Or.inr (Or.inr (Or.inl e))
        · have := h4 e
          refine Or.inr (Or.inr (Or.inr ⟨e, by rw [this], by simp [putV, e]⟩))
      · unfold touch
        rw [if_neg h0]
        apply List.ext_getElem
        · rw [List.length_set, cellsL_len, cellsL_len]
        · intro i h1 h2
          rw [cellsL_len] at h2
          have e2 : (cellsL c mem jobs ps (k + 1))[i]'(by rw [cellsL_len]; exact h2) = (gAt c mem jobs ps (k + 1)).m (i : Int) := by simp [cellsL]
          rw [e2, hm, List.getElem_set]
          have e3 : mNext (gAt c mem jobs ps k).m q = wr (gAt c mem jobs ps k).m q := by unfold mNext; rw [if_neg h0]
          rw [e3]
          by_cases hi : q.cell.toNat = i
          · rw [if_pos hi, show (i : Int) = q.cell from by omega, wr_at]
          · rw [if_neg hi, wr_off (by omega)]
            simp [cellsL]
  · have hm : (gAt c mem jobs ps (k + 1)).m = (gAt c mem jobs ps k).m := by
      show (gStep c jobs (gAt c mem jobs ps k) _ (pickAt ps k)).1.m = _
      unfold gStep
      rw [if_neg ht]
    refine hsame hm ?_
    rw [ha]
    unfold gStep
    rw [if_neg ht]

set_option maxRecDepth 100000 in
set_option maxHeartbeats 8000000 in
theorem shared_walk (G : PlayGood ∧ CellsGood) (c : Cfg) (mem : List Int) (jobs : List (Int × List InsD)) (ps : List PickD) (ma ja pa : Option Addr) (mc jc pc : Nat) (w : World) (hps : ps.length ≤ 2 ^ 21) (hml : mem.length ≤ maxLen) (hjl : jobs.length ≤ maxLen)
    (hm : Ints w w.heap.size ma mem) (hj : JobsRep w w.heap.size ja jobs) (hp : PicksIn w w.heap.size pa ps) :
    Calls Try.prog 5 #[.agg #[.int .i64 c.t, .int .i64 c.wd, .int .i64 c.s, .int .i64 c.g, .int .i64 c.r, .int .i64 c.cp, .int .i64 c.f, .slice ma mem.length mc, .slice ja jobs.length jc], .slice pa ps.length pc] w fun e w' => e = .returned (.bool true) ∧ Below w.heap.size w w' := by
  have HM : Hid (Ints w w.heap.size ma mem) := hm
  have HJ : Hid (JobsRep w w.heap.size ja jobs) := hj
  have HP : Hid (PicksIn w w.heap.size pa ps) := hp
  have HG : Hid (PlayGood ∧ CellsGood) := G
  have HN : Hid (ps.length ≤ 2 ^ 21) := hps
  have hps' : ps.length ≤ 2097152 := hps
  obtain ⟨L, HL⟩ : ∃ L, Hid (playA c mem jobs ps = L) := ⟨_, rfl⟩
  obtain ⟨C, HC⟩ : ∃ C, Hid (cellsA c mem jobs ps = C) := ⟨_, rfl⟩
  obtain ⟨ER, HER⟩ : ∃ ER, Hid (errS c mem jobs = ER) := ⟨_, rfl⟩
  obtain ⟨HW, HHW⟩ : ∃ HW, Hid (howN c mem jobs = HW) := ⟨_, rfl⟩
  clear hm hj hp G hps
  go_enter Try.func5, Try.ntmps5
  go_wp2_with fail
  obtain ⟨w0, hw0⟩ : ∃ w0, w0 = w.alloc (.cells #[.int .i64 c.t, .int .i64 c.wd, .int .i64 c.s, .int .i64 c.g, .int .i64 c.r, .int .i64 c.cp, .int .i64 c.f, .slice ma mem.length mc, .slice ja jobs.length jc] 27) := ⟨_, rfl⟩
  have hB0 : Below w.heap.size w w0 := by rw [hw0]; exact (Below.refl w.heap.size w).alloc (Nat.le_refl _) _
  have hSb : Blk w0 w.heap.size 27 #[.int .i64 c.t, .int .i64 c.wd, .int .i64 c.s, .int .i64 c.g, .int .i64 c.r, .int .i64 c.cp, .int .i64 c.f, .slice ma mem.length mc, .slice ja jobs.length jc] := by rw [hw0]; exact Blk.new w 27 _
  rw [← hw0]
  clear hw0
  refine (asked_any (HG.out).1 c mem jobs ps ma ja pa mc jc pc w0 HN.out hml hjl ((HM.out).up hB0) ((HJ.out).up2 hB0) ((HP.out).up2 hB0)).mono ?_
  rintro e w1 ⟨la, lc, rfl, hl1, hb1⟩
  rw [show playA c mem jobs ps = L from HL.out] at hl1
  rw [show playA c mem jobs ps = L from HL.out, show howN c mem jobs = HW from HHW.out]
  have hB1 : Below w.heap.size w w1 := hB0.trans (hb1.mono hB0.size)
  have HSb1 : Hid (Blk w1 w.heap.size 27 #[.int .i64 c.t, .int .i64 c.wd, .int .i64 c.s, .int .i64 c.g, .int .i64 c.r, .int .i64 c.cp, .int .i64 c.f, .slice ma mem.length mc, .slice ja jobs.length jc]) := hSb.below hb1 hSb.lt
  have hsc := (HSb1.out).cell
  have HB1 : Hid (Below w.heap.size w w1) := hB1
  have HL1 : Hid (LogIn w1 w1.heap.size la L) := hl1
  have HM1 : Hid (Ints w1 w1.heap.size ma mem) := (HM.out).up hB1
  have HJ1 : Hid (JobsRep w1 w1.heap.size ja jobs) := (HJ.out).up2 hB1
  have HP1 : Hid (PicksIn w1 w1.heap.size pa ps) := (HP.out).up2 hB1
  clear hB0 hSb hl1 hb1 hB1 HM HJ HP
  go_wp2_with fail
  refine ((HG.out).2 c mem jobs ps ma ja pa mc jc pc w1 HN.out hml hjl HM1.out HJ1.out HP1.out).mono ?_
  rintro e w2 ⟨ca, cc, rfl, hl2, hb2⟩
  rw [show cellsA c mem jobs ps = C from HC.out] at hl2
  rw [show cellsA c mem jobs ps = C from HC.out, show errS c mem jobs = ER from HER.out]
  have HB2 : Hid (Below w.heap.size w w2) := (HB1.out).trans (hb2.mono (HB1.out).size)
  have HSb2 : Hid (Blk w2 w.heap.size 27 #[.int .i64 c.t, .int .i64 c.wd, .int .i64 c.s, .int .i64 c.g, .int .i64 c.r, .int .i64 c.cp, .int .i64 c.f, .slice ma mem.length mc, .slice ja jobs.length jc]) := (HSb1.out).below hb2 (HSb1.out).lt
  have HL2 : Hid (LogIn w2 w2.heap.size la L) := (HL1.out).up hb2
  have HC2 : Hid (Ints w2 w2.heap.size ca C) := hl2
  have HM2 : Hid (Ints w2 w2.heap.size ma mem) := (HM1.out).up hb2
  have HJ2 : Hid (JobsRep w2 w2.heap.size ja jobs) := (HJ1.out).up2 hb2
  clear hb2 hl2 hsc HSb1 HL1 HM1 HJ1 HP1 HB1 HG
  have hsc2 := (HSb2.out).cell
  go_wp2_with fail
  refine (answered_any c mem jobs ER _ ma ja mc jc w2 hml hjl HM2.out HJ2.out).mono ?_
  rintro e w3 ⟨rfl, hb3⟩
  rw [show errS c mem jobs = ER from HER.out]
  have HB3 : Hid (Below w.heap.size w w3) := (HB2.out).trans (hb3.mono (HB2.out).size)
  have HSb3 : Hid (Blk w3 w.heap.size 27 #[.int .i64 c.t, .int .i64 c.wd, .int .i64 c.s, .int .i64 c.g, .int .i64 c.r, .int .i64 c.cp, .int .i64 c.f, .slice ma mem.length mc, .slice ja jobs.length jc]) := (HSb2.out).below hb3 (HSb2.out).lt
  have HL3 : Hid (LogIn w3 w3.heap.size la L) := (HL2.out).up hb3
  have HC3 : Hid (Ints w3 w3.heap.size ca C) := (HC2.out).up hb3
  have HM3 : Hid (Ints w3 w3.heap.size ma mem) := (HM2.out).up hb3
  clear hb3 hsc2 HSb2 HL2 HC2 HM2 HJ2 HB2
  by_cases he : ER = 0
  · have hLa : L = accs c mem jobs ps := (HL.out).symm.trans (if_pos ((HER.out).trans he))
    have hCa : C = cellsOf c mem jobs ps := (HC.out).symm.trans (if_pos ((HER.out).trans he))
    have hSo := (errS_ok ((HER.out).trans he)).1
    have hLl : L.length = ps.length := by rw [hLa]; exact gLog_len c mem jobs ps ps.length
    have hWe : HW = 2 := (HHW.out).symm.trans (if_pos ((HER.out).trans he))
    have hAn : answeredN ER ER ((C.length : Int) == 0) = 2 := by unfold answeredN; rw [if_neg (by simp), if_pos he]
    rw [hAn]
    subst hWe
    have HLa : Hid (L = accs c mem jobs ps) := hLa
    have HCa : Hid (C = cellsL c mem jobs ps ps.length) := hCa
    have HSo : Hid (SetupOk c mem jobs) := hSo
    have HLl : Hid (L.length = ps.length) := hLl
    obtain ⟨LN, hLN⟩ : ∃ LN, LN = L.length := ⟨_, rfl⟩
    have hLNp : LN = ps.length := hLN.trans hLl
    rw [← hLN]
    subst hLNp
    obtain ⟨CN, hCN⟩ : ∃ CN, CN = C.length := ⟨_, rfl⟩
    have HCN : Hid (CN = C.length) := hCN
    rw [← hCN]
    have hsc3 := (HSb3.out).cell
    clear hLa hCa hSo hLl hAn he hLN hCN
    go_wp2_with fail
    refine (begun_any c mem jobs HSo.out ma ja mc jc w3 HM3.out).mono ?_
    rintro e w4 ⟨⟨g, cap, rfl, hcr⟩, hb4⟩
    have HC0 : Hid (cells0 c mem = cellsL c mem jobs ps 0) := cellsL_start HSo.out ps
    rw [show cells0 c mem = _ from HC0.out] at hcr
    obtain ⟨ZL, hZL⟩ : ∃ ZL, ZL = (cells0 c mem).length := ⟨_, rfl⟩
    have hZ : ZL = (total c).toNat := by rw [hZL, HC0.out, cellsL_len]
    have hZ31 : ZL ≤ 1000 := by
      obtain ⟨⟨t1, t2⟩, ⟨x1, x2⟩, ⟨s1, s2⟩, _⟩ := cfgB_true (HSo.out).cfg
      rw [hZ, total_eq]; omega
    rw [← hZL]
    have HZ : Hid (∀ k, (cellsL c mem jobs ps k).length = ZL) := fun k => by rw [cellsL_len, hZ]
    have HCR4 : Hid (CRow w4 w3.heap.size g cap (cellsL c mem jobs ps 0)) := hcr
    have HB4 : Hid (Below w3.heap.size w3 w4) := hb4
    have hg3 : w3.heap.size ≤ g := hcr.lt.1
    clear hcr hb4 hZL hZ hsc3 HC0
    go_wp2
    go_loopg [11] (ps.length + 1) (fun m t11 wr => ∃ (k : Nat), t11 = .int .i64 (k : Int) ∧ k ≤ ps.length ∧ m = ps.length + 1 - k ∧ Hid (CRow wr w3.heap.size g cap (cellsL c mem jobs ps k)) ∧ Hid (Below w3.heap.size w3 wr))
    case atStart => exact ⟨0, rfl, by omega, by omega, HCR4, HB4⟩
    case round =>
      obtain ⟨k, rfl, hk, hgk, HCR, HBx⟩ := hrel
      clear HCR4 HB4
      have hszx : w3.heap.size ≤ wr.heap.size := (HBx.out).size
      by_cases hkl : k < ps.length
      · obtain ⟨lb, loff, hla, hlb, hlc0, hlc1, hlc2, hlc3⟩ := HL3.out k (by rw [show L.length = ps.length from HLl.out]; exact hkl)
        have up : ∀ o : Nat, wr.cell? ⟨lb, o, none⟩ = w3.cell? ⟨lb, o, none⟩ := fun o => World.cell?_of_block ((HBx.out).block lb hlb)
        have d0 := (up _).trans hlc0
        have d1 := (up _).trans hlc1
        have d2 := (up _).trans hlc2
        have d3 := (up _).trans hlc3
        have hk0 : (0 : Int) ≤ (k : Int) := by omega
        have hk1 : (k : Int) < (ps.length : Int) := by omega
        have hwk : IntKind.i64.wrap ((k : Int) + 1) = (k : Int) + 1 := wrapF _ (by omega) (by omega)
        have hacc : accAt L k = accAt (accs c mem jobs ps) k := by rw [HLa.out]
        obtain ⟨hT1, hT2, hT3, hT4⟩ := touch_step HSo.out ps k hkl
        rw [← hacc] at hT1 hT2 hT3 hT4
        have hcall := touched_any (cellsL c mem jobs ps k) (accAt L k) hT1 hT3 (by omega) w3.heap.size g cap wr HCR.out (by rw [HZ.out]; exact hZ31)
        rw [HZ.out, hT2] at hcall
        have HTK : Hid _ := hcall
        subst hla
        generalize accAt L k = a at *
        clear up hlc0 hlc1 hlc2 hlc3 hT1 hT2 hT3 hT4 hacc hcall
        go_wp2_with fail
        refine Calls.mono HTK.out ?_
        rintro e w5 ⟨rfl, hcr5, ho5⟩
        have HCR5 : Hid (CRow w5 w3.heap.size g cap (cellsL c mem jobs ps (k + 1))) := hcr5
        have HB5 : Hid (Below w3.heap.size w3 w5) := (HBx.out).trans ⟨ho5.os, ho5.tape, ho5.output, ho5.size, fun b hb => ho5.block b (by omega) (by omega)⟩
        clear hcr5 ho5 HTK HCR HBx d0 d1 d2 d3
        go_wp2
        go_roundg (gk - 1)
        case rel => exact ⟨k + 1, by simp, by omega, by omega, HCR5, HB5⟩
        case measure => omega
      · have hke : k = ps.length := by omega
        have hk1 : ¬ (k : Int) < (ps.length : Int) := by omega
        have HCe : Hid (C = cellsL c mem jobs ps k) := by rw [hke]; exact HCa
        have hCl : C.length = ZL := by rw [HCe.out, HZ.out]
        have hcall := keepSame_any ca (some ⟨g, 0, none⟩) cc cap C wr (by rw [hCl]; exact Nat.le_trans hZ31 (by decide)) ((HC3.out).up HBx.out) (by rw [HCe.out]; exact (HCR.out).ints)
        rw [hCl] at hcall
        have hCN2 : CN = ZL := (HCN.out).trans hCl
        subst hCN2
        have HSK : Hid _ := hcall
        have HF : Hid (Below w.heap.size w wr) := (HB3.out).trans ((HBx.out).mono (HB3.out).size)
        clear hke HCe hCl hcall HCR HBx
        go_wp2_with fail
        refine Calls.mono HSK.out ?_
        rintro e w5 ⟨rfl, hb5⟩
        have HF5 : Hid (Below w.heap.size w w5) := (HF.out).trans (hb5.mono (HF.out).size)
        clear hb5 HSK HF
        go_wp2
        go_ret
        exact ⟨rfl, HF5.out⟩
  · have hLa : L = [] := (HL.out).symm.trans (if_neg (by rw [HER.out]; exact he))
    have hCa : C = [] := (HC.out).symm.trans (if_neg (by rw [HER.out]; exact he))
    have hWe : HW = 1 := (HHW.out).symm.trans (if_neg (by rw [HER.out]; exact he))
    subst hLa hCa hWe
    have hAn : answeredN ER ER ((([] : List Int).length : Int) == 0) = 1 := by unfold answeredN; rw [if_neg (by simp), if_neg he, if_pos (by simp)]
    rw [hAn]
    clear he hAn
    go_wp2
    go_ret
    exact ⟨by simp, HB3.out⟩

end Go.Proofs.Ytejadojilncbjaa
