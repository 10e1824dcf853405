import Derived.Test.YtejadojilncbjaaGreatG50
import Derived.Test.YtejadojilncbjaaGreatG35
import Derived.Test.YtejadojilncbjaaGreatG10
import Derived.Test.YtejadojilncbjaaGreatRows
import Derived.ShutString
import Derived.ChangeOld
import Derived.JoinedCond
import Derived.Test.YtejadojilncbjaaGreatG49
import Derived.Deep.RegionHeld3
namespace Go.Proofs.YtejadojilncbjaaGreat
open Go.RowKit
set_option linter.unusedVariables false
attribute [local go_sem ↓] Go.wp_at_zero Go.wp_at_succ

theorem own_slice {w : World} {base e size n : Nat} {v : Value} {xs : List Value} (h : w.ownsRow base e size v n xs) : ∃ a m c, v = Value.slice a m c := by
  rcases h.2 with ⟨rfl, _⟩ | ⟨g, cap, cur, rfl, _⟩
  · exact ⟨_, _, _, rfl⟩
  · exact ⟨_, _, _, rfl⟩

set_option maxRecDepth 100000 in
set_option maxHeartbeats 2000000 in
theorem opaque_walk (G : PlayGood ∧ HistoryGood ∧ WholeGood) (c : Cfg) (mem : List Int) (jobs : List (Int × List InsD)) (ps : List PickD) (ma ja pa : Option Addr) (mc jc pc : Nat) (w : World) (hps : ps.length ≤ 2 ^ 21) (hml : mem.length ≤ maxLen) (hjl : jobs.length ≤ maxLen)
    (hm : Ints w w.heap.size ma mem) (hj : JobsRep w w.heap.size ja jobs) (hp : PicksIn w w.heap.size pa ps) :
    Calls Tryz.prog 9 #[.agg #[.int .i64 c.t, .int .i64 c.wd, .int .i64 c.s, .int .i64 c.g, .int .i64 c.r, .int .i64 c.cp, .int .i64 c.f, .slice ma mem.length mc, .slice ja jobs.length jc], .slice pa ps.length pc] w fun e w' => e = .returned (.bool true) ∧ Below w.heap.size w w' := by
  have HM : Hid (Ints w w.heap.size ma mem) := hm
  have HJ : Hid (JobsRep w w.heap.size ja jobs) := hj
  have HP : Hid (PicksIn w w.heap.size pa ps) := hp
  have HG : Hid (PlayGood ∧ HistoryGood ∧ WholeGood) := G
  have HN : Hid (ps.length ≤ 2 ^ 21) := hps
  obtain ⟨HW, HHW⟩ : ∃ HW, Hid (howN c mem jobs = HW) := ⟨_, rfl⟩
  obtain ⟨L, HL⟩ : ∃ L, Hid (playA c mem jobs ps = L) := ⟨_, rfl⟩
  clear hm hj hp G hps
  go_enter Tryz.func9, Tryz.ntmps9
  go_wp2_with fail
  obtain ⟨w0, hw0⟩ : ∃ w0, w0 = w.alloc (.cells #[.int .i64 c.t, .int .i64 c.wd, .int .i64 c.s, .int .i64 c.g, .int .i64 c.r, .int .i64 c.cp, .int .i64 c.f, .slice ma mem.length mc, .slice ja jobs.length jc] 27) := ⟨_, rfl⟩
  have hB0 : Below w.heap.size w w0 := by rw [hw0]; exact (Below.refl w.heap.size w).alloc (Nat.le_refl _) _
  have hSb : Blk w0 w.heap.size 27 #[.int .i64 c.t, .int .i64 c.wd, .int .i64 c.s, .int .i64 c.g, .int .i64 c.r, .int .i64 c.cp, .int .i64 c.f, .slice ma mem.length mc, .slice ja jobs.length jc] := by rw [hw0]; exact Blk.new w 27 _
  rw [← hw0]
  clear hw0
  refine (asked_any (HG.out).1 c mem jobs ps ma ja pa mc jc pc w0 HN.out hml hjl ((HM.out).up hB0) ((HJ.out).up2 hB0) ((HP.out).up2 hB0)).mono ?_
  rintro e w1 ⟨aa, ac, rfl, hl1, hb1⟩
  rw [show playA c mem jobs ps = L from HL.out] at hl1
  rw [show playA c mem jobs ps = L from HL.out, show howN c mem jobs = HW from HHW.out]
  have hB1 : Below w.heap.size w w1 := hB0.trans (hb1.mono hB0.size)
  have HSb1 : Hid (Blk w1 w.heap.size 27 #[.int .i64 c.t, .int .i64 c.wd, .int .i64 c.s, .int .i64 c.g, .int .i64 c.r, .int .i64 c.cp, .int .i64 c.f, .slice ma mem.length mc, .slice ja jobs.length jc]) := hSb.below hb1 hSb.lt
  have HB1 : Hid (Below w.heap.size w w1) := hB1
  have HL1 : Hid (LogIn w1 w1.heap.size aa L) := hl1
  have hsc1 := (HSb1.out).cell
  clear hB0 hSb hl1 hb1 hB1
  go_wp2_with fail
  refine (ktold_any (HG.out).2.1 c mem jobs ps ma ja pa mc jc pc w1 HN.out hml hjl ((HM.out).up HB1.out) ((HJ.out).up2 HB1.out) ((HP.out).up2 HB1.out)).mono ?_
  rintro e w2 ⟨la, lc, AN, hAN, rfl, hl2, hn2, hb2⟩
  rw [show howN c mem jobs = HW from HHW.out]
  have HB2 : Hid (Below w.heap.size w w2) := (HB1.out).trans (hb2.mono (HB1.out).size)
  have HSb2 : Hid (Blk w2 w.heap.size 27 #[.int .i64 c.t, .int .i64 c.wd, .int .i64 c.s, .int .i64 c.g, .int .i64 c.r, .int .i64 c.cp, .int .i64 c.f, .slice ma mem.length mc, .slice ja jobs.length jc]) := (HSb1.out).below hb2 (HSb1.out).lt
  have HL2 : Hid (LogIn w2 w2.heap.size aa L) := (HL1.out).up hb2
  have HAN : Hid (AN.map (·.1) = histA c mem jobs ps) := hAN
  have HA2 : Hid (AttsRow w2 w1.heap.size la lc AN) := hl2
  have HN2 : Hid (NotesOf w2 AN) := hn2
  have HSl : Hid (∀ q ∈ AN, ∃ a n c, q.2 = Value.slice a n c) := fun q hq => own_slice (hn2 q hq)
  clear hl2 hn2 hb2 hAN hsc1 HSb1 HB1 HL1
  have hsc2 := (HSb2.out).cell
  by_cases he : errS c mem jobs = 0
  · have HSo : Hid (SetupOk c mem jobs ∧ ∀ j ∈ jobs, 0 ≤ j.1 ∧ j.1 < c.t) := errS_ok he
    have hWe : HW = 2 := (HHW.out).symm.trans (if_pos he)
    have hH : AN.map (·.1) = (⟨c, mem, jobs, ps⟩ : Rn).hist := (HAN.out).trans (if_pos he)
    have hLe : L = accs c mem jobs ps := (HL.out).symm.trans (if_pos he)
    have hLl : L.length = ps.length := by rw [hLe]; exact gLog_len c mem jobs ps ps.length
    have HO : Hid (⟨c, mem, jobs, ps⟩ : Rn).Ok := ⟨(HSo.out).1.cfg, (HSo.out).1.mw, (HSo.out).1.mb⟩
    have hNl : AN.length ≤ 2097152 := by
      have h1 := hist_len HO.out
      rw [← hH, List.length_map] at h1
      have h2 : (⟨c, mem, jobs, ps⟩ : Rn).ps.length = ps.length := rfl
      have := HN.out
      omega
    have hmw : mem.length ≤ 8 := by
      have h1 := (HSo.out).1.mw
      obtain ⟨_, ⟨x1, x2⟩, _⟩ := cfgB_true (HSo.out).1.cfg
      omega
    have HWh : Hid (Calls Tryz.prog 25 #[.agg #[.int .i64 c.t, .int .i64 c.wd, .int .i64 c.s, .int .i64 c.g, .int .i64 c.r, .int .i64 c.cp, .int .i64 c.f, .slice ma mem.length mc, .slice ja jobs.length jc], .slice pa ps.length pc, .slice aa ps.length ac, .slice la AN.length lc] w2 fun e w' => e = .returned (.bool true) ∧ Below w2.heap.size w2 w') :=
      (HG.out).2.2 c mem jobs ps AN ma ja pa aa la mc jc pc ac lc w1.heap.size w2 (HSo.out).1 (HSo.out).2 (by have := HN.out; omega) hH HSl.out ((HJ.out).up2 HB2.out) ((HP.out).up2 HB2.out) (by rw [← hLe]; exact HL2.out) HA2.out
    obtain ⟨BN, hBN⟩ : ∃ BN, BN = (ordP AN.reverse).reverse := ⟨_, rfl⟩
    have hBl : BN.length = AN.length := by rw [hBN, List.length_reverse, ordP_len, List.length_reverse]
    have HBm : Hid (∀ q, q ∈ BN ↔ q ∈ AN) := fun q => by rw [hBN, List.mem_reverse, ordP_mem, List.mem_reverse]
    have HBf : Hid (BN.map (·.1) = (⟨c, mem, jobs, ps⟩ : Rn).ord) := by
      show _ = _
      rw [hBN, List.map_reverse, ordP_fst, List.map_reverse, hH]
      rfl
    have HOI : Hid (OI c mem (BN.map (·.1)) mem) := by
      rw [HBf.out]
      exact OI.start HO.out
    obtain ⟨LN, hLN⟩ : ∃ LN, LN = L.length := ⟨_, rfl⟩
    have e1 : LN = ps.length := hLN.trans hLl
    rw [← hLN]
    clear hLN hLl hLe hH HL HL2 HHW HAN
    subst e1 hWe
    go_wp2_with fail
    clear hsc2
    refine (HWh.out).mono ?_
    rintro e w3 ⟨rfl, hb3⟩
    have HB3 : Hid (Below w.heap.size w w3) := (HB2.out).trans (hb3.mono (HB2.out).size)
    have HSb3 : Hid (Blk w3 w.heap.size 27 #[.int .i64 c.t, .int .i64 c.wd, .int .i64 c.s, .int .i64 c.g, .int .i64 c.r, .int .i64 c.cp, .int .i64 c.f, .slice ma mem.length mc, .slice ja jobs.length jc]) := (HSb2.out).below hb3 (HSb2.out).lt
    have HA3 : Hid (AttsRow w3 w1.heap.size la lc AN) := ownsRow_below HA2.out hb3
    have HN3 : Hid (NotesOf w3 AN) := (HN2.out).below hb3
    clear hb3 HWh HSb2 HA2 HN2 HB2
    go_wp2_with fail
    refine (ordered_any AN la lc w1.heap.size w3 (by omega) HA3.out HSl.out).mono ?_
    rintro e w4 ⟨oa, oc, rfl, ho4, hb4⟩
    rw [← hBN] at ho4
    have HB4 : Hid (Below w.heap.size w w4) := (HB3.out).trans (hb4.mono (HB3.out).size)
    have HSb4 : Hid (Blk w4 w.heap.size 27 #[.int .i64 c.t, .int .i64 c.wd, .int .i64 c.s, .int .i64 c.g, .int .i64 c.r, .int .i64 c.cp, .int .i64 c.f, .slice ma mem.length mc, .slice ja jobs.length jc]) := (HSb3.out).below hb4 (HSb3.out).lt
    have HA4 : Hid (AttsRow w4 w3.heap.size oa oc BN) := ho4
    have HN4 : Hid (NotesOf w4 BN) := fun q hq => ((HN3.out).below hb4) q (((HBm.out) q).1 hq)
    have HM4 : Hid (Ints w4 w4.heap.size ma mem) := (HM.out).up HB4.out
    have hsc4 := (HSb4.out).cell
    rw [← hBl]
    have hBl2 : BN.length ≤ 2097152 := by omega
    clear ho4 hb4 HA3 HN3 HB3 HSb3 hBN hBl hNl
    go_wp2_with fail
    clear hsc4
    go_loopg [11, 12] (BN.length + 1) (fun m t11 t12 wr => ∃ (i : Nat) (ta : Option Addr) (tc : Nat) (W : List Int), t11 = .slice ta mem.length tc ∧ t12 = .int .i64 (i : Int) ∧ i ≤ BN.length ∧ m = BN.length + 1 - i ∧ Hid (OI c mem ((BN.map (·.1)).drop i) W) ∧ Hid (Ints wr wr.heap.size ta W) ∧ Hid (Below w4.heap.size w4 wr))
    case atStart => exact ⟨0, ma, mc, mem, rfl, rfl, by omega, by omega, HOI, HM4, Below.refl _ _⟩
    case round =>
      obtain ⟨i, ta, tc, W, rfl, rfl, hi, hgi, HO1, HI1, HBi⟩ := hrel
      clear HOI HM4
      have hszi := (HBi.out).size
      by_cases hil : i < BN.length
      · obtain ⟨x, hx⟩ : ∃ x, BN[i]? = some x := ⟨_, List.getElem?_eq_getElem hil⟩
        have HAi : Hid (AttsRow wr w3.heap.size oa oc BN) := ownsRow_below HA4.out HBi.out
        obtain ⟨b, hb, hbl, c0, c1, c2, c3, c4, c5, c6, c7⟩ := AttsRow.at HAi.out i x hx
        obtain ⟨na, nc, hxv, hnl, hni⟩ := notIn_row (((HN4.out).below HBi.out) x (List.mem_of_getElem? hx))
        have hdr : (BN.map (·.1)).drop i = x.1 :: (BN.map (·.1)).drop (i + 1) := by
          have := fst_at hx
          obtain ⟨h1, h2⟩ := List.getElem?_eq_some_iff.1 this
          rw [List.drop_eq_getElem_cons h1, h2]
        have hoi := HO1.out
        rw [hdr] at hoi
        obtain ⟨hfo, hrt, hnx⟩ := hoi.next
        have HRt : Hid (∀ y ∈ (BN.map (·.1)).drop (i + 1), ¬ (0 < y.fin ∧ y.fin < x.1.start)) := hrt
        have HNx : Hid (OI c mem ((BN.map (·.1)).drop (i + 1)) (if x.1.stamp > 0 then ovL W x.1.notes else W)) := hnx
        have hWl : W.length = mem.length := hoi.len
        have HC := follows_any W x.1.notes hfo ta na tc nc wr (by omega) hnl HI1.out hni
        rw [hWl] at HC
        have HCf : Hid (Calls Tryz.prog 27 #[.slice ta mem.length tc, .slice na x.1.notes.length nc] wr (FolIs wr (ovL W x.1.notes))) := HC
        have HOl : Hid ((ovL W x.1.notes).length = mem.length) := (ovL_len W _ _ rfl).trans hWl
        rw [hxv] at c7
        have hi0 : (0 : Int) ≤ (i : Int) := by omega
        have hi1 : (i : Int) < (BN.length : Int) := by omega
        have hwi : IntKind.i64.wrap ((i : Int) + 1) = (i : Int) + 1 := wrapF _ (by omega) (by omega)
        have HX : Hid (BN[i]? = some x) := hx
        subst hb
        obtain ⟨NL, hNL⟩ : ∃ NL, NL = x.1.notes.length := ⟨_, rfl⟩
        rw [← hNL] at c7 HCf
        clear HC hfo hrt hnx hoi hdr hxv hni hx c0 c1 c2 c3 c4 c5 c6 hNL HO1
        go_wp2_with fail
        clear c7
        refine (HCf.out).mono ?_
        rintro e w5 ⟨g, rfl, hg5, hb5⟩
        rw [HOl.out]
        have HB5 : Hid (Below w4.heap.size w4 w5) := (HBi.out).trans (hb5.mono hszi)
        have HA5 : Hid (AttsRow w5 w3.heap.size (some ⟨b, 0, none⟩) oc BN) := ownsRow_below HAi.out hb5
        have HI5 : Hid (Ints w5 w5.heap.size ta W) := (HI1.out).up hb5
        have HG5 : Hid (Ints w5 w5.heap.size (some ⟨g, 0, none⟩) (ovL W x.1.notes)) := hg5
        clear hg5 hb5 HCf HI1 HAi HBi
        obtain ⟨b', hb', _, c0, c1, c2, c3, c4, c5, c6, c7⟩ := AttsRow.at HA5.out i x HX.out
        cases hb'
        obtain ⟨sp, hsp⟩ : ∃ sp, sp = x.1.stamp := ⟨_, rfl⟩
        rw [← hsp] at c5 HNx
        clear c0 c1 c2 c3 c4 c6 c7 hsp
        by_cases hs : sp > 0
        · have HNy : Hid (OI c mem ((BN.map (·.1)).drop (i + 1)) (ovL W x.1.notes)) := by
            have h := HNx.out
            rw [if_pos hs] at h
            exact h
          clear HNx HI5
          go_wp2_with fail
          go_loopg [15] (BN.length + 1 - (i + 1)) (fun m t15 wr => ∃ k : Nat, t15 = .int .i64 (k : Int) ∧ i + 1 ≤ k ∧ k ≤ BN.length ∧ m = BN.length + 1 - k ∧ Hid (Below w5.heap.size w5 wr))
          case atStart => exact ⟨i + 1, by simp, by omega, by omega, by omega, Below.refl _ _⟩
          case round =>
            obtain ⟨k, rfl, hk0, hk, hgk, HBk⟩ := hrel
            have hszk := (HBk.out).size
            by_cases hkl : k < BN.length
            · obtain ⟨y, hy⟩ : ∃ y, BN[k]? = some y := ⟨_, List.getElem?_eq_getElem hkl⟩
              have HAk : Hid (AttsRow wr w3.heap.size (some ⟨b, 0, none⟩) oc BN) := ownsRow_below HA5.out HBk.out
              obtain ⟨b1, hb1, _, _, _, _, e3, _⟩ := AttsRow.at HAk.out k y hy
              obtain ⟨b2, hb2, _, _, _, e2, _⟩ := AttsRow.at HAk.out i x HX.out
              cases hb1
              cases hb2
              have hym : y.1 ∈ (BN.map (·.1)).drop (i + 1) := by
                have h1 := fst_at hy
                have h2 : ((BN.map (·.1)).drop (i + 1))[k - (i + 1)]? = some y.1 := by
                  rw [List.getElem?_drop, show i + 1 + (k - (i + 1)) = k by omega]
                  exact h1
                exact List.mem_of_getElem? h2
              have hnr := HRt.out y.1 hym
              obtain ⟨yf, hyf⟩ : ∃ yf, yf = y.1.fin := ⟨_, rfl⟩
              obtain ⟨xs, hxs⟩ : ∃ xs, xs = x.1.start := ⟨_, rfl⟩
              rw [← hyf, ← hxs] at hnr
              rw [← hyf] at e3
              rw [← hxs] at e2
              have j0 : (0 : Int) ≤ (k : Int) := by omega
              have j1 : (k : Int) < (BN.length : Int) := by omega
              have hwk : IntKind.i64.wrap ((k : Int) + 1) = (k : Int) + 1 := wrapF _ (by omega) (by omega)
              clear hy hym hyf hxs
              by_cases hf : yf > 0
              · have hlt : ¬ yf < xs := fun q => hnr ⟨hf, q⟩
                clear hnr
                go_wp2
                go_quiet (fail)
                go_wp2
                go_roundg (BN.length + 1 - (k + 1))
                case rel => exact ⟨k + 1, by simp, by omega, by omega, by omega, belowDrewN HBk.out nq⟩
                case measure => omega
              · have hfd : decide (yf > 0) = false := by simp [hf]
                clear hnr
                go_wp2
                go_quiet (fail)
                go_wp2
                go_roundg (BN.length + 1 - (k + 1))
                case rel => exact ⟨k + 1, by simp, by omega, by omega, by omega, belowDrewN HBk.out nq⟩
                case measure => omega
            · have hke : ¬ (k : Int) < (BN.length : Int) := by omega
              have HBn : Hid (Below w4.heap.size w4 wr) := (HB5.out).trans ((HBk.out).mono (HB5.out).size)
              have HIn : Hid (Ints wr wr.heap.size (some ⟨g, 0, none⟩) (ovL W x.1.notes)) := (HG5.out).up HBk.out
              clear HBk
              go_wp2_with fail
              go_roundg (BN.length + 1 - (i + 1))
              case rel => exact ⟨i + 1, (some ⟨g, 0, none⟩), mem.length, (ovL W x.1.notes), rfl, by simp, by omega, by omega, HNy, HIn, HBn⟩
              case measure => omega
        · have HNy : Hid (OI c mem ((BN.map (·.1)).drop (i + 1)) W) := by
            have h := HNx.out
            rw [if_neg hs] at h
            exact h
          clear HNx HG5
          go_wp2_with fail
          go_loopg [15] (BN.length + 1 - (i + 1)) (fun m t15 wr => ∃ k : Nat, t15 = .int .i64 (k : Int) ∧ i + 1 ≤ k ∧ k ≤ BN.length ∧ m = BN.length + 1 - k ∧ Hid (Below w5.heap.size w5 wr))
          case atStart => exact ⟨i + 1, by simp, by omega, by omega, by omega, Below.refl _ _⟩
          case round =>
            obtain ⟨k, rfl, hk0, hk, hgk, HBk⟩ := hrel
            have hszk := (HBk.out).size
            by_cases hkl : k < BN.length
            · obtain ⟨y, hy⟩ : ∃ y, BN[k]? = some y := ⟨_, List.getElem?_eq_getElem hkl⟩
              have HAk : Hid (AttsRow wr w3.heap.size (some ⟨b, 0, none⟩) oc BN) := ownsRow_below HA5.out HBk.out
              obtain ⟨b1, hb1, _, _, _, _, e3, _⟩ := AttsRow.at HAk.out k y hy
              obtain ⟨b2, hb2, _, _, _, e2, _⟩ := AttsRow.at HAk.out i x HX.out
              cases hb1
              cases hb2
              have hym : y.1 ∈ (BN.map (·.1)).drop (i + 1) := by
                have h1 := fst_at hy
                have h2 : ((BN.map (·.1)).drop (i + 1))[k - (i + 1)]? = some y.1 := by
                  rw [List.getElem?_drop, show i + 1 + (k - (i + 1)) = k by omega]
                  exact h1
                exact List.mem_of_getElem? h2
              have hnr := HRt.out y.1 hym
              obtain ⟨yf, hyf⟩ : ∃ yf, yf = y.1.fin := ⟨_, rfl⟩
              obtain ⟨xs, hxs⟩ : ∃ xs, xs = x.1.start := ⟨_, rfl⟩
              rw [← hyf, ← hxs] at hnr
              rw [← hyf] at e3
              rw [← hxs] at e2
              have j0 : (0 : Int) ≤ (k : Int) := by omega
              have j1 : (k : Int) < (BN.length : Int) := by omega
              have hwk : IntKind.i64.wrap ((k : Int) + 1) = (k : Int) + 1 := wrapF _ (by omega) (by omega)
              clear hy hym hyf hxs
              by_cases hf : yf > 0
              · have hlt : ¬ yf < xs := fun q => hnr ⟨hf, q⟩
                clear hnr
                go_wp2
                go_quiet (fail)
                go_wp2
                go_roundg (BN.length + 1 - (k + 1))
                case rel => exact ⟨k + 1, by simp, by omega, by omega, by omega, belowDrewN HBk.out nq⟩
                case measure => omega
              · have hfd : decide (yf > 0) = false := by simp [hf]
                clear hnr
                go_wp2
                go_quiet (fail)
                go_wp2
                go_roundg (BN.length + 1 - (k + 1))
                case rel => exact ⟨k + 1, by simp, by omega, by omega, by omega, belowDrewN HBk.out nq⟩
                case measure => omega
            · have hke : ¬ (k : Int) < (BN.length : Int) := by omega
              have HBn : Hid (Below w4.heap.size w4 wr) := (HB5.out).trans ((HBk.out).mono (HB5.out).size)
              have HIn : Hid (Ints wr wr.heap.size ta W) := (HI5.out).up HBk.out
              clear HBk
              go_wp2_with fail
              go_roundg (BN.length + 1 - (i + 1))
              case rel => exact ⟨i + 1, ta, tc, W, rfl, by simp, by omega, by omega, HNy, HIn, HBn⟩
              case measure => omega
      · have hie : ¬ (i : Int) < (BN.length : Int) := by omega
        have HF : Hid (Below w.heap.size w wr) := (HB4.out).trans ((HBi.out).mono (HB4.out).size)
        clear HO1 HI1 HBi
        go_wp2_with fail
        go_ret
        exact ⟨rfl, HF.out⟩
  · have hWe : HW = 1 := (HHW.out).symm.trans (if_neg he)
    clear HAN HHW HL HL2 HA2 HN2 HSl
    subst hWe
    go_wp2_with fail
    go_ret
    exact ⟨rfl, HB2.out⟩

end Go.Proofs.YtejadojilncbjaaGreat

namespace Go.Proofs.YtejadojilncbjaaGreat
open Go.ChangeShapes Go.WideShapes Go.ChangeAt Go.RowKit Go.Deep
set_option linter.unusedVariables false

theorem ownP : ownKnob Tryz.prog.godebug = none := by kernel_rfl
theorem laidOutP : laidOutB Tryz.prog = true := by kernel_rfl
theorem Tryz.cells42 : Tryz.prog.cellsOf 42 = 2 := by kernel_rfl

/-- The bulk of what was read bounds the picks. -/
theorem bulk_one {H : Type} (d : DataW H) : 1 ≤ Rows.uptoBulk d := by
  cases d with
  | lit l => cases l <;> simp [Rows.uptoBulk]
  | nil => simp [Rows.uptoBulk]
  | ptr d => simp [Rows.uptoBulk]
  | slice elems spare => simp [Rows.uptoBulk]
  | agg parts => simp [Rows.uptoBulk]
  | iface t d => simp [Rows.uptoBulk]
  | map entries => simp [Rows.uptoBulk]
  | held h => simp [Rows.uptoBulk]
theorem bulk_len {H : Type} : ∀ (l : List (DataW H)), l.length ≤ Rows.uptoBulkAll l
  | [] => by simp [Rows.uptoBulkAll]
  | x :: r => by
    have := bulk_one x
    have := bulk_len r
    simp only [Rows.uptoBulkAll, List.length_cons]
    omega

section
variable {H : Type} {enc : TypeId × Value → H} {w : World} {spare : Nat → Bool} {held : Bool}

/-- Picks opened. -/
theorem picks_open {fuel : Nat} {cs : List Value} {x : DataW H × List MemPlace} (h : DataW.trod enc Tryz.prog w 0 spare held fuel 28 cs = some x) :
    ∃ a len cap, ∃ ps : List PickD, cs = [.slice a len cap] ∧ ps.length = len ∧ PicksIn w w.heap.size a ps ∧ len ≤ Rows.uptoBulk x.1 := by
  rcases open_slice_pairs Tryz.underlying28 Tryz.underlying42 Tryz.cells42 rfl rfl Tryz.cells3 Tryz.cells3 h with ⟨hcs, _⟩ | ⟨x, l, c, m, n, V0, V1, D0, D1, P0, P1, hcs, _, hl, hm, hmm, rfl, hel⟩
  · exact ⟨none, 0, 0, [], hcs, rfl, fun i hi => by simp at hi, Nat.zero_le _⟩
  · have hle : l ≤ m := by rw [hmm]; split <;> omega
    have each : ∀ i, i < l → ∃ q : PickD, w.cell? (x.add (i * 2)) = some (.int .i64 q.thread) ∧ w.cell? (x.add (i * 2 + 1)) = some (.int .i64 q.draw) := by
      intro i hi
      obtain ⟨h0, h1, h2, h3⟩ := hel i (by omega)
      obtain ⟨n0, e0, _, w0⟩ := DataW.trod_int Tryz.underlying3 h2
      obtain ⟨n1, e1, _, w1⟩ := DataW.trod_int Tryz.underlying3 h3
      simp at e0 e1
      exact ⟨⟨n0, n1⟩, by rw [h0, e0], by rw [h1, e1]⟩
    have hin : Inhabited PickD := ⟨⟨0, 0⟩⟩
    obtain ⟨q, hq⟩ := choose_lt each
    obtain ⟨b, off, spot⟩ := x
    refine ⟨some ⟨b, off, spot⟩, l, c, (List.range l).map q, hcs, by simp, fun i hi => ?_, ?_⟩
    · have hi' : i < l := by simpa using hi
      obtain ⟨h0, h1⟩ := hq i hi'
      have hspot : spot = none := by simpa [Addr.add] using World.cell?_spot (hq 0 (by omega)).1
      subst hspot
      rw [add_plain] at h0 h1
      have hat : pickAt ((List.range l).map q) i = q i := by simp [pickAt, List.getD, hi']
      rw [hat]
      exact ⟨b, off, rfl, block_lt h0, h0, h1⟩
    · simp only [Rows.uptoBulk]
      have := bulk_len ((List.range l).map fun i => (DataW.agg [D0 i, D1 i] : DataW H))
      simp only [List.length_map, List.length_range] at this
      omega

/-- The jobs opened, with their codes, as a list. -/
theorem jobs_rep {w : World} {ja : Option Addr} {js : List JobD} (hj : JobsIn w w.heap.size ja js) (hc : ∀ j ∈ js, (Lit.int .i64 j.t).wf = true ∧ j.len ≤ maxLen ∧ ∃ is : List InsD, is.length = j.len ∧ CodeIn w w.heap.size j.a is ∧ ∀ i ∈ is, i.wf) :
    ∃ jobs : List (Int × List InsD), jobs.length = js.length ∧ JobsRep w w.heap.size ja jobs := by
  have each : ∀ i, i < js.length → ∃ is : List InsD, is.length = (jobAt js i).len ∧ CodeIn w w.heap.size (jobAt js i).a is := by
    intro i hi
    have hmem : jobAt js i ∈ js := by
      rw [show jobAt js i = js[i] from by simp [jobAt, List.getD, List.getElem?_eq_getElem hi]]
      exact List.getElem_mem hi
    obtain ⟨_, _, is, h1, h2, _⟩ := hc _ hmem
    exact ⟨is, h1, h2⟩
  obtain ⟨q, hq⟩ := choose_lt each
  refine ⟨(List.range js.length).map fun i => ((jobAt js i).t, q i), by simp, js, by simp, hj, fun i hi => ?_⟩
  have e : ((List.range js.length).map fun i => ((jobAt js i).t, q i)).getD i (0, []) = ((jobAt js i).t, q i) := by simp [List.getD, hi]
  rw [e]
  exact ⟨rfl, (hq i hi).1.symm, (hq i hi).2⟩
end

end Go.Proofs.YtejadojilncbjaaGreat

namespace Go.Proofs.YtejadojilncbjaaGreat
open Go.RowKit
set_option linter.unusedVariables false
attribute [local go_sem ↓] Go.wp_at_zero Go.wp_at_succ

def four (s0 s1 s2 s3 : Int) : Int → Int := fun t => if t = 0 then s0 else if t = 1 then s1 else if t = 2 then s2 else s3

end Go.Proofs.YtejadojilncbjaaGreat

namespace Go.Proofs.YtejadojilncbjaaGreat
open Go.RowKit
set_option linter.unusedVariables false
attribute [local go_sem ↓] Go.wp_at_zero Go.wp_at_succ

theorem LI.congr {c : Cfg} (hc : cfgB c = true) {jobs : List (Int × List InsD)} {m m' : Int → Int} {th : Int → Th} (I : LI c jobs m th) (e : ∀ x, 0 ≤ x → x < total c → m' x = m x) : LI c jobs m' th := by
  obtain ⟨⟨c1, c2⟩, ⟨w1, w2⟩, ⟨z1, z2⟩, _⟩ := cfgB_true hc
  rw [total_eq] at e
  refine ⟨fun s a b t d f => ?_, fun t d f => ?_, fun s a b => ?_, fun t d f v x => ?_, I.loc⟩
  · rw [e _ (by omega) (by omega)]; exact I.own s a b t d f
  · rw [e _ (by omega) (by omega)]; exact I.gate t d f
  · rw [e _ (by omega) (by omega)]; exact I.shut s a b
  · rw [e _ (by omega) (by omega)]; exact I.clk t d f v x

end Go.Proofs.YtejadojilncbjaaGreat

namespace Go.Proofs.YtejadojilncbjaaGreat
open Go.RowKit
set_option linter.unusedVariables false
attribute [local go_sem ↓] Go.wp_at_zero Go.wp_at_succ

set_option maxHeartbeats 400000 in
theorem kstatus_any (c : Cfg) (hc : cfgB c = true) (n : Int) (a b : Option Addr) (l d m f : Nat) (w : World) (h3 : -70000 ≤ n) (h4 : n ≤ 1125899906842634) :
    Calls Tryz.prog 49 #[.agg #[.int .i64 c.t, .int .i64 c.wd, .int .i64 c.s, .int .i64 c.g, .int .i64 c.r, .int .i64 c.cp, .int .i64 c.f, .slice a l d, .slice b m f], .int .i64 n] w fun e w' =>
      e = .returned (.int .i64 (3 + 2 * c.s + n)) ∧ Below w.heap.size w w' := by
  obtain ⟨_, _, ⟨s1, s2⟩, _⟩ := cfgB_true hc
  have x1 : IntKind.i64.wrap (2 * c.s) = 2 * c.s := wrapF _ (by omega) (by omega)
  have x2 : IntKind.i64.wrap (3 + 2 * c.s) = 3 + 2 * c.s := wrapF _ (by omega) (by omega)
  have x4 : IntKind.i64.wrap (3 + 2 * c.s + n) = 3 + 2 * c.s + n := wrapF _ (by omega) (by omega)
  clear hc
  go_enter Tryz.func49, Tryz.ntmps49
  go_wp2
  go_ret
  exact ⟨by simp, (Below.refl _ _).alloc (Nat.le_refl _) _⟩

end Go.Proofs.YtejadojilncbjaaGreat

namespace Go.Proofs.YtejadojilncbjaaGreat
open Go.RowKit
set_option linter.unusedVariables false
attribute [local go_sem ↓] Go.wp_at_zero Go.wp_at_succ

/-- The thread of a job in memory. -/
theorem job_at {w : World} {B : Nat} {ja : Option Addr} {jobs : List (Int × List InsD)} (h : JobsRep w B ja jobs) (k : Nat) (hk : k < jobs.length) : ∃ b off, ja = some ⟨b, off, none⟩ ∧ b < B ∧ w.cell? ⟨b, off + k * 2, none⟩ = some (.int .i64 (jobs.getD k (0, [])).1) := by
  obtain ⟨js, h1, h2, h3⟩ := h
  obtain ⟨b, off, e, hb, c0, _⟩ := h2 k (by omega)
  rw [(h3 k (by omega)).1] at c0
  exact ⟨b, off, e, hb, c0⟩

end Go.Proofs.YtejadojilncbjaaGreat
