import Derived.Test.YtejadojilncbjaaGreatH48
import Derived.Test.YtejadojilncbjaaGreatH38
import Derived.Test.YtejadojilncbjaaGreatRows
import Derived.ShutString
import Derived.ChangeOld
import Derived.JoinedCond
import Derived.Test.YtejadojilncbjaaGreatH40
namespace Go.Proofs.YtejadojilncbjaaGreat
open Go.RowKit
set_option linter.unusedVariables false
attribute [local go_sem ↓] Go.wp_at_zero Go.wp_at_succ

set_option maxRecDepth 100000 in
set_option maxHeartbeats 4000000 in
theorem refPlay_any (c : Cfg) (mem : List Int) (jobs : List (Int × List InsD)) (ps : List PickD) (hps : ps.length ≤ 2 ^ 33) (ma ja pa : Option Addr) (mc jc pc : Nat) (w : World) (hml : mem.length ≤ maxLen) (hjl : jobs.length ≤ maxLen)
    (hm : Ints w w.heap.size ma mem) (hj : JobsRep w w.heap.size ja jobs) (hp : PicksIn w w.heap.size pa ps) :
    Calls Tryz.prog 29 #[.agg #[.int .i64 c.t, .int .i64 c.wd, .int .i64 c.s, .int .i64 c.g, .int .i64 c.r, .int .i64 c.cp, .int .i64 c.f, .slice ma mem.length mc, .slice ja jobs.length jc], .slice pa ps.length pc] w (PlayIs w (playA c mem jobs ps) (errS c mem jobs)) := by
  have HM : Hid (Ints w w.heap.size ma mem) := hm
  have HJ : Hid (JobsRep w w.heap.size ja jobs) := hj
  have HP : Hid (PicksIn w w.heap.size pa ps) := hp
  have HPS : Hid (ps.length ≤ 2 ^ 33) := hps
  obtain ⟨L, HL⟩ : ∃ L, Hid (playA c mem jobs ps = L) := ⟨_, rfl⟩
  obtain ⟨ER, HER⟩ : ∃ ER, Hid (errS c mem jobs = ER) := ⟨_, rfl⟩
  rw [show playA c mem jobs ps = L from HL.out, show errS c mem jobs = ER from HER.out]
  clear hm hj hp hps
  go_enter Tryz.func29, Tryz.ntmps29
  go_wp2_with fail
  obtain ⟨w0, hw0⟩ : ∃ w0, w0 = w.alloc (.cells #[.int .i64 c.t, .int .i64 c.wd, .int .i64 c.s, .int .i64 c.g, .int .i64 c.r, .int .i64 c.cp, .int .i64 c.f, .slice ma mem.length mc, .slice ja jobs.length jc] 27) := ⟨_, rfl⟩
  have hB0 : Below w.heap.size w w0 := by rw [hw0]; exact (Below.refl w.heap.size w).alloc (Nat.le_refl _) _
  have hSb : Blk w0 w.heap.size 27 #[.int .i64 c.t, .int .i64 c.wd, .int .i64 c.s, .int .i64 c.g, .int .i64 c.r, .int .i64 c.cp, .int .i64 c.f, .slice ma mem.length mc, .slice ja jobs.length jc] := by rw [hw0]; exact Blk.new w 27 _
  have hs0 : w0.heap.size = w.heap.size + 1 := by rw [hw0]; simp
  rw [← hw0]
  clear hw0
  refine (refCheck_rep c mem jobs ma ja mc jc w0 hml hjl ((HM.out).up hB0) ((HJ.out).up2 hB0)).mono ?_
  rintro e w1 ⟨rfl, hb1⟩
  have hB1 : Below w.heap.size w w1 := hB0.trans (hb1.mono hB0.size)
  have hsc : ∀ i, w1.cell? ⟨w.heap.size, i, none⟩ = (#[.int .i64 c.t, .int .i64 c.wd, .int .i64 c.s, .int .i64 c.g, .int .i64 c.r, .int .i64 c.cp, .int .i64 c.f, .slice ma mem.length mc, .slice ja jobs.length jc] : Array Value)[i]? := (hSb.below hb1 (by omega)).cell
  have HB1 : Hid (Below w.heap.size w w1) := hB1
  have HM1 : Hid (Ints w1 w1.heap.size ma mem) := (HM.out).up hB1
  have HJ1 : Hid (JobsRep w1 w1.heap.size ja jobs) := (HJ.out).up2 hB1
  have HP1 : Hid (PicksIn w1 w1.heap.size pa ps) := (HP.out).up2 hB1
  clear hB0 hSb hs0 hb1 hB1 HM HJ HP
  rw [show errS c mem jobs = ER from HER.out]
  by_cases he : ER = 0
  · have hbn : (ER != 0) = false := by simp [he]
    have HLe : Hid (L = accs c mem jobs ps) := (HL.out).symm.trans (if_pos ((HER.out).trans he))
    have HSo : Hid (SetupOk c mem jobs) := (errS_ok ((HER.out).trans he)).1
    have HE0 : Hid (ER = 0) := he
    clear he HL HER
    go_wp2_with fail
    refine (accesses_any HSo.out ps HPS.out ma ja pa mc jc pc w1 HM1.out HJ1.out HP1.out).mono ?_
    rintro e w2 ⟨la, lc, rfl, hl2, hb2⟩
    have HL2 : Hid (LogIn w2 w2.heap.size la (accs c mem jobs ps)) := hl2
    have HB2 : Hid (Below w.heap.size w w2) := (HB1.out).trans (hb2.mono (HB1.out).size)
    clear hl2 hb2 hsc hbn
    go_wp2
    exact bodyPost_ret (v := .tuple #[.slice la (accs c mem jobs ps).length lc, .int .i64 0]) (by simp [results, Tryz.results29, go_sem]) rfl ⟨la, lc, by rw [HLe.out, HE0.out], by rw [HLe.out]; exact HL2.out, HB2.out⟩
  · have hbn : (ER != 0) = true := by simp [he]
    have HLe : Hid (L = []) := (HL.out).symm.trans (if_neg (by rw [HER.out]; exact he))
    clear he HL HER hsc
    go_wp2
    exact bodyPost_ret (v := .tuple #[.slice none 0 0, .int .i64 ER]) (by simp [results, Tryz.results29, go_sem]) rfl ⟨none, 0, by rw [HLe.out]; rfl, by rw [HLe.out]; exact fun i hi => absurd hi (by simp), HB1.out⟩

set_option maxHeartbeats 1000000 in
theorem size_any (c : Cfg) (hc : cfgB c = true) (a b : Option Addr) (l d m f : Nat) (w : World) :
    Calls Tryz.prog 55 #[.agg #[.int .i64 c.t, .int .i64 c.wd, .int .i64 c.s, .int .i64 c.g, .int .i64 c.r, .int .i64 c.cp, .int .i64 c.f, .slice a l d, .slice b m f]] w fun e w' =>
      e = .returned (.int .i64 (total c)) ∧ Below w.heap.size w w' := by
  obtain ⟨⟨t1, t2⟩, ⟨w1, w2⟩, ⟨s1, s2⟩, _⟩ := cfgB_true hc
  clear hc
  go_enter Tryz.func55, Tryz.ntmps55
  go_wp2_with fail
  refine (wordV _ _ _ _ _ _ _ _ _ _ _ _ _ _ _ s1 s2 t1 t2 (by omega) (by omega)).mono ?_
  rintro e w2 ⟨rfl, hb⟩
  have HB : Hid (Below w.heap.size w w2) := ((Below.refl w.heap.size w).alloc (Nat.le_refl _) _).trans (hb.mono (by simp))
  clear hb
  go_wp2
  go_ret
  exact ⟨rfl, HB.out⟩

theorem cells_next (c : Cfg) (mem : List Int) (jobs : List (Int × List InsD)) (ps : List PickD) (j : Nat) (hj : j < (total c).toNat) : (cellsOf c mem jobs ps).take (j + 1) = (cellsOf c mem jobs ps).take j ++ [(gAt c mem jobs ps ps.length).m (j : Int)] := by
  have hl : (cellsOf c mem jobs ps).length = (total c).toNat := by simp [cellsOf]
  rw [List.take_add_one, List.getElem?_eq_getElem (by omega)]
  congr 1
  simp [cellsOf]

set_option maxRecDepth 100000 in
set_option maxHeartbeats 4000000 in
theorem refCells_any (c : Cfg) (mem : List Int) (jobs : List (Int × List InsD)) (ps : List PickD) (hps : ps.length ≤ 2 ^ 33) (ma ja pa : Option Addr) (mc jc pc : Nat) (w : World) (hml : mem.length ≤ maxLen) (hjl : jobs.length ≤ maxLen)
    (hm : Ints w w.heap.size ma mem) (hj : JobsRep w w.heap.size ja jobs) (hp : PicksIn w w.heap.size pa ps) :
    Calls Tryz.prog 32 #[.agg #[.int .i64 c.t, .int .i64 c.wd, .int .i64 c.s, .int .i64 c.g, .int .i64 c.r, .int .i64 c.cp, .int .i64 c.f, .slice ma mem.length mc, .slice ja jobs.length jc], .slice pa ps.length pc] w (CellsIs w (cellsA c mem jobs ps) (errS c mem jobs)) := by
  have HM : Hid (Ints w w.heap.size ma mem) := hm
  have HJ : Hid (JobsRep w w.heap.size ja jobs) := hj
  have HP : Hid (PicksIn w w.heap.size pa ps) := hp
  have HPS : Hid (ps.length ≤ 2 ^ 33) := hps
  obtain ⟨L, HL⟩ : ∃ L, Hid (cellsA c mem jobs ps = L) := ⟨_, rfl⟩
  obtain ⟨ER, HER⟩ : ∃ ER, Hid (errS c mem jobs = ER) := ⟨_, rfl⟩
  rw [show cellsA c mem jobs ps = L from HL.out, show errS c mem jobs = ER from HER.out]
  clear hm hj hp hps
  go_enter Tryz.func32, Tryz.ntmps32
  go_wp2_with fail
  obtain ⟨w0, hw0⟩ : ∃ w0, w0 = w.alloc (.cells #[.int .i64 c.t, .int .i64 c.wd, .int .i64 c.s, .int .i64 c.g, .int .i64 c.r, .int .i64 c.cp, .int .i64 c.f, .slice ma mem.length mc, .slice ja jobs.length jc] 27) := ⟨_, rfl⟩
  have hB0 : Below w.heap.size w w0 := by rw [hw0]; exact (Below.refl w.heap.size w).alloc (Nat.le_refl _) _
  have hSb : Blk w0 w.heap.size 27 #[.int .i64 c.t, .int .i64 c.wd, .int .i64 c.s, .int .i64 c.g, .int .i64 c.r, .int .i64 c.cp, .int .i64 c.f, .slice ma mem.length mc, .slice ja jobs.length jc] := by rw [hw0]; exact Blk.new w 27 _
  have hs0 : w0.heap.size = w.heap.size + 1 := by rw [hw0]; simp
  rw [← hw0]
  clear hw0
  refine (refCheck_rep c mem jobs ma ja mc jc w0 hml hjl ((HM.out).up hB0) ((HJ.out).up2 hB0)).mono ?_
  rintro e w1 ⟨rfl, hb1⟩
  have hB1 : Below w.heap.size w w1 := hB0.trans (hb1.mono hB0.size)
  have HSb1 : Hid (Blk w1 w.heap.size 27 #[.int .i64 c.t, .int .i64 c.wd, .int .i64 c.s, .int .i64 c.g, .int .i64 c.r, .int .i64 c.cp, .int .i64 c.f, .slice ma mem.length mc, .slice ja jobs.length jc]) := hSb.below hb1 (by omega)
  have hsc := (HSb1.out).cell
  have hsz1 : w.heap.size < w1.heap.size := (HSb1.out).lt
  have HB1 : Hid (Below w.heap.size w w1) := hB1
  have HM1 : Hid (Ints w1 w1.heap.size ma mem) := (HM.out).up hB1
  have HJ1 : Hid (JobsRep w1 w1.heap.size ja jobs) := (HJ.out).up2 hB1
  have HP1 : Hid (PicksIn w1 w1.heap.size pa ps) := (HP.out).up2 hB1
  clear hB0 hSb hs0 hb1 hB1 HM HJ HP
  rw [show errS c mem jobs = ER from HER.out]
  by_cases he : ER = 0
  · have hbn : (ER != 0) = false := by simp [he]
    have HLe : Hid (L = cellsOf c mem jobs ps) := (HL.out).symm.trans (if_pos ((HER.out).trans he))
    have HSo : Hid (SetupOk c mem jobs) := (errS_ok ((HER.out).trans he)).1
    have HE0 : Hid (ER = 0) := he
    clear he HL HER
    go_wp2_with fail
    refine (accesses_any HSo.out ps HPS.out ma ja pa mc jc pc w1 HM1.out HJ1.out HP1.out).mono ?_
    rintro e w2 ⟨la, lc, rfl, hl2, hb2⟩
    have HL2 : Hid (LogIn w2 w2.heap.size la (accs c mem jobs ps)) := hl2
    have HB2 : Hid (Below w.heap.size w w2) := (HB1.out).trans (hb2.mono (HB1.out).size)
    have HSb2 : Hid (Blk w2 w.heap.size 27 #[.int .i64 c.t, .int .i64 c.wd, .int .i64 c.s, .int .i64 c.g, .int .i64 c.r, .int .i64 c.cp, .int .i64 c.f, .slice ma mem.length mc, .slice ja jobs.length jc]) := (HSb1.out).below hb2 hsz1
    have HM2 : Hid (Ints w2 w2.heap.size ma mem) := (HM1.out).up hb2
    clear hl2 hb2 hsc hbn HM1 HJ1 HP1 HSb1 HB1 hsz1
    have hsc2 := (HSb2.out).cell
    go_wp2_with fail
    refine (size_any c (HSo.out).cfg _ _ _ _ _ _ w2).mono ?_
    rintro e w3 ⟨rfl, hb3⟩
    have HB3 : Hid (Below w.heap.size w w3) := (HB2.out).trans (hb3.mono (HB2.out).size)
    have HSb3 : Hid (Blk w3 w.heap.size 27 #[.int .i64 c.t, .int .i64 c.wd, .int .i64 c.s, .int .i64 c.g, .int .i64 c.r, .int .i64 c.cp, .int .i64 c.f, .slice ma mem.length mc, .slice ja jobs.length jc]) := (HSb2.out).below hb3 (HSb2.out).lt
    have HM3 : Hid (Ints w3 w3.heap.size ma mem) := (HM2.out).up hb3
    have HL3 : Hid (LogIn w3 w3.heap.size la (accs c mem jobs ps)) := (HL2.out).up hb3
    clear hb3 hsc2 HM2 HL2 HSb2 HB2
    obtain ⟨N, hN⟩ : ∃ N : Nat, N = (total c).toNat := ⟨_, rfl⟩
    have hNt : total c = (N : Int) := by
      obtain ⟨⟨t1, t2⟩, ⟨x1, x2⟩, ⟨s1, s2⟩, _⟩ := cfgB_true (HSo.out).cfg
      rw [hN, total_eq]
      omega
    have hN31 : N ≤ 31 := by
      obtain ⟨⟨t1, t2⟩, ⟨x1, x2⟩, ⟨s1, s2⟩, _⟩ := cfgB_true (HSo.out).cfg
      rw [hN, total_eq]
      omega
    rw [hNt]
    have HN : Hid (N = (total c).toNat) := hN
    have HVK : Hid (∀ (j : Nat) (wx : World), j < N → Below w3.heap.size w3 wx → Calls Tryz.prog 56 #[.agg #[.int .i64 c.t, .int .i64 c.wd, .int .i64 c.s, .int .i64 c.g, .int .i64 c.r, .int .i64 c.cp, .int .i64 c.f, .slice ma mem.length mc, .slice ja jobs.length jc], .slice la (accs c mem jobs ps).length lc, .int .i64 (j : Int)] wx (fun e w' => e = .returned (.int .i64 ((gAt c mem jobs ps ps.length).m (j : Int))) ∧ Below wx.heap.size wx w')) := fun j wx hj hb => by
      have S := HSo.out
      obtain ⟨⟨t1, t2⟩, ⟨x1, x2⟩, ⟨s1, s2⟩, _, _, _, ⟨f1, f2⟩⟩ := cfgB_true S.cfg
      obtain ⟨_, h2, _⟩ := log_sim c (by omega) mem jobs ps ps.length (Nat.le_refl _)
      have hlen : (accs c mem jobs ps).length = ps.length := gLog_len c mem jobs ps ps.length
      have hps2 := HPS.out
      have hmw := S.mw
      have := value_any c S.cfg ma ja la mc jobs.length jc lc mem (accs c mem jobs ps) (j : Int) wx ((HM3.out).up hb) ((HL3.out).up hb) (by rw [hlen]; exact Nat.le_trans hps2 (by decide)) (by omega) (by omega) (by rw [total_eq] at hNt; unfold wordBase; omega)
      rw [show mValue c mem (accs c mem jobs ps) (j : Int) = (gAt c mem jobs ps ps.length).m (j : Int) from (h2 _).symm] at this
      exact this
    have HOg : Hid (∀ j, j < N → (cellsOf c mem jobs ps).take (j + 1) = (cellsOf c mem jobs ps).take j ++ [(gAt c mem jobs ps ps.length).m (j : Int)]) := fun j hj => cells_next c mem jobs ps j (by rw [← hN]; exact hj)
    have hOl : (cellsOf c mem jobs ps).length = N := by rw [hN]; simp [cellsOf]
    have HOl : Hid ((cellsOf c mem jobs ps).length = N) := hOl
    clear hN hNt hOl HN
    generalize cellsOf c mem jobs ps = O at *
    generalize (gAt c mem jobs ps ps.length).m = mm at *
    generalize accs c mem jobs ps = AC at *
    obtain ⟨i3, hi3, hz30, hz31, hz32⟩ := info_parts Tryz.info3
    have hsbl : w.heap.size < w3.heap.size := (HSb3.out).lt
    clear HM3 HL3 HSo HPS
    go_wp2
    go_loopg [8, 10] (N + 1) (fun m t8 t10 wr => ∃ (j : Nat) (oa : Option Addr) (oc : Nat), t8 = .slice oa j oc ∧ t10 = .int .i64 (j : Int) ∧ j ≤ N ∧ m = N + 1 - j ∧ Hid (wr.ownsRow w3.heap.size 3 1 (.slice oa j oc) j ((O.take j).map (Value.int .i64 ·))) ∧ Hid (Below w3.heap.size w3 wr))
    case atStart => exact ⟨0, none, 0, rfl, rfl, by omega, by omega, World.ownsRow_nil _ _ _ _, Below.refl _ _⟩
    case round =>
      obtain ⟨j, oa, oc, rfl, rfl, hj, hgj, HRo, HBx⟩ := hrel
      by_cases hjl : j < N
      · have hjw : (j : Int) < (N : Int) := by omega
        have hj0 : (0 : Int) ≤ (j : Int) := by omega
        have hwj : IntKind.i64.wrap ((j : Int) + 1) = (j : Int) + 1 := wrapF _ (by omega) (by omega)
        have hsx := ((HSb3.out).below HBx.out hsbl).cell
        have hszx : w3.heap.size ≤ wr.heap.size := (HBx.out).size
        have HOj : Hid (O.take (j + 1) = O.take j ++ [mm (j : Int)]) := HOg.out j hjl
        go_wp2_with fail
        refine (HVK.out j wr hjl HBx.out).mono ?_
        rintro e w5 ⟨rfl, hb5⟩
        have HRy : Hid (w5.ownsRow w3.heap.size 3 1 (.slice oa j oc) j ((O.take j).map (Value.int .i64 ·))) := ownsRow_keep HRo.out (Kp.below (chg := []) (p := w3.heap.size) (eb := w3.heap.size) hb5 hszx) (by simp)
        have HBy : Hid (Below w3.heap.size w3 w5) := (HBx.out).trans (hb5.mono hszx)
        have hszy : w3.heap.size ≤ w5.heap.size := (HBy.out).size
        clear hb5 hsx HRo HBx hszx
        obtain ⟨OT, hOT⟩ : ∃ OT, OT = (O.take j).map (Value.int .i64 ·) := ⟨_, rfl⟩
        obtain ⟨ew, hew⟩ : ∃ ew, ew = mm (j : Int) := ⟨_, rfl⟩
        have HOn : Hid ((O.take (j + 1)).map (Value.int .i64 ·) = OT ++ [.int .i64 ew]) := by
          show _ = _
          rw [HOj.out, hOT, hew]
          simp
        rw [← hOT] at HRy
        rw [← hew]
        clear hOT hew HOj
        go_wp2_with
          (at_builtin;
           refine wpList_append_lies _ (by rfl) _ _ _ (by rfl) w3.heap.size 3 i3 _ 1 8 Tryz.underlying24 hi3 hz30 hz31 hz32 rfl (by omega) (.slice oa j oc) j OT (by rfl) ((HRy.out).alloc _)
             ⟨w5.heap.size, 0, none⟩ 1 1 [.int .i64 ew] (by rfl) (by rfl) (World.news_of_block (cs := #[.int .i64 ew]) (t := 3) (fr := (0, 0)) (heap_alloc_new w5 _)) (by simp [Value.oneCell'])
             (by omega) (by unfold maxLen; omega) (by omega) (by simp; omega) (w5.heap.size + 1) (by simp) ?_;
           intro gg cap wz hown1 hgrow hat hlt;
           have HKz : Hid (Kp [3] w3.heap.size w3.heap.size w3.heap.size w5 wz) := ((Kp.below ((Below.refl _ _).alloc (Nat.le_refl _) _) hszy).trans (Kp.grown hgrow (by simp; omega) ((HRy.out).alloc _) (by simp)));
           have HRz : Hid (wz.ownsRow w3.heap.size 3 1 (.slice (some ⟨gg, 0, none⟩) (j + 1) cap) (j + 1) (OT ++ [.int .i64 ew])) := hown1;
           clear hown1 hgrow hat hlt)
        go_roundg (gk - 1)
        case rel =>
          refine ⟨j + 1, _, _, rfl, by simp, by omega, by omega, by rw [HOn.out]; exact HRz, ?_⟩
          have hk := HKz.out
          have h := HBy.out
          exact ⟨hk.os.trans h.os, hk.tape.trans h.tape, hk.output.trans h.output, Nat.le_trans h.size hk.size, fun b hb => (hk.low b hb (by omega) (by omega)).trans (h.block b hb)⟩
        case measure => omega
      · have hje : j = N := by omega
        have hjw : ¬ (j : Int) < (N : Int) := by omega
        have HIo : Hid (Ints wr wr.heap.size oa O) := by
          have h := HRo.out
          have e : O.take j = O := by rw [hje, ← show O.length = N from HOl.out, List.take_length]
          rw [e] at h
          have h2 : Row wr w3.heap.size oa oc O := by
            unfold Row
            rw [show O.length = N from HOl.out, ← hje]
            exact h
          exact h2.ints
        have HF : Hid (Below w.heap.size w wr) := (HB3.out).trans ((HBx.out).mono (HB3.out).size)
        have HJE : Hid (O.length = j) := (HOl.out).trans hje.symm
        clear HRo HBx HVK HOg hje
        go_wp2
        exact bodyPost_ret (v := .tuple #[.slice oa j oc, .int .i64 0]) (by simp [results, Tryz.results32, go_sem]) rfl ⟨oa, oc, by rw [HLe.out, HE0.out, HJE.out], by rw [HLe.out]; exact HIo.out, HF.out⟩
  · have hbn : (ER != 0) = true := by simp [he]
    have HLe : Hid (L = []) := (HL.out).symm.trans (if_neg (by rw [HER.out]; exact he))
    clear he HL HER hsc
    go_wp2
    exact bodyPost_ret (v := .tuple #[.slice none 0 0, .int .i64 ER]) (by simp [results, Tryz.results32, go_sem]) rfl ⟨none, 0, by rw [HLe.out]; rfl, by rw [HLe.out]; exact fun i hi => absurd hi (by simp), HB1.out⟩

end Go.Proofs.YtejadojilncbjaaGreat

namespace Go.Proofs.YtejadojilncbjaaGreat
open Go.RowKit
set_option linter.unusedVariables false
attribute [local go_sem ↓] Go.wp_at_zero Go.wp_at_succ

set_option maxRecDepth 100000 in
set_option maxHeartbeats 4000000 in
theorem sameAccesses_any (a b : Option Addr) (ca cb : Nat) (l : List AccD) (w : World) (hn : l.length ≤ 2 ^ 40) (ha : LogIn w w.heap.size a l) (hb : LogIn w w.heap.size b l) :
    Calls Tryz.prog 30 #[.slice a l.length ca, .slice b l.length cb] w fun e w' => e = .returned (.bool true) ∧ Below w.heap.size w w' := by
  have HA : Hid (LogIn w w.heap.size a l) := ha
  have HB : Hid (LogIn w w.heap.size b l) := hb
  clear ha hb
  go_enter Tryz.func30, Tryz.ntmps30
  go_wp2
  go_loopg [5] (l.length + 1) (fun m t wr => ∃ k : Nat, t = .int .i64 (k : Int) ∧ k ≤ l.length ∧ m = l.length + 1 - k ∧ Hid (Below w.heap.size w wr))
  case atStart => exact ⟨0, rfl, by omega, by omega, Below.refl _ _⟩
  case round =>
    obtain ⟨k, rfl, hk, hgk, HBk⟩ := hrel
    by_cases hlt : k < l.length
    · obtain ⟨b1, o1, hA1, hb1, hc10, hc11, hc12, hc13⟩ := HA.out k hlt
      obtain ⟨b2, o2, hB1, hb2, hc20, hc21, hc22, hc23⟩ := HB.out k hlt
      have up : ∀ (b o : Nat), b < w.heap.size → wr.cell? ⟨b, o, none⟩ = w.cell? ⟨b, o, none⟩ := fun b o hb => World.cell?_of_block ((HBk.out).block b hb)
      have d10 := (up b1 _ hb1).trans hc10
      have d11 := (up b1 _ hb1).trans hc11
      have d12 := (up b1 _ hb1).trans hc12
      have d13 := (up b1 _ hb1).trans hc13
      have d20 := (up b2 _ hb2).trans hc20
      have d21 := (up b2 _ hb2).trans hc21
      have d22 := (up b2 _ hb2).trans hc22
      have d23 := (up b2 _ hb2).trans hc23
      have hk0 : (0 : Int) ≤ (k : Int) := by omega
      have hk1 : (k : Int) < (l.length : Int) := by omega
      have hwk : IntKind.i64.wrap ((k : Int) + 1) = (k : Int) + 1 := wrapF _ (by omega) (by omega)
      subst hA1 hB1
      generalize accAt l k = z at *
      clear hc10 hc11 hc12 hc13 hc20 hc21 hc22 hc23 HA HB up
      go_wp2
      go_quiet (fail)
      go_wp2
      go_roundg (gk - 1)
      case rel => exact ⟨k + 1, by simp, by omega, by omega, belowDrewN HBk.out nq⟩
      case measure => omega
    · have hke : ¬ (k : Int) < (l.length : Int) := by omega
      go_wp2
      go_ret
      exact ⟨rfl, HBk.out⟩

end Go.Proofs.YtejadojilncbjaaGreat

namespace Go.Proofs.YtejadojilncbjaaGreat
open Go.ChangeShapes Go.WideShapes Go.ChangeAt Go.RowKit Go.Deep
set_option linter.unusedVariables false
attribute [local go_sem ↓] Go.wp_at_zero Go.wp_at_succ

set_option maxRecDepth 100000 in
set_option maxHeartbeats 4000000 in
theorem plays_inner (G : PlayGood) (c : Cfg) (mem : List Int) (jobs : List (Int × List InsD)) (ps : List PickD) (ma ja pa : Option Addr) (mc jc pc : Nat) (w : World) (hps : ps.length ≤ 2 ^ 21) (hml : mem.length ≤ maxLen) (hjl : jobs.length ≤ maxLen)
    (hm : Ints w w.heap.size ma mem) (hj : JobsRep w w.heap.size ja jobs) (hp : PicksIn w w.heap.size pa ps) :
    Calls Tryz.prog 11 #[.agg #[.int .i64 c.t, .int .i64 c.wd, .int .i64 c.s, .int .i64 c.g, .int .i64 c.r, .int .i64 c.cp, .int .i64 c.f, .slice ma mem.length mc, .slice ja jobs.length jc], .slice pa ps.length pc] w fun e w' => e = .returned (.bool true) ∧ Below w.heap.size w w' := by
  have HM : Hid (Ints w w.heap.size ma mem) := hm
  have HJ : Hid (JobsRep w w.heap.size ja jobs) := hj
  have HP : Hid (PicksIn w w.heap.size pa ps) := hp
  have HG : Hid PlayGood := G
  have HN : Hid (ps.length ≤ 2 ^ 21) := hps
  have HLn : Hid ((playA c mem jobs ps).length ≤ 2 ^ 40) := Nat.le_trans (playA_len c mem jobs ps) (Nat.le_trans hps (by decide))
  obtain ⟨L, HL⟩ : ∃ L, Hid (playA c mem jobs ps = L) := ⟨_, rfl⟩
  obtain ⟨ER, HER⟩ : ∃ ER, Hid (errS c mem jobs = ER) := ⟨_, rfl⟩
  clear hm hj hp G hps
  go_enter Tryz.func11, Tryz.ntmps11
  go_wp2_with fail
  obtain ⟨w0, hw0⟩ : ∃ w0, w0 = w.alloc (.cells #[.int .i64 c.t, .int .i64 c.wd, .int .i64 c.s, .int .i64 c.g, .int .i64 c.r, .int .i64 c.cp, .int .i64 c.f, .slice ma mem.length mc, .slice ja jobs.length jc] 27) := ⟨_, rfl⟩
  have hB0 : Below w.heap.size w w0 := by rw [hw0]; exact (Below.refl w.heap.size w).alloc (Nat.le_refl _) _
  have hSb : Blk w0 w.heap.size 27 #[.int .i64 c.t, .int .i64 c.wd, .int .i64 c.s, .int .i64 c.g, .int .i64 c.r, .int .i64 c.cp, .int .i64 c.f, .slice ma mem.length mc, .slice ja jobs.length jc] := by rw [hw0]; exact Blk.new w 27 _
  rw [← hw0]
  clear hw0
  refine (HG.out c mem jobs ps ma ja pa mc jc pc w0 HN.out hml hjl ((HM.out).up hB0) ((HJ.out).up2 hB0) ((HP.out).up2 hB0)).mono ?_
  rintro e w1 ⟨la, lc, rfl, hl1, hb1⟩
  rw [show playA c mem jobs ps = L from HL.out] at hl1
  rw [show playA c mem jobs ps = L from HL.out, show errS c mem jobs = ER from HER.out]
  have hB1 : Below w.heap.size w w1 := hB0.trans (hb1.mono hB0.size)
  have hsc := (hSb.below hb1 hSb.lt).cell
  have HB1 : Hid (Below w.heap.size w w1) := hB1
  have HL1 : Hid (LogIn w1 w1.heap.size la L) := hl1
  have HM1 : Hid (Ints w1 w1.heap.size ma mem) := (HM.out).up hB1
  have HJ1 : Hid (JobsRep w1 w1.heap.size ja jobs) := (HJ.out).up2 hB1
  have HP1 : Hid (PicksIn w1 w1.heap.size pa ps) := (HP.out).up2 hB1
  clear hB0 hSb hl1 hb1 hB1 HM HJ HP HG
  go_wp2_with fail
  refine (refPlay_any c mem jobs ps (Nat.le_trans HN.out (by decide)) ma ja pa mc jc pc w1 hml hjl HM1.out HJ1.out HP1.out).mono ?_
  rintro e w2 ⟨lb, ld, rfl, hl2, hb2⟩
  rw [show playA c mem jobs ps = L from HL.out] at hl2
  rw [show playA c mem jobs ps = L from HL.out, show errS c mem jobs = ER from HER.out]
  have HB2 : Hid (Below w.heap.size w w2) := (HB1.out).trans (hb2.mono (HB1.out).size)
  have HLa : Hid (LogIn w2 w2.heap.size la L) := (HL1.out).up hb2
  have HLb : Hid (LogIn w2 w2.heap.size lb L) := hl2
  have HLz : Hid (L.length ≤ 2 ^ 40) := by rw [← show playA c mem jobs ps = L from HL.out]; exact HLn.out
  clear hl2 hb2 hsc HM1 HJ1 HP1 HL1 HB1 HL HER HLn
  go_wp2_with fail
  refine (sameAccesses_any la lb lc ld L w2 HLz.out HLa.out HLb.out).mono ?_
  rintro e w3 ⟨rfl, hb3⟩
  have HB3 : Hid (Below w.heap.size w w3) := (HB2.out).trans (hb3.mono (HB2.out).size)
  clear hb3
  go_wp2_with (go_at_call 20; refine (num_any _ _).mono ?_; rintro e w' ⟨rfl, rfl⟩)
  go_ret
  exact ⟨by simp, HB3.out⟩

set_option maxRecDepth 100000 in
set_option maxHeartbeats 4000000 in
theorem holds_inner (G : CellsGood) (c : Cfg) (mem : List Int) (jobs : List (Int × List InsD)) (ps : List PickD) (ma ja pa : Option Addr) (mc jc pc : Nat) (w : World) (hps : ps.length ≤ 2 ^ 21) (hml : mem.length ≤ maxLen) (hjl : jobs.length ≤ maxLen)
    (hm : Ints w w.heap.size ma mem) (hj : JobsRep w w.heap.size ja jobs) (hp : PicksIn w w.heap.size pa ps) :
    Calls Tryz.prog 12 #[.agg #[.int .i64 c.t, .int .i64 c.wd, .int .i64 c.s, .int .i64 c.g, .int .i64 c.r, .int .i64 c.cp, .int .i64 c.f, .slice ma mem.length mc, .slice ja jobs.length jc], .slice pa ps.length pc] w fun e w' => e = .returned (.bool true) ∧ Below w.heap.size w w' := by
  have HM : Hid (Ints w w.heap.size ma mem) := hm
  have HJ : Hid (JobsRep w w.heap.size ja jobs) := hj
  have HP : Hid (PicksIn w w.heap.size pa ps) := hp
  have HG : Hid CellsGood := G
  have HN : Hid (ps.length ≤ 2 ^ 21) := hps
  have HLn : Hid ((cellsA c mem jobs ps).length ≤ 2 ^ 40) := cellsA_len c mem jobs ps
  obtain ⟨L, HL⟩ : ∃ L, Hid (cellsA c mem jobs ps = L) := ⟨_, rfl⟩
  obtain ⟨ER, HER⟩ : ∃ ER, Hid (errS c mem jobs = ER) := ⟨_, rfl⟩
  clear hm hj hp G hps
  go_enter Tryz.func12, Tryz.ntmps12
  go_wp2_with fail
  obtain ⟨w0, hw0⟩ : ∃ w0, w0 = w.alloc (.cells #[.int .i64 c.t, .int .i64 c.wd, .int .i64 c.s, .int .i64 c.g, .int .i64 c.r, .int .i64 c.cp, .int .i64 c.f, .slice ma mem.length mc, .slice ja jobs.length jc] 27) := ⟨_, rfl⟩
  have hB0 : Below w.heap.size w w0 := by rw [hw0]; exact (Below.refl w.heap.size w).alloc (Nat.le_refl _) _
  have hSb : Blk w0 w.heap.size 27 #[.int .i64 c.t, .int .i64 c.wd, .int .i64 c.s, .int .i64 c.g, .int .i64 c.r, .int .i64 c.cp, .int .i64 c.f, .slice ma mem.length mc, .slice ja jobs.length jc] := by rw [hw0]; exact Blk.new w 27 _
  rw [← hw0]
  clear hw0
  refine (HG.out c mem jobs ps ma ja pa mc jc pc w0 HN.out hml hjl ((HM.out).up hB0) ((HJ.out).up2 hB0) ((HP.out).up2 hB0)).mono ?_
  rintro e w1 ⟨la, lc, rfl, hl1, hb1⟩
  rw [show cellsA c mem jobs ps = L from HL.out] at hl1
  rw [show cellsA c mem jobs ps = L from HL.out, show errS c mem jobs = ER from HER.out]
  have hB1 : Below w.heap.size w w1 := hB0.trans (hb1.mono hB0.size)
  have hsc := (hSb.below hb1 hSb.lt).cell
  have HB1 : Hid (Below w.heap.size w w1) := hB1
  have HL1 : Hid (Ints w1 w1.heap.size la L) := hl1
  have HM1 : Hid (Ints w1 w1.heap.size ma mem) := (HM.out).up hB1
  have HJ1 : Hid (JobsRep w1 w1.heap.size ja jobs) := (HJ.out).up2 hB1
  have HP1 : Hid (PicksIn w1 w1.heap.size pa ps) := (HP.out).up2 hB1
  clear hB0 hSb hl1 hb1 hB1 HM HJ HP HG
  go_wp2_with fail
  refine (refCells_any c mem jobs ps (Nat.le_trans HN.out (by decide)) ma ja pa mc jc pc w1 hml hjl HM1.out HJ1.out HP1.out).mono ?_
  rintro e w2 ⟨lb, ld, rfl, hl2, hb2⟩
  rw [show cellsA c mem jobs ps = L from HL.out] at hl2
  rw [show cellsA c mem jobs ps = L from HL.out, show errS c mem jobs = ER from HER.out]
  have HB2 : Hid (Below w.heap.size w w2) := (HB1.out).trans (hb2.mono (HB1.out).size)
  have HLa : Hid (Ints w2 w2.heap.size la L) := (HL1.out).up hb2
  have HLb : Hid (Ints w2 w2.heap.size lb L) := hl2
  have HLz : Hid (L.length ≤ 2 ^ 40) := by rw [← show cellsA c mem jobs ps = L from HL.out]; exact HLn.out
  clear hl2 hb2 hsc HM1 HJ1 HP1 HL1 HB1 HL HER HLn
  go_wp2_with fail
  refine (sameInts_any la lb lc ld L w2 HLz.out HLa.out HLb.out).mono ?_
  rintro e w3 ⟨rfl, hb3⟩
  have HB3 : Hid (Below w.heap.size w w3) := (HB2.out).trans (hb3.mono (HB2.out).size)
  clear hb3
  go_wp2_with (go_at_call 20; refine (num_any _ _).mono ?_; rintro e w' ⟨rfl, rfl⟩)
  go_ret
  exact ⟨by simp, HB3.out⟩

set_option maxHeartbeats 1000000 in
theorem plays_walk (G : PlayGood) (c : Cfg) (mem : List Int) (jobs : List (Int × List InsD)) (ps : List PickD) (ma ja pa : Option Addr) (mc jc pc : Nat) (w : World) (hps : ps.length ≤ 2 ^ 21) (hml : mem.length ≤ maxLen) (hjl : jobs.length ≤ maxLen)
    (hm : Ints w w.heap.size ma mem) (hj : JobsRep w w.heap.size ja jobs) (hp : PicksIn w w.heap.size pa ps) :
    Calls Tryz.prog 4 #[.agg #[.int .i64 c.t, .int .i64 c.wd, .int .i64 c.s, .int .i64 c.g, .int .i64 c.r, .int .i64 c.cp, .int .i64 c.f, .slice ma mem.length mc, .slice ja jobs.length jc], .slice pa ps.length pc] w fun e w' => e = .returned (.bool true) ∧ Below w.heap.size w w' := by
  have hB0 : Below w.heap.size w (w.alloc (.cells #[.int .i64 c.t, .int .i64 c.wd, .int .i64 c.s, .int .i64 c.g, .int .i64 c.r, .int .i64 c.cp, .int .i64 c.f, .slice ma mem.length mc, .slice ja jobs.length jc] 27)) := (Below.refl w.heap.size w).alloc (Nat.le_refl _) _
  have HW : Hid _ := plays_inner G c mem jobs ps ma ja pa mc jc pc _ hps hml hjl (hm.up hB0) (hj.up2 hB0) (hp.up2 hB0)
  have HB0 : Hid (Below w.heap.size w (w.alloc (.cells #[.int .i64 c.t, .int .i64 c.wd, .int .i64 c.s, .int .i64 c.g, .int .i64 c.r, .int .i64 c.cp, .int .i64 c.f, .slice ma mem.length mc, .slice ja jobs.length jc] 27))) := hB0
  clear hm hj hp hps G hB0
  go_enter Tryz.func4, Tryz.ntmps4
  go_wp2_with fail
  refine Calls.mono HW.out ?_
  rintro e w1 ⟨rfl, hb1⟩
  have HB1 : Hid (Below w.heap.size w w1) := (HB0.out).trans (hb1.mono (HB0.out).size)
  clear hb1 HW HB0
  go_wp2
  go_ret
  exact ⟨rfl, HB1.out⟩

set_option maxHeartbeats 1000000 in
theorem holds_walk (G : CellsGood) (c : Cfg) (mem : List Int) (jobs : List (Int × List InsD)) (ps : List PickD) (ma ja pa : Option Addr) (mc jc pc : Nat) (w : World) (hps : ps.length ≤ 2 ^ 21) (hml : mem.length ≤ maxLen) (hjl : jobs.length ≤ maxLen)
    (hm : Ints w w.heap.size ma mem) (hj : JobsRep w w.heap.size ja jobs) (hp : PicksIn w w.heap.size pa ps) :
    Calls Tryz.prog 5 #[.agg #[.int .i64 c.t, .int .i64 c.wd, .int .i64 c.s, .int .i64 c.g, .int .i64 c.r, .int .i64 c.cp, .int .i64 c.f, .slice ma mem.length mc, .slice ja jobs.length jc], .slice pa ps.length pc] w fun e w' => e = .returned (.bool true) ∧ Below w.heap.size w w' := by
  have hB0 : Below w.heap.size w (w.alloc (.cells #[.int .i64 c.t, .int .i64 c.wd, .int .i64 c.s, .int .i64 c.g, .int .i64 c.r, .int .i64 c.cp, .int .i64 c.f, .slice ma mem.length mc, .slice ja jobs.length jc] 27)) := (Below.refl w.heap.size w).alloc (Nat.le_refl _) _
  have HW : Hid _ := holds_inner G c mem jobs ps ma ja pa mc jc pc _ hps hml hjl (hm.up hB0) (hj.up2 hB0) (hp.up2 hB0)
  have HB0 : Hid (Below w.heap.size w (w.alloc (.cells #[.int .i64 c.t, .int .i64 c.wd, .int .i64 c.s, .int .i64 c.g, .int .i64 c.r, .int .i64 c.cp, .int .i64 c.f, .slice ma mem.length mc, .slice ja jobs.length jc] 27))) := hB0
  clear hm hj hp hps G hB0
  go_enter Tryz.func5, Tryz.ntmps5
  go_wp2_with fail
  refine Calls.mono HW.out ?_
  rintro e w1 ⟨rfl, hb1⟩
  have HB1 : Hid (Below w.heap.size w w1) := (HB0.out).trans (hb1.mono (HB0.out).size)
  clear hb1 HW HB0
  go_wp2
  go_ret
  exact ⟨rfl, HB1.out⟩

end Go.Proofs.YtejadojilncbjaaGreat

namespace Go.Proofs.YtejadojilncbjaaGreat
open Go.ChangeShapes Go.WideShapes Go.ChangeAt Go.RowKit Go.Deep
set_option linter.unusedVariables false

theorem ownP : ownKnob Tryz.prog.godebug = none := by kernel_rfl
theorem laidOutP : laidOutB Tryz.prog = true := by kernel_rfl
theorem Tryz.cells42 : Tryz.prog.cellsOf 42 = 2 := by kernel_rfl

/-- The bulk of what was read bounds the picks. -/
theorem bulk_one {H : Type} (d : DataW H) : 1 ≤ Rows.uptoBulk d := by
  cases d with
  | lit l => cases l <;> simp [Rows.uptoBulk]
  | nil => simp [Rows.uptoBulk]
  | ptr d => simp [Rows.uptoBulk]
  | slice elems spare => simp [Rows.uptoBulk]
  | agg parts => simp [Rows.uptoBulk]
  | iface t d => simp [Rows.uptoBulk]
  | map entries => simp [Rows.uptoBulk]
  | held h => simp [Rows.uptoBulk]
theorem bulk_len {H : Type} : ∀ (l : List (DataW H)), l.length ≤ Rows.uptoBulkAll l
  | [] => by simp [Rows.uptoBulkAll]
  | x :: r => by
    have := bulk_one x
    have := bulk_len r
    simp only [Rows.uptoBulkAll, List.length_cons]
    omega

section
variable {H : Type} {enc : TypeId × Value → H} {w : World} {spare : Nat → Bool} {held : Bool}

/-- Picks opened. -/
theorem picks_open {fuel : Nat} {cs : List Value} {x : DataW H × List MemPlace} (h : DataW.trod enc Tryz.prog w 0 spare held fuel 28 cs = some x) :
    ∃ a len cap, ∃ ps : List PickD, cs = [.slice a len cap] ∧ ps.length = len ∧ PicksIn w w.heap.size a ps ∧ len ≤ Rows.uptoBulk x.1 := by
  rcases open_slice_pairs Tryz.underlying28 Tryz.underlying42 Tryz.cells42 rfl rfl Tryz.cells3 Tryz.cells3 h with ⟨hcs, _⟩ | ⟨x, l, c, m, n, V0, V1, D0, D1, P0, P1, hcs, _, hl, hm, hmm, rfl, hel⟩
  · exact ⟨none, 0, 0, [], hcs, rfl, fun i hi => by simp at hi, Nat.zero_le _⟩
  · have hle : l ≤ m := by rw [hmm]; split <;> omega
    have each : ∀ i, i < l → ∃ q : PickD, w.cell? (x.add (i * 2)) = some (.int .i64 q.thread) ∧ w.cell? (x.add (i * 2 + 1)) = some (.int .i64 q.draw) := by
      intro i hi
      obtain ⟨h0, h1, h2, h3⟩ := hel i (by omega)
      obtain ⟨n0, e0, _, w0⟩ := DataW.trod_int Tryz.underlying3 h2
      obtain ⟨n1, e1, _, w1⟩ := DataW.trod_int Tryz.underlying3 h3
      simp at e0 e1
      exact ⟨⟨n0, n1⟩, by rw [h0, e0], by rw [h1, e1]⟩
    have hin : Inhabited PickD := ⟨⟨0, 0⟩⟩
    obtain ⟨q, hq⟩ := choose_lt each
    obtain ⟨b, off, spot⟩ := x
    refine ⟨some ⟨b, off, spot⟩, l, c, (List.range l).map q, hcs, by simp, fun i hi => ?_, ?_⟩
    · have hi' : i < l := by simpa using hi
      obtain ⟨h0, h1⟩ := hq i hi'
      have hspot : spot = none := by simpa [Addr.add] using World.cell?_spot (hq 0 (by omega)).1
      subst hspot
      rw [add_plain] at h0 h1
      have hat : pickAt ((List.range l).map q) i = q i := by simp [pickAt, List.getD, hi']
      rw [hat]
      exact ⟨b, off, rfl, block_lt h0, h0, h1⟩
    · simp only [Rows.uptoBulk]
      have := bulk_len ((List.range l).map fun i => (DataW.agg [D0 i, D1 i] : DataW H))
      simp only [List.length_map, List.length_range] at this
      omega

/-- The jobs opened, with their codes, as a list. -/
theorem jobs_rep {w : World} {ja : Option Addr} {js : List JobD} (hj : JobsIn w w.heap.size ja js) (hc : ∀ j ∈ js, (Lit.int .i64 j.t).wf = true ∧ j.len ≤ maxLen ∧ ∃ is : List InsD, is.length = j.len ∧ CodeIn w w.heap.size j.a is ∧ ∀ i ∈ is, i.wf) :
    ∃ jobs : List (Int × List InsD), jobs.length = js.length ∧ JobsRep w w.heap.size ja jobs := by
  have each : ∀ i, i < js.length → ∃ is : List InsD, is.length = (jobAt js i).len ∧ CodeIn w w.heap.size (jobAt js i).a is := by
    intro i hi
    have hmem : jobAt js i ∈ js := by
      rw [show jobAt js i = js[i] from by simp [jobAt, List.getD, List.getElem?_eq_getElem hi]]
      exact List.getElem_mem hi
    obtain ⟨_, _, is, h1, h2, _⟩ := hc _ hmem
    exact ⟨is, h1, h2⟩
  obtain ⟨q, hq⟩ := choose_lt each
  refine ⟨(List.range js.length).map fun i => ((jobAt js i).t, q i), by simp, js, by simp, hj, fun i hi => ?_⟩
  have e : ((List.range js.length).map fun i => ((jobAt js i).t, q i)).getD i (0, []) = ((jobAt js i).t, q i) := by simp [List.getD, hi]
  rw [e]
  exact ⟨rfl, (hq i hi).1.symm, (hq i hi).2⟩
end

end Go.Proofs.YtejadojilncbjaaGreat
