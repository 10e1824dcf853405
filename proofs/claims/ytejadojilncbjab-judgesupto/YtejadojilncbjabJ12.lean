import Derived.Test.YtejadojilncbjabJ10
namespace Go.Proofs.Ytejadojilncbjab
open Go.RowKit
set_option linter.unusedVariables false
attribute [local go_sem ↓] Go.wp_at_zero Go.wp_at_succ

theorem WdR.up {w w' : World} {B p vb : Nat} {v : List Int} {ua : Option Addr} {uc : Nat} {U : List (Nat × Int)} (h : WdR w B p vb v ua uc U) (hb : Below w.heap.size w w') : WdR w' B p vb v ua uc U :=
  ⟨h.pb.below hb h.pb.lt, h.vals.below hb h.vals.lt, own_up h.undo hb, h.lp, h.lv⟩

/-- No changes are noted. -/
theorem WdR.clear {w : World} {B p vb : Nat} {v : List Int} {ua : Option Addr} {uc : Nat} {U : List (Nat × Int)} (h : WdR w B p vb v ua uc U) : WdR (w.setCell ⟨p, 1, none⟩ (.slice none 0 0)) B p vb v none 0 [] := by
  have ho : Only p w (w.setCell ⟨p, 1, none⟩ (.slice none 0 0)) := (Only.refl _ _).set
  exact ⟨(h.pb.set).congr (by simp), h.vals.only ho (Ne.symm h.ne), World.ownsRow_nil _ _ _ _, h.lp, h.lv⟩

theorem set_back {y : List Int} {a : Nat} {x : Int} (h : a < y.length) : (y.set a x).set a (y.getD a 0) = y := by
  rw [List.set_set, List.getD_eq_getElem?_getD, List.getElem?_eq_getElem h]
  simp

/-- What replay leaves. -/
def RepIs (w : World) (B p vb : Nat) (v : List Int) (b : Bool) (e : Ending) (w' : World) : Prop := e = .returned (.bool b) ∧ ∃ ua uc U, WdR w' B p vb v ua uc U ∧ Below B w w'

theorem notes_snoc {ns : List NoteD} {i : Nat} (h : i < ns.length) : ns.take (i + 1) = ns.take i ++ [ns.getD i noNt] := by
  rw [List.getD_eq_getElem?_getD, List.getElem?_eq_getElem h, List.take_add_one, List.getElem?_eq_getElem h]
  rfl

theorem inB_iff {z : Int} {n : Nat} : inB z 0 ((n : Int) - 1) = true ↔ (0 ≤ z ∧ z < (n : Int)) := by
  unfold inB
  simp
  omega

set_option maxRecDepth 100000 in
set_option maxHeartbeats 8000000 in
/-- replay. -/
theorem replay_any (B p vb : Nat) (v : List Int) (ua0 : Option Addr) (uc0 : Nat) (U0 : List (Nat × Int)) (x : AttD) (na : Option Addr) (nc : Nat) (hv : v.length ≤ 2097152) (hK : x.notes.length ≤ 2097152) (w : World) (hBw : B ≤ w.heap.size) (h : WdR w B p vb v ua0 uc0 U0) (hN : NotesIn w B na x.notes) :
    Calls Try.prog 38 #[.pointer (some ⟨p, 0, none⟩), .agg #[.int .i64 x.thread, .int .i64 x.job, .int .i64 x.start, .int .i64 x.fin, .int .i64 x.valid, .int .i64 x.stamp, .int .i64 x.fate, .slice na x.notes.length nc]] w (RepIs w B p vb (if 0 < x.stamp then wrN x.notes v else v) (rdN x.notes v)) := by
  have HN : Hid (NotesIn w B na x.notes) := hN
  obtain ⟨wA, hwA⟩ : ∃ wA, wA = w.alloc (.cells #[.int .i64 x.thread, .int .i64 x.job, .int .i64 x.start, .int .i64 x.fin, .int .i64 x.valid, .int .i64 x.stamp, .int .i64 x.fate, .slice na x.notes.length nc] 66) := ⟨_, rfl⟩
  have hBA : Below w.heap.size w wA := by rw [hwA]; exact (Below.refl _ _).alloc (Nat.le_refl _) _
  have hRA : WdR wA B p vb v ua0 uc0 U0 := h.up hBA
  have hXA : Blk wA w.heap.size 66 #[.int .i64 x.thread, .int .i64 x.job, .int .i64 x.start, .int .i64 x.fin, .int .i64 x.valid, .int .i64 x.stamp, .int .i64 x.fate, .slice na x.notes.length nc] := by rw [hwA]; exact Blk.new w _ _
  obtain ⟨w1, hw1⟩ : ∃ w1, w1 = wA.setCell ⟨p, 1, none⟩ (.slice none 0 0) := ⟨_, rfl⟩
  have HR1 : Hid (WdR w1 B p vb v none 0 []) := by rw [hw1]; exact hRA.clear
  have HB1 : Hid (Below B w w1) := by rw [hw1]; exact (hBA.mono hBw).setCell h.lp _
  have HX1 : Hid (Blk w1 w.heap.size 66 #[.int .i64 x.thread, .int .i64 x.job, .int .i64 x.start, .int .i64 x.fin, .int .i64 x.valid, .int .i64 x.stamp, .int .i64 x.fate, .slice na x.notes.length nc]) := by rw [hw1]; exact KpA.only hRA.pb (by decide) ((Only.refl _ _).set) _ _ hXA
  have hp1 := hRA.pb.cell 1
  have hpf := hRA.pb.frozen 1
  simp at hp1
  have hwv : IntKind.i64.wrap ((v.length : Int) - 1) = (v.length : Int) - 1 := wrapJ9 _ (by omega) (by omega)
  obtain ⟨VE, HVE⟩ : ∃ VE, Hid ((if 0 < x.stamp then wrN x.notes v else v) = VE) := ⟨_, rfl⟩
  obtain ⟨RB, HRB⟩ : ∃ RB, Hid (rdN x.notes v = RB) := ⟨_, rfl⟩
  rw [show (if 0 < x.stamp then wrN x.notes v else v) = VE from HVE.out, show rdN x.notes v = RB from HRB.out]
  clear h hN hRA hXA hBA
  go_enter Try.func38, Try.ntmps38
  go_upto_region 1 with fail
  rw [← hwA]
  obtain ⟨xb, hxb⟩ : ∃ xb, xb = w.heap.size := ⟨_, rfl⟩
  rw [← hxb] at HX1 ⊢
  clear hwA hxb
  go_upto_region 3 with fail
  rw [← hw1]
  clear hw1 hp1 hpf
  have hx1 := (HX1.out).cell
  go_wp2_with fail
  clear hx1
  obtain ⟨XC, hXC⟩ : ∃ XC : Array Value, XC = #[.int .i64 x.thread, .int .i64 x.job, .int .i64 x.start, .int .i64 x.fin, .int .i64 x.valid, .int .i64 x.stamp, .int .i64 x.fate, .slice na x.notes.length nc] := ⟨_, rfl⟩
  have HX5 : Hid (XC[5]? = some (.int .i64 x.stamp)) := by rw [hXC]; rfl
  rw [← hXC] at HX1
  clear hXC
  go_loopg [5, 15] (x.notes.length + 1) (fun m t5 t15 wr => ∃ (i : Nat) (y : List Int) (ua : Option Addr) (uc : Nat) (U : List (Nat × Int)), t5 = .bool (rdN (x.notes.take i) v) ∧ t15 = .int .i64 (i : Int) ∧ i ≤ x.notes.length ∧ m = x.notes.length + 1 - i ∧ U.length ≤ i ∧ y.length = v.length ∧ Hid (y = wrN (x.notes.take i) v ∧ tb U y = v ∧ ∀ c ∈ U, c.1 < v.length) ∧ Hid (WdR wr B p vb y ua uc U) ∧ Hid (Below B w wr) ∧ Hid (Blk wr xb 66 XC))
  case atStart => exact ⟨0, v, none, 0, [], rfl, rfl, by omega, by omega, by simp, rfl, ⟨rfl, rfl, fun c hc => absurd hc (by simp)⟩, HR1, HB1, HX1⟩
  case round =>
    obtain ⟨i, y, ua, uc, U, rfl, rfl, hi, hgi, hUi, hyl, HY, HR, HB, HX⟩ := hrel
    obtain ⟨wi, hwi⟩ : ∃ wi, wi = wr := ⟨_, rfl⟩
    subst hwi
    clear HR1 HB1 HX1
    have hszi := (HB.out).size
    obtain ⟨rd, hrd⟩ : ∃ rd, rd = rdN (x.notes.take i) v := ⟨_, rfl⟩
    rw [← hrd]
    by_cases hiK : i < x.notes.length
    · obtain ⟨nb, noff, hna, hnl, n0, n1, n2⟩ := HN.out i hiK
      have up : ∀ o, wi.cell? ⟨nb, o, none⟩ = w.cell? ⟨nb, o, none⟩ := fun o => World.cell?_of_block ((HB.out).block nb hnl)
      have htk := notes_snoc hiK
      obtain ⟨n, hn⟩ : ∃ n, n = x.notes.getD i noNt := ⟨_, rfl⟩
      rw [← hn] at n0 n1 n2 htk
      have HRd : Hid (rdN (x.notes.take (i + 1)) v = (rd && nRead n y)) := by show _ = _; rw [htk, rdN_snoc, ← hrd, ← (HY.out).1]
      have HWr : Hid (wrN (x.notes.take (i + 1)) v = nStep n y) := by show _ = _; rw [htk, wrN_snoc, ← (HY.out).1]
      have d0 := (up _).trans n0
      have d1 := (up _).trans n1
      have d2 := (up _).trans n2
      obtain ⟨op, ad, va⟩ := n
      simp only at d0 d1 d2
      obtain ⟨wn, hwn⟩ : ∃ wn, wn = wi.alloc (.cells #[.int .i64 op, .int .i64 ad, .int .i64 va] 99) := ⟨_, rfl⟩
      have hBn : Below wi.heap.size wi wn := by rw [hwn]; exact (Below.refl _ _).alloc (Nat.le_refl _) _
      have HNb : Hid (Blk wn wi.heap.size 99 #[.int .i64 op, .int .i64 ad, .int .i64 va]) := by rw [hwn]; exact Blk.new wi _ _
      have HRn : Hid (WdR wn B p vb y ua uc U) := (HR.out).up hBn
      have HXn : Hid (Blk wn xb 66 XC) := (HX.out).below hBn (HX.out).lt
      have HBn : Hid (Below B w wn) := (HB.out).trans (hBn.mono (Nat.le_trans hBw (HB.out).size))
      have i0 : (0 : Int) ≤ (i : Int) := by omega
      have i1 : (i : Int) < (x.notes.length : Int) := by omega
      have hwi1 : IntKind.i64.wrap ((i : Int) + 1) = (i : Int) + 1 := wrapJ9 _ (by omega) (by omega)
      subst hna
      clear htk hn n0 n1 n2 up hBn HR HB HX hrd
      go_upto_region 6 with fail
      rw [← hwn]
      obtain ⟨tbk, htbk⟩ : ∃ tbk, tbk = wi.heap.size := ⟨_, rfl⟩
      rw [← htbk] at HNb ⊢
      clear hwn htbk d0 d1 d2 hszi
      have hnc := (HNb.out).cell
      have hpc := (HRn.out).pb.cell
      rw [hyl] at hpc
      obtain ⟨D, hD⟩ : ∃ D, D = inB ad 0 ((v.length : Int) - 1) := ⟨_, rfl⟩
      go_cut [8] (fun t wx => t = .bool D ∧ Hid (Below wn.heap.size wn wx))
      case first =>
        go_quiet ((go_at_call 33; exact Calls.quiet_of_same (within_any _ _ _ _)))
        go_wp2
        go_meet
        case rel => exact ⟨by first | rfl | rw [hD], belowQ nq⟩
      case rest =>
        obtain ⟨rfl, HBc⟩ := hcut
        have HRc : Hid (WdR wc B p vb y ua uc U) := (HRn.out).up HBc.out
        have HXc : Hid (Blk wc xb 66 XC) := (HXn.out).below HBc.out (HXn.out).lt
        have HBw : Hid (Below B w wc) := (HBn.out).trans ((HBc.out).mono (Nat.le_trans hBw (HBn.out).size))
        have hncc := ((HNb.out).below HBc.out (HNb.out).lt).cell
        have hpcc := (HRc.out).pb.cell
        rw [hyl] at hpcc
        have hD2 : D = true ↔ (0 ≤ ad ∧ ad < (v.length : Int)) := by rw [hD]; exact inB_iff
        clear hD hnc hpc HRn HXn HBn HNb
        by_cases h7 : op = 7
        · have HSt : Hid (nStep ⟨op, ad, va⟩ y = y) := by
            show _ = _
            unfold nStep
            rw [if_neg (fun q => by simp only at q; omega)]
          have HYn : Hid (y = wrN (x.notes.take (i + 1)) v ∧ tb U y = v ∧ ∀ c ∈ U, c.1 < v.length) := ⟨by rw [HWr.out, HSt.out], (HY.out).2⟩
          by_cases hin : 0 ≤ ad ∧ ad < (v.length : Int)
          · obtain ⟨a, ha⟩ := Int.eq_ofNat_of_zero_le hin.1
            have ha' : ad = (a : Int) := ha
            clear ha
            subst ha'
            obtain rfl : D = true := hD2.2 hin
            have hal : a < y.length := by omega
            have hvc := (HRc.out).getV hal
            obtain ⟨Y, hYe⟩ : ∃ Y, Y = y.getD a 0 := ⟨_, rfl⟩
            rw [← hYe] at hvc
            have a0 : (0 : Int) ≤ (a : Int) := hin.1
            have a1 : (a : Int) < (v.length : Int) := hin.2
            by_cases heq : Y = va
            · have HRe : Hid (nRead ⟨op, (a : Int), va⟩ y = true) := by
                show _ = _
                unfold nRead
                rw [if_pos h7]
                simp only [Int.toNat_natCast, ← hYe, heq, hyl, a1, and_self, a0, decide_true]
              subst heq h7
              clear hD2 hYe hin HWr HSt
              go_wp2_with fail
              go_quiet (fail)
              go_wp2
              go_roundg (x.notes.length + 1 - (i + 1))
              case rel => exact ⟨i + 1, y, ua, uc, U, by rw [HRd.out, HRe.out]; simp, by simp, by omega, rfl, by omega, hyl, HYn, (HRc.out).up (belowQ nq), (HBw.out).trans ((belowQ nq).mono (Nat.le_trans hBw (HBw.out).size)), (HXc.out).below (belowQ nq) (HXc.out).lt⟩
              case measure => omega
            · have HRe : Hid (nRead ⟨op, (a : Int), va⟩ y = false) := by
                show _ = _
                unfold nRead
                rw [if_pos h7]
                simp only [Int.toNat_natCast, ← hYe, decide_eq_false_iff_not]
                exact fun q => heq q.2.2
              have hne : (Y != va) = true := by simp [heq]
              subst h7
              clear hD2 hYe hin HWr HSt heq
              go_wp2_with fail
              go_quiet (fail)
              go_wp2
              go_roundg (x.notes.length + 1 - (i + 1))
              case rel => exact ⟨i + 1, y, ua, uc, U, by rw [HRd.out, HRe.out]; simp, by simp, by omega, rfl, by omega, hyl, HYn, (HRc.out).up (belowQ nq), (HBw.out).trans ((belowQ nq).mono (Nat.le_trans hBw (HBw.out).size)), (HXc.out).below (belowQ nq) (HXc.out).lt⟩
              case measure => omega
          · obtain rfl : D = false := by
              cases D with
              | false => rfl
              | true => exact absurd (hD2.1 rfl) hin
            have HRe : Hid (nRead ⟨op, ad, va⟩ y = false) := by
              show _ = _
              unfold nRead
              rw [if_pos h7]
              simp only [decide_eq_false_iff_not]
              exact fun q => hin ⟨q.1, by have := q.2.1; omega⟩
            subst h7
            clear hD2 hin HWr HSt
            go_wp2_with fail
            go_quiet (fail)
            go_wp2
            go_roundg (x.notes.length + 1 - (i + 1))
            case rel => exact ⟨i + 1, y, ua, uc, U, by rw [HRd.out, HRe.out]; simp, by simp, by omega, rfl, by omega, hyl, HYn, (HRc.out).up (belowQ nq), (HBw.out).trans ((belowQ nq).mono (Nat.le_trans hBw (HBw.out).size)), (HXc.out).below (belowQ nq) (HXc.out).lt⟩
            case measure => omega
        · have HRe : Hid (nRead ⟨op, ad, va⟩ y = true) := by
            show _ = _
            unfold nRead
            rw [if_neg h7]
          have h7' : (op == 7) = false := by simp [h7]
          by_cases h8 : op = 8
          · by_cases hin : 0 ≤ ad ∧ ad < (v.length : Int)
            · obtain ⟨a, ha⟩ := Int.eq_ofNat_of_zero_le hin.1
              have ha' : ad = (a : Int) := ha
              clear ha
              subst ha'
              obtain rfl : D = true := hD2.2 hin
              have hal : a < y.length := by omega
              have HSt : Hid (nStep ⟨op, (a : Int), va⟩ y = y.set a va) := by
                show _ = _
                unfold nStep
                rw [if_pos ⟨h8, hin.1, by rw [hyl]; exact hin.2⟩]
                rfl
              have HYn : Hid (y.set a va = wrN (x.notes.take (i + 1)) v ∧ tb (U ++ [(a, y.getD a 0)]) (y.set a va) = v ∧ ∀ c ∈ U ++ [(a, y.getD a 0)], c.1 < v.length) := by
                refine ⟨by rw [HWr.out, HSt.out], ?_, fun c hc => ?_⟩
                · rw [tb_snoc]
                  simp only
                  rw [set_back hal]
                  exact (HY.out).2.1
                · rcases List.mem_append.1 hc with q | q
                  · exact (HY.out).2.2 c q
                  · simp at q
                    subst q
                    simp only
                    omega
              have HPt : Hid (∀ wx, WdR wx B p vb y ua uc U → B ≤ wx.heap.size → Calls Try.prog 46 #[.pointer (some ⟨p, 0, none⟩), .int .i64 (a : Int), .int .i64 va] wx (WdIs wx B p vb (y.set a va) (U ++ [(a, y.getD a 0)]))) := fun wx hR hBx => put_any B p vb y ua uc U a va hal (by omega) (by omega) wx hBx hR
              have hUl2 : (U ++ [(a, y.getD a 0)]).length = U.length + 1 := by simp
              obtain ⟨U2, hU2⟩ : ∃ U2, U2 = U ++ [(a, y.getD a 0)] := ⟨_, rfl⟩
              rw [← hU2] at HYn HPt hUl2
              have hyl2 : (y.set a va).length = v.length := by rw [List.length_set]; exact hyl
              subst h8
              clear hD2 hin HWr HSt hU2 h7
              go_wp2_with fail
              refine (HPt.out _ HRc.out (Nat.le_trans hBw (HBw.out).size)).mono ?_
              rintro e wz ⟨rfl, ua2, uc2, hRz, hBz, hKz⟩
              have HRz : Hid (WdR wz B p vb (y.set a va) ua2 uc2 U2) := hRz
              have HBz : Hid (Below B w wz) := (HBw.out).trans hBz
              have HXz : Hid (Blk wz xb 66 XC) := hKz _ _ HXc.out
              clear hRz hBz hKz hncc hpcc
              go_wp2_with fail
              go_roundg (x.notes.length + 1 - (i + 1))
              case rel => exact ⟨i + 1, y.set a va, ua2, uc2, U2, by rw [HRd.out, HRe.out]; simp, by simp, by omega, rfl, by omega, hyl2, HYn, HRz, HBz, HXz⟩
              case measure => omega
            · obtain rfl : D = false := by
                cases D with
                | false => rfl
                | true => exact absurd (hD2.1 rfl) hin
              have HSt : Hid (nStep ⟨op, ad, va⟩ y = y) := by
                show _ = _
                unfold nStep
                rw [if_neg (fun q => hin ⟨q.2.1, by have := q.2.2; rw [hyl] at this; exact this⟩)]
              have HYn : Hid (y = wrN (x.notes.take (i + 1)) v ∧ tb U y = v ∧ ∀ c ∈ U, c.1 < v.length) := ⟨by rw [HWr.out, HSt.out], (HY.out).2⟩
              subst h8
              clear hD2 hin HWr HSt h7
              go_wp2_with fail
              go_roundg (x.notes.length + 1 - (i + 1))
              case rel => exact ⟨i + 1, y, ua, uc, U, by rw [HRd.out, HRe.out]; simp, by simp, by omega, rfl, by omega, hyl, HYn, HRc, HBw, HXc⟩
              case measure => omega
          · have h8' : (op == 8) = false := by simp [h8]
            have HSt : Hid (nStep ⟨op, ad, va⟩ y = y) := by
              show _ = _
              unfold nStep
              rw [if_neg (fun q => h8 q.1)]
            have HYn : Hid (y = wrN (x.notes.take (i + 1)) v ∧ tb U y = v ∧ ∀ c ∈ U, c.1 < v.length) := ⟨by rw [HWr.out, HSt.out], (HY.out).2⟩
            clear hD2 HWr HSt h7 h8
            go_wp2_with fail
            go_roundg (x.notes.length + 1 - (i + 1))
            case rel => exact ⟨i + 1, y, ua, uc, U, by rw [HRd.out, HRe.out]; simp, by simp, by omega, rfl, by omega, hyl, HYn, HRc, HBw, HXc⟩
            case measure => omega
    · obtain rfl : i = x.notes.length := by omega
      have hiI : ¬ (x.notes.length : Int) < (x.notes.length : Int) := by omega
      have hye := (HY.out).1
      rw [List.take_length] at hye hrd
      have HRd : Hid (rd = RB) := hrd.trans HRB.out
      have hxc : ∀ j, wi.cell? ⟨xb, j, none⟩ = XC[j]? := (HX.out).cell
      have hx5 := (hxc 5).trans HX5.out
      have HBk : Hid (∀ wx, WdR wx B p vb y ua uc U → Calls Try.prog 47 #[.pointer (some ⟨p, 0, none⟩)] wx (WdIs wx B p vb v U)) := fun wx hR => by
        have h9 := back_any B p vb y ua uc U (fun c hc => by rw [hyl]; exact (HY.out).2.2 c hc) (by omega) (by omega) wx hR
        rw [(HY.out).2.1] at h9
        exact h9
      obtain ⟨st, hst⟩ : ∃ st, st = x.stamp := ⟨_, rfl⟩
      rw [← hst] at hx5
      by_cases hs : st ≤ 0
      · have HV : Hid (v = VE) := by
          show _ = _
          rw [← show _ = VE from HVE.out, if_neg (by omega)]
        clear hye hrd hst hxc
        obtain rfl : rd = RB := HRd.out
        go_wp2_with fail
        refine (HBk.out _ HR.out).mono ?_
        rintro e wz ⟨rfl, ua2, uc2, hRz, hBz, _⟩
        have HRz : Hid (WdR wz B p vb v ua2 uc2 U) := hRz
        have HBz : Hid (Below B w wz) := (HB.out).trans hBz
        clear hRz hBz hx5
        go_wp2_with fail
        go_ret
        exact ⟨rfl, ua2, uc2, U, by rw [← show v = VE from HV.out]; exact HRz.out, HBz.out⟩
      · have HV : Hid (y = VE) := by
          show _ = _
          rw [← show _ = VE from HVE.out, if_pos (by omega)]
          exact hye
        clear hye hrd hst hxc
        obtain rfl : rd = RB := HRd.out
        go_wp2_with fail
        go_ret
        exact ⟨rfl, ua, uc, U, by rw [← show y = VE from HV.out]; exact HR.out, HB.out⟩

end Go.Proofs.Ytejadojilncbjab
