import Derived.Test.YtejadojilncbjabJ05
namespace Go.Proofs.Ytejadojilncbjab
open Go.RowKit
set_option linter.unusedVariables false
attribute [local go_sem ↓] Go.wp_at_zero Go.wp_at_succ

theorem run_makeM (n : Nat) (hn : n ≤ 2097152) (w : World) : (Instr.makeSlice 24 (Value.int .i64 (n : Int)) (Value.int .i64 (n : Int))).run Try.prog w =
    .ok (.slice (some ⟨w.heap.size, 0, none⟩) n n) (w.alloc (.cells (List.replicate n (.int .i64 0)).toArray 3)) := by
  obtain ⟨i0, h1, h2, h3, h4⟩ := info_parts Try.info3
  have := run_make (P := Try.prog) w 24 3 i0 _ Try.underlying24 h1 h2 .i64 .i64 n n (by omega) (by omega) (by rw [h4]; omega) (by omega)
  rw [h3] at this
  simp only [Int.toNat_natCast, Nat.mul_one] at this
  have e : madeCells (Value.int .i64 0).cells n = (List.replicate n (Value.int .i64 0)).toArray := by
    apply Array.ext'
    rw [show (Value.int .i64 0).cells = #[.int .i64 0] from rfl, toList_madeCells_one]
  rw [e] at this
  exact this

/-- The first k numbers, then zeros. -/
def upN (n k : Nat) : List Value := nvs (List.range k) ++ List.replicate (n - k) (.int .i64 0)

theorem upN_zero (n : Nat) : upN n 0 = List.replicate n (.int .i64 0) := by simp [upN, nvs]
theorem upN_all (n : Nat) : upN n n = nvs (List.range n) := by simp [upN]
theorem upN_len {n k : Nat} (h : k ≤ n) : (upN n k).length = n := by simp [upN, nvs]; omega
theorem upN_set {n k : Nat} (h : k < n) : (upN n k).set k (.int .i64 (k : Int)) = upN n (k + 1) := by
  unfold upN
  rw [show n - k = (n - (k + 1)) + 1 by omega, List.replicate_succ, List.set_append_right _ _ (by simp [nvs])]
  rw [show k - (nvs (List.range k)).length = 0 by simp [nvs], List.set_cons_zero, List.range_succ, nvs_snoc, List.append_assoc]
  rfl

/-- What inOrder tells. -/
def InOrd (w : World) (n : Nat) (f : Nat → AttD) (e : Ending) (w' : World) : Prop := ∃ (o : List Nat) (oa : Option Addr) (oc : Nat), e = .returned (.slice oa n oc) ∧ o.length = n ∧ IsOrd f n o ∧ NatsIn w' w'.heap.size oa o ∧ Below w.heap.size w w'

theorem natsIn_blk {w : World} {b : Nat} {o : List Nat} (h : Blk w b 3 (nvs o).toArray) : NatsIn w w.heap.size (some ⟨b, 0, none⟩) o := fun i hi => by
  refine ⟨b, rfl, h.lt, ?_⟩
  rw [h.cell i]
  simp [nvs, List.getElem?_eq_getElem hi, List.getD]

set_option maxRecDepth 100000 in
set_option maxHeartbeats 8000000 in
/-- inOrder. -/
theorem inOrder_any (L : List AttD) (hL : L.length ≤ 2097152) (a : Option Addr) (cp : Nat) (w : World) (h : HistIn w w.heap.size a L) :
    Calls Try.prog 24 #[.slice a L.length cp] w (InOrd w L.length (atL L)) := by
  have HH : Hid (HistIn w w.heap.size a L) := h
  have hmk := run_makeM L.length hL
  rw [← upN_zero] at hmk
  obtain ⟨N, hN⟩ : ∃ N, N = L.length := ⟨_, rfl⟩
  have HN : Hid (N = L.length) := hN
  rw [← hN] at hL hmk ⊢
  obtain ⟨f, hf⟩ : ∃ f, f = atL L := ⟨_, rfl⟩
  have HF : Hid (f = atL L) := hf
  rw [← hf]
  obtain ⟨Z, hZ⟩ : ∃ Z, Z = upN N 0 := ⟨_, rfl⟩
  rw [← hZ] at hmk
  have HZ : Hid (Z = upN N 0) := hZ
  clear h hN hf hZ
  go_enter Try.func24, Try.ntmps24
  go_wp2_with fail
  obtain ⟨w0, hw0⟩ : ∃ w0, w0 = w.alloc (.cells Z.toArray 3) := ⟨_, rfl⟩
  have HB0 : Hid (Below w.heap.size w w0) := by rw [hw0]; exact (Below.refl w.heap.size w).alloc (Nat.le_refl _) _
  have HR0 : Hid (Blk w0 w.heap.size 3 (upN N 0).toArray) := by rw [hw0, ← show Z = _ from HZ.out]; exact Blk.new w 3 _
  rw [← hw0]
  clear hw0 hmk
  go_loopg [11] (N + 1) (fun m t11 wr => ∃ k : Nat, t11 = .int .i64 (k : Int) ∧ k ≤ N ∧ m = N + 1 - k ∧ Hid (Blk wr w.heap.size 3 (upN N k).toArray) ∧ Hid (Below w.heap.size w wr))
  case atStart => exact ⟨0, rfl, by omega, by omega, HR0, HB0⟩
  case round =>
    obtain ⟨k, rfl, hk, hgk, HR, HB⟩ := hrel
    clear HR0 HB0
    by_cases hkN : k < N
    · have k0 : (0 : Int) ≤ (k : Int) := by omega
      have k1 : (k : Int) < (N : Int) := by omega
      have hwk : IntKind.i64.wrap ((k : Int) + 1) = (k : Int) + 1 := wrapJ9 _ (by omega) (by omega)
      obtain ⟨cs, hcs⟩ : ∃ cs, cs = (upN N k).toArray := ⟨_, rfl⟩
      have hcz : cs.size = N := by rw [hcs]; simp [upN_len hk]
      have hR : Blk wr w.heap.size 3 cs := by rw [hcs]; exact HR.out
      have hc := hR.cell k
      have hfz := hR.frozen k
      rw [Array.getElem?_eq_getElem (by omega)] at hc
      have hlt := hR.lt
      have HRn : Hid (Blk (wr.setCell ⟨w.heap.size, k, none⟩ (.int .i64 (k : Int))) w.heap.size 3 (upN N (k + 1)).toArray) := by
        refine (hR.set).congr ?_
        rw [hcs, List.setIfInBounds_toArray, upN_set hkN]
      have HBn : Hid (Below w.heap.size w (wr.setCell ⟨w.heap.size, k, none⟩ (.int .i64 (k : Int)))) := (HB.out).setCell (Nat.le_refl _) _
      obtain ⟨cv, hcv⟩ : ∃ cv, cv = cs[k]'(by omega) := ⟨_, rfl⟩
      rw [← hcv] at hc
      clear hcs hR hcv HR HB
      go_wp2_with fail
      go_roundg (gk - 1)
      case rel => exact ⟨k + 1, by simp, by omega, by omega, HRn, HBn⟩
      case measure => omega
    · obtain rfl : k = N := by omega
      have hkI : ¬ (k : Int) < (k : Int) := by omega
      have HR1 : Hid (NatsIn wr wr.heap.size (some ⟨w.heap.size, 0, none⟩) (List.range k)) := natsIn_blk (by rw [← upN_all]; exact HR.out)
      clear HR
      go_wp2_with fail
      go_loopg [3, 5] (2 * k + 1) (fun m t3 t5 wx => ∃ (o : List Nat) (oa : Option Addr) (oc W : Nat), t3 = .slice oa k oc ∧ t5 = .int .i64 (W : Int) ∧ 1 ≤ W ∧ W ≤ 2 * k + 1 ∧ m = 2 * k + 2 - W ∧ Hid (o.length = k ∧ RunsJ f W o ∧ o.Perm (List.range k)) ∧ Hid (NatsIn wx wx.heap.size oa o) ∧ Hid (Below w.heap.size w wx))
      case atStart => exact ⟨List.range k, _, _, 1, rfl, rfl, by omega, by omega, by omega, ⟨by simp, runs_one _ _, List.Perm.refl _⟩, HR1, HB⟩
      case round =>
        obtain ⟨o, oa, oc, W, rfl, rfl, hW1, hW2, hgm, HO, HI, HBx⟩ := hrel
        obtain ⟨wi, hwi⟩ : ∃ wi, wi = wr := ⟨_, rfl⟩
        subst hwi
        clear HR1 HB
        by_cases hWk : W < k
        · have hWI : (W : Int) < (k : Int) := by omega
          have hww : IntKind.i64.wrap ((W : Int) * 2) = (W : Int) * 2 := wrapJ9 _ (by omega) (by omega)
          have HMg : Hid (Calls Try.prog 36 #[.slice a k cp, .slice oa k oc, .int .i64 (W : Int)] wi (MrgIs wi k fun o' => ∃ q, k ≤ q * (2 * W) ∧ o' = pass f W o q)) := by
            have hl := (HO.out).1
            have h := merge_any L o W hW1 (by omega) (by omega) (fun i hi => by
              have h1 : o.getD i 0 ∈ o := by
                rw [List.getD_eq_getElem?_getD, List.getElem?_eq_getElem hi]
                exact List.getElem_mem hi
              have h2 := (HO.out).2.2.mem_iff.1 h1
              rw [← HN.out]
              simpa using h2) (by rw [← HN.out]; exact hL) a oa cp oc wi (((HH.out).up HBx.out).mono (HBx.out).size) HI.out
            rw [hl, ← HN.out, ← show f = _ from HF.out] at h
            exact h
          go_wp2_with fail
          refine (HMg.out).mono ?_
          rintro e w2 ⟨o2, ra, rc, rfl, hl2, ⟨q, hq1, hq2⟩, hr2, hb2⟩
          have HO2 : Hid (o2.length = k ∧ RunsJ f (2 * W) o2 ∧ o2.Perm (List.range k)) := by
            have hp : o2.Perm (List.range k) := by
              rw [hq2]
              refine (pass_perm f W o q).trans ?_
              rw [List.take_of_length_le (by rw [(HO.out).1]; exact hq1)]
              exact (HO.out).2.2
            refine ⟨hl2, ?_, hp⟩
            rw [hq2]
            exact pass_runs hW1 (HO.out).2.1 ((HO.out).2.2.nodup_iff.2 List.nodup_range) q
          have HI2 : Hid (NatsIn w2 w2.heap.size ra o2) := natsIn_row hr2
          have HB2 : Hid (Below w.heap.size w w2) := (HBx.out).trans (hb2.mono (HBx.out).size)
          clear hq1 hq2 hr2 hb2 HMg HO HI hl2
          go_wp2_with fail
          go_roundg (2 * k + 2 - 2 * W)
          case rel => exact ⟨o2, ra, rc, 2 * W, rfl, by rw [show ((2 * W : Nat) : Int) = (W : Int) * 2 by omega], by omega, by omega, rfl, HO2, HI2, HB2⟩
          case measure => omega
        · have hWI : ¬ (W : Int) < (k : Int) := by omega
          have HE : Hid (o.length = k ∧ IsOrd f k o) := by
            refine ⟨(HO.out).1, fun i => ?_, runs_all (HO.out).2.1 (by rw [(HO.out).1]; omega)⟩
            rw [(HO.out).2.2.mem_iff]
            simp
          clear HO
          go_wp2_with fail
          go_ret
          exact ⟨o, oa, oc, rfl, (HE.out).1, (HE.out).2, HI.out, HBx.out⟩

end Go.Proofs.Ytejadojilncbjab

namespace Go.Proofs.Ytejadojilncbjab
open Go.RowKit
set_option linter.unusedVariables false
attribute [local go_sem ↓] Go.wp_at_zero Go.wp_at_succ

set_option maxRecDepth 100000 in
set_option maxHeartbeats 2000000 in
/-- The document's before. -/
theorem before_any (x y : AttD) (na na' : Option Addr) (nn nc nn' nc' : Nat) (w : World) :
    Calls Try.prog 39 #[.agg #[.int .i64 x.thread, .int .i64 x.job, .int .i64 x.start, .int .i64 x.fin, .int .i64 x.valid, .int .i64 x.stamp, .int .i64 x.fate, .slice na nn nc], .agg #[.int .i64 y.thread, .int .i64 y.job, .int .i64 y.start, .int .i64 y.fin, .int .i64 y.valid, .int .i64 y.stamp, .int .i64 y.fate, .slice na' nn' nc']] w fun e w' => e = .returned (.bool (decide (BefJ x y))) ∧ Below w.heap.size w w' := by
  obtain ⟨D, hD⟩ : ∃ D, D = decide (BefJ x y) := ⟨_, rfl⟩
  rw [← hD]
  obtain ⟨w2, hw2⟩ : ∃ w2, w2 = (w.alloc (.cells #[.int .i64 x.thread, .int .i64 x.job, .int .i64 x.start, .int .i64 x.fin, .int .i64 x.valid, .int .i64 x.stamp, .int .i64 x.fate, .slice na nn nc] 66)).alloc (.cells #[.int .i64 y.thread, .int .i64 y.job, .int .i64 y.start, .int .i64 y.fin, .int .i64 y.valid, .int .i64 y.stamp, .int .i64 y.fate, .slice na' nn' nc'] 66) := ⟨_, rfl⟩
  have HA : Hid (Blk w2 w.heap.size 66 #[.int .i64 x.thread, .int .i64 x.job, .int .i64 x.start, .int .i64 x.fin, .int .i64 x.valid, .int .i64 x.stamp, .int .i64 x.fate, .slice na nn nc]) := by rw [hw2]; exact (Blk.new w _ _).alloc _
  have HC : Hid (Blk w2 (w.heap.size + 1) 66 #[.int .i64 y.thread, .int .i64 y.job, .int .i64 y.start, .int .i64 y.fin, .int .i64 y.valid, .int .i64 y.stamp, .int .i64 y.fate, .slice na' nn' nc']) := by
    rw [hw2]
    have h5 := Blk.new (w.alloc (.cells #[.int .i64 x.thread, .int .i64 x.job, .int .i64 x.start, .int .i64 x.fin, .int .i64 x.valid, .int .i64 x.stamp, .int .i64 x.fate, .slice na nn nc] 66)) 66 #[.int .i64 y.thread, .int .i64 y.job, .int .i64 y.start, .int .i64 y.fin, .int .i64 y.valid, .int .i64 y.stamp, .int .i64 y.fate, .slice na' nn' nc']
    rw [show (w.alloc (.cells #[.int .i64 x.thread, .int .i64 x.job, .int .i64 x.start, .int .i64 x.fin, .int .i64 x.valid, .int .i64 x.stamp, .int .i64 x.fate, .slice na nn nc] 66)).heap.size = w.heap.size + 1 by simp] at h5
    exact h5
  have HB : Hid (Below w.heap.size w w2) := by rw [hw2]; exact ((Below.refl w.heap.size w).alloc (Nat.le_refl _) _).alloc (by simp) _
  have x5 := (HA.out).cell 5
  have x4 := (HA.out).cell 4
  have y5 := (HC.out).cell 5
  have y4 := (HC.out).cell 4
  simp at x5 x4 y5 y4
  go_enter Try.func39, Try.ntmps39
  go_upto_region 1 with fail
  rw [← hw2]
  clear hw2 HA HC
  by_cases h1 : x.stamp > 0
  · by_cases h2 : y.stamp > 0
    · have hD' : D = decide (x.stamp < y.stamp) := hD.trans (decide_eq_decide.2 ((bef_iff x y).trans (by rw [if_pos ⟨h1, h2⟩])))
      clear hD
      subst hD'
      go_wp2_with fail
      go_ret
      exact ⟨by first | rfl | simp, HB.out⟩
    · have hD' : D = decide (x.stamp ≤ y.valid) := hD.trans (decide_eq_decide.2 ((bef_iff x y).trans (by rw [if_neg (fun q => h2 q.2), if_pos h1])))
      clear hD
      subst hD'
      go_wp2_with fail
      go_ret
      exact ⟨by first | rfl | simp, HB.out⟩
  · by_cases h2 : y.stamp > 0
    · have hD' : D = decide (x.valid < y.stamp) := hD.trans (decide_eq_decide.2 ((bef_iff x y).trans (by rw [if_neg (fun q => h1 q.1), if_neg h1, if_pos h2])))
      clear hD
      subst hD'
      go_wp2_with fail
      go_ret
      exact ⟨by first | rfl | simp, HB.out⟩
    · have hD' : D = decide (x.valid < y.valid) := hD.trans (decide_eq_decide.2 ((bef_iff x y).trans (by rw [if_neg (fun q => h1 q.1), if_neg h1, if_neg h2])))
      clear hD
      subst hD'
      go_wp2_with fail
      go_ret
      exact ⟨by first | rfl | simp, HB.out⟩

abbrev TwoA (b i j : Nat) (x y : AttD) (na na' : Option Addr) (nn nc nn' nc' : Nat) (w : World) : Prop := AttS b i x na nn nc w ∧ AttS b j y na' nn' nc' w

set_option maxRecDepth 100000 in
set_option maxHeartbeats 4000000 in
/-- The document's Ahead. -/
theorem dahead_any (L : List AttD) (N : Nat) (hN : L.length = N) (i j : Nat) (hi : i < N) (hj : j < N) (hn : N ≤ 2 ^ 40) (a : Option Addr) (cp : Nat) (w : World) (h : HistIn w w.heap.size a L) :
    Calls Try.prog 29 #[.slice a N cp, .int .i64 (i : Int), .int .i64 (j : Int)] w fun e w' => e = .returned (.bool (decide (Kl (atL L) i j))) ∧ Below w.heap.size w w' := by
  obtain ⟨b, off, na, nc, ha, hbl, hx, _⟩ := h.att (k := i) (by omega)
  obtain ⟨b', off', na', nc', ha', hbl', hy, _⟩ := h.att (k := j) (by omega)
  rw [ha] at ha'
  cases ha'
  subst ha
  obtain ⟨x, hxx⟩ : ∃ x, x = atL L i := ⟨_, rfl⟩
  obtain ⟨y, hyy⟩ : ∃ y, y = atL L j := ⟨_, rfl⟩
  have hK : decide (Kl (atL L) i j) = (decide (BefJ x y) || (!decide (BefJ y x) && decide (i < j))) := by
    rw [hxx, hyy]
    by_cases h1 : BefJ (atL L i) (atL L j) <;> by_cases h2 : BefJ (atL L j) (atL L i) <;> simp [kl_iff, h1, h2]
  rw [← hxx] at hx
  rw [← hyy] at hy
  rw [hK]
  obtain ⟨nn, hnn⟩ : ∃ nn, nn = x.notes.length := ⟨_, rfl⟩
  obtain ⟨nn', hnn'⟩ : ∃ nn', nn' = y.notes.length := ⟨_, rfl⟩
  rw [← hnn] at hx
  rw [← hnn'] at hy
  have HKp : Hid (∀ wx, Below w.heap.size w wx → TwoA b (off + i * 8) (off + j * 8) x y na na' nn nc nn' nc' wx) := fun wx hb => ⟨AttS.up hx hb hbl, AttS.up hy hb hbl⟩
  obtain ⟨D1, hD1⟩ : ∃ D1, D1 = decide (BefJ x y) := ⟨_, rfl⟩
  obtain ⟨D2, hD2⟩ : ∃ D2, D2 = decide (BefJ y x) := ⟨_, rfl⟩
  have HC1 : Hid (∀ wx, Calls Try.prog 39 #[.agg #[.int .i64 x.thread, .int .i64 x.job, .int .i64 x.start, .int .i64 x.fin, .int .i64 x.valid, .int .i64 x.stamp, .int .i64 x.fate, .slice na nn nc], .agg #[.int .i64 y.thread, .int .i64 y.job, .int .i64 y.start, .int .i64 y.fin, .int .i64 y.valid, .int .i64 y.stamp, .int .i64 y.fate, .slice na' nn' nc']] wx fun e w' => e = .returned (.bool D1) ∧ Below wx.heap.size wx w') := fun wx => by rw [hD1]; exact before_any x y na na' nn nc nn' nc' wx
  have HC2 : Hid (∀ wx, Calls Try.prog 39 #[.agg #[.int .i64 y.thread, .int .i64 y.job, .int .i64 y.start, .int .i64 y.fin, .int .i64 y.valid, .int .i64 y.stamp, .int .i64 y.fate, .slice na' nn' nc'], .agg #[.int .i64 x.thread, .int .i64 x.job, .int .i64 x.start, .int .i64 x.fin, .int .i64 x.valid, .int .i64 x.stamp, .int .i64 x.fate, .slice na nn nc]] wx fun e w' => e = .returned (.bool D2) ∧ Below wx.heap.size wx w') := fun wx => by rw [hD2]; exact before_any y x na' na nn' nc' nn nc wx
  rw [← hD1, ← hD2]
  have i0 : (0 : Int) ≤ (i : Int) := by omega
  have i1 : (i : Int) < (N : Int) := by omega
  have j0 : (0 : Int) ≤ (j : Int) := by omega
  have j1 : (j : Int) < (N : Int) := by omega
  have HS0 : Hid (TwoA b (off + i * 8) (off + j * 8) x y na na' nn nc nn' nc' w.drew) := HKp.out _ (jbDrew w)
  clear hxx hyy hK hx hy hnn hnn' hD1 hD2 h
  go_enter Try.func29, Try.ntmps29
  go_wp2_with fail
  go_cut [7] (fun t wx => t = .bool D1 ∧ Hid (Below w.heap.size w wx))
  case first =>
    go_region_held3 (fun w' => TwoA b (off + i * 8) (off + j * 8) x y na na' nn nc nn' nc' w')
      (first | exact HS1.out | exact HS0.out | fail)
      (first
        | (go_at_call 39; refine (HC1.out _).mono ?_; rintro e w6 ⟨rfl, hb6⟩; have HB6 : Hid (Below w.heap.size w w6) := jbOf hb6; clear hb6; have HS1 : Hid (TwoA b (off + i * 8) (off + j * 8) x y na na' nn nc nn' nc' w6) := HKp.out _ HB6.out)
        | fail)
    all_goals
      go_wp2
      go_meet
      case rel => exact ⟨rfl, HB6⟩
  case rest =>
    obtain ⟨rfl, HBc⟩ := hcut
    obtain ⟨wv, hwv⟩ : ∃ wv, wv = wc := ⟨_, rfl⟩
    subst hwv
    have HS2 : Hid (TwoA b (off + i * 8) (off + j * 8) x y na na' nn nc nn' nc' wv.drew) := HKp.out _ ((HBc.out).trans ((jbDrew wv).mono (HBc.out).size))
    clear HS0 HC1
    go_wp2_with fail
    go_cut [8] (fun t wx => t = .bool D2 ∧ Hid (Below w.heap.size w wx))
    case first =>
      go_region_held3 (fun w' => TwoA b (off + i * 8) (off + j * 8) x y na na' nn nc nn' nc' w')
        (first | exact HS3.out | exact HS2.out | fail)
        (first
          | (go_at_call 39; refine (HC2.out _).mono ?_; rintro e w6 ⟨rfl, hb6⟩; have HB6 : Hid (Below w.heap.size w w6) := (HBc.out).trans ((jbOf hb6).mono (HBc.out).size); clear hb6; have HS3 : Hid (TwoA b (off + i * 8) (off + j * 8) x y na na' nn nc nn' nc' w6) := HKp.out _ HB6.out)
          | fail)
      all_goals
        go_wp2
        go_meet
        case rel => exact ⟨rfl, HB6⟩
    case rest =>
      obtain ⟨rfl, HBd⟩ := hcut
      clear HS2 HC2 HKp
      cases D1 with
      | true =>
        go_wp2_with fail
        go_ret
        exact ⟨by first | rfl | simp, HBd.out⟩
      | false =>
        cases D2 with
        | true =>
          go_wp2_with fail
          go_ret
          exact ⟨by first | rfl | simp, HBd.out⟩
        | false =>
          by_cases h3 : i < j
          · have h3' : (i : Int) < (j : Int) := by omega
            go_wp2_with fail
            go_ret
            exact ⟨by first | rfl | simp [h3], HBd.out⟩
          · have h3' : ¬ (i : Int) < (j : Int) := by omega
            go_wp2_with fail
            go_ret
            exact ⟨by first | rfl | (simp [h3]; done) | (simp; omega), HBd.out⟩

end Go.Proofs.Ytejadojilncbjab
