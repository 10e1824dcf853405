import Derived.Test.YtejadojilncbjabGreatH18
import Derived.Test.YtejadojilncbjabGreatH40
namespace Go.Proofs.YtejadojilncbjabGreat
open Go.RowKit
set_option linter.unusedVariables false
attribute [local go_sem ↓] Go.wp_at_zero Go.wp_at_succ

set_option maxHeartbeats 1000000 in
/-- The keepers' empty. -/
theorem kempty_any (f : Int) (w : World) : Calls Tryz.prog 40 #[.agg #[.int .i64 f, .int .i64 0, .int .i64 0, .int .i64 0, .int .i64 0]] w fun e w' => e = .returned (.bool true) ∧ Below w.heap.size w w' := by
  go_enter Tryz.func40, Tryz.ntmps40
  go_wp2
  obtain ⟨w0, hw0⟩ : ∃ w0, w0 = w.alloc (.cells #[.int .i64 f, .int .i64 0, .int .i64 0, .int .i64 0, .int .i64 0] 47) := ⟨_, rfl⟩
  have HA : Hid (Blk w0 w.heap.size 47 #[.int .i64 f, .int .i64 0, .int .i64 0, .int .i64 0, .int .i64 0]) := by rw [hw0]; exact Blk.new w 47 _
  have HBw : Hid (Below w.heap.size w w0) := by rw [hw0]; exact (Below.refl w.heap.size w).alloc (Nat.le_refl _) _
  rw [← hw0]
  clear hw0
  go_loopg [3] 5 (fun m t wr => ∃ k : Nat, t = .int .i64 (k : Int) ∧ k ≤ 4 ∧ m = 5 - k ∧ Hid (wr = w0))
  case atStart => exact ⟨0, rfl, by omega, by omega, rfl⟩
  case round =>
    obtain ⟨k, rfl, hk, hgk, HW⟩ := hrel
    obtain rfl : wr = w0 := HW.out
    have hcA := (HA.out).cell
    have hk4 : k = 0 ∨ k = 1 ∨ k = 2 ∨ k = 3 ∨ k = 4 := by omega
    rcases hk4 with rfl | rfl | rfl | rfl | rfl
    · go_wp2
      go_roundg (gk - 1)
      case rel => exact ⟨1, by first | rfl | simp, by omega, by omega, rfl⟩
      case measure => omega
    · go_wp2
      go_roundg (gk - 1)
      case rel => exact ⟨2, by first | rfl | simp, by omega, by omega, rfl⟩
      case measure => omega
    · go_wp2
      go_roundg (gk - 1)
      case rel => exact ⟨3, by first | rfl | simp, by omega, by omega, rfl⟩
      case measure => omega
    · go_wp2
      go_roundg (gk - 1)
      case rel => exact ⟨4, by first | rfl | simp, by omega, by omega, rfl⟩
      case measure => omega
    · go_wp2
      go_ret
      exact ⟨rfl, HBw.out⟩

theorem fst_at {AN : List (AttD × Value)} {k : Nat} {x : AttD × Value} (h : AN[k]? = some x) : (AN.map (·.1))[k]? = some x.1 := by rw [List.getElem?_map, h]; rfl

set_option maxRecDepth 100000 in
set_option maxHeartbeats 2000000 in
/-- The keepers' once. -/
theorem once_any (AN : List (AttD × Value)) (j : Int) (r : ResD) (ok : OnceOk (AN.map (·.1)) j r) (la : Option Addr) (lc base : Nat) (w : World) (hn : AN.length ≤ 2 ^ 40) (hr : AttsRow w base la lc AN) :
    Calls Tryz.prog 16 #[.slice la AN.length lc, .int .i64 j, .agg #[.int .i64 r.fate, .int .i64 r.r0, .int .i64 r.r1, .int .i64 r.r2, .int .i64 r.r3]] w fun e w' => e = .returned (.bool true) ∧ Below w.heap.size w w' := by
  obtain ⟨L, hL⟩ : ∃ L, L = AN.map (·.1) := ⟨_, rfl⟩
  rw [← hL] at ok
  have HOK : Hid (OnceOk L j r) := ok
  have HL : Hid (L = AN.map (·.1)) := hL
  have hr1 : ¬ r.fate < 0 := by have := ok.rf; omega
  have hr2 : ¬ r.fate > 4 := by have := ok.rf; omega
  obtain ⟨w0, hw0⟩ : ∃ w0, w0 = w.alloc (.cells #[.int .i64 r.fate, .int .i64 r.r0, .int .i64 r.r1, .int .i64 r.r2, .int .i64 r.r3] 47) := ⟨_, rfl⟩
  have hBw : Below w.heap.size w w0 := by rw [hw0]; exact (Below.refl w.heap.size w).alloc (Nat.le_refl _) _
  have HA : Hid (Blk w0 w.heap.size 47 #[.int .i64 r.fate, .int .i64 r.r0, .int .i64 r.r1, .int .i64 r.r2, .int .i64 r.r3]) := by rw [hw0]; exact Blk.new w 47 _
  have HBw : Hid (Below w.heap.size w w0) := hBw
  have HR : Hid (AttsRow w0 base la lc AN) := ownsRow_below hr hBw
  have HLl : Hid (L.length = AN.length) := by show _ = _; rw [hL]; simp
  have HOp : Hid (r.fate = 0 → r = noRes ∧ (lastF j L = 0 ∨ lastF j L = 5)) := ok.op
  have HCl : Hid (r.fate ≠ 0 → lastF j L = r.fate) := ok.cl
  clear ok hL hr hBw
  go_enter Tryz.func16, Tryz.ntmps16
  go_upto_region 1 with fail
  rw [← hw0]
  clear hw0
  have hcA := (HA.out).cell
  go_wp2_with fail
  clear hr1 hr2
  go_loopg [7, 8] (AN.length + 1) (fun m t7 t8 wr => ∃ k : Nat, t7 = .int .i64 (lastF j (L.take k)) ∧ t8 = .int .i64 (k : Int) ∧ k ≤ AN.length ∧ m = AN.length + 1 - k ∧ Hid (wr = w0))
  case atStart => exact ⟨0, rfl, rfl, by omega, by omega, rfl⟩
  case round =>
    obtain ⟨k, rfl, rfl, hk, hgk, HW⟩ := hrel
    obtain rfl : wr = w0 := HW.out
    clear HW
    by_cases hlt : k < AN.length
    · obtain ⟨x, hx⟩ : ∃ x, AN[k]? = some x := ⟨_, List.getElem?_eq_getElem hlt⟩
      obtain ⟨b, hb, hbl, c0, c1, c2, c3, c4, c5, c6, c7⟩ := AttsRow.at HR.out k x hx
      obtain ⟨⟨a0, a1, a2, a3, a4, a5, a6, al⟩, av⟩ := x
      simp only at c0 c1 c2 c3 c4 c5 c6 c7
      have hLk : L[k]? = some ⟨a0, a1, a2, a3, a4, a5, a6, al⟩ := by rw [HL.out]; exact fst_at hx
      have hk0 : (0 : Int) ≤ (k : Int) := by omega
      have hk1 : (k : Int) < (AN.length : Int) := by omega
      have hwk : IntKind.i64.wrap ((k : Int) + 1) = (k : Int) + 1 := wrapF _ (by omega) (by omega)
      subst hb
      have hcond := (HOK.out).at_ k _ hLk
      have hsn : lastF j (L.take (k + 1)) = if a1 = j then a6 else lastF j (L.take k) := by rw [tk_snoc hLk, lastF_snoc]
      simp only at hcond
      by_cases hj : a1 = j
      · rw [if_pos hj] at hsn
        obtain ⟨h1, h2⟩ := hcond hj
        have HSn : Hid (lastF j (L.take (k + 1)) = a6) := hsn
        have hjb : (a1 != j) = false := by simp [hj]
        obtain ⟨lf, hlf⟩ : ∃ lf, lf = lastF j (L.take k) := ⟨_, rfl⟩
        rw [← hlf] at h1 ⊢
        clear hlf hsn hcond hx hLk hj
        have hfs : (a5 = 0 ∧ a6 = 5) ∨ (a5 = 0 ∧ a6 ≠ 5) ∨ (a5 ≠ 0 ∧ a6 = 0) ∨ (a5 ≠ 0 ∧ a6 = 1) := by
          by_cases h5 : a5 = 0
          · by_cases h6 : a6 = 5
            · exact Or.inl ⟨h5, h6⟩
            · exact Or.inr (Or.inl ⟨h5, h6⟩)
          · rcases h2 h5 with h6 | h6
            · exact Or.inr (Or.inr (Or.inl ⟨h5, h6⟩))
            · exact Or.inr (Or.inr (Or.inr ⟨h5, h6⟩))
        clear h2
        rcases h1 with rfl | rfl <;> rcases hfs with ⟨rfl, rfl⟩ | ⟨rfl, hf⟩ | ⟨hf, rfl⟩ | ⟨hf, rfl⟩
        all_goals first | (have hfb : (a6 == 5) = false := by simp [hf]) | (have hfb : (a5 != 0) = true := by simp [hf]) | skip
        all_goals
          go_wp2
          go_roundg (gk - 1)
          case rel => exact ⟨k + 1, by rw [HSn.out], by simp, by omega, by omega, rfl⟩
          case measure => omega
      · rw [if_neg hj] at hsn
        have HSn : Hid (lastF j (L.take (k + 1)) = lastF j (L.take k)) := hsn
        have hjb : (a1 != j) = true := by simp [hj]
        clear hsn hcond hx hLk hj
        go_wp2
        go_roundg (gk - 1)
        case rel => exact ⟨k + 1, by rw [HSn.out], by simp, by omega, by omega, rfl⟩
        case measure => omega
    · have hke : ¬ (k : Int) < (AN.length : Int) := by omega
      have hkl : L.take k = L := List.take_of_length_le (by rw [HLl.out]; omega)
      rw [hkl]
      clear hkl
      by_cases hf : r.fate = 0
      · obtain ⟨hre, hl⟩ := HOp.out hf
        subst hre
        obtain ⟨lf, hlf⟩ : ∃ lf, lf = lastF j L := ⟨_, rfl⟩
        rw [← hlf] at hl ⊢
        clear hlf HOK HOp HCl hf
        rcases hl with rfl | rfl
        all_goals
          go_wp2_with (go_at_call 40; refine (kempty_any 0 _).mono ?_; rintro e w' ⟨rfl, hb'⟩; have HB' : Hid (Below _ _ _) := hb'; clear hb')
          go_ret
          exact ⟨rfl, (HBw.out).trans ((HB'.out).mono (HBw.out).size)⟩
      · have hl := HCl.out hf
        have hfb : (r.fate == 0) = false := by simp [hf]
        rw [hl]
        clear hl HOK HOp HCl
        go_wp2
        go_ret
        exact ⟨by simp, HBw.out⟩

end Go.Proofs.YtejadojilncbjabGreat

namespace Go.Proofs.YtejadojilncbjabGreat
open Go.RowKit
set_option linter.unusedVariables false
attribute [local go_sem ↓] Go.wp_at_zero Go.wp_at_succ

/-- The thread of a job in memory. -/
theorem job_at {w : World} {B : Nat} {ja : Option Addr} {jobs : List (Int × List InsD)} (h : JobsRep w B ja jobs) (k : Nat) (hk : k < jobs.length) : ∃ b off, ja = some ⟨b, off, none⟩ ∧ b < B ∧ w.cell? ⟨b, off + k * 2, none⟩ = some (.int .i64 (jobs.getD k (0, [])).1) := by
  obtain ⟨js, h1, h2, h3⟩ := h
  obtain ⟨b, off, e, hb, c0, _⟩ := h2 k (by omega)
  rw [(h3 k (by omega)).1] at c0
  exact ⟨b, off, e, hb, c0⟩

set_option maxRecDepth 100000 in
set_option maxHeartbeats 2000000 in
/-- The keepers' turns. -/
theorem turns_any (c : Cfg) (mem : List Int) (jobs : List (Int × List InsD)) (AN : List (AttD × Value)) (rs : List ResD) (t : Int) (ok : TurnsOk jobs (AN.map (·.1)) (fun j => rs.getD j noRes) t) (hrl : rs.length = jobs.length) (hjl : jobs.length ≤ 8) (ma ja la ra : Option Addr) (mc jc lc rc base : Nat) (w : World) (hn : AN.length ≤ 2 ^ 40)
    (hj : JobsRep w w.heap.size ja jobs) (hr : AttsRow w base la lc AN) (hs : ResIn w w.heap.size ra rs) :
    Calls Tryz.prog 17 #[.agg #[.int .i64 c.t, .int .i64 c.wd, .int .i64 c.s, .int .i64 c.g, .int .i64 c.r, .int .i64 c.cp, .int .i64 c.f, .slice ma mem.length mc, .slice ja jobs.length jc], .slice la AN.length lc, .slice ra rs.length rc, .int .i64 t] w fun e w' => e = .returned (.bool true) ∧ Below w.heap.size w w' := by
  obtain ⟨L, hL⟩ : ∃ L, L = AN.map (·.1) := ⟨_, rfl⟩
  rw [← hL] at ok
  have HOK : Hid (TurnsOk jobs L (fun j => rs.getD j noRes) t) := ok
  have HL : Hid (L = AN.map (·.1)) := hL
  obtain ⟨w0, hw0⟩ : ∃ w0, w0 = w.alloc (.cells #[.int .i64 c.t, .int .i64 c.wd, .int .i64 c.s, .int .i64 c.g, .int .i64 c.r, .int .i64 c.cp, .int .i64 c.f, .slice ma mem.length mc, .slice ja jobs.length jc] 27) := ⟨_, rfl⟩
  have hBw : Below w.heap.size w w0 := by rw [hw0]; exact (Below.refl w.heap.size w).alloc (Nat.le_refl _) _
  have HSb : Hid (Blk w0 w.heap.size 27 #[.int .i64 c.t, .int .i64 c.wd, .int .i64 c.s, .int .i64 c.g, .int .i64 c.r, .int .i64 c.cp, .int .i64 c.f, .slice ma mem.length mc, .slice ja jobs.length jc]) := by rw [hw0]; exact Blk.new w 27 _
  have HBw : Hid (Below w.heap.size w w0) := hBw
  have HR : Hid (AttsRow w0 base la lc AN) := ownsRow_below hr hBw
  have HJ : Hid (JobsRep w0 w0.heap.size ja jobs) := hj.up2 hBw
  have HRs : Hid (ResIn w0 w0.heap.size ra rs) := hs.up hBw
  have HRl : Hid (rs.length = jobs.length) := hrl
  obtain ⟨RN, hRN⟩ : ∃ RN, RN = rs.length := ⟨_, rfl⟩
  have e1 : RN = jobs.length := hRN.trans hrl
  rw [← hRN]
  clear ok hL hr hBw hj hs hrl hRN
  subst e1
  go_enter Tryz.func17, Tryz.ntmps17
  go_upto_region 1 with fail
  rw [← hw0]
  clear hw0
  have hsc := (HSb.out).cell
  go_wp2_with fail
  go_loopg [9, 10, 11, 12] (AN.length + 1) (fun m t9 t10 t11 t12 wr => ∃ k : Nat, t9 = .int .i64 (tnF t (L.take k)).1 ∧ t10 = .bool (tnF t (L.take k)).2.1 ∧ t11 = .int .i64 (tnF t (L.take k)).2.2 ∧ t12 = .int .i64 (k : Int) ∧ k ≤ AN.length ∧ m = AN.length + 1 - k ∧ Hid (wr = w0))
  case atStart => exact ⟨0, rfl, rfl, rfl, rfl, by omega, by omega, rfl⟩
  case round =>
    obtain ⟨k, rfl, rfl, rfl, rfl, hk, hgk, HW⟩ := hrel
    have hw : w0 = wr := (HW.out).symm
    subst hw
    clear HW
    by_cases hlt : k < AN.length
    · obtain ⟨x, hx⟩ : ∃ x, AN[k]? = some x := ⟨_, List.getElem?_eq_getElem hlt⟩
      obtain ⟨b, hb, hbl, c0, c1, c2, c3, c4, c5, c6, c7⟩ := AttsRow.at HR.out k x hx
      obtain ⟨⟨a0, a1, a2, a3, a4, a5, a6, al⟩, av⟩ := x
      simp only at c0 c1 c2 c3 c4 c5 c6 c7
      have hLk : L[k]? = some ⟨a0, a1, a2, a3, a4, a5, a6, al⟩ := by rw [HL.out]; exact fst_at hx
      have hk0 : (0 : Int) ≤ (k : Int) := by omega
      have hk1 : (k : Int) < (AN.length : Int) := by omega
      have hwk : IntKind.i64.wrap ((k : Int) + 1) = (k : Int) + 1 := wrapF _ (by omega) (by omega)
      subst hb
      have hcond := HOK.out k _ hLk
      have hsn : tnF t (L.take (k + 1)) = if a0 = t then (a3, a3 == 0, a1) else tnF t (L.take k) := by rw [tk_snoc hLk, tnF_snoc]
      simp only at hcond
      by_cases hj : a0 = t
      · rw [if_pos hj] at hsn
        obtain ⟨h1, h2, h3, h4, h5, h6⟩ := hcond hj
        have HSn : Hid (tnF t (L.take (k + 1)) = (a3, a3 == 0, a1)) := hsn
        have H6 : Hid (∀ j : Nat, (j : Int) < a1 → (jobs.getD j (0, [])).1 = t → (rs.getD j noRes).fate ≠ 0) := h6
        have hjb : (a0 != t) = false := by simp [hj]
        obtain ⟨s1, hs1⟩ : ∃ s1, s1 = (tnF t (L.take k)).1 := ⟨_, rfl⟩
        obtain ⟨s3, hs3⟩ : ∃ s3, s3 = (tnF t (L.take k)).2.2 := ⟨_, rfl⟩
        rw [h1, ← hs1, ← hs3]
        rw [← hs1] at h2
        rw [← hs3] at h3
        have g2 : ¬ a2 ≤ s1 := by omega
        have g3 : ¬ a1 < s3 := by omega
        have g4 : ¬ a1 < 0 := by omega
        have g5 : ¬ a1 ≥ (jobs.length : Int) := by omega
        obtain ⟨A1, hA1⟩ := Int.eq_ofNat_of_zero_le h4
        have hA1' : a1 = (A1 : Int) := hA1
        clear hs1 hs3 hsn hcond hx hLk hj h1 h2 h3 h6 hA1
        subst hA1'
        go_wp2_with fail
        go_loopg [13] (A1 + 1) (fun m t13 wr => ∃ j : Nat, t13 = .int .i64 (j : Int) ∧ j ≤ A1 ∧ m = A1 + 1 - j ∧ Hid (wr = w0))
        case atStart => exact ⟨0, rfl, by omega, by omega, rfl⟩
        case round =>
          obtain ⟨j, rfl, hjj, hgj, HW⟩ := hrel
          have hw : w0 = wr := (HW.out).symm
          subst hw
          clear HW
          by_cases hjl2 : j < A1
          · obtain ⟨jb, joff, hja, hjbl, jc0⟩ := job_at HJ.out j (by omega)
            obtain ⟨rb, hra, hrbl, rc0, _⟩ := HRs.out j (by rw [HRl.out]; omega)
            have hj0 : (0 : Int) ≤ (j : Int) := by omega
            have hj1 : (j : Int) < (A1 : Int) := by omega
            have hj2 : (j : Int) < (jobs.length : Int) := by omega
            have hwj : IntKind.i64.wrap ((j : Int) + 1) = (j : Int) + 1 := wrapF _ (by omega) (by omega)
            have h7 := H6.out j hj1
            subst hja hra
            obtain ⟨tj, htj⟩ : ∃ tj, tj = (jobs.getD j (0, [])).1 := ⟨_, rfl⟩
            obtain ⟨fj, hfj⟩ : ∃ fj, fj = (rs.getD j noRes).fate := ⟨_, rfl⟩
            rw [← htj] at jc0 h7
            rw [← hfj] at rc0 h7
            clear htj hfj
            by_cases h8 : tj = t
            · have h9 : (fj == 0) = false := by simp [h7 h8]
              have h10 : (tj == t) = true := by simp [h8]
              clear h7 h8
              go_wp2_with fail
              go_roundg (A1 + 1 - (j + 1))
              case rel => exact ⟨j + 1, by simp, by omega, by omega, rfl⟩
              case measure => omega
            · have h10 : (tj == t) = false := by simp [h8]
              clear h7 h8
              go_wp2_with fail
              go_roundg (A1 + 1 - (j + 1))
              case rel => exact ⟨j + 1, by simp, by omega, by omega, rfl⟩
              case measure => omega
          · have hje : ¬ (j : Int) < (A1 : Int) := by omega
            go_wp2_with fail
            go_roundg (AN.length + 1 - (k + 1))
            case rel => exact ⟨k + 1, by rw [HSn.out], by rw [HSn.out], by rw [HSn.out], by simp, by omega, by omega, rfl⟩
            case measure => omega
      · rw [if_neg hj] at hsn
        have HSn : Hid (tnF t (L.take (k + 1)) = tnF t (L.take k)) := hsn
        have hjb : (a0 != t) = true := by simp [hj]
        clear hsn hcond hx hLk hj
        go_wp2_with fail
        go_roundg (gk - 1)
        case rel => exact ⟨k + 1, by rw [HSn.out], by rw [HSn.out], by rw [HSn.out], by simp, by omega, by omega, rfl⟩
        case measure => omega
    · have hke : ¬ (k : Int) < (AN.length : Int) := by omega
      go_wp2_with fail
      go_ret
      exact ⟨rfl, HBw.out⟩

set_option maxRecDepth 100000 in
set_option maxHeartbeats 2000000 in
/-- The keepers' calm. -/
theorem kcalm_any (c : Cfg) (mem : List Int) (jobs : List (Int × List InsD)) (AN : List (AttD × Value)) (ok : (∀ j, j < jobs.length → (jobs.getD j (0, [])).1 = (jobs.getD 0 (0, [])).1) → ∀ a ∈ AN.map (·.1), a.fate ≠ 5) (hjl : jobs.length ≤ 8) (ma ja la : Option Addr) (mc jc lc base : Nat) (w : World) (hn : AN.length ≤ 2 ^ 40)
    (hj : JobsRep w w.heap.size ja jobs) (hr : AttsRow w base la lc AN) :
    Calls Tryz.prog 18 #[.agg #[.int .i64 c.t, .int .i64 c.wd, .int .i64 c.s, .int .i64 c.g, .int .i64 c.r, .int .i64 c.cp, .int .i64 c.f, .slice ma mem.length mc, .slice ja jobs.length jc], .slice la AN.length lc] w fun e w' => e = .returned (.bool true) ∧ Below w.heap.size w w' := by
  have HOK : Hid ((∀ j, j < jobs.length → (jobs.getD j (0, [])).1 = (jobs.getD 0 (0, [])).1) → ∀ a ∈ AN.map (·.1), a.fate ≠ 5) := ok
  obtain ⟨w0, hw0⟩ : ∃ w0, w0 = w.alloc (.cells #[.int .i64 c.t, .int .i64 c.wd, .int .i64 c.s, .int .i64 c.g, .int .i64 c.r, .int .i64 c.cp, .int .i64 c.f, .slice ma mem.length mc, .slice ja jobs.length jc] 27) := ⟨_, rfl⟩
  have hBw : Below w.heap.size w w0 := by rw [hw0]; exact (Below.refl w.heap.size w).alloc (Nat.le_refl _) _
  have HSb : Hid (Blk w0 w.heap.size 27 #[.int .i64 c.t, .int .i64 c.wd, .int .i64 c.s, .int .i64 c.g, .int .i64 c.r, .int .i64 c.cp, .int .i64 c.f, .slice ma mem.length mc, .slice ja jobs.length jc]) := by rw [hw0]; exact Blk.new w 27 _
  have HBw : Hid (Below w.heap.size w w0) := hBw
  have HR : Hid (AttsRow w0 base la lc AN) := ownsRow_below hr hBw
  have HJ : Hid (JobsRep w0 w0.heap.size ja jobs) := hj.up2 hBw
  clear ok hr hBw hj
  go_enter Tryz.func18, Tryz.ntmps18
  go_upto_region 1 with fail
  rw [← hw0]
  clear hw0
  go_wp2_with fail
  go_loopg [5] (jobs.length + 1) (fun m t5 wr => ∃ k : Nat, t5 = .int .i64 ((k : Int) + 1) ∧ k ≤ jobs.length ∧ m = jobs.length + 1 - k ∧ Hid (∀ j, j ≤ k → j < jobs.length → (jobs.getD j (0, [])).1 = (jobs.getD 0 (0, [])).1) ∧ Hid (Below w0.heap.size w0 wr))
  case atStart => exact ⟨0, rfl, by omega, by omega, fun j hj _ => by rw [show j = 0 by omega], Below.refl _ _⟩
  case round =>
    obtain ⟨k, rfl, hk, hgk, HE, HBk⟩ := hrel
    have hsc := ((HSb.out).below HBk.out (HSb.out).lt).cell
    by_cases hlt : k + 1 < jobs.length
    · obtain ⟨jb, joff, hja, hjbl, jc0⟩ := job_at HJ.out (k + 1) hlt
      obtain ⟨jb2, joff2, hja2, _, jc2⟩ := job_at HJ.out 0 (by omega)
      rw [hja] at hja2
      cases hja2
      have d0 := (World.cell?_of_block (a := ⟨jb, joff + (k + 1) * 2, none⟩) ((HBk.out).block jb hjbl)).trans jc0
      have d2 := (World.cell?_of_block (a := ⟨jb, joff + 0 * 2, none⟩) ((HBk.out).block jb hjbl)).trans jc2
      have hk0 : (0 : Int) ≤ (k : Int) + 1 := by omega
      have hk1 : (k : Int) + 1 < (jobs.length : Int) := by omega
      have hkp : (0 : Int) < (jobs.length : Int) := by omega
      have hkt : ((k : Int) + 1).toNat = k + 1 := by omega
      have hwk : IntKind.i64.wrap ((k : Int) + 1 + 1) = (k : Int) + 1 + 1 := wrapF _ (by omega) (by omega)
      subst hja
      obtain ⟨tj, htj⟩ : ∃ tj, tj = (jobs.getD (k + 1) (0, [])).1 := ⟨_, rfl⟩
      obtain ⟨t0, ht0⟩ : ∃ t0, t0 = (jobs.getD 0 (0, [])).1 := ⟨_, rfl⟩
      have HE2 : Hid (tj = t0 → ∀ j, j ≤ k + 1 → j < jobs.length → (jobs.getD j (0, [])).1 = (jobs.getD 0 (0, [])).1) := fun e j hj hjl => by
        by_cases hje : j = k + 1
        · rw [hje, ← htj, ← ht0]; exact e
        · exact HE.out j (by omega) hjl
      rw [← htj] at d0
      rw [← ht0] at d2
      rw [Nat.zero_mul, Nat.add_zero] at d2
      clear htj ht0 jc0 jc2 HE
      by_cases he : tj = t0
      · have heb : (tj != t0) = false := by simp [he]
        have HE3 := HE2.out he
        clear HE2
        go_wp2
        go_quiet (fail)
        go_wp2
        go_roundg (gk - 1)
        case rel => exact ⟨k + 1, by simp, by omega, by omega, HE3, belowDrewN HBk.out nq⟩
        case measure => omega
      · have heb : (tj != t0) = true := by simp [he]
        clear HE2
        go_wp2
        go_quiet (fail)
        go_wp2
        go_ret
        exact ⟨rfl, (HBw.out).trans ((belowDrewN HBk.out nq).mono (HBw.out).size)⟩
    · have hke : ¬ (k : Int) + 1 < (jobs.length : Int) := by omega
      obtain ⟨w1, hw1⟩ : ∃ w1, w1 = wr := ⟨_, rfl⟩
      subst hw1
      have HF : Hid (∀ a ∈ AN.map (·.1), a.fate ≠ 5) := HOK.out (fun j hj => HE.out j (by omega) hj)
      have HR1 : Hid (AttsRow w1 base la lc AN) := ownsRow_below HR.out HBk.out
      have HB1 : Hid (Below w.heap.size w w1) := (HBw.out).trans ((HBk.out).mono (HBw.out).size)
      clear HOK HE HBk HR HBw
      go_wp2_with fail
      go_loopg [6] (AN.length + 1) (fun m t6 wr => ∃ k : Nat, t6 = .int .i64 (k : Int) ∧ k ≤ AN.length ∧ m = AN.length + 1 - k ∧ Hid (wr = w1))
      case atStart => exact ⟨0, rfl, by omega, by omega, rfl⟩
      case round =>
        obtain ⟨i, rfl, hi, hgi, HW⟩ := hrel
        have hw : w1 = wr := (HW.out).symm
        subst hw
        clear HW
        by_cases hil : i < AN.length
        · obtain ⟨x, hx⟩ : ∃ x, AN[i]? = some x := ⟨_, List.getElem?_eq_getElem hil⟩
          obtain ⟨b, hb, hbl, c0, c1, c2, c3, c4, c5, c6, c7⟩ := AttsRow.at HR1.out i x hx
          have hf := HF.out x.1 (List.mem_of_getElem? (fst_at hx))
          have hi0 : (0 : Int) ≤ (i : Int) := by omega
          have hi1 : (i : Int) < (AN.length : Int) := by omega
          have hwi : IntKind.i64.wrap ((i : Int) + 1) = (i : Int) + 1 := wrapF _ (by omega) (by omega)
          subst hb
          have hfb : (x.1.fate == 5) = false := by simp [hf]
          clear hx hf c0 c1 c2 c3 c4 c5 c7
          go_wp2_with fail
          go_roundg (AN.length + 1 - (i + 1))
          case rel => exact ⟨i + 1, by simp, by omega, by omega, rfl⟩
          case measure => omega
        · have hie : ¬ (i : Int) < (AN.length : Int) := by omega
          go_wp2_with fail
          go_ret
          exact ⟨rfl, HB1.out⟩

end Go.Proofs.YtejadojilncbjabGreat

namespace Go.Proofs.YtejadojilncbjabGreat
set_option linter.unusedVariables false

/-! The book of attempts, pure. -/

def Srt (l : List AttD) : Prop := l.Pairwise fun a b => a.start < b.start

theorem srt_eq : ∀ (l l' : List AttD), Srt l → Srt l' → (∀ a, a ∈ l ↔ a ∈ l') → l = l'
  | [], [], _, _, _ => rfl
  | [], b :: l', _, _, h => by have := (h b).2 (by simp); cases this
  | a :: l, [], _, _, h => by have := (h a).1 (by simp); cases this
  | a :: l, b :: l', h1, h2, h => by
    obtain ⟨p1, p2⟩ := List.pairwise_cons.1 h1
    obtain ⟨q1, q2⟩ := List.pairwise_cons.1 h2
    have e : a = b := by
      have ha := (h a).1 (by simp)
      have hb := (h b).2 (by simp)
      simp only [List.mem_cons] at ha hb
      rcases ha with ha | ha
      · exact ha
      · rcases hb with hb | hb
        · exact hb.symm
        · have := q1 a ha
          have := p1 b hb
          omega
    subst e
    have : l = l' := srt_eq l l' p2 q2 (fun c => by
      have := h c
      simp only [List.mem_cons] at this
      constructor
      · intro hc
        rcases this.1 (Or.inr hc) with rfl | h3
        · have := p1 c hc; omega
        · exact h3
      · intro hc
        rcases this.2 (Or.inr hc) with rfl | h3
        · have := q1 c hc; omega
        · exact h3)
    rw [this]

/-- The book behind k picks: all attempts in the order of their Starts, and of each thread the place of its latest. -/
structure BkI (R : Rn) (k : Nat) (l : List AttD) (lat : List Int) : Prop where
  srt : Srt l
  mem : ∀ a, a ∈ l ↔ ∃ t, 0 ≤ t ∧ t < R.c.t ∧ a ∈ ((R.g k).th t).list
  lst : ∀ t : Nat, (t : Int) < R.c.t → ∀ z, ((R.g k).th (t : Int)).list.getLast? = some z → ∃ m : Nat, lat.getD t 0 = (m : Int) ∧ l[m]? = some z

theorem BkI.hist {R : Rn} (O : R.Ok) {l : List AttD} {lat : List Int} (h : BkI R R.ps.length l lat) : l = R.hist :=
  srt_eq l R.hist h.srt (histL_srt R) (fun a => by rw [h.mem a, histL_mem])

theorem BkI.same {R : Rn} {k : Nat} {l : List AttD} {lat : List Int} (h : BkI R k l lat) (e : ∀ t, 0 ≤ t → t < R.c.t → ((R.g (k + 1)).th t).list = ((R.g k).th t).list) : BkI R (k + 1) l lat := by
  refine ⟨h.srt, fun a => ?_, fun t ht z hz => h.lst t ht z (by rw [← e t (by omega) ht]; exact hz)⟩
  rw [h.mem a]
  constructor
  · rintro ⟨t, h0, h1, h2⟩; exact ⟨t, h0, h1, by rw [e t h0 h1]; exact h2⟩
  · rintro ⟨t, h0, h1, h2⟩; exact ⟨t, h0, h1, by rw [← e t h0 h1]; exact h2⟩

theorem BkI.new {R : Rn} (O : R.Ok) {k : Nat} {l : List AttD} {lat : List Int} (h : BkI R k l lat) (t : Nat) (ht : (t : Int) < R.c.t) (hlat : t < lat.length) (a : AttD) (hs : a.start = (k : Int) + 1)
    (e1 : ((R.g (k + 1)).th (t : Int)).list = ((R.g k).th (t : Int)).list ++ [a]) (e : ∀ u, 0 ≤ u → u < R.c.t → u ≠ (t : Int) → ((R.g (k + 1)).th u).list = ((R.g k).th u).list) : BkI R (k + 1) (l ++ [a]) (lat.set t (l.length : Int)) := by
  refine ⟨?_, fun b => ?_, fun u hu z hz => ?_⟩
  · unfold Srt
    rw [List.pairwise_append]
    refine ⟨h.srt, by simp, fun b hb c hc => ?_⟩
    simp at hc
    subst hc
    obtain ⟨u, u0, u1, u2⟩ := (h.mem b).1 hb
    have := (la_t k u u0 u1 u2).s2
    omega
  · rw [List.mem_append, h.mem b]
    constructor
    · rintro (⟨u, u0, u1, u2⟩ | hb)
      · by_cases hu : u = (t : Int)
        · subst hu; exact ⟨_, u0, u1, by rw [e1]; simp [u2]⟩
        · exact ⟨u, u0, u1, by rw [e u u0 u1 hu]; exact u2⟩
      · simp at hb; subst hb; exact ⟨(t : Int), by omega, ht, by rw [e1]; simp⟩
    · rintro ⟨u, u0, u1, u2⟩
      by_cases hu : u = (t : Int)
      · subst hu
        rw [e1, List.mem_append] at u2
        rcases u2 with u2 | u2
        · exact Or.inl ⟨_, u0, u1, u2⟩
        · exact Or.inr u2
      · exact Or.inl ⟨u, u0, u1, by rw [← e u u0 u1 hu]; exact u2⟩
  · by_cases hu' : u = t
    · subst hu'
      rw [e1, List.getLast?_append] at hz
      simp at hz
      subst hz
      exact ⟨l.length, by simp [List.getD, hlat], by simp⟩
    · rw [e (u : Int) (by omega) hu (by omega)] at hz
      obtain ⟨m, h1, h2⟩ := h.lst u hu z hz
      refine ⟨m, ?_, ?_⟩
      · rw [← h1]
        simp [List.getD, Ne.symm hu']
      · rw [List.getElem?_append_left (List.getElem?_eq_some_iff.1 h2).1]
        exact h2

theorem srt_at {l : List AttD} (h : Srt l) {i j : Nat} {a b : AttD} (hi : l[i]? = some a) (hj : l[j]? = some b) (hs : a.start = b.start) : i = j := by
  obtain ⟨li, rfl⟩ := List.getElem?_eq_some_iff.1 hi
  obtain ⟨lj, rfl⟩ := List.getElem?_eq_some_iff.1 hj
  have hp := List.pairwise_iff_getElem.1 h
  rcases Nat.lt_trichotomy i j with h1 | h1 | h1
  · have := hp i j li lj h1; omega
  · exact h1
  · have := hp j i lj li h1; omega

theorem mem_modLast {l : List AttD} {f : AttD → AttD} {z b : AttD} (hz : l.getLast? = some z) (hl : Srt l) (hf : (f z).start = z.start) : b ∈ modLast l f ↔ b = f z ∨ (b ∈ l ∧ b.start ≠ z.start) := by
  obtain ⟨l0, rfl⟩ := List.getLast?_eq_some_iff.1 hz
  have hm : modLast (l0 ++ [z]) f = l0 ++ [f z] := modLast_snoc _ _ _
  obtain ⟨p1, p2, p3⟩ := List.pairwise_append.1 hl
  rw [hm, List.mem_append, List.mem_append]
  constructor
  · rintro (h | h)
    · have := p3 b h z (by simp)
      exact Or.inr ⟨Or.inl h, by omega⟩
    · simp at h; exact Or.inl h
  · rintro (h | ⟨h | h, h2⟩)
    · exact Or.inr (by simp [h])
    · exact Or.inl h
    · simp at h; subst h; exact absurd rfl h2

theorem BkI.mod {R : Rn} (O : R.Ok) {k : Nat} {l : List AttD} {lat : List Int} (h : BkI R k l lat) (t : Nat) (ht : (t : Int) < R.c.t) (z : AttD) (hz : ((R.g k).th (t : Int)).list.getLast? = some z) (f : AttD → AttD) (hf : (f z).start = z.start)
    (e1 : ((R.g (k + 1)).th (t : Int)).list = modLast ((R.g k).th (t : Int)).list f) (e : ∀ u, 0 ≤ u → u < R.c.t → u ≠ (t : Int) → ((R.g (k + 1)).th u).list = ((R.g k).th u).list) :
    ∃ m : Nat, m < l.length ∧ lat.getD t 0 = (m : Int) ∧ BkI R (k + 1) (l.set m (f z)) lat := by
  obtain ⟨m, hm1, hm2⟩ := h.lst t ht z hz
  obtain ⟨hml, hme⟩ := List.getElem?_eq_some_iff.1 hm2
  have hzm : z ∈ ((R.g k).th (t : Int)).list := List.mem_of_getLast? hz
  have hst := la_srt k (t : Int) (by omega) ht
  have hset : ∀ b, b ∈ l.set m (f z) ↔ b = f z ∨ (b ∈ l ∧ b.start ≠ z.start) := fun b => by
    rw [List.mem_iff_getElem?]
    constructor
    · rintro ⟨i, hi⟩
      rw [List.getElem?_set] at hi
      by_cases hmi : m = i
      · rw [if_pos hmi, if_pos hml] at hi
        exact Or.inl (Option.some.inj hi).symm
      · rw [if_neg hmi] at hi
        exact Or.inr ⟨List.mem_of_getElem? hi, fun hs => hmi (srt_at h.srt hi hm2 hs).symm⟩
    · rintro (rfl | ⟨hb, hs⟩)
      · exact ⟨m, by rw [List.getElem?_set, if_pos rfl, if_pos hml]⟩
      · obtain ⟨i, hi⟩ := List.mem_iff_getElem?.1 hb
        refine ⟨i, ?_⟩
        rw [List.getElem?_set, if_neg]
        · exact hi
        · rintro rfl
          rw [hm2] at hi
          exact hs (by rw [← Option.some.inj hi])
  refine ⟨m, hml, hm1, ?_, fun b => ?_, fun u hu y hy => ?_⟩
  · unfold Srt
    rw [List.pairwise_iff_getElem]
    intro i j hi hj hij
    have hp := List.pairwise_iff_getElem.1 h.srt
    have key : ∀ (i : Nat) (hi : i < (l.set m (f z)).length), ((l.set m (f z))[i]).start = (l[i]'(by simpa using hi)).start := fun i hi => by
      rw [List.getElem_set]
      split
      · rename_i hmi
        subst hmi
        rw [hf, hme]
      · rfl
    rw [key i hi, key j hj]
    exact hp i j _ _ hij
  · rw [hset b, h.mem b]
    constructor
    · rintro (hb | ⟨⟨u, u0, u1, u2⟩, hs⟩)
      · exact ⟨(t : Int), by omega, ht, by rw [e1]; exact (mem_modLast hz hst hf).2 (Or.inl hb)⟩
      · by_cases hu : u = (t : Int)
        · subst hu
          exact ⟨_, u0, u1, by rw [e1]; exact (mem_modLast hz hst hf).2 (Or.inr ⟨u2, hs⟩)⟩
        · exact ⟨u, u0, u1, by rw [e u u0 u1 hu]; exact u2⟩
    · rintro ⟨u, u0, u1, u2⟩
      by_cases hu : u = (t : Int)
      · subst hu
        rw [e1] at u2
        rcases (mem_modLast hz hst hf).1 u2 with h1 | ⟨h1, h2⟩
        · exact Or.inl h1
        · exact Or.inr ⟨⟨_, u0, u1, h1⟩, h2⟩
      · rw [e u u0 u1 hu] at u2
        refine Or.inr ⟨⟨u, u0, u1, u2⟩, fun hs => hu ?_⟩
        have A := la_t k u u0 u1 u2
        have B := la_t k (t : Int) (by omega) ht hzm
        have p1 := A.pk
        have p2 := B.pk
        rw [hs] at p1
        exact p1.symm.trans p2
  · by_cases hu' : u = t
    · subst hu'
      have hy2 : y = f z := by
        obtain ⟨l0, hl0⟩ := List.getLast?_eq_some_iff.1 hz
        rw [e1, hl0] at hy
        have hm : modLast (l0 ++ [z]) f = l0 ++ [f z] := modLast_snoc _ _ _
        rw [hm] at hy
        simp at hy
        exact hy.symm
      exact ⟨m, hm1, by rw [List.getElem?_set, if_pos rfl, if_pos hml, hy2]⟩
    · rw [e (u : Int) (by omega) hu (by omega)] at hy
      obtain ⟨n, h1, h2⟩ := h.lst u hu y hy
      refine ⟨n, h1, ?_⟩
      rw [List.getElem?_set, if_neg]
      · exact h2
      · rintro rfl
        rw [hm2] at h2
        have hyz := Option.some.inj h2
        have A := la_t k (u : Int) (by omega) hu (List.mem_of_getLast? hy)
        have B := la_t k (t : Int) (by omega) ht hzm
        have p1 := A.pk
        have p2 := B.pk
        rw [← hyz] at p1
        have := p1.symm.trans p2
        omega

end Go.Proofs.YtejadojilncbjabGreat

namespace Go.Proofs.YtejadojilncbjabGreat
set_option linter.unusedVariables false

theorem list_kind0 {K : Cx} {h : Th} {v : AnsD} (h0 : (hOut K h).kind = 0) : (hNext K h v).list = h.list := by
  unfold hNext
  split
  all_goals rename_i heq
  all_goals first
    | rfl
    | (exfalso; unfold hOut at h0; rw [heq] at h0; simp at h0; done)
    | (split <;> rfl)

/-- A pick's step of the book. -/
theorem BkI.step {R : Rn} (O : R.Ok) {k : Nat} {l : List AttD} {lat : List Int} (h : BkI R k l lat) (hlat : R.c.t ≤ (lat.length : Int)) (hne : ∀ t, 0 ≤ t → t < R.c.t → ((R.g k).th t).st ≠ .start → (R.out k t).kind ≠ 0 → ((R.g k).th t).list ≠ []) :
    ((¬ (0 ≤ (R.pk k).thread ∧ (R.pk k).thread < R.c.t) ∨ (R.out k (R.pk k).thread).kind = 0) ∧ BkI R (k + 1) l lat) ∨
    (∃ (t : Nat) (z : AttD), (R.pk k).thread = (t : Int) ∧ (t : Int) < R.c.t ∧ (R.out k (t : Int)).kind ≠ 0 ∧ ((R.g (k + 1)).th (t : Int)).list.getLast? = some z ∧
      ((z.start = (k : Int) + 1 ∧ BkI R (k + 1) (l ++ [z]) (lat.set t (l.length : Int))) ∨ (z.start ≠ (k : Int) + 1 ∧ ∃ m : Nat, m < l.length ∧ lat.getD t 0 = (m : Int) ∧ BkI R (k + 1) (l.set m z) lat))) := by
  by_cases hr : 0 ≤ (R.pk k).thread ∧ (R.pk k).thread < R.c.t
  · obtain ⟨t, ht⟩ := Int.eq_ofNat_of_zero_le hr.1
    have ht' : (R.pk k).thread = (t : Int) := ht
    have h1 : (t : Int) < R.c.t := by omega
    have off : ∀ u, 0 ≤ u → u < R.c.t → u ≠ (t : Int) → ((R.g (k + 1)).th u).list = ((R.g k).th u).list := fun u _ _ hu => by rw [R.off k (by rw [ht']; exact fun e => hu e.symm)]
    have at_ := R.at k ht' (by omega) h1
    by_cases h0 : (R.out k (t : Int)).kind = 0
    · refine Or.inl ⟨Or.inr (by rw [ht']; exact h0), h.same fun u u0 u1 => ?_⟩
      by_cases hu : u = (t : Int)
      · subst hu
        rw [at_]
        exact list_kind0 h0
      · exact off u u0 u1 hu
    · refine Or.inr ⟨t, ?_⟩
      by_cases hs : ((R.g k).th (t : Int)).st = .start
      · obtain ⟨a, e1, e2, _⟩ := lm_start (R.K (t : Int)) ((R.g k).th (t : Int)) ⟨(accBy (R.g k).m (R.out k (t : Int))).seen, (R.pk k).draw, (k : Int) + 1⟩ hs
        rw [← at_] at e1
        exact ⟨a, ht', h1, h0, by rw [e1]; simp, Or.inl ⟨e2, h.new O t h1 (by omega) a e2 e1 off⟩⟩
      · obtain ⟨f, hf, e1⟩ := lm_next (R.K (t : Int)) ((R.g k).th (t : Int)) ⟨(accBy (R.g k).m (R.out k (t : Int))).seen, (R.pk k).draw, (k : Int) + 1⟩ hs
        rw [← at_] at e1
        obtain ⟨l0, z, hz⟩ := snoc_of (hne (t : Int) (by omega) h1 hs h0)
        have hzl : ((R.g k).th (t : Int)).list.getLast? = some z := by rw [hz]; simp
        obtain ⟨m, m1, m2, m3⟩ := h.mod O t h1 z hzl f (hf z).1 e1 off
        have A := la_t k (t : Int) (by omega) h1 (List.mem_of_getLast? hzl)
        refine ⟨f z, ht', h1, h0, ?_, Or.inr ⟨?_, m, m1, m2, m3⟩⟩
        · rw [e1, hz, modLast_snoc]; simp
        · rw [(hf z).1]; have := A.s2; omega
  · refine Or.inl ⟨Or.inl hr, h.same fun u u0 u1 => ?_⟩
    rw [R.off k (fun e => hr (by rw [e]; exact ⟨u0, u1⟩))]

end Go.Proofs.YtejadojilncbjabGreat
