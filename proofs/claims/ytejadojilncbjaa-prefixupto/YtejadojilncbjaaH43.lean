import Derived.Test.YtejadojilncbjaaH22
import Derived.Test.YtejadojilncbjaaH01
import Derived.Test.YtejadojilncbjaaH11
import Derived.Test.YtejadojilncbjaaH18
import Derived.Test.YtejadojilncbjaaH42
import Derived.Test.YtejadojilncbjaaH29
namespace Go.Proofs.Ytejadojilncbjaa
open Go.RowKit
set_option linter.unusedVariables false
attribute [local go_sem ↓] Go.wp_at_zero Go.wp_at_succ

/-- Which of n things a raw number speaks of. -/
theorem kpick_any (c n : Int) (hc : -9223372036854775808 ≤ c ∧ c ≤ 9223372036854775807) (hn : 0 < n ∧ n ≤ 1125899906842624) (w : World) :
    Calls Try.prog 24 #[.int .i64 c, .int .i64 n] w fun e w' => (∃ m : Nat, e = .returned (.int .i64 (m : Int)) ∧ (m : Int) < n) ∧ w' = w := by
  have key : ∀ d : Int, 0 ≤ d → ∃ m : Nat, d.tmod n = (m : Int) ∧ (m : Int) < n := fun d hd => by
    rw [Int.tmod_eq_emod_of_nonneg hd]
    have h1 := Int.emod_nonneg d (show n ≠ 0 by omega)
    have h2 := Int.emod_lt_of_pos d hn.1
    exact ⟨(d % n).toNat, by omega, by omega⟩
  have hn0 : (n == 0) = false := by simp; omega
  have hn0' : ¬ n = 0 := by omega
  by_cases h : c < 0
  · have h1 : IntKind.i64.wrap (c + 1) = c + 1 := by rw [IntKind.wrap_i64]; omega
    have h2 : IntKind.i64.wrap (-(c + 1)) = -(c + 1) := by rw [IntKind.wrap_i64]; omega
    obtain ⟨m, hm, hmn⟩ := key (-(c + 1)) (by omega)
    have h3 : IntKind.i64.wrap (m : Int) = (m : Int) := by rw [IntKind.wrap_i64]; omega
    clear key
    generalize hd : -(c + 1) = d at *
    go_enter Try.func24, Try.ntmps24
    go_wp2
    go_ret
    exact ⟨⟨m, by simp, hmn⟩, rfl⟩
  · obtain ⟨m, hm, hmn⟩ := key c (by omega)
    have h3 : IntKind.i64.wrap (m : Int) = (m : Int) := by rw [IntKind.wrap_i64]; omega
    clear key
    go_enter Try.func24, Try.ntmps24
    go_wp2
    go_ret
    exact ⟨⟨m, by simp, hmn⟩, rfl⟩

/-- What the keepers' sameResult tells. -/
def KResIs (C : Prop) (w : World) (e : Ending) (w' : World) : Prop := ∃ b : Bool, e = .returned (.bool b) ∧ (C → b = true) ∧ Below w.heap.size w w'

set_option maxHeartbeats 2000000 in
/-- The keepers' sameResult. -/
theorem keepRes_any (f r0 r1 r2 r3 g s0 s1 s2 s3 : Int) (w : World) :
    Calls Try.prog 26 #[.agg #[.int .i64 f, .int .i64 r0, .int .i64 r1, .int .i64 r2, .int .i64 r3], .agg #[.int .i64 g, .int .i64 s0, .int .i64 s1, .int .i64 s2, .int .i64 s3]] w (KResIs (f = g ∧ r0 = s0 ∧ r1 = s1 ∧ r2 = s2 ∧ r3 = s3) w) := by
  go_enter Try.func26, Try.ntmps26
  go_wp2
  obtain ⟨w0, hw0⟩ : ∃ w0, w0 = (w.alloc (.cells #[.int .i64 f, .int .i64 r0, .int .i64 r1, .int .i64 r2, .int .i64 r3] 35)).alloc (.cells #[.int .i64 g, .int .i64 s0, .int .i64 s1, .int .i64 s2, .int .i64 s3] 35) := ⟨_, rfl⟩
  have HA : Hid (Blk w0 w.heap.size 35 #[.int .i64 f, .int .i64 r0, .int .i64 r1, .int .i64 r2, .int .i64 r3]) := by rw [hw0]; exact (Blk.new w 35 _).alloc _
  have HB : Hid (Blk w0 (w.heap.size + 1) 35 #[.int .i64 g, .int .i64 s0, .int .i64 s1, .int .i64 s2, .int .i64 s3]) := by
    rw [hw0]
    have := Blk.new (w.alloc (.cells #[.int .i64 f, .int .i64 r0, .int .i64 r1, .int .i64 r2, .int .i64 r3] 35)) 35 #[.int .i64 g, .int .i64 s0, .int .i64 s1, .int .i64 s2, .int .i64 s3]
    exact (by simpa using this : Blk _ _ _ _)
  have HBw : Hid (Below w.heap.size w w0) := by rw [hw0]; exact ((Below.refl w.heap.size w).alloc (Nat.le_refl _) _).alloc (by simp) _
  have hsz : w0.heap.size = w.heap.size + 2 := by rw [hw0]; simp
  rw [← hw0]
  clear hw0
  go_loopg [5] 5 (fun m t wr => ∃ k : Nat, t = .int .i64 (k : Int) ∧ k ≤ 4 ∧ m = 5 - k ∧ Hid (Below w0.heap.size w0 wr))
  case atStart => exact ⟨0, rfl, by omega, by omega, Below.refl _ _⟩
  case round =>
    obtain ⟨k, rfl, hk, hgk, HBk⟩ := hrel
    have hcA := ((HA.out).below HBk.out (by omega)).cell
    have hcB := ((HB.out).below HBk.out (by omega)).cell
    have hk4 : k = 0 ∨ k = 1 ∨ k = 2 ∨ k = 3 ∨ k = 4 := by omega
    rcases hk4 with rfl | rfl | rfl | rfl | rfl
    · by_cases h : r0 = s0
      · have hbn : (r0 != s0) = false := by simp [h]
        go_wp2
        go_quiet (fail)
        go_wp2
        go_roundg (gk - 1)
        case rel => exact ⟨1, by first | rfl | simp, by omega, by omega, belowDrewN HBk.out nq⟩
        case measure => omega
      · have hbn : (r0 != s0) = true := by simp [h]
        go_wp2
        go_quiet (fail)
        go_wp2
        go_ret
        exact ⟨false, rfl, fun q => absurd q.2.1 h, (HBw.out).trans ((belowDrewN HBk.out nq).mono (by omega))⟩
    · by_cases h : r1 = s1
      · have hbn : (r1 != s1) = false := by simp [h]
        go_wp2
        go_quiet (fail)
        go_wp2
        go_roundg (gk - 1)
        case rel => exact ⟨2, by first | rfl | simp, by omega, by omega, belowDrewN HBk.out nq⟩
        case measure => omega
      · have hbn : (r1 != s1) = true := by simp [h]
        go_wp2
        go_quiet (fail)
        go_wp2
        go_ret
        exact ⟨false, rfl, fun q => absurd q.2.2.1 h, (HBw.out).trans ((belowDrewN HBk.out nq).mono (by omega))⟩
    · by_cases h : r2 = s2
      · have hbn : (r2 != s2) = false := by simp [h]
        go_wp2
        go_quiet (fail)
        go_wp2
        go_roundg (gk - 1)
        case rel => exact ⟨3, by first | rfl | simp, by omega, by omega, belowDrewN HBk.out nq⟩
        case measure => omega
      · have hbn : (r2 != s2) = true := by simp [h]
        go_wp2
        go_quiet (fail)
        go_wp2
        go_ret
        exact ⟨false, rfl, fun q => absurd q.2.2.2.1 h, (HBw.out).trans ((belowDrewN HBk.out nq).mono (by omega))⟩
    · by_cases h : r3 = s3
      · have hbn : (r3 != s3) = false := by simp [h]
        go_wp2
        go_quiet (fail)
        go_wp2
        go_roundg (gk - 1)
        case rel => exact ⟨4, by first | rfl | simp, by omega, by omega, belowDrewN HBk.out nq⟩
        case measure => omega
      · have hbn : (r3 != s3) = true := by simp [h]
        go_wp2
        go_quiet (fail)
        go_wp2
        go_ret
        exact ⟨false, rfl, fun q => absurd q.2.2.2.2 h, (HBw.out).trans ((belowDrewN HBk.out nq).mono (by omega))⟩
    · go_wp2
      go_ret
      exact ⟨f == g, rfl, fun q => by simp [q.1], (HBw.out).trans ((HBk.out).mono (by omega))⟩

end Go.Proofs.Ytejadojilncbjaa

namespace Go.Proofs.Ytejadojilncbjaa
open Go.RowKit
set_option linter.unusedVariables false
attribute [local go_sem ↓] Go.wp_at_zero Go.wp_at_succ

/-! The program's thread tells the result of a job. -/

theorem ress_at {w : World} {base : Nat} {a : Option Addr} {c : Nat} {rs : List ResD} (h : w.ownsRow base 35 5 (.slice a rs.length c) rs.length (rs.flatMap resCells)) (k : Nat) (hk : k < rs.length) :
    ∃ b, a = some ⟨b, 0, none⟩ ∧ w.cell? ⟨b, k * 5, none⟩ = some (.int .i64 (rs.getD k noRes).fate) ∧ w.cell? ⟨b, k * 5 + 1, none⟩ = some (.int .i64 (rs.getD k noRes).r0) ∧ w.cell? ⟨b, k * 5 + 2, none⟩ = some (.int .i64 (rs.getD k noRes).r1) ∧ w.cell? ⟨b, k * 5 + 3, none⟩ = some (.int .i64 (rs.getD k noRes).r2) ∧ w.cell? ⟨b, k * 5 + 4, none⟩ = some (.int .i64 (rs.getD k noRes).r3) := by
  obtain ⟨g, cap, cur, hv, hb, hg, h1, h2, h3, h4⟩ := own_block h (by omega)
  injection hv with ha
  have hl : (rs.flatMap resCells).length = rs.length * 5 := flat_len (f := resCells) (n := 5) (fun _ => rfl) rs
  have e : ∀ j, j < 5 → w.cell? ⟨g, k * 5 + j, none⟩ = (resCells (rs.getD k noRes))[j]? := fun j hj => by
    rw [Blk.cell hg]
    have h5 : cur[k * 5 + j]? = (cur.toList.take (rs.length * 5))[k * 5 + j]? := by
      rw [List.getElem?_take_of_lt (by omega)]
      simp
    rw [h5, h4, flat_at (n := 5) (fun _ => rfl) _ k j hj, List.getElem?_eq_getElem hk]
    simp [List.getD, List.getElem?_eq_getElem hk]
  exact ⟨g, ha, e 0 (by omega), e 1 (by omega), e 2 (by omega), e 3 (by omega), e 4 (by omega)⟩

section
variable (base p z : Nat) (A B : List Value) (t : PT) (L : Ls) (w : World)

set_option maxRecDepth 100000 in
set_option maxHeartbeats 4000000 in
theorem t_result (R : TR base p z A B w t L) (hrl : t.res.length ≤ 200) (hrm : t.res.length ≤ t.mine.length) (j : Int) (r : ResD)
    (hr : ∀ k, k < t.res.length → t.mine.getD k 0 = j → t.res.getD k noRes = r) (hn : (∀ k, k < t.res.length → t.mine.getD k 0 ≠ j) → r = noRes) :
    Calls Try.prog 51 #[.pointer (some ⟨p, z, none⟩), .int .i64 j] w fun e w' => e = .returned (.agg #[.int .i64 r.fate, .int .i64 r.r0, .int .i64 r.r1, .int .i64 r.r2, .int .i64 r.r3]) ∧ Below w.heap.size w w' := by
  obtain ⟨sa, hsa⟩ : ∃ sa, sa = L.sa := ⟨_, rfl⟩
  obtain ⟨sl, hsl⟩ : ∃ sl, sl = t.res.length := ⟨_, rfl⟩
  obtain ⟨ml, hml⟩ : ∃ ml, ml = t.mine.length := ⟨_, rfl⟩
  have HC : Hid (w.cell? ⟨p, z + 10, none⟩ = some (.slice sa sl L.sc)) := by rw [hsl, hsa]; exact R.tt.cRes
  have HM : Hid (w.cell? ⟨p, z + 8, none⟩ = some (.slice L.ma ml L.mc)) := by rw [hml]; exact R.tt.cMine
  have HP : Hid (p < w.heap.size) := R.tt.lt
  have HRs : Hid (∀ k, k < sl → ∃ b, sa = some ⟨b, 0, none⟩ ∧ w.cell? ⟨b, k * 5, none⟩ = some (.int .i64 (t.res.getD k noRes).fate) ∧ w.cell? ⟨b, k * 5 + 1, none⟩ = some (.int .i64 (t.res.getD k noRes).r0) ∧ w.cell? ⟨b, k * 5 + 2, none⟩ = some (.int .i64 (t.res.getD k noRes).r1) ∧ w.cell? ⟨b, k * 5 + 3, none⟩ = some (.int .i64 (t.res.getD k noRes).r2) ∧ w.cell? ⟨b, k * 5 + 4, none⟩ = some (.int .i64 (t.res.getD k noRes).r3)) := fun k hk => by rw [hsa]; exact ress_at R.sr k (by rw [← hsl]; exact hk)
  have HMi : Hid (∀ k, k < ml → ∃ b, L.ma = some ⟨b, 0, none⟩ ∧ w.cell? ⟨b, k, none⟩ = some (.int .i64 (t.mine.getD k 0))) := fun k hk => nums_at R.mi k (by rw [← hml]; exact hk)
  have HR : Hid ((∀ k, k < sl → t.mine.getD k 0 = j → t.res.getD k noRes = r) ∧ ((∀ k, k < sl → t.mine.getD k 0 ≠ j) → r = noRes)) := by rw [hsl]; exact ⟨hr, hn⟩
  rw [← hsl] at hrl hrm
  rw [← hml] at hrm
  have hc := HC.out
  have HRes : Hid (Blk (w.alloc (.cells #[.int .i64 0, .int .i64 0, .int .i64 0, .int .i64 0, .int .i64 0] 35)) w.heap.size 35 #[.int .i64 0, .int .i64 0, .int .i64 0, .int .i64 0, .int .i64 0]) := Blk.new w 35 _
  have hB0 : Below w.heap.size w (w.alloc (.cells #[.int .i64 0, .int .i64 0, .int .i64 0, .int .i64 0, .int .i64 0] 35)) := (Below.refl _ _).alloc (Nat.le_refl _) _
  have HB0 : Hid (Below w.heap.size w (w.alloc (.cells #[.int .i64 0, .int .i64 0, .int .i64 0, .int .i64 0, .int .i64 0] 35))) := hB0
  have hlt : p < w.heap.size := HP.out
  have hne : p ≠ w.heap.size := by omega
  have hs0 : (w.alloc (.cells #[.int .i64 0, .int .i64 0, .int .i64 0, .int .i64 0, .int .i64 0] 35)).heap.size = w.heap.size + 1 := by simp
  clear R hr hn hsl hml hB0 hsa
  go_enter Try.func51, Try.ntmps51
  go_wp2
  generalize w.alloc (.cells #[.int .i64 0, .int .i64 0, .int .i64 0, .int .i64 0, .int .i64 0] 35) = w0 at *
  obtain ⟨rb, hrb⟩ : ∃ rb, rb = w.heap.size := ⟨_, rfl⟩
  have HRb : Hid (rb = w.heap.size) := hrb
  rw [← hrb] at HRes ⊢
  clear hc hne hlt hrb
  go_loopg [12] (sl + 1) (fun m t12 wr => ∃ k : Nat, t12 = .int .i64 (k : Int) ∧ k ≤ sl ∧ m = sl + 1 - k ∧ Hid (Below w0.heap.size w0 wr) ∧ Hid (∀ i, i < k → t.mine.getD i 0 ≠ j))
  case atStart => exact ⟨0, rfl, by omega, by omega, Below.refl _ _, fun i hi => absurd hi (Nat.not_lt_zero _)⟩
  case round =>
    obtain ⟨k, rfl, hk, hgk, HB, HN⟩ := hrel
    have HBw : Hid (Below w.heap.size w wr) := (HB0.out).trans ((HB.out).mono (HB0.out).size)
    have hcm : wr.cell? ⟨p, z + 8, none⟩ = some (.slice L.ma ml L.mc) := (World.cell?_of_block ((HBw.out).block p HP.out)).trans HM.out
    have hrk : Blk wr rb 35 #[.int .i64 0, .int .i64 0, .int .i64 0, .int .i64 0, .int .i64 0] := (HRes.out).below HB.out (HRes.out).lt
    have HRk : Hid (Blk wr rb 35 #[.int .i64 0, .int .i64 0, .int .i64 0, .int .i64 0, .int .i64 0]) := hrk
    have r0 := hrk.cell
    have rf := hrk.frozen
    have hrl' : rb < wr.heap.size := hrk.lt
    have hpl : p < wr.heap.size := Nat.lt_of_lt_of_le HP.out (HBw.out).size
    have hpn : p ≠ wr.heap.size := by omega
    have hrn : rb ≠ wr.heap.size := by omega
    clear hrk
    by_cases hlt : k < sl
    · obtain ⟨b, rfl, c0, c1, c2, c3, c4⟩ := HRs.out k hlt
      obtain ⟨g, hga, gc⟩ := HMi.out k (by omega)
      have hbl : b < w.heap.size := block_lt c0
      have hgl : g < w.heap.size := block_lt gc
      have bs : wr.heap[b]? = w.heap[b]? := (HBw.out).block b hbl
      have d0 : wr.cell? ⟨b, k * 5, none⟩ = some (.int .i64 (t.res.getD k noRes).fate) := (World.cell?_of_block bs).trans c0
      have d1 : wr.cell? ⟨b, k * 5 + 1, none⟩ = some (.int .i64 (t.res.getD k noRes).r0) := (World.cell?_of_block bs).trans c1
      have d2 : wr.cell? ⟨b, k * 5 + 2, none⟩ = some (.int .i64 (t.res.getD k noRes).r1) := (World.cell?_of_block bs).trans c2
      have d3 : wr.cell? ⟨b, k * 5 + 3, none⟩ = some (.int .i64 (t.res.getD k noRes).r2) := (World.cell?_of_block bs).trans c3
      have d4 : wr.cell? ⟨b, k * 5 + 4, none⟩ = some (.int .i64 (t.res.getD k noRes).r3) := (World.cell?_of_block bs).trans c4
      have dg : wr.cell? ⟨g, k, none⟩ = some (.int .i64 (t.mine.getD k 0)) := (World.cell?_of_block ((HBw.out).block g hgl)).trans gc
      have hgw : g < wr.heap.size := Nat.lt_of_lt_of_le hgl (HBw.out).size
      have hgn : g ≠ wr.heap.size := by omega
      have hk0 : (0 : Int) ≤ (k : Int) := by omega
      have hk1 : (k : Int) < (sl : Int) := by omega
      have hk2 : (k : Int) < (ml : Int) := by omega
      have hwk : IntKind.i64.wrap ((k : Int) + 1) = (k : Int) + 1 := wrapP _ (by omega) (by omega)
      rw [hga] at hcm
      obtain ⟨q, hq⟩ : ∃ q, q = t.res.getD k noRes := ⟨_, rfl⟩
      obtain ⟨mk, hmk⟩ : ∃ mk, mk = t.mine.getD k 0 := ⟨_, rfl⟩
      rw [← hq] at d0 d1 d2 d3 d4
      rw [← hmk] at dg
      have HQ : Hid (q = t.res.getD k noRes ∧ mk = t.mine.getD k 0) := ⟨hq, hmk⟩
      have HKl : Hid (k < sl) := hlt
      clear c0 c1 c2 c3 c4 gc bs hbl hgl hq hmk hga
      by_cases hin : mk = j
      · have HF : Hid (q = r) := by
          show q = r
          rw [(HQ.out).1]
          exact (HR.out).1 k HKl.out (by rw [← (HQ.out).2]; exact hin)
        have hib : (mk == j) = true := by simp [hin]
        clear hin
        go_wp2
        have hr5 := ((((((HRk.out).set (i := 0) (v := .int .i64 q.fate)).set (i := 1) (v := .int .i64 q.r0)).set (i := 2) (v := .int .i64 q.r1)).set (i := 3) (v := .int .i64 q.r2)).set (i := 4) (v := .int .i64 q.r3)).congr (ds := #[.int .i64 q.fate, .int .i64 q.r0, .int .i64 q.r1, .int .i64 q.r2, .int .i64 q.r3]) (by simp)
        have ho5 : Only rb wr (((((wr.setCell ⟨rb, 0, none⟩ (.int .i64 q.fate)).setCell ⟨rb, 1, none⟩ (.int .i64 q.r0)).setCell ⟨rb, 2, none⟩ (.int .i64 q.r1)).setCell ⟨rb, 3, none⟩ (.int .i64 q.r2)).setCell ⟨rb, 4, none⟩ (.int .i64 q.r3)) := (((((Only.refl _ _).set).set).set).set).set
        have hBf : Below w.heap.size w (((((wr.setCell ⟨rb, 0, none⟩ (.int .i64 q.fate)).setCell ⟨rb, 1, none⟩ (.int .i64 q.r0)).setCell ⟨rb, 2, none⟩ (.int .i64 q.r1)).setCell ⟨rb, 3, none⟩ (.int .i64 q.r2)).setCell ⟨rb, 4, none⟩ (.int .i64 q.r3)) := by
          have h1 := HBw.out
          exact ⟨ho5.os.trans h1.os, ho5.tape.trans h1.tape, ho5.output.trans h1.output, Nat.le_trans h1.size ho5.size, fun b hb => (ho5.block b (by have := h1.size; omega) (by have := HRb.out; omega)).trans (h1.block b hb)⟩
        have h9 := (hr5.alloc (.cells #[.int .i64 q.fate, .int .i64 q.r0, .int .i64 q.r1, .int .i64 q.r2, .int .i64 q.r3] 35)).cell
        refine bodyPost_ret (v := .agg #[.int .i64 q.fate, .int .i64 q.r0, .int .i64 q.r1, .int .i64 q.r2, .int .i64 q.r3]) ?_ rfl ⟨by rw [HF.out], hBf.alloc hBf.size _⟩
        simp [results, Try.results51, go_sem, h9]
      · have hib : (mk == j) = false := by rw [beq_eq_false_iff_ne]; exact hin
        have H1 : Hid (∀ i, i < k + 1 → t.mine.getD i 0 ≠ j) := fun i hi => by
          rcases Nat.lt_succ_iff_lt_or_eq.1 hi with h | rfl
          · exact HN.out i h
          · rw [← (HQ.out).2]; exact hin
        clear hin HN
        go_wp2
        go_roundg (gk - 1)
        case rel => exact ⟨k + 1, by simp, by omega, by omega, (HB.out).trans ((Below.refl _ _).alloc (HB.out).size _), H1⟩
        case measure => omega
    · have hk2 : ¬ ((k : Int) < (sl : Int)) := by omega
      have HF : Hid (r = noRes) := (HR.out).2 (fun i hi => HN.out i (by omega))
      go_wp2
      have hr5 := ((((((HRk.out).set (i := 0) (v := .int .i64 0)).set (i := 1) (v := .int .i64 0)).set (i := 2) (v := .int .i64 0)).set (i := 3) (v := .int .i64 0)).set (i := 4) (v := .int .i64 0)).congr (ds := #[.int .i64 0, .int .i64 0, .int .i64 0, .int .i64 0, .int .i64 0]) (by simp)
      have ho5 : Only rb wr (((((wr.setCell ⟨rb, 0, none⟩ (.int .i64 0)).setCell ⟨rb, 1, none⟩ (.int .i64 0)).setCell ⟨rb, 2, none⟩ (.int .i64 0)).setCell ⟨rb, 3, none⟩ (.int .i64 0)).setCell ⟨rb, 4, none⟩ (.int .i64 0)) := (((((Only.refl _ _).set).set).set).set).set
      have hBf : Below w.heap.size w (((((wr.setCell ⟨rb, 0, none⟩ (.int .i64 0)).setCell ⟨rb, 1, none⟩ (.int .i64 0)).setCell ⟨rb, 2, none⟩ (.int .i64 0)).setCell ⟨rb, 3, none⟩ (.int .i64 0)).setCell ⟨rb, 4, none⟩ (.int .i64 0)) := by
        have h1 := HBw.out
        exact ⟨ho5.os.trans h1.os, ho5.tape.trans h1.tape, ho5.output.trans h1.output, Nat.le_trans h1.size ho5.size, fun b hb => (ho5.block b (by have := h1.size; omega) (by have := HRb.out; omega)).trans (h1.block b hb)⟩
      refine bodyPost_ret (v := .agg #[.int .i64 0, .int .i64 0, .int .i64 0, .int .i64 0, .int .i64 0]) ?_ rfl ⟨by rw [HF.out]; rfl, hBf⟩
      have h9 := hr5.cell
      simp [results, Try.results51, go_sem, h9]
end

/-- What the thread tells of a job is what the machine has. -/
theorem TolF.result {K : Cx} {mine : List Int} {cur : Nat} {res : List ResD} {told : AttD} {list : List AttD} {ends : List ResD} (T : TolF K mine cur res told list ends) (j : Nat) :
    (∀ k, k < res.length → mine.getD k 0 = (j : Int) → res.getD k noRes = ends.getD j noRes) ∧ ((∀ k, k < res.length → mine.getD k 0 ≠ (j : Int)) → ends.getD j noRes = noRes) := by
  have h0 : ∀ i, i < cur → 0 ≤ mine.getD i 0 := fun i hi => by
    have hm : mine.getD i 0 ∈ mineF K.me 0 K.jobs := by
      rw [← T.mi]
      simp only [List.getD, List.getElem?_eq_getElem (show i < mine.length by have := T.cu; omega), Option.getD_some]
      exact List.getElem_mem _
    have := mineF_ge _ _ _ _ hm
    omega
  refine ⟨fun k hk e => ?_, fun h => T.rz j (fun i hi e => h i (by rw [T.rl]; exact hi) (by have := h0 i hi; omega))⟩
  rw [T.rl] at hk
  rw [← T.rs k hk, e]
  simp

theorem Sim.tol {K : Cx} {t : PT} {h : Th} (S : Sim K t h) : Tol K t h := by
  rcases S with ⟨_, _, q⟩ | ⟨_, b, _⟩ | ⟨n, _, b, _⟩ | ⟨n, _, b, _⟩ | ⟨b, _⟩
  · exact q
  · exact b.tol
  · exact b.tol
  · exact b.tol
  · exact b.1.tol

end Go.Proofs.Ytejadojilncbjaa

namespace Go.Proofs.Ytejadojilncbjaa
open Go.RowKit
set_option linter.unusedVariables false
attribute [local go_sem ↓] Go.wp_at_zero Go.wp_at_succ

/-- Results in memory. -/
def ResIn (w : World) (B : Nat) (a : Option Addr) (l : List ResD) : Prop :=
  ∀ k, k < l.length → ∃ b, a = some ⟨b, 0, none⟩ ∧ b < B ∧ w.cell? ⟨b, k * 5, none⟩ = some (.int .i64 (l.getD k noRes).fate) ∧ w.cell? ⟨b, k * 5 + 1, none⟩ = some (.int .i64 (l.getD k noRes).r0) ∧ w.cell? ⟨b, k * 5 + 2, none⟩ = some (.int .i64 (l.getD k noRes).r1) ∧ w.cell? ⟨b, k * 5 + 3, none⟩ = some (.int .i64 (l.getD k noRes).r2) ∧ w.cell? ⟨b, k * 5 + 4, none⟩ = some (.int .i64 (l.getD k noRes).r3)

theorem resIn_row {w : World} {base : Nat} {a : Option Addr} {c : Nat} {rs : List ResD} (h : w.ownsRow base 35 5 (.slice a rs.length c) rs.length (rs.flatMap resCells)) : ResIn w w.heap.size a rs := fun k hk => by
  obtain ⟨b, ha, h0, h1, h2, h3, h4⟩ := ress_at h k hk
  subst ha
  exact ⟨b, rfl, (World.ownsRow.lt h b rfl).2, h0, h1, h2, h3, h4⟩

theorem ResIn.up {w w' : World} {a : Option Addr} {l : List ResD} (h : ResIn w w.heap.size a l) (hb : Below w.heap.size w w') : ResIn w' w'.heap.size a l := fun k hk => by
  obtain ⟨b, ha, hB, h0, h1, h2, h3, h4⟩ := h k hk
  have e := hb.block b hB
  have := hb.size
  exact ⟨b, ha, by omega, (World.cell?_of_block e).trans h0, (World.cell?_of_block e).trans h1, (World.cell?_of_block e).trans h2, (World.cell?_of_block e).trans h3, (World.cell?_of_block e).trans h4⟩

end Go.Proofs.Ytejadojilncbjaa
