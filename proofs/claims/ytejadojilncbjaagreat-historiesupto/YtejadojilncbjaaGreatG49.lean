import Derived.Test.YtejadojilncbjaaGreatG48
import Derived.Test.YtejadojilncbjaaGreatG42
import Derived.Test.YtejadojilncbjaaGreatG43
import Derived.Test.YtejadojilncbjaaGreatG46
import Derived.Test.YtejadojilncbjaaGreatG23
import Derived.Test.YtejadojilncbjaaGreatG47
import Derived.Test.YtejadojilncbjaaGreatG24
import Derived.Test.YtejadojilncbjaaGreatRows
import Derived.ShutString
import Derived.ChangeOld
import Derived.JoinedCond
namespace Go.Proofs.YtejadojilncbjaaGreat
open Go.RowKit
set_option linter.unusedVariables false
attribute [local go_sem ↓] Go.wp_at_zero Go.wp_at_succ
def PHistIs (w : World) (l : List AttD) (e : Ending) (w' : World) : Prop :=
 ∃ (la : Option Addr) (lc : Nat) (AN : List (AttD × Value)), AN.map (·.1) = l ∧ e = .returned (.slice la AN.length lc) ∧ AttsRow w' w.heap.size la lc AN ∧ NotesOf w' AN ∧ Below w.heap.size w w'
theorem HI.low {R : Rn} {base p nb cb bb cap tcap : Nat} {X : List Value} {w0 w : World} {k : Nat} (h : HI R base p nb cb bb cap tcap X w0 k w) : Below base w0 w := by
 obtain ⟨q, Ds, AN, lat, ba, bc, W, M, B, A, N, I, L⟩ := h
 exact L
theorem HP.cells {R : Rn} {base p nb cb bb cap tcap : Nat} {X : List Value} {w0 w : World} {k t : Nat} {q : List (PT × Ls)} {ht : t < q.length} (h : HP R base p nb cb bb cap tcap X w0 k t w q ht) :
  w.cell? ⟨cb, 1, none⟩ = some (.slice (some ⟨p, 0, none⟩) q.length tcap) ∧ w.cell? ⟨cb, 2, none⟩ = some (.int .i64 ((k : Int) + 1)) ∧ (∃ A B, TAt w p (t * 47) A B q[t].1 q[t].2) := by
 obtain ⟨Ds, AN, lat, ba, bc, W, M, B, A, L, e1, e2, e3, hc⟩ := h
 exact ⟨by rw [W.wst.cell]; rfl, by rw [W.wst.cell]; rfl, _, _, (W.tr t ht).tt⟩
theorem HP.cbl {R : Rn} {base p nb cb bb cap tcap : Nat} {X : List Value} {w0 w : World} {k t : Nat} {q : List (PT × Ls)} {ht : t < q.length} (h : HP R base p nb cb bb cap tcap X w0 k t w q ht) : cb < w.heap.size := by
 obtain ⟨Ds, AN, lat, ba, bc, W, M, B, A, L, e1, e2, e3, hc⟩ := h
 exact W.wst.lt
set_option maxRecDepth 100000 in
set_option maxHeartbeats 1000000 in
theorem playHistory_any {c : Cfg} {mem : List Int} {jobs : List (Int × List InsD)} (S : SetupOk c mem jobs) (ps : List PickD) (hps : ps.length ≤ 2 ^ 23) (ma ja pa : Option Addr) (mc jc pc : Nat) (w : World)
  (hm : Ints w w.heap.size ma mem) (hj : JobsRep w w.heap.size ja jobs) (hp : PicksIn w w.heap.size pa ps) :
  Calls Tryz.prog 47 #[.agg #[.int .i64 c.t, .int .i64 c.wd, .int .i64 c.s, .int .i64 c.g, .int .i64 c.r, .int .i64 c.cp, .int .i64 c.f, .slice ma mem.length mc, .slice ja jobs.length jc], .slice pa ps.length pc] w (PHistIs w (⟨c, mem, jobs, ps⟩ : Rn).hist) := by
 have HM : Hid (Ints w w.heap.size ma mem) := hm
 have HJ : Hid (JobsRep w w.heap.size ja jobs) := hj
 have HP : Hid (PicksIn w w.heap.size pa ps) := hp
 have HS : Hid (SetupOk c mem jobs) := S
 obtain ⟨R, hR⟩ : ∃ R : Rn, R = ⟨c, mem, jobs, ps⟩ := ⟨_, rfl⟩
 have HR : Hid (R = ⟨c, mem, jobs, ps⟩) := hR
 have HO : Hid R.Ok := by rw [hR]; exact ⟨S.cfg, S.mw, S.mb⟩
 rw [← hR]
 have hps' : ps.length ≤ 8388608 := hps
 clear hm hj hp S hps hR
 go_enter Tryz.func47, Tryz.ntmps47
 go_wp2_with fail
 obtain ⟨w1, hw1⟩ : ∃ w1, w1 = w.alloc (.cells #[.int .i64 c.t, .int .i64 c.wd, .int .i64 c.s, .int .i64 c.g, .int .i64 c.r, .int .i64 c.cp, .int .i64 c.f, .slice ma mem.length mc, .slice ja jobs.length jc] 27) := ⟨_, rfl⟩
 have HB1 : Hid (Below w.heap.size w w1) := by rw [hw1]; exact (Below.refl w.heap.size w).alloc (Nat.le_refl _) _
 have HSb : Hid (Blk w1 w.heap.size 27 #[.int .i64 c.t, .int .i64 c.wd, .int .i64 c.s, .int .i64 c.g, .int .i64 c.r, .int .i64 c.cp, .int .i64 c.f, .slice ma mem.length mc, .slice ja jobs.length jc]) := by rw [hw1]; exact Blk.new w 27 _
 have hs1 : w1.heap.size = w.heap.size + 1 := by rw [hw1]; simp
 rw [← hw1]
 clear hw1
 have HM1 : Hid (Ints w1 w1.heap.size ma mem) := (HM.out).up HB1.out
 have HJ1 : Hid (JobsRep w1 w1.heap.size ja jobs) := (HJ.out).up2 HB1.out
 have HP1 : Hid (PicksIn w1 w1.heap.size pa ps) := (HP.out).up2 HB1.out
 clear HM HJ HP
 refine (begin_any c (HS.out).cfg mem (HS.out).mw (HS.out).mb jobs (HS.out).j8 ma ja mc jc w1 HM1.out HJ1.out).mono ?_
 rintro e w2 ⟨nb, p, cap, tcap, q, Ds, X, rfl, hW, hM, hb2⟩
 obtain ⟨cb, hcb⟩ : ∃ cb, cb = w2.heap.size := ⟨_, rfl⟩
 have hB3 : Below w2.heap.size w2 (w2.alloc (.cells #[.slice (some ⟨nb, 0, none⟩) Ds.length cap, .slice (some ⟨p, 0, none⟩) q.length tcap, .int .i64 0] 106)) := (Below.refl _ _).alloc (Nat.le_refl _) _
 have HW3 : Hid (WR w1.heap.size p nb cb cap tcap ((0 : Nat) : Int) X (w2.alloc (.cells #[.slice (some ⟨nb, 0, none⟩) Ds.length cap, .slice (some ⟨p, 0, none⟩) q.length tcap, .int .i64 0] 106)) q Ds ∧ SimW R.c R.jobs ((0 : Nat) : Int) (R.g 0) q Ds) := by
  refine ⟨hW _ cb hB3 (by rw [hcb]; exact Blk.new w2 106 _) (by rw [hcb]; exact hb2.size), ?_⟩
  rw [HR.out]
  exact hM
 have HB3 : Hid (Below w1.heap.size w1 (w2.alloc (.cells #[.slice (some ⟨nb, 0, none⟩) Ds.length cap, .slice (some ⟨p, 0, none⟩) q.length tcap, .int .i64 0] 106))) := hb2.trans (hB3.mono hb2.size)
 clear hW hM hB3 hb2
 go_upto_region 2 with fail
 rw [← hcb]
 clear hcb
 generalize w2.alloc (.cells #[.slice (some ⟨nb, 0, none⟩) Ds.length cap, .slice (some ⟨p, 0, none⟩) q.length tcap, .int .i64 0] 106) = w3 at *
 obtain ⟨bb, hbb⟩ : ∃ bb, bb = w3.heap.size := ⟨_, rfl⟩
 have hB4 : Below w3.heap.size w3 (w3.alloc (.cells #[.slice none 0 0, .int .i64 0, .int .i64 0, .int .i64 0, .int .i64 0] 125)) := (Below.refl _ _).alloc (Nat.le_refl _) _
 have HBb : Hid (w1.heap.size ≤ bb) := by show _ ≤ _; rw [hbb]; exact (HB3.out).size
 have HI4 : Hid (HI R w1.heap.size p nb cb bb cap tcap X w1 0 (w3.alloc (.cells #[.slice none 0 0, .int .i64 0, .int .i64 0, .int .i64 0, .int .i64 0] 125))) := by
  refine ⟨q, Ds, [], [0, 0, 0, 0], none, 0, (HW3.out).1.below hB4, (HW3.out).2, ⟨?_, rfl⟩, World.ownsRow_nil _ _ _ _, fun m x hx => by simp at hx, BkI.zero R, (HB3.out).trans (hB4.mono (HB3.out).size)⟩
  rw [hbb]
  exact Blk.new w3 125 _
 clear HW3 HB3 hB4
 go_upto_region 3 with fail
 rw [← hbb]
 clear hbb
 generalize w3.alloc (.cells #[.slice none 0 0, .int .i64 0, .int .i64 0, .int .i64 0, .int .i64 0] 125) = w4 at *
 go_wp2_with fail
 go_loopg [16] (ps.length + 1) (fun m t16 wr => ∃ (k : Nat), t16 = .int .i64 (k : Int) ∧ k ≤ ps.length ∧ m = ps.length + 1 - k ∧ Hid (HI R w1.heap.size p nb cb bb cap tcap X w1 k wr))
 case atStart => exact ⟨0, rfl, by omega, by omega, HI4⟩
 case round =>
  obtain ⟨k, rfl, hk, hgk, HH⟩ := hrel
  clear HI4
  have HB : Hid (Below w1.heap.size w1 wr) := (HH.out).low
  by_cases hkl : k < ps.length
  ·obtain ⟨pb, poff, hpa, hpb, hpc0, hpc1⟩ := HP1.out k hkl
   have hk0 : (0 : Int) ≤ (k : Int) := by omega
   have hk1 : (k : Int) < (ps.length : Int) := by omega
   have hwk : IntKind.i64.wrap ((k : Int) + 1) = (k : Int) + 1 := wrapP _ (by omega) (by omega)
   have hszk : w1.heap.size ≤ wr.heap.size := (HB.out).size
   have hq0 : wr.cell? ⟨pb, poff + k * 2, none⟩ = some (.int .i64 (pickAt ps k).thread) := (World.cell?_of_block ((HB.out).block pb hpb)).trans hpc0
   have hq1 : wr.cell? ⟨pb, poff + k * 2 + 1, none⟩ = some (.int .i64 (pickAt ps k).draw) := (World.cell?_of_block ((HB.out).block pb hpb)).trans hpc1
   have hpbl : pb < wr.heap.size := by omega
   have hsbl : w.heap.size < wr.heap.size := by omega
   subst hpa
   clear hpc0 hpc1
   obtain ⟨th, hth⟩ : ∃ th, th = (pickAt ps k).thread := ⟨_, rfl⟩
   obtain ⟨dr, hdr⟩ : ∃ dr, dr = (pickAt ps k).draw := ⟨_, rfl⟩
   rw [← hth] at hq0
   rw [← hdr] at hq1
   have HPk : Hid (R.pk k = ⟨th, dr⟩) := by show _ = _; rw [HR.out, hth, hdr]; rfl
   have hBa : Below wr.heap.size wr (wr.alloc (.cells #[.int .i64 th, .int .i64 dr] 42)) := (Below.refl wr.heap.size wr).alloc (Nat.le_refl _) _
   have HBa : Hid (Below w1.heap.size w1 (wr.alloc (.cells #[.int .i64 th, .int .i64 dr] 42))) := (HB.out).trans (hBa.mono hszk)
   have hPb : Blk (wr.alloc (.cells #[.int .i64 th, .int .i64 dr] 42)) wr.heap.size 42 #[.int .i64 th, .int .i64 dr] := Blk.new wr 42 _
   obtain ⟨n0, hn0⟩ : ∃ n0, n0 = wr.heap.size := ⟨_, rfl⟩
   have HPb : Hid (Blk (wr.alloc (.cells #[.int .i64 th, .int .i64 dr] 42)) n0 42 #[.int .i64 th, .int .i64 dr]) := by rw [hn0]; exact hPb
   obtain ⟨qq, Dq, Wq, Mq, hnx⟩ := ((HH.out).below hBa).pick HO.out
   rw [HPk.out] at hnx
   have HC : Hid (Calls Tryz.prog 67 #[.pointer (some ⟨cb, 0, none⟩), .slice ja jobs.length jc, .agg #[.int .i64 th, .int .i64 dr]] (wr.alloc (.cells #[.int .i64 th, .int .i64 dr] 42)) (OneIs w1.heap.size p nb cb cap tcap ((k : Int) + 1) X R.c R.jobs k (R.g k) ((k : Int) + 1) ⟨th, dr⟩ qq (wr.alloc (.cells #[.int .i64 th, .int .i64 dr] 42)))) := by
    have hjr : JobsRep (wr.alloc (.cells #[.int .i64 th, .int .i64 dr] 42)) w1.heap.size ja R.jobs := by rw [HR.out]; exact (HJ1.out).up HBa.out
    have h := t_wpick (HO.out).c ⟨by omega, by omega⟩ Wq Mq ⟨by omega, by omega⟩ ⟨th, dr⟩ ja jc hjr (by rw [HR.out]; exact (HS.out).cd)
    have hjl : R.jobs.length = jobs.length := by rw [HR.out]
    rw [hjl] at h
    exact h
   have HNx : Hid (∀ (q' : List (PT × Ls)) (Ds' : List Int) (w' : World), WR w1.heap.size p nb cb cap tcap ((k : Int) + 1) X w' q' Ds' → SimW R.c R.jobs ((k : Int) + 1) (gStep R.c R.jobs (R.g k) ((k : Int) + 1) ⟨th, dr⟩).1 q' Ds' → GoesW p nb cb qq (wr.alloc (.cells #[.int .i64 th, .int .i64 dr] 42)) q' w' → NGo th (gStep R.c R.jobs (R.g k) ((k : Int) + 1) ⟨th, dr⟩).2.kind qq q' (wr.alloc (.cells #[.int .i64 th, .int .i64 dr] 42)) w' →
       ((gStep R.c R.jobs (R.g k) ((k : Int) + 1) ⟨th, dr⟩).2.kind = 0 ∧ HI R w1.heap.size p nb cb bb cap tcap X w1 (k + 1) w') ∨
       ((gStep R.c R.jobs (R.g k) ((k : Int) + 1) ⟨th, dr⟩).2.kind ≠ 0 ∧ ∃ (t : Nat) (ht : t < q'.length), th = (t : Int) ∧ Go.Proofs.YtejadojilncbjaaGreat.HP R w1.heap.size p nb cb bb cap tcap X w1 k t w' q' ht)) := by
    intro q' Ds' w' a1 a2 a3 a4
    refine hnx q' Ds' w' a1 ?_ a3 a4
    rw [R.step, HPk.out]
    exact a2
   have HWq : Hid (WR w1.heap.size p nb cb cap tcap (k : Int) X (wr.alloc (.cells #[.int .i64 th, .int .i64 dr] 42)) qq Dq) := Wq
   clear hth hdr hBa HH HB hnx Wq Mq hPb
   go_upto_region 6 with fail
   rw [← hn0]
   clear hn0
   generalize wr.alloc (.cells #[.int .i64 th, .int .i64 dr] 42) = wp at *
   have hsc : ∀ i, wp.cell? ⟨w.heap.size, i, none⟩ = (#[.int .i64 c.t, .int .i64 c.wd, .int .i64 c.s, .int .i64 c.g, .int .i64 c.r, .int .i64 c.cp, .int .i64 c.f, .slice ma mem.length mc, .slice ja jobs.length jc] : Array Value)[i]? := ((HSb.out).below HBa.out (by omega)).cell
   have hpc := (HPb.out).cell
   clear hq0 hq1
   go_wp2_with fail
   clear hsc hpc
   refine (HC.out).mono ?_
   rintro e w5 ⟨rfl, q', Ds', W5, M5, G5, N5⟩
   have hP5 : Blk w5 n0 42 #[.int .i64 th, .int .i64 dr] := (goes_blk HWq.out G5 HPb.out (by decide) (by decide) (by decide) (by decide) (by decide) (by decide) (by decide)).trans HPb.out
   have hcase := HNx.out q' Ds' w5 W5 M5 G5 N5
   obtain ⟨a, ha⟩ : ∃ a, a = (gStep R.c R.jobs (R.g k) ((k : Int) + 1) ⟨th, dr⟩).2 := ⟨_, rfl⟩
   rw [← ha] at hcase ⊢
   clear ha W5 M5 G5 N5 HC HNx HBa HPb HWq HPk
   obtain ⟨ak, ac, az, ap⟩ := a
   have hBc : Below w5.heap.size w5 (w5.alloc (.cells #[.int .i64 ak, .int .i64 ac, .int .i64 az, .int .i64 ap] 40)) := (Below.refl _ _).alloc (Nat.le_refl _) _
   rcases hcase with ⟨h0, H5⟩ | ⟨h0, t, ht, hth, H5⟩
   ·have hbn : (ak != 0) = false := by simpa using h0
    have H6 : Hid (HI R w1.heap.size p nb cb bb cap tcap X w1 (k + 1) (w5.alloc (.cells #[.int .i64 ak, .int .i64 ac, .int .i64 az, .int .i64 ap] 40))) := H5.below hBc
    clear H5 hBc hP5 h0
    go_wp2_with fail
    go_roundg (gk - 1)
    case rel => exact ⟨k + 1, by simp, by omega, by omega, H6⟩
    case measure => omega
   ·have hbn : (ak != 0) = true := by simpa using h0
    have H6 := H5.below hBc
    obtain ⟨m1, m2, A, B, hT⟩ := H5.cells
    obtain ⟨_, _, A', B', hT'⟩ := H6.cells
    have hcbl : cb < w5.heap.size := H5.cbl
    have hcbn : cb ≠ w5.heap.size := by omega
    have hnl : n0 < w5.heap.size := hP5.lt
    have hnn : n0 ≠ w5.heap.size := by omega
    have hpc5 := hP5.cell
    have ht0 : (0 : Int) ≤ th := by omega
    have ht1 : th < (q'.length : Int) := by omega
    have hto : th.toNat = t := by omega
    obtain ⟨T, hT0⟩ : ∃ T, T = q'[t].1 := ⟨_, rfl⟩
    obtain ⟨L, hL0⟩ : ∃ L, L = q'[t].2 := ⟨_, rfl⟩
    have hC := t_told hT'
    rw [← hT0, ← hL0] at hC
    have HC : Hid (Calls Tryz.prog 68 #[.pointer (some ⟨p, t * 47, none⟩)] (w5.alloc (.cells #[.int .i64 ak, .int .i64 ac, .int .i64 az, .int .i64 ap] 40)) fun e w' => e = .returned (.agg #[.int .i64 T.aTh, .int .i64 T.aJob, .int .i64 T.aStart, .int .i64 T.aEnd, .int .i64 T.valid, .int .i64 T.aStamp, .int .i64 T.aFate, .slice L.na T.notes.length L.nc]) ∧ Below (w5.alloc (.cells #[.int .i64 ak, .int .i64 ac, .int .i64 az, .int .i64 ap] 40)).heap.size (w5.alloc (.cells #[.int .i64 ak, .int .i64 ac, .int .i64 az, .int .i64 ap] 40)) w') := hC
    have H6' : Hid (Go.Proofs.YtejadojilncbjaaGreat.HP R w1.heap.size p nb cb bb cap tcap X w1 k t (w5.alloc (.cells #[.int .i64 ak, .int .i64 ac, .int .i64 az, .int .i64 ap] 40)) q' ht) := H6
    have HTL : Hid (T = q'[t].1 ∧ L = q'[t].2) := ⟨hT0, hL0⟩
    clear H5 H6 hT hT' hC hT0 hL0 hBc hP5 h0 m2 hth
    go_wp2_with fail
    clear m1 hpc5 hbn
    refine (HC.out).mono ?_
    rintro e w7 ⟨rfl, hb7⟩
    have H7 := (H6'.out).below hb7
    obtain ⟨_, m7, _⟩ := H7.cells
    have hc7 : cb < w7.heap.size := H7.cbl
    have hcn7 : cb ≠ w7.heap.size := by omega
    have hE := (H7.below ((Below.refl w7.heap.size w7).alloc (Nat.le_refl _) (.cells #[.int .i64 T.aTh, .int .i64 T.aJob, .int .i64 T.aStart, .int .i64 T.aEnd, .int .i64 T.valid, .int .i64 T.aStamp, .int .i64 T.aFate, .slice L.na T.notes.length L.nc] 63))).enter HBb.out (by omega)
    rw [← (HTL.out).1, ← (HTL.out).2] at hE
    have HE : Hid (Calls Tryz.prog 69 #[.pointer (some ⟨bb, 0, none⟩), .agg #[.int .i64 T.aTh, .int .i64 T.aJob, .int .i64 T.aStart, .int .i64 T.aEnd, .int .i64 T.valid, .int .i64 T.aStamp, .int .i64 T.aFate, .slice L.na T.notes.length L.nc], .int .i64 ((k : Int) + 1)] (w7.alloc (.cells #[.int .i64 T.aTh, .int .i64 T.aJob, .int .i64 T.aStart, .int .i64 T.aEnd, .int .i64 T.valid, .int .i64 T.aStamp, .int .i64 T.aFate, .slice L.na T.notes.length L.nc] 63)) fun e w' => e = .returned (.tuple #[]) ∧ HI R w1.heap.size p nb cb bb cap tcap X w1 (k + 1) w') := hE
    clear hE H7 hb7 HC H6' HTL
    go_wp2_with fail
    clear m7
    refine (HE.out).mono ?_
    rintro e w9 ⟨rfl, h9⟩
    have H9 : Hid (HI R w1.heap.size p nb cb bb cap tcap X w1 (k + 1) w9) := h9
    clear h9 HE
    go_wp2_with fail
    go_roundg (gk - 1)
    case rel => exact ⟨k + 1, by simp, by omega, by omega, H9⟩
    case measure => omega
  ·have hkj : k = ps.length := by omega
   subst hkj
   have hk2 : ¬ ((ps.length : Int) < (ps.length : Int)) := by omega
   obtain ⟨q2, Ds2, AN, lat, ba, bc, W, M, B, A, N, I, L⟩ := HH.out
   have b0 : wr.cell? ⟨bb, 0, none⟩ = some (.slice ba AN.length bc) := by rw [B.1.cell]; rfl
   have hRl : R.ps.length = ps.length := by rw [HR.out]
   have HA : Hid (AN.map (·.1) = R.hist ∧ AttsRow wr w.heap.size ba bc AN ∧ NotesOf wr AN ∧ Below w.heap.size w wr) := by
    refine ⟨?_, ownsRow_low A (HB1.out).size, N.of, (HB1.out).trans (L.mono (HB1.out).size)⟩
    rw [← hRl] at I
    exact I.hist HO.out
   clear W M B A N I L HH HB hRl
   go_wp2_with fail
   go_ret
   exact ⟨ba, bc, AN, (HA.out).1, rfl, (HA.out).2⟩
def HistoryGood : Prop := ∀ (c : Cfg) (mem : List Int) (jobs : List (Int × List InsD)) (ps : List PickD) (ma ja pa : Option Addr) (mc jc pc : Nat) (w : World), ps.length ≤ 2 ^ 23 → mem.length ≤ maxLen → jobs.length ≤ maxLen →
  Ints w w.heap.size ma mem → JobsRep w w.heap.size ja jobs → PicksIn w w.heap.size pa ps →
  Calls Tryz.prog 21 #[.agg #[.int .i64 c.t, .int .i64 c.wd, .int .i64 c.s, .int .i64 c.g, .int .i64 c.r, .int .i64 c.cp, .int .i64 c.f, .slice ma mem.length mc, .slice ja jobs.length jc], .slice pa ps.length pc] w (HistIs w (histA c mem jobs ps) (errS c mem jobs))
set_option maxRecDepth 100000 in
set_option maxHeartbeats 4000000 in
theorem historyGood : HistoryGood := by
 intro c mem jobs ps ma ja pa mc jc pc w hps hml hjl hm hj hp
 have HM : Hid (Ints w w.heap.size ma mem) := hm
 have HJ : Hid (JobsRep w w.heap.size ja jobs) := hj
 have HP : Hid (PicksIn w w.heap.size pa ps) := hp
 have HPS : Hid (ps.length ≤ 2 ^ 23) := hps
 obtain ⟨L, HL⟩ : ∃ L, Hid (histA c mem jobs ps = L) := ⟨_, rfl⟩
 obtain ⟨ER, HER⟩ : ∃ ER, Hid (errS c mem jobs = ER) := ⟨_, rfl⟩
 rw [show histA c mem jobs ps = L from HL.out, show errS c mem jobs = ER from HER.out]
 clear hm hj hp hps
 go_enter Tryz.func21, Tryz.ntmps21
 go_wp2_with fail
 obtain ⟨w0, hw0⟩ : ∃ w0, w0 = w.alloc (.cells #[.int .i64 c.t, .int .i64 c.wd, .int .i64 c.s, .int .i64 c.g, .int .i64 c.r, .int .i64 c.cp, .int .i64 c.f, .slice ma mem.length mc, .slice ja jobs.length jc] 27) := ⟨_, rfl⟩
 have hB0 : Below w.heap.size w w0 := by rw [hw0]; exact (Below.refl w.heap.size w).alloc (Nat.le_refl _) _
 have hSb : Blk w0 w.heap.size 27 #[.int .i64 c.t, .int .i64 c.wd, .int .i64 c.s, .int .i64 c.g, .int .i64 c.r, .int .i64 c.cp, .int .i64 c.f, .slice ma mem.length mc, .slice ja jobs.length jc] := by rw [hw0]; exact Blk.new w 27 _
 have hs0 : w0.heap.size = w.heap.size + 1 := by rw [hw0]; simp
 rw [← hw0]
 clear hw0
 refine (setup_rep c mem jobs ma ja mc jc w0 hml hjl ((HM.out).up hB0) ((HJ.out).up2 hB0)).mono ?_
 rintro e w1 ⟨rfl, hb1⟩
 have hB1 : Below w.heap.size w w1 := hB0.trans (hb1.mono hB0.size)
 have hsc : ∀ i, w1.cell? ⟨w.heap.size, i, none⟩ = (#[.int .i64 c.t, .int .i64 c.wd, .int .i64 c.s, .int .i64 c.g, .int .i64 c.r, .int .i64 c.cp, .int .i64 c.f, .slice ma mem.length mc, .slice ja jobs.length jc] : Array Value)[i]? := (hSb.below hb1 (by omega)).cell
 have HB1 : Hid (Below w.heap.size w w1) := hB1
 have HM1 : Hid (Ints w1 w1.heap.size ma mem) := (HM.out).up hB1
 have HJ1 : Hid (JobsRep w1 w1.heap.size ja jobs) := (HJ.out).up2 hB1
 have HP1 : Hid (PicksIn w1 w1.heap.size pa ps) := (HP.out).up2 hB1
 clear hB0 hSb hs0 hb1 hB1 HM HJ HP
 rw [show errS c mem jobs = ER from HER.out]
 by_cases he : ER = 0
 ·have hbn : (ER != 0) = false := by simp [he]
  have HLe : Hid (L = (⟨c, mem, jobs, ps⟩ : Rn).hist) := (HL.out).symm.trans (if_pos ((HER.out).trans he))
  have HSo : Hid (SetupOk c mem jobs ∧ ∀ j ∈ jobs, 0 ≤ j.1 ∧ j.1 < c.t) := errS_ok ((HER.out).trans he)
  have HE0 : Hid (ER = 0) := he
  clear he HL HER
  go_wp2_with fail
  refine (playHistory_any (HSo.out).1 ps HPS.out ma ja pa mc jc pc w1 HM1.out HJ1.out HP1.out).mono ?_
  rintro e w2 ⟨la, lc, AN, hAN, rfl, hl2, hn2, hb2⟩
  have HL2 : Hid (AttsRow w2 w.heap.size la lc AN) := ownsRow_low hl2 (HB1.out).size
  have HN2 : Hid (NotesOf w2 AN) := hn2
  have HAN : Hid (AN.map (·.1) = (⟨c, mem, jobs, ps⟩ : Rn).hist) := hAN
  have HB2 : Hid (Below w.heap.size w w2) := (HB1.out).trans (hb2.mono (HB1.out).size)
  clear hl2 hb2 hsc hbn hn2 hAN
  go_wp2
  exact bodyPost_ret (v := .tuple #[.slice la AN.length lc, .int .i64 0]) (by simp [results, Tryz.results21, go_sem]) rfl ⟨la, lc, AN, by rw [HLe.out]; exact HAN.out, by rw [HE0.out], HL2.out, HN2.out, HB2.out⟩
 ·have hbn : (ER != 0) = true := by simp [he]
  have HLe : Hid (L = []) := (HL.out).symm.trans (if_neg (by rw [HER.out]; exact he))
  clear he HL HER hsc
  go_wp2
  exact bodyPost_ret (v := .tuple #[.slice none 0 0, .int .i64 ER]) (by simp [results, Tryz.results21, go_sem]) rfl ⟨none, 0, [], by rw [HLe.out]; rfl, rfl, World.ownsRow_nil _ _ _ _, fun q hq => absurd hq (by simp), HB1.out⟩
def noNote : NoteD := ⟨0, 0, 0⟩
def NotIn (w : World) (B : Nat) (a : Option Addr) (l : List NoteD) : Prop :=
 ∀ k, k < l.length → ∃ b, a = some ⟨b, 0, none⟩ ∧ b < B ∧ w.cell? ⟨b, k * 3, none⟩ = some (.int .i64 (l.getD k noNote).op) ∧ w.cell? ⟨b, k * 3 + 1, none⟩ = some (.int .i64 (l.getD k noNote).addr) ∧ w.cell? ⟨b, k * 3 + 2, none⟩ = some (.int .i64 (l.getD k noNote).val)
theorem notIn_row {w : World} {base : Nat} {nv : Value} {l : List NoteD} (h : w.ownsRow base 95 3 nv l.length (l.flatMap noteCells)) : ∃ a c, nv = .slice a l.length c ∧ l.length ≤ maxLen ∧ NotIn w w.heap.size a l := by
 rcases h.2 with ⟨rfl, h0⟩ | ⟨g, cap, cur, rfl, hb, hg, h1, h2, h3, h4⟩
 ·have hl : l.length = 0 := h0
  exact ⟨none, 0, by rw [hl], by rw [hl]; unfold maxLen; omega, fun k hk => by omega⟩
 ·refine ⟨_, _, rfl, by omega, fun k hk => ?_⟩
  have hg' : Blk w g 95 cur := hg
  have e : ∀ j, j < 3 → w.cell? ⟨g, k * 3 + j, none⟩ = (noteCells (l.getD k noNote))[j]? := fun j hj => by
   rw [Blk.cell hg']
   have h5 : cur[k * 3 + j]? = (cur.toList.take (l.length * 3))[k * 3 + j]? := by
    rw [List.getElem?_take_of_lt (by omega)]
    simp
   rw [h5, h4, flat_at (n := 3) (fun _ => rfl) _ k j hj, List.getElem?_eq_getElem hk]
   simp [List.getD, List.getElem?_eq_getElem hk]
  exact ⟨g, rfl, lt_of_heap hg, e 0 (by omega), e 1 (by omega), e 2 (by omega)⟩
theorem NotIn.up {w w' : World} {a : Option Addr} {l : List NoteD} (h : NotIn w w.heap.size a l) (hb : Below w.heap.size w w') : NotIn w' w'.heap.size a l := fun k hk => by
 obtain ⟨b, ha, hB, h0, h1, h2⟩ := h k hk
 have e := hb.block b hB
 have := hb.size
 exact ⟨b, ha, by omega, (World.cell?_of_block e).trans h0, (World.cell?_of_block e).trans h1, (World.cell?_of_block e).trans h2⟩
set_option maxRecDepth 100000 in
set_option maxHeartbeats 1000000 in
theorem sameNotes_any (a b : Option Addr) (ca cb : Nat) (l : List NoteD) (w : World) (hn : l.length ≤ maxLen) (ha : NotIn w w.heap.size a l) (hb : NotIn w w.heap.size b l) :
  Calls Tryz.prog 70 #[.slice a l.length ca, .slice b l.length cb] w fun e w' => e = .returned (.bool true) ∧ Below w.heap.size w w' := by
 have HA : Hid (NotIn w w.heap.size a l) := ha
 have HB : Hid (NotIn w w.heap.size b l) := hb
 have HN : Hid (l.length ≤ maxLen) := hn
 clear ha hb hn
 go_enter Tryz.func70, Tryz.ntmps70
 go_wp2
 go_loopg [5] (l.length + 1) (fun m t wr => ∃ k : Nat, t = .int .i64 (k : Int) ∧ k ≤ l.length ∧ m = l.length + 1 - k ∧ Hid (Below w.heap.size w wr))
 case atStart => exact ⟨0, rfl, by omega, by omega, Below.refl _ _⟩
 case round =>
  obtain ⟨k, rfl, hk, hgk, HBk⟩ := hrel
  by_cases hlt : k < l.length
  ·obtain ⟨b1, hA1, hb1, hc10, hc11, hc12⟩ := HA.out k hlt
   obtain ⟨b2, hB1, hb2, hc20, hc21, hc22⟩ := HB.out k hlt
   have up : ∀ (b o : Nat), b < w.heap.size → wr.cell? ⟨b, o, none⟩ = w.cell? ⟨b, o, none⟩ := fun b o hb => World.cell?_of_block ((HBk.out).block b hb)
   have d10 := (up b1 _ hb1).trans hc10
   have d11 := (up b1 _ hb1).trans hc11
   have d12 := (up b1 _ hb1).trans hc12
   have d20 := (up b2 _ hb2).trans hc20
   have d21 := (up b2 _ hb2).trans hc21
   have d22 := (up b2 _ hb2).trans hc22
   have hk0 : (0 : Int) ≤ (k : Int) := by omega
   have hk1 : (k : Int) < (l.length : Int) := by omega
   have hwk : IntKind.i64.wrap ((k : Int) + 1) = (k : Int) + 1 := by
    have := HN.out
    unfold maxLen at this
    rw [IntKind.wrap_i64]
    omega
   subst hA1 hB1
   generalize l.getD k noNote = z at *
   clear hc10 hc11 hc12 hc20 hc21 hc22 HA HB up
   go_wp2
   go_quiet (fail)
   go_wp2
   go_roundg (gk - 1)
   case rel => exact ⟨k + 1, by simp, by omega, by omega, belowDrewN HBk.out nq⟩
   case measure => omega
  ·have hke : ¬ (k : Int) < (l.length : Int) := by omega
   go_wp2
   go_ret
   exact ⟨rfl, HBk.out⟩
set_option maxRecDepth 100000 in
set_option maxHeartbeats 1000000 in
theorem sameAttempt_any (x : AttD) (a b : Option Addr) (ca cb : Nat) (w : World) (hn : x.notes.length ≤ maxLen) (ha : NotIn w w.heap.size a x.notes) (hb : NotIn w w.heap.size b x.notes) :
  Calls Tryz.prog 48 #[.agg #[.int .i64 x.thread, .int .i64 x.job, .int .i64 x.start, .int .i64 x.fin, .int .i64 x.valid, .int .i64 x.stamp, .int .i64 x.fate, .slice a x.notes.length ca], .agg #[.int .i64 x.thread, .int .i64 x.job, .int .i64 x.start, .int .i64 x.fin, .int .i64 x.valid, .int .i64 x.stamp, .int .i64 x.fate, .slice b x.notes.length cb]] w fun e w' => e = .returned (.bool true) ∧ Below w.heap.size w w' := by
 obtain ⟨x0, x1, x2, x3, x4, x5, x6, l⟩ := x
 simp only at hn ha hb ⊢
 have HA : Hid (NotIn w w.heap.size a l) := ha
 have HB : Hid (NotIn w w.heap.size b l) := hb
 have HN : Hid (l.length ≤ maxLen) := hn
 clear ha hb hn
 go_enter Tryz.func48, Tryz.ntmps48
 go_wp2_with fail
 have hB : Below w.heap.size w ((w.alloc (.cells #[.int .i64 x0, .int .i64 x1, .int .i64 x2, .int .i64 x3, .int .i64 x4, .int .i64 x5, .int .i64 x6, .slice a l.length ca] 63)).alloc (.cells #[.int .i64 x0, .int .i64 x1, .int .i64 x2, .int .i64 x3, .int .i64 x4, .int .i64 x5, .int .i64 x6, .slice b l.length cb] 63)) :=
  ((Below.refl w.heap.size w).alloc (Nat.le_refl _) _).alloc (by simp) _
 refine (sameNotes_any a b ca cb l _ HN.out ((HA.out).up hB) ((HB.out).up hB)).mono ?_
 rintro e w' ⟨rfl, hb'⟩
 have HF : Hid (Below w.heap.size w w') := hB.trans (hb'.mono hB.size)
 clear hb' hB
 go_wp2
 go_ret
 exact ⟨rfl, HF.out⟩
set_option maxRecDepth 100000 in
set_option maxHeartbeats 1000000 in
theorem sameAttempts_any (a b : Option Addr) (ca cb : Nat) (AN BN : List (AttD × Value)) (w : World) (base1 base2 : Nat) (hab : BN.map (·.1) = AN.map (·.1)) (hn : AN.length ≤ 2 ^ 40) (ha : AttsRow w base1 a ca AN) (hna : NotesOf w AN) (hb : AttsRow w base2 b cb BN) (hnb : NotesOf w BN) :
  Calls Tryz.prog 23 #[.slice a AN.length ca, .slice b BN.length cb] w fun e w' => e = .returned (.bool true) ∧ Below w.heap.size w w' := by
 have hlen : BN.length = AN.length := by have := congrArg List.length hab; simpa using this
 have HC : Hid (∀ k, k < AN.length → ∃ (x : AttD) (b1 b2 : Nat) (na nb : Option Addr) (nc nd : Nat), a = some ⟨b1, 0, none⟩ ∧ b = some ⟨b2, 0, none⟩ ∧ b1 < w.heap.size ∧ b2 < w.heap.size ∧ x.notes.length ≤ maxLen ∧ NotIn w w.heap.size na x.notes ∧ NotIn w w.heap.size nb x.notes ∧
      (∀ j, j < 8 → w.cell? ⟨b1, k * 8 + j, none⟩ = (attCells x (.slice na x.notes.length nc))[j]?) ∧ (∀ j, j < 8 → w.cell? ⟨b2, k * 8 + j, none⟩ = (attCells x (.slice nb x.notes.length nd))[j]?)) := by
  intro k hk
  have hA := List.getElem?_eq_getElem hk
  have hB := List.getElem?_eq_getElem (l := BN) (i := k) (by omega)
  have hx : (BN[k]'(by omega)).1 = (AN[k]).1 := by
   have := congrArg (fun l => l[k]?) hab
   simp only [List.getElem?_map, hA, hB] at this
   simpa using this
  obtain ⟨b1, e1, l1, c0, c1, c2, c3, c4, c5, c6, c7⟩ := ha.at k _ hA
  obtain ⟨b2, e2, l2, d0, d1, d2, d3, d4, d5, d6, d7⟩ := hb.at k _ hB
  obtain ⟨na, nc, f1, f2, f3⟩ := notIn_row (hna _ (List.getElem_mem hk))
  have hnb' := hnb _ (List.getElem_mem (l := BN) (n := k) (by omega))
  rw [hx] at hnb' d0 d1 d2 d3 d4 d5 d6
  obtain ⟨nb, nd, g1, g2, g3⟩ := notIn_row hnb'
  rw [f1] at c7
  rw [g1] at d7
  refine ⟨(AN[k]).1, b1, b2, na, nb, nc, nd, e1, e2, l1, l2, f2, f3, g3, ?_, ?_⟩
  ·intro j hj
   have : j = 0 ∨ j = 1 ∨ j = 2 ∨ j = 3 ∨ j = 4 ∨ j = 5 ∨ j = 6 ∨ j = 7 := by omega
   rcases this with rfl | rfl | rfl | rfl | rfl | rfl | rfl | rfl <;> assumption
  ·intro j hj
   have : j = 0 ∨ j = 1 ∨ j = 2 ∨ j = 3 ∨ j = 4 ∨ j = 5 ∨ j = 6 ∨ j = 7 := by omega
   rcases this with rfl | rfl | rfl | rfl | rfl | rfl | rfl | rfl <;> assumption
 rw [hlen]
 obtain ⟨N, HN⟩ : ∃ N, Hid (AN.length = N) := ⟨_, rfl⟩
 rw [show AN.length = N from HN.out] at HC hn ⊢
 clear ha hna hb hnb hab hlen HN
 go_enter Tryz.func23, Tryz.ntmps23
 go_wp2
 go_loopg [5] (N + 1) (fun m t wr => ∃ k : Nat, t = .int .i64 (k : Int) ∧ k ≤ N ∧ m = N + 1 - k ∧ Hid (Below w.heap.size w wr))
 case atStart => exact ⟨0, rfl, by omega, by omega, Below.refl _ _⟩
 case round =>
  obtain ⟨k, rfl, hk, hgk, HBk⟩ := hrel
  by_cases hlt : k < N
  ·obtain ⟨x, b1, b2, na, nb, nc, nd, hA1, hB1, hb1, hb2, hxn, hn1, hn2, hc1, hc2⟩ := HC.out k hlt
   have up : ∀ (b o : Nat), b < w.heap.size → wr.cell? ⟨b, o, none⟩ = w.cell? ⟨b, o, none⟩ := fun b o hb => World.cell?_of_block ((HBk.out).block b hb)
   have d10 := (up b1 _ hb1).trans (hc1 0 (by omega))
   have d11 := (up b1 _ hb1).trans (hc1 1 (by omega))
   have d12 := (up b1 _ hb1).trans (hc1 2 (by omega))
   have d13 := (up b1 _ hb1).trans (hc1 3 (by omega))
   have d14 := (up b1 _ hb1).trans (hc1 4 (by omega))
   have d15 := (up b1 _ hb1).trans (hc1 5 (by omega))
   have d16 := (up b1 _ hb1).trans (hc1 6 (by omega))
   have d17 := (up b1 _ hb1).trans (hc1 7 (by omega))
   have d20 := (up b2 _ hb2).trans (hc2 0 (by omega))
   have d21 := (up b2 _ hb2).trans (hc2 1 (by omega))
   have d22 := (up b2 _ hb2).trans (hc2 2 (by omega))
   have d23 := (up b2 _ hb2).trans (hc2 3 (by omega))
   have d24 := (up b2 _ hb2).trans (hc2 4 (by omega))
   have d25 := (up b2 _ hb2).trans (hc2 5 (by omega))
   have d26 := (up b2 _ hb2).trans (hc2 6 (by omega))
   have d27 := (up b2 _ hb2).trans (hc2 7 (by omega))
   simp only [attCells, Nat.add_zero, List.getElem?_cons_zero, List.getElem?_cons_succ] at d10 d11 d12 d13 d14 d15 d16 d17 d20 d21 d22 d23 d24 d25 d26 d27
   have hk0 : (0 : Int) ≤ (k : Int) := by omega
   have hk1 : (k : Int) < (N : Int) := by omega
   have hwk : IntKind.i64.wrap ((k : Int) + 1) = (k : Int) + 1 := wrapF _ (by omega) (by omega)
   have HSm : Hid (∀ wx : World, Below wr.heap.size wr wx → Calls Tryz.prog 48 #[.agg #[.int .i64 x.thread, .int .i64 x.job, .int .i64 x.start, .int .i64 x.fin, .int .i64 x.valid, .int .i64 x.stamp, .int .i64 x.fate, .slice na x.notes.length nc], .agg #[.int .i64 x.thread, .int .i64 x.job, .int .i64 x.start, .int .i64 x.fin, .int .i64 x.valid, .int .i64 x.stamp, .int .i64 x.fate, .slice nb x.notes.length nd]] wx fun e w' => e = .returned (.bool true) ∧ Below wx.heap.size wx w') := fun wx hb =>
    sameAttempt_any x na nb nc nd wx hxn ((hn1.up HBk.out).up hb) ((hn2.up HBk.out).up hb)
   subst hA1 hB1
   obtain ⟨NL, hNL⟩ : ∃ NL, NL = x.notes.length := ⟨_, rfl⟩
   rw [← hNL] at d17 d27 HSm
   have hsz := (HBk.out).size
   clear hc1 hc2 HC up hxn hn1 hn2 hNL
   go_wp2_with fail
   go_cut [6] (fun t wx => t = .bool true ∧ Hid (Below wr.heap.size wr wx))
   case first =>
    go_region_with (go_at_call 48; refine (HSm.out _ (Below.refl wr.heap.size wr).drew).mono ?_; rintro e w4 ⟨rfl, hb4⟩)
    all_goals
     go_wp2
     go_meet
     case rel => exact ⟨rfl, by first | assumption | exact of_drew (by assumption)⟩
   case rest =>
    obtain ⟨rfl, HBc⟩ := hcut
    clear d10 d11 d12 d13 d14 d15 d16 d17 d20 d21 d22 d23 d24 d25 d26 d27
    go_wp2_with fail
    go_roundg (gk - 1)
    case rel => exact ⟨k + 1, by simp, by omega, by omega, (HBk.out).trans ((HBc.out).mono hsz)⟩
    case measure => omega
  ·have hke : ¬ (k : Int) < (N : Int) := by omega
   go_wp2
   go_ret
   exact ⟨rfl, HBk.out⟩
theorem histA_len (c : Cfg) (mem : List Int) (jobs : List (Int × List InsD)) (ps : List PickD) (hps : ps.length ≤ 2 ^ 21) : (histA c mem jobs ps).length ≤ 2 ^ 40 := by
 unfold histA
 split
 ·rename_i h
  have S := (errS_ok h).1
  have O : (⟨c, mem, jobs, ps⟩ : Rn).Ok := ⟨S.cfg, S.mw, S.mb⟩
  have := hist_len O
  have h2 : (⟨c, mem, jobs, ps⟩ : Rn).ps.length = ps.length := rfl
  have h3 : (2 : Nat) ^ 21 ≤ 2 ^ 40 := by decide
  omega
 ·simp
set_option maxRecDepth 100000 in
set_option maxHeartbeats 4000000 in
theorem histories_walk (c : Cfg) (mem : List Int) (jobs : List (Int × List InsD)) (ps : List PickD) (ma ja pa : Option Addr) (mc jc pc : Nat) (w : World) (hps : ps.length ≤ 2 ^ 21) (hml : mem.length ≤ maxLen) (hjl : jobs.length ≤ maxLen)
  (hm : Ints w w.heap.size ma mem) (hj : JobsRep w w.heap.size ja jobs) (hp : PicksIn w w.heap.size pa ps) :
  Calls Tryz.prog 8 #[.agg #[.int .i64 c.t, .int .i64 c.wd, .int .i64 c.s, .int .i64 c.g, .int .i64 c.r, .int .i64 c.cp, .int .i64 c.f, .slice ma mem.length mc, .slice ja jobs.length jc], .slice pa ps.length pc] w fun e w' => e = .returned (.bool true) ∧ Below w.heap.size w w' := by
 have HM : Hid (Ints w w.heap.size ma mem) := hm
 have HJ : Hid (JobsRep w w.heap.size ja jobs) := hj
 have HP : Hid (PicksIn w w.heap.size pa ps) := hp
 have HN : Hid (ps.length ≤ 2 ^ 21) := hps
 have HLn : Hid ((histA c mem jobs ps).length ≤ 2 ^ 40) := histA_len c mem jobs ps hps
 obtain ⟨L, HL⟩ : ∃ L, Hid (histA c mem jobs ps = L) := ⟨_, rfl⟩
 obtain ⟨ER, HER⟩ : ∃ ER, Hid (errS c mem jobs = ER) := ⟨_, rfl⟩
 clear hm hj hp hps
 go_enter Tryz.func8, Tryz.ntmps8
 go_wp2_with fail
 obtain ⟨w0, hw0⟩ : ∃ w0, w0 = w.alloc (.cells #[.int .i64 c.t, .int .i64 c.wd, .int .i64 c.s, .int .i64 c.g, .int .i64 c.r, .int .i64 c.cp, .int .i64 c.f, .slice ma mem.length mc, .slice ja jobs.length jc] 27) := ⟨_, rfl⟩
 have hB0 : Below w.heap.size w w0 := by rw [hw0]; exact (Below.refl w.heap.size w).alloc (Nat.le_refl _) _
 have hSb : Blk w0 w.heap.size 27 #[.int .i64 c.t, .int .i64 c.wd, .int .i64 c.s, .int .i64 c.g, .int .i64 c.r, .int .i64 c.cp, .int .i64 c.f, .slice ma mem.length mc, .slice ja jobs.length jc] := by rw [hw0]; exact Blk.new w 27 _
 rw [← hw0]
 clear hw0
 refine (historyGood c mem jobs ps ma ja pa mc jc pc w0 (Nat.le_trans HN.out (by decide)) hml hjl ((HM.out).up hB0) ((HJ.out).up2 hB0) ((HP.out).up2 hB0)).mono ?_
 rintro e w1 ⟨la, lc, AN, hAN, rfl, hl1, hn1, hb1⟩
 rw [show histA c mem jobs ps = L from HL.out] at hAN
 rw [show errS c mem jobs = ER from HER.out]
 have hB1 : Below w.heap.size w w1 := hB0.trans (hb1.mono hB0.size)
 have hsc := (hSb.below hb1 hSb.lt).cell
 have HB1 : Hid (Below w.heap.size w w1) := hB1
 have HAN : Hid (AN.map (·.1) = L) := hAN
 have HL1 : Hid (AttsRow w1 w0.heap.size la lc AN) := hl1
 have HN1 : Hid (NotesOf w1 AN) := hn1
 have HM1 : Hid (Ints w1 w1.heap.size ma mem) := (HM.out).up hB1
 have HJ1 : Hid (JobsRep w1 w1.heap.size ja jobs) := (HJ.out).up2 hB1
 have HP1 : Hid (PicksIn w1 w1.heap.size pa ps) := (HP.out).up2 hB1
 clear hB0 hSb hl1 hb1 hB1 HM HJ HP hAN hn1
 go_wp2_with fail
 refine (refHistory_any c mem jobs ps (Nat.le_trans HN.out (by decide)) ma ja pa mc jc pc w1 hml hjl HM1.out HJ1.out HP1.out).mono ?_
 rintro e w2 ⟨lb, ld, BN, hBN, rfl, hl2, hn2, hb2⟩
 rw [show histA c mem jobs ps = L from HL.out] at hBN
 rw [show errS c mem jobs = ER from HER.out]
 have HB2 : Hid (Below w.heap.size w w2) := (HB1.out).trans (hb2.mono (HB1.out).size)
 have HLa : Hid (AttsRow w2 w0.heap.size la lc AN) := ownsRow_below HL1.out hb2
 have HNa : Hid (NotesOf w2 AN) := (HN1.out).below hb2
 have HLb : Hid (AttsRow w2 w1.heap.size lb ld BN) := hl2
 have HNb : Hid (NotesOf w2 BN) := hn2
 have HAB : Hid (BN.map (·.1) = AN.map (·.1)) := hBN.trans (HAN.out).symm
 have HLz : Hid (AN.length ≤ 2 ^ 40) := by
  have h1 := congrArg List.length HAN.out
  have h2 := HLn.out
  rw [show histA c mem jobs ps = L from HL.out] at h2
  show _ ≤ _
  rw [List.length_map] at h1
  omega
 clear hl2 hb2 hsc hn2 hBN HM1 HJ1 HP1 HL1 HB1 HL HER HLn HN1 HAN
 go_wp2_with fail
 refine (sameAttempts_any la lb lc ld AN BN w2 _ _ HAB.out HLz.out HLa.out HNa.out HLb.out HNb.out).mono ?_
 rintro e w3 ⟨rfl, hb3⟩
 have HB3 : Hid (Below w.heap.size w w3) := (HB2.out).trans (hb3.mono (HB2.out).size)
 clear hb3
 go_wp2_with (go_at_call 20; refine (num_any _ _).mono ?_; rintro e w' ⟨rfl, rfl⟩)
 go_ret
 exact ⟨by simp, HB3.out⟩
end Go.Proofs.YtejadojilncbjaaGreat
namespace Go.Proofs.YtejadojilncbjaaGreat
open Go.ChangeShapes Go.WideShapes Go.ChangeAt Go.RowKit Go.Deep
set_option linter.unusedVariables false
set_option maxRecDepth 100000 in
theorem histories_lifted (os : Os) (started : os.Started) (H : Type) (enc : TypeId × Value → H) (F : Stop.Interp) :
  ReturnsInHanded {} Tryz.checked os 8 .any ((Rows.OpenSpec.upto Rows.historiesSpec).pre6 enc Tryz.prog Tryz.f8 Rows.historiesUptoRow.domain false) (((Rows.OpenSpec.upto Rows.historiesSpec).at F).post enc Tryz.prog Tryz.f8 false true false false) := by
 refine returnsInHanded_of_cond (C := Tryz.checked) (s := Rows.OpenSpec.upto Rows.historiesSpec) (k := Rows.uptoSmall) rfl ownP started (by kernel_rfl) Tryz.func8
  (OpenSpec.witness (enc := enc) (C := Tryz.checked) (s := Rows.OpenSpec.upto Rows.historiesSpec) (k := Rows.uptoSmall) rfl false ⟨#[], #[.agg #[.int .i64 0, .int .i64 0, .int .i64 0, .int .i64 0, .int .i64 0, .int .i64 0, .int .i64 0, .slice none 0 0, .slice none 0 0], .slice none 0 0], []⟩ 8 (by kernel_rfl) (by kernel_rfl) (by kernel_rfl)
      (x := ([.agg [.agg [.lit (.int .i64 0), .lit (.int .i64 0), .lit (.int .i64 0), .lit (.int .i64 0), .lit (.int .i64 0), .lit (.int .i64 0), .lit (.int .i64 0)], .nil, .nil], .nil], [], [])) (by kernel_rfl) rfl (by kernel_rfl)) ?_
 intro W base args ds gs before hval0 hW hcnd hk _
 have hval : ∀ (j : Nat) t v, Tryz.f8.params[j]? = some t → args[j]? = some v → Value.okWide Tryz.prog W .any base t v := hval0
 have hW' := hW
 obtain ⟨p, q, hA0, hV, rfl, hfz, hnd⟩ := hW
 have hA : DataW.TrodAll enc Tryz.prog W 0 (fun _ => true) true Tryz.f8.params.toList args.toList ds p := hA0
 rw [Tryz.params8] at hA hval
 obtain ⟨v0, vs0, d0, ds0, p0, q0, hargs, rfl, rfl, h0, r0⟩ := trodAll_cons hA
 obtain ⟨v1, vs1, d1, ds1, p1, q1, hvs0, rfl, rfl, h1, r1⟩ := trodAll_cons r0
 obtain ⟨rfl, rfl, rfl⟩ := trodAll_nil r1
 obtain rfl : args = #[v0, v1] := by cases args; simp_all
 obtain ⟨rfl, rfl⟩ := trodVars_none hV
 obtain ⟨cs, rfl, hsz⟩ := okWide_struct Tryz.underlying27 (hval 0 27 v0 rfl rfl)
 obtain ⟨pa, pl, pc, rfl⟩ := okWide_slice Tryz.underlying28 (hval 1 28 v1 rfl rfl)
 have k0 := h0
 have k1 := h1
 have lt0 : ∀ x ∈ p0, x.block < W.heap.size := by obtain ⟨m, hm⟩ := k0; exact DataW.trod_lt m _ _ _ hm
 have lt1 : ∀ x ∈ p1, x.block < W.heap.size := by obtain ⟨m, hm⟩ := k1; exact DataW.trod_lt m _ _ _ hm
 obtain ⟨f0, hf0⟩ := h0
 obtain ⟨f1, hf1⟩ := h1
 obtain ⟨t, wd, s, g, r, cp, f, a, len, cap, zs, ja, jlen, jcap, js, hcs, e1, e2, e3, e4, e5, e6, e7, e8⟩ := setup_open hf0
 obtain ⟨b, blen, bcap, ps, e9, e10, e11, e12⟩ := picks_open hf1
 obtain rfl : cs = #[.int .i64 t, .int .i64 wd, .int .i64 s, .int .i64 g, .int .i64 r, .int .i64 cp, .int .i64 f, .slice a len cap, .slice ja jlen jcap] := by
  cases cs; simpa [Value.cells] using hcs
 have e9' : Value.slice pa pl pc = Value.slice b blen bcap := by simpa [Value.cells] using e9
 cases e9'
 obtain ⟨jobs, hjb, hjr⟩ := jobs_rep e7 e8
 have hps : ps.length ≤ 2 ^ 21 := by
  have h := of_decide_eq_true hk
  simp only [List.append_nil, Rows.uptoBulkAll] at h
  rw [e10]
  simp only at e12
  omega
 subst e1 e5 e10
 have hjl : jobs.length ≤ maxLen := by rw [hjb]; exact e6
 rw [← hjb]
 clear hA0 hval0
 refine (histories_walk ⟨t, wd, s, g, r, cp, f⟩ zs jobs ps a ja pa cap jcap pc W hps e2 hjl e3 hjr e11).mono fun e W' ⟨he, bel⟩ => ?_
 subst he
 rw [hjb]
 exact ⟨_, rfl, _, _, _, [], _, [], hW', trodAll_mk1 (shut_bool Tryz.underlying4 _), (trodAll_cons_mk (Below.trod laidOutP (by kernel_rfl) (of_decide_eq_true (by kernel_rfl)) k0 bel lt0) (trodAll_cons_mk (Below.trod laidOutP (by kernel_rfl) (of_decide_eq_true (by kernel_rfl)) k1 bel lt1) trodAll_mk0)), rfl, bel.frame _, fun h => by cases h⟩
theorem histories_over : Rows.historiesUptoRow.holds Tryz.pinned (Rows.OpenSpec.upto Rows.historiesSpec) :=
 OpenClaim.holds_of_cond 8 Tryz.f8 rfl rfl rfl rfl rfl rfl rfl ⟨rfl, rfl, rfl, rfl, rfl⟩ rfl rfl rfl rfl rfl (by kernel_rfl) Tryz.func8 (by kernel_rfl)
  (of_decide_eq_true (by kernel_rfl)) (by unfold Func.isWrapper; first | (rw [if_pos (by decide +kernel)]; kernel_rfl) | (rw [if_neg (by decide +kernel)]; exact ⟨rfl, rfl⟩))
  (fun os started H enc _ F => histories_lifted os started H enc F)
theorem histories_done : Rows.HistoriesUptoSaid := histories_over
end Go.Proofs.YtejadojilncbjaaGreat
