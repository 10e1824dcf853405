import Derived.Test.YtejadojilncbjabGreatD37
import Derived.Test.YtejadojilncbjabGreatD31
import Derived.Test.YtejadojilncbjabGreatD04
import Derived.Test.YtejadojilncbjabGreatRows
import Derived.ShutString
import Derived.ChangeOld
import Derived.JoinedCond
import Derived.Laws.OwnMore
import Derived.Test.YtejadojilncbjabGreatD10
import Derived.Test.YtejadojilncbjabGreatD36
import Derived.Test.YtejadojilncbjabGreatD35
import Derived.Deep.Upon
namespace Go.Proofs.YtejadojilncbjabGreat
open Go.RowKit
set_option linter.unusedVariables false
attribute [local go_sem ↓] Go.wp_at_zero Go.wp_at_succ
def PHistIs (w : World) (l : List AttD) (e : Ending) (w' : World) : Prop :=
 ∃ (la : Option Addr) (lc : Nat) (AN : List (AttD × Value)), AN.map (·.1) = l ∧ e = .returned (.slice la AN.length lc) ∧ AttsRow w' w.heap.size la lc AN ∧ NotesOf w' AN ∧ Below w.heap.size w w'
theorem HI.low {R : Rn} {base p nb cb bb cap tcap : Nat} {X : List Value} {w0 w : World} {k : Nat} (h : HI R base p nb cb bb cap tcap X w0 k w) : Below base w0 w := by
 obtain ⟨q, Ds, AN, lat, ba, bc, W, M, B, A, N, I, L⟩ := h
 exact L
theorem HP.cells {R : Rn} {base p nb cb bb cap tcap : Nat} {X : List Value} {w0 w : World} {k t : Nat} {q : List (PT × Ls)} {ht : t < q.length} (h : HP R base p nb cb bb cap tcap X w0 k t w q ht) :
  w.cell? ⟨cb, 1, none⟩ = some (.slice (some ⟨p, 0, none⟩) q.length tcap) ∧ w.cell? ⟨cb, 2, none⟩ = some (.int .i64 ((k : Int) + 1)) ∧ (∃ A B, TAt w p (t * 47) A B q[t].1 q[t].2) := by
 obtain ⟨Ds, AN, lat, ba, bc, W, M, B, A, L, e1, e2, e3, hc⟩ := h
 exact ⟨by rw [W.wst.cell]; rfl, by rw [W.wst.cell]; rfl, _, _, (W.tr t ht).tt⟩
theorem HP.cbl {R : Rn} {base p nb cb bb cap tcap : Nat} {X : List Value} {w0 w : World} {k t : Nat} {q : List (PT × Ls)} {ht : t < q.length} (h : HP R base p nb cb bb cap tcap X w0 k t w q ht) : cb < w.heap.size := by
 obtain ⟨Ds, AN, lat, ba, bc, W, M, B, A, L, e1, e2, e3, hc⟩ := h
 exact W.wst.lt
set_option maxRecDepth 100000 in
set_option maxHeartbeats 1000000 in
theorem playHistory_any {c : Cfg} {mem : List Int} {jobs : List (Int × List InsD)} (S : SetupOk c mem jobs) (ps : List PickD) (hps : ps.length ≤ 2 ^ 23) (ma ja pa : Option Addr) (mc jc pc : Nat) (w : World)
  (hm : Ints w w.heap.size ma mem) (hj : JobsRep w w.heap.size ja jobs) (hp : PicksIn w w.heap.size pa ps) :
  Calls Tryz.prog 73 #[.agg #[.int .i64 c.t, .int .i64 c.wd, .int .i64 c.s, .int .i64 c.g, .int .i64 c.r, .int .i64 c.cp, .int .i64 c.f, .slice ma mem.length mc, .slice ja jobs.length jc], .slice pa ps.length pc] w (PHistIs w (⟨c, mem, jobs, ps⟩ : Rn).hist) := by
 have HM : Hid (Ints w w.heap.size ma mem) := hm
 have HJ : Hid (JobsRep w w.heap.size ja jobs) := hj
 have HP : Hid (PicksIn w w.heap.size pa ps) := hp
 have HS : Hid (SetupOk c mem jobs) := S
 obtain ⟨R, hR⟩ : ∃ R : Rn, R = ⟨c, mem, jobs, ps⟩ := ⟨_, rfl⟩
 have HR : Hid (R = ⟨c, mem, jobs, ps⟩) := hR
 have HO : Hid R.Ok := by rw [hR]; exact ⟨S.cfg, S.mw, S.mb⟩
 rw [← hR]
 have hps' : ps.length ≤ 8388608 := hps
 clear hm hj hp S hps hR
 go_enter Tryz.func73, Tryz.ntmps73
 go_wp2_with fail
 obtain ⟨w1, hw1⟩ : ∃ w1, w1 = w.alloc (.cells #[.int .i64 c.t, .int .i64 c.wd, .int .i64 c.s, .int .i64 c.g, .int .i64 c.r, .int .i64 c.cp, .int .i64 c.f, .slice ma mem.length mc, .slice ja jobs.length jc] 27) := ⟨_, rfl⟩
 have HB1 : Hid (Below w.heap.size w w1) := by rw [hw1]; exact (Below.refl w.heap.size w).alloc (Nat.le_refl _) _
 have HSb : Hid (Blk w1 w.heap.size 27 #[.int .i64 c.t, .int .i64 c.wd, .int .i64 c.s, .int .i64 c.g, .int .i64 c.r, .int .i64 c.cp, .int .i64 c.f, .slice ma mem.length mc, .slice ja jobs.length jc]) := by rw [hw1]; exact Blk.new w 27 _
 have hs1 : w1.heap.size = w.heap.size + 1 := by rw [hw1]; simp
 rw [← hw1]
 clear hw1
 have HM1 : Hid (Ints w1 w1.heap.size ma mem) := (HM.out).up HB1.out
 have HJ1 : Hid (JobsRep w1 w1.heap.size ja jobs) := (HJ.out).up2 HB1.out
 have HP1 : Hid (PicksIn w1 w1.heap.size pa ps) := (HP.out).up2 HB1.out
 clear HM HJ HP
 refine (begin_any c (HS.out).cfg mem (HS.out).mw (HS.out).mb jobs (HS.out).j8 ma ja mc jc w1 HM1.out HJ1.out).mono ?_
 rintro e w2 ⟨nb, p, cap, tcap, q, Ds, X, rfl, hW, hM, hb2⟩
 obtain ⟨cb, hcb⟩ : ∃ cb, cb = w2.heap.size := ⟨_, rfl⟩
 have hB3 : Below w2.heap.size w2 (w2.alloc (.cells #[.slice (some ⟨nb, 0, none⟩) Ds.length cap, .slice (some ⟨p, 0, none⟩) q.length tcap, .int .i64 0] 125)) := (Below.refl _ _).alloc (Nat.le_refl _) _
 have HW3 : Hid (WR w1.heap.size p nb cb cap tcap ((0 : Nat) : Int) X (w2.alloc (.cells #[.slice (some ⟨nb, 0, none⟩) Ds.length cap, .slice (some ⟨p, 0, none⟩) q.length tcap, .int .i64 0] 125)) q Ds ∧ SimW R.c R.jobs ((0 : Nat) : Int) (R.g 0) q Ds) := by
  refine ⟨hW _ cb hB3 (by rw [hcb]; exact Blk.new w2 125 _) (by rw [hcb]; exact hb2.size), ?_⟩
  rw [HR.out]
  exact hM
 have HB3 : Hid (Below w1.heap.size w1 (w2.alloc (.cells #[.slice (some ⟨nb, 0, none⟩) Ds.length cap, .slice (some ⟨p, 0, none⟩) q.length tcap, .int .i64 0] 125))) := hb2.trans (hB3.mono hb2.size)
 clear hW hM hB3 hb2
 go_upto_region 2 with fail
 rw [← hcb]
 clear hcb
 generalize w2.alloc (.cells #[.slice (some ⟨nb, 0, none⟩) Ds.length cap, .slice (some ⟨p, 0, none⟩) q.length tcap, .int .i64 0] 125) = w3 at *
 obtain ⟨bb, hbb⟩ : ∃ bb, bb = w3.heap.size := ⟨_, rfl⟩
 have hB4 : Below w3.heap.size w3 (w3.alloc (.cells #[.slice none 0 0, .int .i64 0, .int .i64 0, .int .i64 0, .int .i64 0] 164)) := (Below.refl _ _).alloc (Nat.le_refl _) _
 have HBb : Hid (w1.heap.size ≤ bb) := by show _ ≤ _; rw [hbb]; exact (HB3.out).size
 have HI4 : Hid (HI R w1.heap.size p nb cb bb cap tcap X w1 0 (w3.alloc (.cells #[.slice none 0 0, .int .i64 0, .int .i64 0, .int .i64 0, .int .i64 0] 164))) := by
  refine ⟨q, Ds, [], [0, 0, 0, 0], none, 0, (HW3.out).1.below hB4, (HW3.out).2, ⟨?_, rfl⟩, World.ownsRow_nil _ _ _ _, fun m x hx => by simp at hx, BkI.zero R, (HB3.out).trans (hB4.mono (HB3.out).size)⟩
  rw [hbb]
  exact Blk.new w3 164 _
 clear HW3 HB3 hB4
 go_upto_region 3 with fail
 rw [← hbb]
 clear hbb
 generalize w3.alloc (.cells #[.slice none 0 0, .int .i64 0, .int .i64 0, .int .i64 0, .int .i64 0] 164) = w4 at *
 go_wp2_with fail
 go_loopg [16] (ps.length + 1) (fun m t16 wr => ∃ (k : Nat), t16 = .int .i64 (k : Int) ∧ k ≤ ps.length ∧ m = ps.length + 1 - k ∧ Hid (HI R w1.heap.size p nb cb bb cap tcap X w1 k wr))
 case atStart => exact ⟨0, rfl, by omega, by omega, HI4⟩
 case round =>
  obtain ⟨k, rfl, hk, hgk, HH⟩ := hrel
  clear HI4
  have HB : Hid (Below w1.heap.size w1 wr) := (HH.out).low
  by_cases hkl : k < ps.length
  ·obtain ⟨pb, poff, hpa, hpb, hpc0, hpc1⟩ := HP1.out k hkl
   have hk0 : (0 : Int) ≤ (k : Int) := by omega
   have hk1 : (k : Int) < (ps.length : Int) := by omega
   have hwk : IntKind.i64.wrap ((k : Int) + 1) = (k : Int) + 1 := wrapP _ (by omega) (by omega)
   have hszk : w1.heap.size ≤ wr.heap.size := (HB.out).size
   have hq0 : wr.cell? ⟨pb, poff + k * 2, none⟩ = some (.int .i64 (pickAt ps k).thread) := (World.cell?_of_block ((HB.out).block pb hpb)).trans hpc0
   have hq1 : wr.cell? ⟨pb, poff + k * 2 + 1, none⟩ = some (.int .i64 (pickAt ps k).draw) := (World.cell?_of_block ((HB.out).block pb hpb)).trans hpc1
   have hpbl : pb < wr.heap.size := by omega
   have hsbl : w.heap.size < wr.heap.size := by omega
   subst hpa
   clear hpc0 hpc1
   obtain ⟨th, hth⟩ : ∃ th, th = (pickAt ps k).thread := ⟨_, rfl⟩
   obtain ⟨dr, hdr⟩ : ∃ dr, dr = (pickAt ps k).draw := ⟨_, rfl⟩
   rw [← hth] at hq0
   rw [← hdr] at hq1
   have HPk : Hid (R.pk k = ⟨th, dr⟩) := by show _ = _; rw [HR.out, hth, hdr]; rfl
   have hBa : Below wr.heap.size wr (wr.alloc (.cells #[.int .i64 th, .int .i64 dr] 76)) := (Below.refl wr.heap.size wr).alloc (Nat.le_refl _) _
   have HBa : Hid (Below w1.heap.size w1 (wr.alloc (.cells #[.int .i64 th, .int .i64 dr] 76))) := (HB.out).trans (hBa.mono hszk)
   have hPb : Blk (wr.alloc (.cells #[.int .i64 th, .int .i64 dr] 76)) wr.heap.size 76 #[.int .i64 th, .int .i64 dr] := Blk.new wr 76 _
   obtain ⟨n0, hn0⟩ : ∃ n0, n0 = wr.heap.size := ⟨_, rfl⟩
   have HPb : Hid (Blk (wr.alloc (.cells #[.int .i64 th, .int .i64 dr] 76)) n0 76 #[.int .i64 th, .int .i64 dr]) := by rw [hn0]; exact hPb
   obtain ⟨qq, Dq, Wq, Mq, hnx⟩ := ((HH.out).below hBa).pick HO.out
   rw [HPk.out] at hnx
   have HC : Hid (Calls Tryz.prog 105 #[.pointer (some ⟨cb, 0, none⟩), .slice ja jobs.length jc, .agg #[.int .i64 th, .int .i64 dr]] (wr.alloc (.cells #[.int .i64 th, .int .i64 dr] 76)) (OneIs w1.heap.size p nb cb cap tcap ((k : Int) + 1) X R.c R.jobs k (R.g k) ((k : Int) + 1) ⟨th, dr⟩ qq (wr.alloc (.cells #[.int .i64 th, .int .i64 dr] 76)))) := by
    have hjr : JobsRep (wr.alloc (.cells #[.int .i64 th, .int .i64 dr] 76)) w1.heap.size ja R.jobs := by rw [HR.out]; exact (HJ1.out).up HBa.out
    have h := t_wpick (HO.out).c ⟨by omega, by omega⟩ Wq Mq ⟨by omega, by omega⟩ ⟨th, dr⟩ ja jc hjr (by rw [HR.out]; exact (HS.out).cd)
    have hjl : R.jobs.length = jobs.length := by rw [HR.out]
    rw [hjl] at h
    exact h
   have HNx : Hid (∀ (q' : List (PT × Ls)) (Ds' : List Int) (w' : World), WR w1.heap.size p nb cb cap tcap ((k : Int) + 1) X w' q' Ds' → SimW R.c R.jobs ((k : Int) + 1) (gStep R.c R.jobs (R.g k) ((k : Int) + 1) ⟨th, dr⟩).1 q' Ds' → GoesW p nb cb qq (wr.alloc (.cells #[.int .i64 th, .int .i64 dr] 76)) q' w' → NGo th (gStep R.c R.jobs (R.g k) ((k : Int) + 1) ⟨th, dr⟩).2.kind qq q' (wr.alloc (.cells #[.int .i64 th, .int .i64 dr] 76)) w' →
       ((gStep R.c R.jobs (R.g k) ((k : Int) + 1) ⟨th, dr⟩).2.kind = 0 ∧ HI R w1.heap.size p nb cb bb cap tcap X w1 (k + 1) w') ∨
       ((gStep R.c R.jobs (R.g k) ((k : Int) + 1) ⟨th, dr⟩).2.kind ≠ 0 ∧ ∃ (t : Nat) (ht : t < q'.length), th = (t : Int) ∧ Go.Proofs.YtejadojilncbjabGreat.HP R w1.heap.size p nb cb bb cap tcap X w1 k t w' q' ht)) := by
    intro q' Ds' w' a1 a2 a3 a4
    refine hnx q' Ds' w' a1 ?_ a3 a4
    rw [R.step, HPk.out]
    exact a2
   have HWq : Hid (WR w1.heap.size p nb cb cap tcap (k : Int) X (wr.alloc (.cells #[.int .i64 th, .int .i64 dr] 76)) qq Dq) := Wq
   clear hth hdr hBa HH HB hnx Wq Mq hPb
   go_upto_region 6 with fail
   rw [← hn0]
   clear hn0
   generalize wr.alloc (.cells #[.int .i64 th, .int .i64 dr] 76) = wp at *
   have hsc : ∀ i, wp.cell? ⟨w.heap.size, i, none⟩ = (#[.int .i64 c.t, .int .i64 c.wd, .int .i64 c.s, .int .i64 c.g, .int .i64 c.r, .int .i64 c.cp, .int .i64 c.f, .slice ma mem.length mc, .slice ja jobs.length jc] : Array Value)[i]? := ((HSb.out).below HBa.out (by omega)).cell
   have hpc := (HPb.out).cell
   clear hq0 hq1
   go_wp2_with fail
   clear hsc hpc
   refine (HC.out).mono ?_
   rintro e w5 ⟨rfl, q', Ds', W5, M5, G5, N5⟩
   have hP5 : Blk w5 n0 76 #[.int .i64 th, .int .i64 dr] := (goes_blk HWq.out G5 HPb.out (by decide) (by decide) (by decide) (by decide) (by decide) (by decide) (by decide)).trans HPb.out
   have hcase := HNx.out q' Ds' w5 W5 M5 G5 N5
   obtain ⟨a, ha⟩ : ∃ a, a = (gStep R.c R.jobs (R.g k) ((k : Int) + 1) ⟨th, dr⟩).2 := ⟨_, rfl⟩
   rw [← ha] at hcase ⊢
   clear ha W5 M5 G5 N5 HC HNx HBa HPb HWq HPk
   obtain ⟨ak, ac, az, ap⟩ := a
   have hBc : Below w5.heap.size w5 (w5.alloc (.cells #[.int .i64 ak, .int .i64 ac, .int .i64 az, .int .i64 ap] 158)) := (Below.refl _ _).alloc (Nat.le_refl _) _
   rcases hcase with ⟨h0, H5⟩ | ⟨h0, t, ht, hth, H5⟩
   ·have hbn : (ak != 0) = false := by simpa using h0
    have H6 : Hid (HI R w1.heap.size p nb cb bb cap tcap X w1 (k + 1) (w5.alloc (.cells #[.int .i64 ak, .int .i64 ac, .int .i64 az, .int .i64 ap] 158))) := H5.below hBc
    clear H5 hBc hP5 h0
    go_wp2_with fail
    go_roundg (gk - 1)
    case rel => exact ⟨k + 1, by simp, by omega, by omega, H6⟩
    case measure => omega
   ·have hbn : (ak != 0) = true := by simpa using h0
    have H6 := H5.below hBc
    obtain ⟨m1, m2, A, B, hT⟩ := H5.cells
    obtain ⟨_, _, A', B', hT'⟩ := H6.cells
    have hcbl : cb < w5.heap.size := H5.cbl
    have hcbn : cb ≠ w5.heap.size := by omega
    have hnl : n0 < w5.heap.size := hP5.lt
    have hnn : n0 ≠ w5.heap.size := by omega
    have hpc5 := hP5.cell
    have ht0 : (0 : Int) ≤ th := by omega
    have ht1 : th < (q'.length : Int) := by omega
    have hto : th.toNat = t := by omega
    obtain ⟨T, hT0⟩ : ∃ T, T = q'[t].1 := ⟨_, rfl⟩
    obtain ⟨L, hL0⟩ : ∃ L, L = q'[t].2 := ⟨_, rfl⟩
    have hC := t_told hT'
    rw [← hT0, ← hL0] at hC
    have HC : Hid (Calls Tryz.prog 106 #[.pointer (some ⟨p, t * 47, none⟩)] (w5.alloc (.cells #[.int .i64 ak, .int .i64 ac, .int .i64 az, .int .i64 ap] 158)) fun e w' => e = .returned (.agg #[.int .i64 T.aTh, .int .i64 T.aJob, .int .i64 T.aStart, .int .i64 T.aEnd, .int .i64 T.valid, .int .i64 T.aStamp, .int .i64 T.aFate, .slice L.na T.notes.length L.nc]) ∧ Below (w5.alloc (.cells #[.int .i64 ak, .int .i64 ac, .int .i64 az, .int .i64 ap] 158)).heap.size (w5.alloc (.cells #[.int .i64 ak, .int .i64 ac, .int .i64 az, .int .i64 ap] 158)) w') := hC
    have H6' : Hid (Go.Proofs.YtejadojilncbjabGreat.HP R w1.heap.size p nb cb bb cap tcap X w1 k t (w5.alloc (.cells #[.int .i64 ak, .int .i64 ac, .int .i64 az, .int .i64 ap] 158)) q' ht) := H6
    have HTL : Hid (T = q'[t].1 ∧ L = q'[t].2) := ⟨hT0, hL0⟩
    clear H5 H6 hT hT' hC hT0 hL0 hBc hP5 h0 m2 hth
    go_wp2_with fail
    clear m1 hpc5 hbn
    refine (HC.out).mono ?_
    rintro e w7 ⟨rfl, hb7⟩
    have H7 := (H6'.out).below hb7
    obtain ⟨_, m7, _⟩ := H7.cells
    have hc7 : cb < w7.heap.size := H7.cbl
    have hcn7 : cb ≠ w7.heap.size := by omega
    have hE := (H7.below ((Below.refl w7.heap.size w7).alloc (Nat.le_refl _) (.cells #[.int .i64 T.aTh, .int .i64 T.aJob, .int .i64 T.aStart, .int .i64 T.aEnd, .int .i64 T.valid, .int .i64 T.aStamp, .int .i64 T.aFate, .slice L.na T.notes.length L.nc] 82))).enter HBb.out (by omega)
    rw [← (HTL.out).1, ← (HTL.out).2] at hE
    have HE : Hid (Calls Tryz.prog 107 #[.pointer (some ⟨bb, 0, none⟩), .agg #[.int .i64 T.aTh, .int .i64 T.aJob, .int .i64 T.aStart, .int .i64 T.aEnd, .int .i64 T.valid, .int .i64 T.aStamp, .int .i64 T.aFate, .slice L.na T.notes.length L.nc], .int .i64 ((k : Int) + 1)] (w7.alloc (.cells #[.int .i64 T.aTh, .int .i64 T.aJob, .int .i64 T.aStart, .int .i64 T.aEnd, .int .i64 T.valid, .int .i64 T.aStamp, .int .i64 T.aFate, .slice L.na T.notes.length L.nc] 82)) fun e w' => e = .returned (.tuple #[]) ∧ HI R w1.heap.size p nb cb bb cap tcap X w1 (k + 1) w') := hE
    clear hE H7 hb7 HC H6' HTL
    go_wp2_with fail
    clear m7
    refine (HE.out).mono ?_
    rintro e w9 ⟨rfl, h9⟩
    have H9 : Hid (HI R w1.heap.size p nb cb bb cap tcap X w1 (k + 1) w9) := h9
    clear h9 HE
    go_wp2_with fail
    go_roundg (gk - 1)
    case rel => exact ⟨k + 1, by simp, by omega, by omega, H9⟩
    case measure => omega
  ·have hkj : k = ps.length := by omega
   subst hkj
   have hk2 : ¬ ((ps.length : Int) < (ps.length : Int)) := by omega
   obtain ⟨q2, Ds2, AN, lat, ba, bc, W, M, B, A, N, I, L⟩ := HH.out
   have b0 : wr.cell? ⟨bb, 0, none⟩ = some (.slice ba AN.length bc) := by rw [B.1.cell]; rfl
   have hRl : R.ps.length = ps.length := by rw [HR.out]
   have HA : Hid (AN.map (·.1) = R.hist ∧ AttsRow wr w.heap.size ba bc AN ∧ NotesOf wr AN ∧ Below w.heap.size w wr) := by
    refine ⟨?_, ownsRow_low A (HB1.out).size, N.of, (HB1.out).trans (L.mono (HB1.out).size)⟩
    rw [← hRl] at I
    exact I.hist HO.out
   clear W M B A N I L HH HB hRl
   go_wp2_with fail
   go_ret
   exact ⟨ba, bc, AN, (HA.out).1, rfl, (HA.out).2⟩
theorem setup_rep (c : Cfg) (mem : List Int) (jobs : List (Int × List InsD)) (ma ja : Option Addr) (mc jc : Nat) (w : World) (hml : mem.length ≤ maxLen) (hjl : jobs.length ≤ maxLen) (hm : Ints w w.heap.size ma mem) (hj : JobsRep w w.heap.size ja jobs) :
  Calls Tryz.prog 32 #[.agg #[.int .i64 c.t, .int .i64 c.wd, .int .i64 c.s, .int .i64 c.g, .int .i64 c.r, .int .i64 c.cp, .int .i64 c.f, .slice ma mem.length mc, .slice ja jobs.length jc]] w fun e w' =>
   e = .returned (.int .i64 (errS c mem jobs)) ∧ Below w.heap.size w w' := by
 obtain ⟨js, h1, h2, h3⟩ := hj
 have := setup_core c.t c.wd c.s c.g c.r c.cp c.f ma mem.length mc mem ja jobs.length jc js w rfl hml hm h1 hjl h2
 rw [show (⟨c.t, c.wd, c.s, c.g, c.r, c.cp, c.f⟩ : Cfg) = c from rfl, check_err h1 (fun i hi => ⟨(h3 i hi).1, (h3 i hi).2.1⟩)] at this
 exact this
def HistoryGood : Prop := ∀ (c : Cfg) (mem : List Int) (jobs : List (Int × List InsD)) (ps : List PickD) (ma ja pa : Option Addr) (mc jc pc : Nat) (w : World), ps.length ≤ 2 ^ 23 → mem.length ≤ maxLen → jobs.length ≤ maxLen →
  Ints w w.heap.size ma mem → JobsRep w w.heap.size ja jobs → PicksIn w w.heap.size pa ps →
  Calls Tryz.prog 30 #[.agg #[.int .i64 c.t, .int .i64 c.wd, .int .i64 c.s, .int .i64 c.g, .int .i64 c.r, .int .i64 c.cp, .int .i64 c.f, .slice ma mem.length mc, .slice ja jobs.length jc], .slice pa ps.length pc] w (HistIs w (histA c mem jobs ps) (errS c mem jobs))
set_option maxRecDepth 100000 in
set_option maxHeartbeats 4000000 in
theorem historyGood : HistoryGood := by
 intro c mem jobs ps ma ja pa mc jc pc w hps hml hjl hm hj hp
 have HM : Hid (Ints w w.heap.size ma mem) := hm
 have HJ : Hid (JobsRep w w.heap.size ja jobs) := hj
 have HP : Hid (PicksIn w w.heap.size pa ps) := hp
 have HPS : Hid (ps.length ≤ 2 ^ 23) := hps
 obtain ⟨L, HL⟩ : ∃ L, Hid (histA c mem jobs ps = L) := ⟨_, rfl⟩
 obtain ⟨ER, HER⟩ : ∃ ER, Hid (errS c mem jobs = ER) := ⟨_, rfl⟩
 rw [show histA c mem jobs ps = L from HL.out, show errS c mem jobs = ER from HER.out]
 clear hm hj hp hps
 go_enter Tryz.func30, Tryz.ntmps30
 go_wp2_with fail
 obtain ⟨w0, hw0⟩ : ∃ w0, w0 = w.alloc (.cells #[.int .i64 c.t, .int .i64 c.wd, .int .i64 c.s, .int .i64 c.g, .int .i64 c.r, .int .i64 c.cp, .int .i64 c.f, .slice ma mem.length mc, .slice ja jobs.length jc] 27) := ⟨_, rfl⟩
 have hB0 : Below w.heap.size w w0 := by rw [hw0]; exact (Below.refl w.heap.size w).alloc (Nat.le_refl _) _
 have hSb : Blk w0 w.heap.size 27 #[.int .i64 c.t, .int .i64 c.wd, .int .i64 c.s, .int .i64 c.g, .int .i64 c.r, .int .i64 c.cp, .int .i64 c.f, .slice ma mem.length mc, .slice ja jobs.length jc] := by rw [hw0]; exact Blk.new w 27 _
 have hs0 : w0.heap.size = w.heap.size + 1 := by rw [hw0]; simp
 rw [← hw0]
 clear hw0
 refine (setup_rep c mem jobs ma ja mc jc w0 hml hjl ((HM.out).up hB0) ((HJ.out).up2 hB0)).mono ?_
 rintro e w1 ⟨rfl, hb1⟩
 have hB1 : Below w.heap.size w w1 := hB0.trans (hb1.mono hB0.size)
 have hsc : ∀ i, w1.cell? ⟨w.heap.size, i, none⟩ = (#[.int .i64 c.t, .int .i64 c.wd, .int .i64 c.s, .int .i64 c.g, .int .i64 c.r, .int .i64 c.cp, .int .i64 c.f, .slice ma mem.length mc, .slice ja jobs.length jc] : Array Value)[i]? := (hSb.below hb1 (by omega)).cell
 have HB1 : Hid (Below w.heap.size w w1) := hB1
 have HM1 : Hid (Ints w1 w1.heap.size ma mem) := (HM.out).up hB1
 have HJ1 : Hid (JobsRep w1 w1.heap.size ja jobs) := (HJ.out).up2 hB1
 have HP1 : Hid (PicksIn w1 w1.heap.size pa ps) := (HP.out).up2 hB1
 clear hB0 hSb hs0 hb1 hB1 HM HJ HP
 rw [show errS c mem jobs = ER from HER.out]
 by_cases he : ER = 0
 ·have hbn : (ER != 0) = false := by simp [he]
  have HLe : Hid (L = (⟨c, mem, jobs, ps⟩ : Rn).hist) := (HL.out).symm.trans (if_pos ((HER.out).trans he))
  have HSo : Hid (SetupOk c mem jobs ∧ ∀ j ∈ jobs, 0 ≤ j.1 ∧ j.1 < c.t) := errS_ok ((HER.out).trans he)
  have HE0 : Hid (ER = 0) := he
  clear he HL HER
  go_wp2_with fail
  refine (playHistory_any (HSo.out).1 ps HPS.out ma ja pa mc jc pc w1 HM1.out HJ1.out HP1.out).mono ?_
  rintro e w2 ⟨la, lc, AN, hAN, rfl, hl2, hn2, hb2⟩
  have HL2 : Hid (AttsRow w2 w.heap.size la lc AN) := ownsRow_low hl2 (HB1.out).size
  have HN2 : Hid (NotesOf w2 AN) := hn2
  have HAN : Hid (AN.map (·.1) = (⟨c, mem, jobs, ps⟩ : Rn).hist) := hAN
  have HB2 : Hid (Below w.heap.size w w2) := (HB1.out).trans (hb2.mono (HB1.out).size)
  clear hl2 hb2 hsc hbn hn2 hAN
  go_wp2
  exact bodyPost_ret (v := .tuple #[.slice la AN.length lc, .int .i64 0]) (by simp [results, Tryz.results30, go_sem]) rfl ⟨la, lc, AN, by rw [HLe.out]; exact HAN.out, by rw [HE0.out], HL2.out, HN2.out, HB2.out⟩
 ·have hbn : (ER != 0) = true := by simp [he]
  have HLe : Hid (L = []) := (HL.out).symm.trans (if_neg (by rw [HER.out]; exact he))
  clear he HL HER hsc
  go_wp2
  exact bodyPost_ret (v := .tuple #[.slice none 0 0, .int .i64 ER]) (by simp [results, Tryz.results30, go_sem]) rfl ⟨none, 0, [], by rw [HLe.out]; rfl, rfl, World.ownsRow_nil _ _ _ _, fun q hq => absurd hq (by simp), HB1.out⟩
def worksB (jobs : List (Int × List InsD)) (t : Int) : Bool := jobs.any fun j => j.1 == t
set_option maxRecDepth 100000 in
set_option maxHeartbeats 2000000 in
theorem works_any (c : Cfg) (mem : List Int) (jobs : List (Int × List InsD)) (t : Int) (ma ja : Option Addr) (ml mc jc : Nat) (w : World) (hjl : jobs.length ≤ 2 ^ 40) (hj : JobsRep w w.heap.size ja jobs) :
  Calls Tryz.prog 31 #[.agg #[.int .i64 c.t, .int .i64 c.wd, .int .i64 c.s, .int .i64 c.g, .int .i64 c.r, .int .i64 c.cp, .int .i64 c.f, .slice ma ml mc, .slice ja jobs.length jc], .int .i64 t] w fun e w' =>
   e = .returned (.bool (worksB jobs t)) ∧ Below w.heap.size w w' := by
 have hB0 : Below w.heap.size w (w.alloc (.cells #[.int .i64 c.t, .int .i64 c.wd, .int .i64 c.s, .int .i64 c.g, .int .i64 c.r, .int .i64 c.cp, .int .i64 c.f, .slice ma ml mc, .slice ja jobs.length jc] 27)) := (Below.refl w.heap.size w).alloc (Nat.le_refl _) _
 obtain ⟨w0, hw0⟩ : ∃ w0, w0 = w.alloc (.cells #[.int .i64 c.t, .int .i64 c.wd, .int .i64 c.s, .int .i64 c.g, .int .i64 c.r, .int .i64 c.cp, .int .i64 c.f, .slice ma ml mc, .slice ja jobs.length jc] 27) := ⟨_, rfl⟩
 have hSb : Blk w0 w.heap.size 27 #[.int .i64 c.t, .int .i64 c.wd, .int .i64 c.s, .int .i64 c.g, .int .i64 c.r, .int .i64 c.cp, .int .i64 c.f, .slice ma ml mc, .slice ja jobs.length jc] := by rw [hw0]; exact Blk.new w 27 _
 rw [← hw0] at hB0
 have HJ : Hid (JobsRep w0 w0.heap.size ja jobs) := hj.up2 hB0
 have HB0 : Hid (Below w.heap.size w w0) := hB0
 have HSb : Hid (Blk w0 w.heap.size 27 #[.int .i64 c.t, .int .i64 c.wd, .int .i64 c.s, .int .i64 c.g, .int .i64 c.r, .int .i64 c.cp, .int .i64 c.f, .slice ma ml mc, .slice ja jobs.length jc]) := hSb
 have HW0 : Hid (w0 = w.alloc (.cells #[.int .i64 c.t, .int .i64 c.wd, .int .i64 c.s, .int .i64 c.g, .int .i64 c.r, .int .i64 c.cp, .int .i64 c.f, .slice ma ml mc, .slice ja jobs.length jc] 27)) := hw0
 obtain ⟨V, HV⟩ : ∃ V, Hid (worksB jobs t = V) := ⟨_, rfl⟩
 rw [show worksB jobs t = V from HV.out]
 have hsc := hSb.cell
 clear hj hB0 hSb hw0
 go_enter Tryz.func31, Tryz.ntmps31
 go_wp2_with fail
 rw [← show w0 = _ from HW0.out]
 clear HW0
 go_loopg [5] (jobs.length + 1) (fun m t5 wr => ∃ k : Nat, t5 = .int .i64 (k : Int) ∧ k ≤ jobs.length ∧ m = jobs.length + 1 - k ∧ wr = w0 ∧ Hid (∀ i, i < k → ((jobs.getD i (0, [])).1 == t) = false))
 case atStart => exact ⟨0, rfl, by omega, by omega, rfl, fun i hi => absurd hi (Nat.not_lt_zero _)⟩
 case round =>
  obtain ⟨k, rfl, hk, hgk, rfl, HN⟩ := hrel
  by_cases hkl : k < jobs.length
  ·obtain ⟨js, h1, h2, h3⟩ := HJ.out
   obtain ⟨b, off, hja, hbl, hc0, hc1⟩ := h2 k (by omega)
   have ht := (h3 k (by omega)).1
   rw [ht] at hc0
   have hk0 : (0 : Int) ≤ (k : Int) := by omega
   have hk1 : (k : Int) < (jobs.length : Int) := by omega
   have hwk : IntKind.i64.wrap ((k : Int) + 1) = (k : Int) + 1 := wrapF _ (by omega) (by omega)
   subst hja
   clear h1 h2 h3 hc1 ht
   by_cases he : (jobs.getD k (0, [])).1 = t
   ·have hbe : ((jobs.getD k (0, [])).1 == t) = true := by rw [beq_iff_eq]; exact he
    have HV1 : Hid (V = true) := by
     show V = true
     rw [← show worksB jobs t = V from HV.out]
     unfold worksB
     rw [List.any_eq_true]
     refine ⟨jobs.getD k (0, []), ?_, hbe⟩
     rw [show jobs.getD k (0, []) = jobs[k] from by simp [List.getD, List.getElem?_eq_getElem hkl]]
     exact List.getElem_mem hkl
    generalize (jobs.getD k (0, [])).1 = z at *
    clear HN HV he
    go_wp2
    go_ret
    exact ⟨by rw [HV1.out]; rfl, HB0.out⟩
   ·have hbe : ((jobs.getD k (0, [])).1 == t) = false := by rw [beq_eq_false_iff_ne]; exact he
    have HN2 : Hid (∀ i, i < k + 1 → ((jobs.getD i (0, [])).1 == t) = false) := fun i hi => by
     by_cases e : i = k
     ·rw [e]; exact hbe
     ·exact HN.out i (by omega)
    generalize (jobs.getD k (0, [])).1 = z at *
    clear HN HV he
    go_wp2
    go_roundg (gk - 1)
    case rel => exact ⟨k + 1, by simp, by omega, by omega, rfl, HN2⟩
    case measure => omega
  ·have hke : k = jobs.length := by omega
   have hk1 : ¬ (k : Int) < (jobs.length : Int) := by omega
   have HV0 : Hid (V = false) := by
    show V = false
    rw [← show worksB jobs t = V from HV.out]
    unfold worksB
    rw [List.any_eq_false]
    intro x hx
    obtain ⟨i, hi, rfl⟩ := List.mem_iff_getElem.1 hx
    have := HN.out i (by omega)
    rw [show jobs.getD i (0, []) = jobs[i] from by simp [List.getD, List.getElem?_eq_getElem hi]] at this
    simpa using this
   clear HN HV hke
   go_wp2
   go_ret
   exact ⟨by rw [HV0.out]; rfl, HB0.out⟩
def answeredN (want e : Int) (empty : Bool) : Int := if e ≠ want then 0 else if e = 0 then 2 else if empty then 1 else 0
set_option maxRecDepth 100000 in
set_option maxHeartbeats 2000000 in
theorem answered_any (c : Cfg) (mem : List Int) (jobs : List (Int × List InsD)) (er : Int) (em : Bool) (ma ja : Option Addr) (mc jc : Nat) (w : World) (hml : mem.length ≤ maxLen) (hjl : jobs.length ≤ maxLen) (hm : Ints w w.heap.size ma mem) (hj : JobsRep w w.heap.size ja jobs) :
  Calls Tryz.prog 11 #[.agg #[.int .i64 c.t, .int .i64 c.wd, .int .i64 c.s, .int .i64 c.g, .int .i64 c.r, .int .i64 c.cp, .int .i64 c.f, .slice ma mem.length mc, .slice ja jobs.length jc], .int .i64 er, .bool em] w fun e w' =>
   e = .returned (.int .i64 (answeredN (errS c mem jobs) er em)) ∧ Below w.heap.size w w' := by
 have hB0 : Below w.heap.size w (w.alloc (.cells #[.int .i64 c.t, .int .i64 c.wd, .int .i64 c.s, .int .i64 c.g, .int .i64 c.r, .int .i64 c.cp, .int .i64 c.f, .slice ma mem.length mc, .slice ja jobs.length jc] 27)) := (Below.refl w.heap.size w).alloc (Nat.le_refl _) _
 have HC : Hid _ := refCheck_rep c mem jobs ma ja mc jc _ hml hjl (hm.up hB0) (hj.up2 hB0)
 have HB0 : Hid (Below w.heap.size w (w.alloc (.cells #[.int .i64 c.t, .int .i64 c.wd, .int .i64 c.s, .int .i64 c.g, .int .i64 c.r, .int .i64 c.cp, .int .i64 c.f, .slice ma mem.length mc, .slice ja jobs.length jc] 27))) := hB0
 obtain ⟨N, HNN⟩ : ∃ N, Hid (answeredN (errS c mem jobs) er em = N) := ⟨_, rfl⟩
 rw [show answeredN (errS c mem jobs) er em = N from HNN.out]
 clear hm hj hB0
 go_enter Tryz.func11, Tryz.ntmps11
 go_wp2_with fail
 refine Calls.mono HC.out ?_
 rintro e w1 ⟨rfl, hb1⟩
 have HB1 : Hid (Below w.heap.size w w1) := (HB0.out).trans (hb1.mono (HB0.out).size)
 clear hb1 HC HB0
 generalize errS c mem jobs = W at *
 by_cases h1 : er = W
 ·have b1 : (er == W) = true := by simp [h1]
  have b1' : (er != W) = false := by simp [h1]
  by_cases h2 : er = 0
  ·have b2 : (er == 0) = true := by simp [h2]
   have HA : Hid (N = 2) := by show N = 2; rw [← show answeredN W er em = N from HNN.out]; unfold answeredN; rw [if_neg (by simp [h1]), if_pos h2]
   clear h1 h2 HNN
   go_wp2
   go_ret
   exact ⟨by rw [HA.out]; rfl, HB1.out⟩
  ·have b2 : (er == 0) = false := by simp [h2]
   cases em with
   | true =>
    have HA : Hid (N = 1) := by show N = 1; rw [← show answeredN W er true = N from HNN.out]; unfold answeredN; rw [if_neg (by simp [h1]), if_neg h2, if_pos rfl]
    clear h1 h2 HNN
    go_wp2
    go_ret
    exact ⟨by rw [HA.out]; rfl, HB1.out⟩
   | false =>
    have HA : Hid (N = 0) := by show N = 0; rw [← show answeredN W er false = N from HNN.out]; unfold answeredN; rw [if_neg (by simp [h1]), if_neg h2, if_neg (by simp)]
    clear h1 h2 HNN
    go_wp2
    go_ret
    exact ⟨by rw [HA.out]; rfl, HB1.out⟩
 ·have b1 : (er == W) = false := by simp [h1]
  have b1' : (er != W) = true := by simp [h1]
  have HA : Hid (N = 0) := by show N = 0; rw [← show answeredN W er em = N from HNN.out]; unfold answeredN; rw [if_pos h1]
  clear h1 HNN
  go_wp2
  go_ret
  exact ⟨by rw [HA.out]; rfl, HB1.out⟩
end Go.Proofs.YtejadojilncbjabGreat
namespace Go.Proofs.YtejadojilncbjabGreat
open Go.ChangeShapes Go.WideShapes Go.ChangeAt Go.RowKit Go.Deep
set_option linter.unusedVariables false
attribute [local go_sem ↓] Go.wp_at_zero Go.wp_at_succ
def CRow (w : World) (base g cap : Nat) (cs : List Int) : Prop := w.ownsRow base 3 1 (.slice (some ⟨g, 0, none⟩) cs.length cap) cs.length (cs.map (Value.int .i64 ·))
theorem CRow.cell {w : World} {base g cap : Nat} {cs : List Int} (h : CRow w base g cap cs) {i : Nat} (hi : i < cs.length) : w.cell? ⟨g, i, none⟩ = some (.int .i64 (cs.getD i 0)) := by
 rw [World.ownsRow.cellAt h i (by omega)]
 simp [List.getElem?_map, List.getD, List.getElem?_eq_getElem hi]
theorem CRow.frozen {w : World} {base g cap : Nat} {cs : List Int} (h : CRow w base g cap cs) (i : Nat) : w.frozen? ⟨g, i, none⟩ = false := World.ownsRow.frozenAt h i
theorem CRow.lt {w : World} {base g cap : Nat} {cs : List Int} (h : CRow w base g cap cs) : base ≤ g ∧ g < w.heap.size := World.ownsRow.lt h g rfl
theorem CRow.set {w : World} {base g cap : Nat} {cs : List Int} (h : CRow w base g cap cs) (i : Nat) (v : Int) : CRow (w.setCell ⟨g, i, none⟩ (.int .i64 v)) base g cap (cs.set i v) := by
 have := (World.ownsRow.stored h i (.int .i64 v)).1
 unfold CRow
 rw [List.length_set, List.map_set]
 exact this
theorem CRow.below {w w' : World} {base g cap : Nat} {cs : List Int} (h : CRow w base g cap cs) (hb : Below w.heap.size w w') (hB : base ≤ w.heap.size) : CRow w' base g cap cs := ownsRow_keep h (Kp.below (chg := []) (p := base) (eb := base) hb hB) (by simp)
theorem CRow.ints {w : World} {base g cap : Nat} {cs : List Int} (h : CRow w base g cap cs) : Ints w w.heap.size (some ⟨g, 0, none⟩) cs := fun i hi => ⟨g, 0, rfl, h.lt.2, by have := h.cell hi; simpa using this⟩
end Go.Proofs.YtejadojilncbjabGreat
namespace Go.Proofs.YtejadojilncbjabGreat
open Go.RowKit
set_option linter.unusedVariables false
attribute [local go_sem ↓] Go.wp_at_zero Go.wp_at_succ
def touch (cs : List Int) (a : AccD) : List Int := if a.kind = 0 then cs else cs.set a.cell.toNat a.put
end Go.Proofs.YtejadojilncbjabGreat
namespace Go.Proofs.YtejadojilncbjabGreat
set_option linter.unusedVariables false
def Loc2 (K : Cx) (h : Th) : Prop := match h.st with
 | .tTake => h.rank = 0
 | .fTake => h.rank = 0
 | .tShow => h.rank ≠ 0
 | .gTheir _ _ u => h.rank ≠ 0 ∧ u ≠ K.me + 1
 | .gMark _ _ u th => (h.rank ≠ 0 ∧ u ≠ K.me + 1) ∧ (th / 8 = 0 ∨ h.rank ≤ th / 8)
 | _ => True
structure RC (K : Cx) (r : Int) (h' : Th) : Prop where
 rank : h'.rank = r
 loc : Loc2 K h'
def RD (K : Cx) (h : Th) (t : Bool × Th) : Prop := (t.1 = true → t.2.rank = h.rank) ∧ (t.1 = false → RC K h.rank t.2)
theorem RD.off {K : Cx} {h h' : Th} (A : RC K h.rank h') : RD K h (false, h') := ⟨(fun e => nomatch e), fun _ => A⟩
theorem RD.on {K : Cx} {h h' : Th} (A : h'.rank = h.rank) : RD K h (true, h') := ⟨fun _ => A, (fun e => nomatch e)⟩
end Go.Proofs.YtejadojilncbjabGreat
namespace Go.Proofs.YtejadojilncbjabGreat
open Go.RowKit
set_option linter.unusedVariables false
attribute [local go_sem ↓] Go.wp_at_zero Go.wp_at_succ
theorem works_true {jobs : List (Int × List InsD)} {t : Int} (h : worksB jobs t = true) : ∃ b ∈ jobs, b.1 = t := by
 unfold worksB at h
 rw [List.any_eq_true] at h
 obtain ⟨b, hb, e⟩ := h
 exact ⟨b, hb, by simpa using e⟩
end Go.Proofs.YtejadojilncbjabGreat
namespace Go.Proofs.YtejadojilncbjabGreat
open Go.RowKit
set_option linter.unusedVariables false
theorem list_grow (R : Rn) (t : Int) (t0 : 0 ≤ t) (t1 : t < R.c.t) (k : Nat) (h : ((R.g k).th t).list ≠ []) : ((R.g (k + 1)).th t).list ≠ [] := by
 by_cases hp : (R.pk k).thread = t
 ·rw [R.at k hp t0 t1]
  by_cases hs : ((R.g k).th t).st = .start
  ·obtain ⟨a, e, _⟩ := lm_start (R.K t) ((R.g k).th t) ⟨(accBy (R.g k).m (R.out k t)).seen, (R.pk k).draw, (k : Int) + 1⟩ hs
   rw [e]
   simp
  ·obtain ⟨f, _, e⟩ := lm_next (R.K t) ((R.g k).th t) ⟨(accBy (R.g k).m (R.out k t)).seen, (R.pk k).draw, (k : Int) + 1⟩ hs
   rw [e]
   exact fun q => h (modLast_nil q)
 ·rw [R.off k hp]
  exact h
theorem list_grows (R : Rn) (t : Int) (t0 : 0 ≤ t) (t1 : t < R.c.t) (k : Nat) (h : ((R.g k).th t).list ≠ []) : ∀ d, ((R.g (k + d)).th t).list ≠ []
 | 0 => h
 | d + 1 => list_grow R t t0 t1 (k + d) (list_grows R t t0 t1 k h d)
theorem hist_some {R : Rn} (O : R.Ok) (hjt : ∀ j ∈ R.jobs, 0 ≤ j.1 ∧ j.1 < R.c.t) {k : Nat} (hk : k < R.ps.length) (hw : worksB R.jobs (R.pk k).thread = true) : R.hist ≠ [] := by
 obtain ⟨b, hb, hbt⟩ := works_true hw
 have ht := hjt b hb
 rw [hbt] at ht
 obtain ⟨t, hT⟩ : ∃ t, t = (R.pk k).thread := ⟨_, rfl⟩
 rw [← hT] at ht hbt
 obtain ⟨j, hj, hje⟩ := List.getElem_of_mem hb
 have hjd : (R.jobs.getD j (0, [])).1 = t := by
  rw [show R.jobs.getD j (0, []) = R.jobs[j] from by simp [List.getD, List.getElem?_eq_getElem hj], hje]
  exact hbt
 have h1 : ((R.g (k + 1)).th t).list ≠ [] := by
  by_cases hl : ((R.g k).th t).list = []
  ·rcases list_st R t ht.1 ht.2 k hl with hs | hs
   ·rw [R.at k hT.symm ht.1 ht.2]
    obtain ⟨a, e, _⟩ := lm_start (R.K t) ((R.g k).th t) ⟨(accBy (R.g k).m (R.out k t)).seen, (R.pk k).draw, (k : Int) + 1⟩ hs
    rw [e]
    simp
   ·have T := ti_at O t ht.1 ht.2 k
    rcases T.ed j hj hjd with q | q
    ·obtain ⟨a, ha, _⟩ := T.ee j q
     rw [hl] at ha
     simp at ha
    ·exact absurd hs q.1
  ·exact list_grow R t ht.1 ht.2 k hl
 have h2 := list_grows R t ht.1 ht.2 (k + 1) h1 (R.ps.length - (k + 1))
 rw [show k + 1 + (R.ps.length - (k + 1)) = R.ps.length by omega] at h2
 obtain ⟨l0, z, hz⟩ := snoc_of h2
 have hm : z ∈ R.hist := (hist_mem O).2 ⟨t, ht.1, ht.2, by rw [hz]; simp⟩
 exact fun e => by rw [e] at hm; cases hm
end Go.Proofs.YtejadojilncbjabGreat
namespace Go.Proofs.YtejadojilncbjabGreat
open Go.RowKit
set_option linter.unusedVariables false
attribute [local go_sem ↓] Go.wp_at_zero Go.wp_at_succ
def howN (c : Cfg) (mem : List Int) (jobs : List (Int × List InsD)) : Int := if errS c mem jobs = 0 then 2 else 1
theorem NotesOf.keep {chg : List TypeId} {B p eb : Nat} {w w' : World} {AN : List (AttD × Value)} (h : NotesOf w AN) (hk : Kp chg B p eb w w') (ht : 93 ∉ chg) : NotesOf w' AN := fun q hq => ownsRow_keep (h q hq) hk ht
theorem NotesOf.below {w w' : World} {AN : List (AttD × Value)} (h : NotesOf w AN) (hb : Below w.heap.size w w') : NotesOf w' AN := fun q hq => ownsRow_below (h q hq) hb
end Go.Proofs.YtejadojilncbjabGreat
