import Derived.Test.YtejadojilncbjabGreatH43
import Derived.Test.YtejadojilncbjabGreatH34
import Derived.Test.YtejadojilncbjabGreatH19
import Derived.Test.YtejadojilncbjabGreatH16
import Derived.Test.YtejadojilncbjabGreatH42
import Derived.Test.YtejadojilncbjabGreatH40
import Derived.Test.YtejadojilncbjabGreatH23
namespace Go.Proofs.YtejadojilncbjabGreat
open Go.RowKit
set_option linter.unusedVariables false
attribute [local go_sem ↓] Go.wp_at_zero Go.wp_at_succ

/-- The threads and the cells behind k picks. -/
def WS (base p nb cb cap tcap : Nat) (X : List Value) (c : Cfg) (mem : List Int) (jobs : List (Int × List InsD)) (ps : List PickD) (k : Nat) (w : World) : Prop :=
  ∃ q Ds, WR base p nb cb cap tcap k X w q Ds ∧ SimW c jobs k (gAt c mem jobs ps k) q Ds

theorem WS.below {base p nb cb cap tcap : Nat} {X : List Value} {c : Cfg} {mem : List Int} {jobs : List (Int × List InsD)} {ps : List PickD} {k : Nat} {w w' : World} (h : WS base p nb cb cap tcap X c mem jobs ps k w) (hb : Below w.heap.size w w') : WS base p nb cb cap tcap X c mem jobs ps k w' := by
  obtain ⟨q, Ds, R, M⟩ := h
  exact ⟨q, Ds, R.below hb, M⟩

/-- What a pick leaves. -/
def PickIs (base p nb cb cap tcap : Nat) (X : List Value) (c : Cfg) (mem : List Int) (jobs : List (Int × List InsD)) (ps : List PickD) (k : Nat) (w : World) (e : Ending) (w' : World) : Prop :=
  (∃ a : AccD, a = (gStep c jobs (gAt c mem jobs ps k) ((k : Int) + 1) (pickAt ps k)).2 ∧ e = .returned (.agg #[.int .i64 a.kind, .int .i64 a.cell, .int .i64 a.seen, .int .i64 a.put])) ∧
  WS base p nb cb cap tcap X c mem jobs ps (k + 1) w' ∧ Below base w w' ∧ (∀ b T cs, Blk w b T cs → (138 : Nat) ≠ T → (3 : Nat) ≠ T → (222 : Nat) ≠ T → (230 : Nat) ≠ T → (93 : Nat) ≠ T → (47 : Nat) ≠ T → (125 : Nat) ≠ T → Blk w' b T cs)

theorem ws_pick {base p nb cb cap tcap : Nat} {X : List Value} {c : Cfg} {mem : List Int} {jobs : List (Int × List InsD)} {ps : List PickD} {k : Nat} {w : World} (S : SetupOk c mem jobs) (hk : k < 2 ^ 30) (W : WS base p nb cb cap tcap X c mem jobs ps k w) (ja : Option Addr) (jc : Nat) (hj : JobsRep w base ja jobs) :
    Calls Tryz.prog 105 #[.pointer (some ⟨cb, 0, none⟩), .slice ja jobs.length jc, .agg #[.int .i64 (pickAt ps k).thread, .int .i64 (pickAt ps k).draw]] w (PickIs base p nb cb cap tcap X c mem jobs ps k w) := by
  obtain ⟨q, Ds, R, M⟩ := W
  refine (t_wpick S.cfg ⟨by omega, by omega⟩ R M ⟨by omega, by omega⟩ (pickAt ps k) ja jc hj S.cd).mono ?_
  rintro e w' ⟨rfl, q', Ds', R', M', G, _⟩
  refine ⟨⟨_, rfl, rfl⟩, ⟨q', Ds', R', ?_⟩, G.low R, fun b T cs h h1 h2 h3 h4 h5 h6 h7 => ?_⟩
  · rw [show ((k + 1 : Nat) : Int) = (k : Int) + 1 from by simp]
    exact M'
  · exact (G.block b h.lt (Ne.symm (Blk.ne R.thr h h1)) (Ne.symm (Blk.ne R.num h h2)) (Ne.symm (Blk.ne R.wst h h7)) (fun ⟨i, hi, o⟩ => Own_tag (R.rows i hi) h h3 h4 h2 h5 h6 o)).trans h

/-- What behind leaves: the threads and the cells behind all picks. -/
def BehindIs (c : Cfg) (mem : List Int) (jobs : List (Int × List InsD)) (ps : List PickD) (w : World) (e : Ending) (w' : World) : Prop :=
  ∃ (nb p cap tcap : Nat) (q : List (PT × Ls)) (Ds : List Int) (X : List Value), e = .returned (.agg #[.slice (some ⟨nb, 0, none⟩) Ds.length cap, .slice (some ⟨p, 0, none⟩) q.length tcap, .int .i64 (ps.length : Int)]) ∧
    (∀ w2 cb, Below w'.heap.size w' w2 → Blk w2 cb 125 #[.slice (some ⟨nb, 0, none⟩) Ds.length cap, .slice (some ⟨p, 0, none⟩) q.length tcap, .int .i64 (ps.length : Int)] → w.heap.size ≤ cb → WR w.heap.size p nb cb cap tcap (ps.length : Int) X w2 q Ds) ∧ SimW c jobs (ps.length : Int) (gAt c mem jobs ps ps.length) q Ds ∧ Below w.heap.size w w'

theorem WR.moved {base p nb cb cap tcap : Nat} {pn : Int} {X : List Value} {w w' w2 : World} {q : List (PT × Ls)} {Ds : List Int} {rb cb2 base2 : Nat} {cs : Array Value} (W : WR base p nb cb cap tcap pn X w q Ds) (hr : Blk w rb 125 cs) (ho : Only rb w w') (hb : Below w'.heap.size w' w2)
    (hc : Blk w2 cb2 125 #[.slice (some ⟨nb, 0, none⟩) Ds.length cap, .slice (some ⟨p, 0, none⟩) q.length tcap, .int .i64 pn]) (hb2 : base2 ≤ base) (hle : base2 ≤ cb2) : WR base2 p nb cb2 cap tcap pn X w2 q Ds := by
  have hrp : p ≠ rb := Blk.ne W.thr hr (by decide)
  have hrn : nb ≠ rb := Blk.ne W.num hr (by decide)
  have low : ∀ {t : PT} {L : Ls} {v : World}, RowsOk base v t L → RowsOk base2 v t L := fun R => ⟨ownsRow_low R.rd hb2, ownsRow_low R.wr hb2, ownsRow_low R.hd hb2, ownsRow_low R.mi hb2, R.ne, ownsRow_low R.nt hb2, ownsRow_low R.sr hb2⟩
  have h1 := W.thr.only ho hrp
  have h2 := W.num.only ho hrn
  refine ⟨h1.below hb h1.lt, fun i hi => low ((W.rows i hi).kept (fun k ok => ?_)), W.dis, h2.below hb h2.lt, W.nown, hc, Nat.le_trans hb2 W.pb, Nat.le_trans hb2 W.nbb, hle, Nat.le_trans hb2 (Nat.le_trans W.bs (Nat.le_trans ho.size hb.size))⟩
  have hlt := ((W.rows i hi).own k ok).2
  have hne : k ≠ rb := fun e => by subst e; exact Own_tag (W.rows i hi) hr (by decide) (by decide) (by decide) (by decide) (by decide) ok
  exact (hb.block k (Nat.lt_of_lt_of_le hlt ho.size)).trans (ho.block k hlt hne)

set_option maxRecDepth 100000 in
set_option maxHeartbeats 8000000 in
theorem behind_any {c : Cfg} {mem : List Int} {jobs : List (Int × List InsD)} (S : SetupOk c mem jobs) (ps : List PickD) (hps : ps.length ≤ 2 ^ 23) (ma ja pa : Option Addr) (mc jc pc : Nat) (w : World)
    (hm : Ints w w.heap.size ma mem) (hj : JobsRep w w.heap.size ja jobs) (hp : PicksIn w w.heap.size pa ps) :
    Calls Tryz.prog 77 #[.agg #[.int .i64 c.t, .int .i64 c.wd, .int .i64 c.s, .int .i64 c.g, .int .i64 c.r, .int .i64 c.cp, .int .i64 c.f, .slice ma mem.length mc, .slice ja jobs.length jc], .slice pa ps.length pc] w (BehindIs c mem jobs ps w) := by
  have HM : Hid (Ints w w.heap.size ma mem) := hm
  have HJ : Hid (JobsRep w w.heap.size ja jobs) := hj
  have HP : Hid (PicksIn w w.heap.size pa ps) := hp
  have HS : Hid (SetupOk c mem jobs) := S
  have hps' : ps.length ≤ 8388608 := hps
  clear hm hj hp S hps
  go_enter Tryz.func77, Tryz.ntmps77
  go_wp2_with fail
  obtain ⟨w1, hw1⟩ : ∃ w1, w1 = (w.alloc (.cells #[.int .i64 c.t, .int .i64 c.wd, .int .i64 c.s, .int .i64 c.g, .int .i64 c.r, .int .i64 c.cp, .int .i64 c.f, .slice ma mem.length mc, .slice ja jobs.length jc] 27)).alloc (.cells #[.slice none 0 0, .slice none 0 0, .int .i64 0] 125) := ⟨_, rfl⟩
  have HB1 : Hid (Below w.heap.size w w1) := by rw [hw1]; exact ((Below.refl w.heap.size w).alloc (Nat.le_refl _) _).alloc (by simp) _
  have HSb : Hid (Blk w1 w.heap.size 27 #[.int .i64 c.t, .int .i64 c.wd, .int .i64 c.s, .int .i64 c.g, .int .i64 c.r, .int .i64 c.cp, .int .i64 c.f, .slice ma mem.length mc, .slice ja jobs.length jc]) := by rw [hw1]; exact (Blk.new w 27 _).alloc _
  have HRb : Hid (Blk w1 (w.heap.size + 1) 125 #[.slice none 0 0, .slice none 0 0, .int .i64 0]) := by
    rw [hw1]
    have := Blk.new (w.alloc (.cells #[.int .i64 c.t, .int .i64 c.wd, .int .i64 c.s, .int .i64 c.g, .int .i64 c.r, .int .i64 c.cp, .int .i64 c.f, .slice ma mem.length mc, .slice ja jobs.length jc] 27)) 125 #[.slice none 0 0, .slice none 0 0, .int .i64 0]
    exact (by simpa using this : Blk _ _ _ _)
  have hs1 : w1.heap.size = w.heap.size + 2 := by rw [hw1]; simp
  rw [← hw1]
  clear hw1
  have HM1 : Hid (Ints w1 w1.heap.size ma mem) := (HM.out).up HB1.out
  have HJ1 : Hid (JobsRep w1 w1.heap.size ja jobs) := (HJ.out).up2 HB1.out
  have HP1 : Hid (PicksIn w1 w1.heap.size pa ps) := (HP.out).up2 HB1.out
  clear HM HJ HP
  refine (begin_any c (HS.out).cfg mem (HS.out).mw (HS.out).mb jobs (HS.out).j8 ma ja mc jc w1 HM1.out HJ1.out).mono ?_
  rintro e w2 ⟨nb, p, cap, tcap, q, Ds, X, rfl, hW, hM, hb2⟩
  obtain ⟨cb, hcb⟩ : ∃ cb, cb = w2.heap.size := ⟨_, rfl⟩
  have hB3 : Below w2.heap.size w2 (w2.alloc (.cells #[.slice (some ⟨nb, 0, none⟩) Ds.length cap, .slice (some ⟨p, 0, none⟩) q.length tcap, .int .i64 0] 125)) := (Below.refl _ _).alloc (Nat.le_refl _) _
  have HW3 : Hid (WS w1.heap.size p nb cb cap tcap X c mem jobs ps 0 (w2.alloc (.cells #[.slice (some ⟨nb, 0, none⟩) Ds.length cap, .slice (some ⟨p, 0, none⟩) q.length tcap, .int .i64 0] 125))) :=
    ⟨q, Ds, hW _ cb hB3 (by rw [hcb]; exact Blk.new w2 125 _) (by rw [hcb]; exact hb2.size), hM⟩
  have HB3 : Hid (Below w1.heap.size w1 (w2.alloc (.cells #[.slice (some ⟨nb, 0, none⟩) Ds.length cap, .slice (some ⟨p, 0, none⟩) q.length tcap, .int .i64 0] 125))) := hb2.trans (hB3.mono hb2.size)
  clear hW hM hB3 hb2
  go_upto_region 2 with fail
  rw [← hcb]
  clear hcb
  generalize w2.alloc (.cells #[.slice (some ⟨nb, 0, none⟩) Ds.length cap, .slice (some ⟨p, 0, none⟩) q.length tcap, .int .i64 0] 125) = w3 at *
  go_wp2_with fail
  go_loopg [12] (ps.length + 1) (fun m t12 wr => ∃ (k : Nat), t12 = .int .i64 (k : Int) ∧ k ≤ ps.length ∧ m = ps.length + 1 - k ∧ Hid (WS w1.heap.size p nb cb cap tcap X c mem jobs ps k wr) ∧ Hid (Below w1.heap.size w1 wr))
  case atStart => exact ⟨0, rfl, by omega, by omega, HW3, HB3⟩
  case round =>
    obtain ⟨k, rfl, hk, hgk, HW, HB⟩ := hrel
    clear HW3 HB3
    by_cases hkl : k < ps.length
    · obtain ⟨pb, poff, hpa, hpb, hpc0, hpc1⟩ := HP1.out k hkl
      have hk0 : (0 : Int) ≤ (k : Int) := by omega
      have hk1 : (k : Int) < (ps.length : Int) := by omega
      have hwk : IntKind.i64.wrap ((k : Int) + 1) = (k : Int) + 1 := wrapP _ (by omega) (by omega)
      have hszk : w1.heap.size ≤ wr.heap.size := (HB.out).size
      have hq0 : wr.cell? ⟨pb, poff + k * 2, none⟩ = some (.int .i64 (pickAt ps k).thread) := (World.cell?_of_block ((HB.out).block pb hpb)).trans hpc0
      have hq1 : wr.cell? ⟨pb, poff + k * 2 + 1, none⟩ = some (.int .i64 (pickAt ps k).draw) := (World.cell?_of_block ((HB.out).block pb hpb)).trans hpc1
      have hpbl : pb < wr.heap.size := by omega
      have hsbl : w.heap.size < wr.heap.size := by omega
      have hsc : ∀ i, wr.cell? ⟨w.heap.size, i, none⟩ = (#[.int .i64 c.t, .int .i64 c.wd, .int .i64 c.s, .int .i64 c.g, .int .i64 c.r, .int .i64 c.cp, .int .i64 c.f, .slice ma mem.length mc, .slice ja jobs.length jc] : Array Value)[i]? := ((HSb.out).below HB.out (by omega)).cell
      subst hpa
      clear hpc0 hpc1
      obtain ⟨th, hth⟩ : ∃ th, th = (pickAt ps k).thread := ⟨_, rfl⟩
      obtain ⟨dr, hdr⟩ : ∃ dr, dr = (pickAt ps k).draw := ⟨_, rfl⟩
      rw [← hth] at hq0
      rw [← hdr] at hq1
      have hBa : Below wr.heap.size wr (wr.alloc (.cells #[.int .i64 th, .int .i64 dr] 76)) := (Below.refl wr.heap.size wr).alloc (Nat.le_refl _) _
      have HBa : Hid (Below w1.heap.size w1 (wr.alloc (.cells #[.int .i64 th, .int .i64 dr] 76))) := (HB.out).trans (hBa.mono hszk)
      have HC : Hid (Calls Tryz.prog 105 #[.pointer (some ⟨cb, 0, none⟩), .slice ja jobs.length jc, .agg #[.int .i64 th, .int .i64 dr]] (wr.alloc (.cells #[.int .i64 th, .int .i64 dr] 76)) (PickIs w1.heap.size p nb cb cap tcap X c mem jobs ps k (wr.alloc (.cells #[.int .i64 th, .int .i64 dr] 76)))) := by
        rw [hth, hdr] at HBa hBa ⊢
        exact ws_pick HS.out (by omega) ((HW.out).below hBa) ja jc ((HJ1.out).up HBa.out)
      clear hth hdr hBa HW HB
      go_wp2_with fail
      clear hq0 hq1 hsc
      refine (HC.out).mono ?_
      rintro e w5 ⟨⟨a, ha, rfl⟩, hW5, hb5, hbk⟩
      have HW5 : Hid (WS w1.heap.size p nb cb cap tcap X c mem jobs ps (k + 1) w5) := hW5
      have HB5 : Hid (Below w1.heap.size w1 w5) := (HBa.out).trans hb5
      clear hW5 hb5 hbk HC HBa
      go_wp2_with fail
      go_roundg (gk - 1)
      case rel => exact ⟨k + 1, by simp, by omega, by omega, HW5, HB5⟩
      case measure => omega
    · have hkj : k = ps.length := by omega
      subst hkj
      have hk2 : ¬ ((ps.length : Int) < (ps.length : Int)) := by omega
      obtain ⟨q2, Ds2, W2, M2⟩ := HW.out
      have m0 := W2.wst.cell
      have hrw : Blk wr (w.heap.size + 1) 125 #[.slice none 0 0, .slice none 0 0, .int .i64 0] := (HRb.out).below HB.out (by omega)
      have r0 := hrw.cell
      have rf := hrw.frozen
      have hcr : cb ≠ w.heap.size + 1 := by have := W2.cbb; omega
      have HR : Hid (Blk wr (w.heap.size + 1) 125 #[.slice none 0 0, .slice none 0 0, .int .i64 0]) := hrw
      have HW2 : Hid (WR w1.heap.size p nb cb cap tcap (ps.length : Int) X wr q2 Ds2 ∧ SimW c jobs (ps.length : Int) (gAt c mem jobs ps ps.length) q2 Ds2) := ⟨W2, M2⟩
      clear W2 M2 HW hrw
      go_wp2_with fail
      have ho : Only (w.heap.size + 1) wr (((wr.setCell ⟨w.heap.size + 1, 0, none⟩ (.slice (some ⟨nb, 0, none⟩) Ds2.length cap)).setCell ⟨w.heap.size + 1, 1, none⟩ (.slice (some ⟨p, 0, none⟩) q2.length tcap)).setCell ⟨w.heap.size + 1, 2, none⟩ (.int .i64 (ps.length : Int))) := (((Only.refl _ _).set).set).set
      have hb9 : Blk (((wr.setCell ⟨w.heap.size + 1, 0, none⟩ (.slice (some ⟨nb, 0, none⟩) Ds2.length cap)).setCell ⟨w.heap.size + 1, 1, none⟩ (.slice (some ⟨p, 0, none⟩) q2.length tcap)).setCell ⟨w.heap.size + 1, 2, none⟩ (.int .i64 (ps.length : Int))) (w.heap.size + 1) 125 #[.slice (some ⟨nb, 0, none⟩) Ds2.length cap, .slice (some ⟨p, 0, none⟩) q2.length tcap, .int .i64 (ps.length : Int)] := (((HR.out).set.set).set).congr (by simp)
      refine bodyPost_ret (v := .agg #[.slice (some ⟨nb, 0, none⟩) Ds2.length cap, .slice (some ⟨p, 0, none⟩) q2.length tcap, .int .i64 (ps.length : Int)]) ?_ rfl ⟨nb, p, cap, tcap, q2, Ds2, X, rfl, fun w9 cb9 h9 hc9 hle => (HW2.out).1.moved HR.out ho h9 hc9 (by omega) hle, (HW2.out).2, below_onto ((HB1.out).trans ((HB.out).mono (HB1.out).size)) ho (by omega) (by have := (HB.out).size; omega)⟩
      generalize ((wr.setCell ⟨w.heap.size + 1, 0, none⟩ (.slice (some ⟨nb, 0, none⟩) Ds2.length cap)).setCell ⟨w.heap.size + 1, 1, none⟩ (.slice (some ⟨p, 0, none⟩) q2.length tcap)).setCell ⟨w.heap.size + 1, 2, none⟩ (.int .i64 (ps.length : Int)) = w9 at *
      have h9 := hb9.cell
      clear HR HW2 m0 r0 rf HB
      simp [results, Tryz.results77, go_sem, h9]

end Go.Proofs.YtejadojilncbjabGreat

namespace Go.Proofs.YtejadojilncbjabGreat
open Go.RowKit
set_option linter.unusedVariables false

/-- The program's History behind k picks. -/
def HI (R : Rn) (base p nb cb bb cap tcap : Nat) (X : List Value) (w0 : World) (k : Nat) (w : World) : Prop :=
  ∃ (q : List (PT × Ls)) (Ds : List Int) (AN : List (AttD × Value)) (lat : List Int) (ba : Option Addr) (bc : Nat), WR base p nb cb cap tcap k X w q Ds ∧ SimW R.c R.jobs k (R.g k) q Ds ∧ BookB w bb ba AN.length bc lat ∧ AttsRow w base ba bc AN ∧ Nts w q lat AN ∧ BkI R k (AN.map (·.1)) lat ∧ Below base w0 w

/-- .. and behind a pick of thread t that made an access, where the book has not been told yet. -/
def HP (R : Rn) (base p nb cb bb cap tcap : Nat) (X : List Value) (w0 : World) (k t : Nat) (w : World) (q : List (PT × Ls)) (ht : t < q.length) : Prop :=
  ∃ (Ds : List Int) (AN : List (AttD × Value)) (lat : List Int) (ba : Option Addr) (bc : Nat), WR base p nb cb cap tcap ((k : Int) + 1) X w q Ds ∧ SimW R.c R.jobs ((k : Int) + 1) (R.g (k + 1)) q Ds ∧ BookB w bb ba AN.length bc lat ∧ AttsRow w base ba bc AN ∧ Below base w0 w ∧ q[t].1.told.thread = (t : Int) ∧ t < 4 ∧ AN.length ≤ k ∧
    ((q[t].1.told.start = (k : Int) + 1 ∧ BkI R (k + 1) (AN.map (·.1) ++ [q[t].1.told]) (lat.set t (AN.length : Int)) ∧ Nts w q (lat.set t (AN.length : Int)) (AN ++ [(q[t].1.told, .slice q[t].2.na q[t].1.notes.length q[t].2.nc)])) ∨
     (q[t].1.told.start ≠ (k : Int) + 1 ∧ ∃ m : Nat, m < AN.length ∧ lat.getD t 0 = (m : Int) ∧ BkI R (k + 1) ((AN.map (·.1)).set m q[t].1.told) lat ∧ Nts w q lat (AN.set m (q[t].1.told, .slice q[t].2.na q[t].1.notes.length q[t].2.nc))))

theorem own_blk {w : World} {base : Nat} {e : TypeId} {size n : Nat} {v : Value} {xs : List Value} (h : w.ownsRow base e size v n xs) {k : Nat} (hk : v.ownBlock = some k) : ∃ cs, Blk w k e cs := by
  rcases h.2 with ⟨rfl, _⟩ | ⟨g, cap, cur, rfl, hb, hg, rest⟩
  · simp [Value.ownBlock] at hk
  · simp [Value.ownBlock] at hk
    subst hk
    exact ⟨cur, hg⟩

section
variable {R : Rn} {base p nb cb bb cap tcap : Nat} {X : List Value} {w0 w w' : World} {k t : Nat} {q q' : List (PT × Ls)} {Ds : List Int} {pn : Int}

theorem goes_blk (W : WR base p nb cb cap tcap pn X w q Ds) (G : GoesW p nb cb q w q' w') {b : Nat} {T : TypeId} {cs : Array Value} (h : Blk w b T cs) (h1 : (222 : Nat) ≠ T) (h2 : (230 : Nat) ≠ T) (h3 : (3 : Nat) ≠ T) (h4 : (138 : Nat) ≠ T) (h5 : (125 : Nat) ≠ T) (h6 : (93 : Nat) ≠ T) (h7 : (47 : Nat) ≠ T) : w'.heap[b]? = w.heap[b]? :=
  G.block b h.lt (Ne.symm (Blk.ne W.thr h h4)) (Ne.symm (Blk.ne W.num h h3)) (Ne.symm (Blk.ne W.wst h h5)) (fun ⟨i, hi, o⟩ => Own_tag (W.rows i hi) h h1 h2 h3 h6 h7 o)
theorem goes_atts (W : WR base p nb cb cap tcap pn X w q Ds) (G : GoesW p nb cb q w q' w') {ba : Option Addr} {bc : Nat} {AN : List (AttD × Value)} (h : AttsRow w base ba bc AN) : AttsRow w' base ba bc AN :=
  ownsRow_same h fun k hk => by
    obtain ⟨cs, hcs⟩ := own_blk h hk
    exact goes_blk W G hcs (by decide) (by decide) (by decide) (by decide) (by decide) (by decide) (by decide)
theorem goes_book (W : WR base p nb cb cap tcap pn X w q Ds) (G : GoesW p nb cb q w q' w') {ba : Option Addr} {bc n : Nat} {lat : List Int} (h : BookB w bb ba n bc lat) : BookB w' bb ba n bc lat :=
  ⟨(goes_blk W G h.1 (by decide) (by decide) (by decide) (by decide) (by decide) (by decide) (by decide)).trans h.1, h.2⟩

theorem kd_in (R : Rn) (k : Nat) (h : 0 ≤ (R.pk k).thread ∧ (R.pk k).thread < R.c.t) : (gStep R.c R.jobs (R.g k) ((k : Int) + 1) (R.pk k)).2.kind = (R.out k (R.pk k).thread).kind := by
  unfold gStep
  rw [if_pos h]
  show (accBy _ (R.out k (R.pk k).thread)).kind = _
  unfold accBy
  split
  · rename_i e
    rw [e]
    rfl
  · rfl
theorem kd_out (R : Rn) (k : Nat) (h : ¬ (0 ≤ (R.pk k).thread ∧ (R.pk k).thread < R.c.t)) : (gStep R.c R.jobs (R.g k) ((k : Int) + 1) (R.pk k)).2.kind = 0 := by
  unfold gStep
  rw [if_neg h]
  rfl

/-- A pick. -/
theorem HI.pick (O : R.Ok) (h : HI R base p nb cb bb cap tcap X w0 k w) :
    ∃ (q : List (PT × Ls)) (Ds : List Int), WR base p nb cb cap tcap k X w q Ds ∧ SimW R.c R.jobs k (R.g k) q Ds ∧
      ∀ (q' : List (PT × Ls)) (Ds' : List Int) (w' : World), WR base p nb cb cap tcap ((k : Int) + 1) X w' q' Ds' → SimW R.c R.jobs ((k : Int) + 1) (R.g (k + 1)) q' Ds' → GoesW p nb cb q w q' w' → NGo (R.pk k).thread (gStep R.c R.jobs (R.g k) ((k : Int) + 1) (R.pk k)).2.kind q q' w w' →
        ((gStep R.c R.jobs (R.g k) ((k : Int) + 1) (R.pk k)).2.kind = 0 ∧ HI R base p nb cb bb cap tcap X w0 (k + 1) w') ∨
        ((gStep R.c R.jobs (R.g k) ((k : Int) + 1) (R.pk k)).2.kind ≠ 0 ∧ ∃ (t : Nat) (ht : t < q'.length), (R.pk k).thread = (t : Int) ∧ HP R base p nb cb bb cap tcap X w0 k t w' q' ht) := by
  obtain ⟨q, Ds, AN, lat, ba, bc, W, M, B, A, N, I, L⟩ := h
  have hct := (cfgB_true O.c).1
  refine ⟨q, Ds, W, M, fun q' Ds' w' W' M' G Z => ?_⟩
  have B' := goes_book W G B
  have A' := goes_atts W G A
  have L' : Below base w0 w' := L.trans (G.low W)
  rcases I.step O (by rw [B.2]; omega) (fun t t0 t1 => hne_at R k t t0 t1) with ⟨h0, I'⟩ | ⟨t, z, ht, t1, h0, hz, hc⟩
  · have hk : (gStep R.c R.jobs (R.g k) ((k : Int) + 1) (R.pk k)).2.kind = 0 := by
      by_cases hr : 0 ≤ (R.pk k).thread ∧ (R.pk k).thread < R.c.t
      · rw [kd_in R k hr]
        rcases h0 with h0 | h0
        · exact absurd hr h0
        · exact h0
      · exact kd_out R k hr
    refine Or.inl ⟨hk, q', Ds', AN, lat, ba, bc, ?_, ?_, B', A', N.none W W' G Z hk, I', L'⟩
    · rw [show ((k + 1 : Nat) : Int) = (k : Int) + 1 from by simp]; exact W'
    · rw [show ((k + 1 : Nat) : Int) = (k : Int) + 1 from by simp]; exact M'
  · have hk : (gStep R.c R.jobs (R.g k) ((k : Int) + 1) (R.pk k)).2.kind ≠ 0 := by
      rw [kd_in R k (by rw [ht]; exact ⟨by omega, t1⟩), ht]
      exact h0
    have htq : t < q'.length := by have := M'.len; omega
    have htq0 : t < q.length := by have := M.len; omega
    have T := ((M'.sim t htq).tol).tl
    have hzt : z = q'[t].1.told := by
      rcases T with T | T
      · rw [T] at hz; cases hz
      · rw [T] at hz; exact (Option.some.inj hz).symm
    have hzn : z.notes = q'[t].1.notes := by rw [hzt]; rfl
    have htl : t < lat.length := by rw [B.2]; omega
    have hlen : (AN.map (·.1)).length = AN.length := List.length_map _
    have hzth : z.thread = (t : Int) := thread_of O (by omega) t1 hz
    refine Or.inr ⟨hk, t, htq, ht, Ds', AN, lat, ba, bc, W', M', B', A', L', by rw [← hzt]; exact hzth, by omega, by rw [← hlen]; exact I.len O, ?_⟩
    rw [← hzt]
    rcases hc with ⟨h1, h2⟩ | ⟨h1, m, h2, h3, h4⟩
    · rw [hlen] at h2
      exact Or.inl ⟨h1, h2, N.new W W' G Z hk t ht.symm htq htq0 (sim_step2 (M.sim t htq0) (start_of O ht t1 hz h1)) htl z hzn⟩
    · rw [hlen] at h2
      exact Or.inr ⟨h1, m, h2, h3, h4, N.mod W W' G Z t m ht.symm htq h2 h3 z hzn⟩

theorem HI.below (h : HI R base p nb cb bb cap tcap X w0 k w) (hb : Below w.heap.size w w') : HI R base p nb cb bb cap tcap X w0 k w' := by
  obtain ⟨q, Ds, AN, lat, ba, bc, W, M, B, A, N, I, L⟩ := h
  exact ⟨q, Ds, AN, lat, ba, bc, W.below hb, M, ⟨B.1.below hb B.1.lt, B.2⟩, ownsRow_below A hb, N.keep (Kp.below (chg := []) (p := 0) (eb := 0) (B := 0) hb (Nat.zero_le _)) (by simp), I, L.trans (hb.mono W.bs)⟩
theorem HP.below {ht : t < q.length} (h : HP R base p nb cb bb cap tcap X w0 k t w q ht) (hb : Below w.heap.size w w') : HP R base p nb cb bb cap tcap X w0 k t w' q ht := by
  obtain ⟨Ds, AN, lat, ba, bc, W, M, B, A, L, e1, e2, e3, hc⟩ := h
  have K : Kp [] 0 0 0 w w' := Kp.below hb (Nat.zero_le _)
  refine ⟨Ds, AN, lat, ba, bc, W.below hb, M, ⟨B.1.below hb B.1.lt, B.2⟩, ownsRow_below A hb, L.trans (hb.mono W.bs), e1, e2, e3, ?_⟩
  rcases hc with ⟨h1, h2, h3⟩ | ⟨h1, m, h2, h3, h4, h5⟩
  · exact Or.inl ⟨h1, h2, h3.keep K (by simp)⟩
  · exact Or.inr ⟨h1, m, h2, h3, h4, h5.keep K (by simp)⟩

/-- The book is told. -/
theorem HP.enter {ht : t < q.length} (h : HP R base p nb cb bb cap tcap X w0 k t w q ht) (hq : base ≤ bb) (hk : k < 2 ^ 30) :
    Calls Tryz.prog 107 #[.pointer (some ⟨bb, 0, none⟩), .agg #[.int .i64 q[t].1.aTh, .int .i64 q[t].1.aJob, .int .i64 q[t].1.aStart, .int .i64 q[t].1.aEnd, .int .i64 q[t].1.valid, .int .i64 q[t].1.aStamp, .int .i64 q[t].1.aFate, .slice q[t].2.na q[t].1.notes.length q[t].2.nc], .int .i64 ((k : Int) + 1)] w fun e w' =>
      e = .returned (.tuple #[]) ∧ HI R base p nb cb bb cap tcap X w0 (k + 1) w' := by
  obtain ⟨Ds, AN, lat, ba, bc, W, M, B, A, L, e1, e2, e3, hc⟩ := h
  have fin : ∀ (w' : World) (AN' : List (AttD × Value)) (lat' : List Int) (ba' : Option Addr) (bc' : Nat), Kp [82, 164] base base base w w' → BookB w' bb ba' AN'.length bc' lat' → AttsRow w' base ba' bc' AN' → Nts w q lat' AN' → BkI R (k + 1) (AN'.map (·.1)) lat' → HI R base p nb cb bb cap tcap X w0 (k + 1) w' := by
    intro w' AN' lat' ba' bc' K B' A' N' I'
    refine ⟨q, Ds, AN', lat', ba', bc', ?_, ?_, B', A', N'.keep K (by decide), I', ?_⟩
    · rw [show ((k + 1 : Nat) : Int) = (k : Int) + 1 from by simp]; exact W.keep K (by decide) (by decide) (by decide) (by decide) (by decide) (by decide) (by decide)
    · rw [show ((k + 1 : Nat) : Int) = (k : Int) + 1 from by simp]; exact M
    · exact L.trans ⟨K.os, K.tape, K.output, K.size, fun i hi => K.low i hi (by omega) (by omega)⟩
  rcases hc with ⟨h1, h2, h3⟩ | ⟨h1, m, h2, h3, h4, h5⟩
  · have h0 := enter_new B A W.bs hq (by omega) q[t].1.told q[t].2.na q[t].2.nc t e2 e1
    rw [h1] at h0
    have h1' : q[t].1.aStart = (k : Int) + 1 := h1
    rw [h1']
    refine Calls.mono h0 ?_
    rintro e w' ⟨rfl, ⟨a', c', b1, b2⟩, K⟩
    exact ⟨rfl, fin w' _ _ a' c' K (by rw [List.length_append]; exact b1) b2 h3 (by rw [List.map_append]; exact h2)⟩
  · refine Calls.mono (enter_old B A W.bs hq q[t].1.told q[t].2.na q[t].2.nc ((k : Int) + 1) t m e2 e1 h1 h3 h2) ?_
    rintro e w' ⟨rfl, ⟨b1, b2⟩, K⟩
    exact ⟨rfl, fin w' _ _ ba bc K (by rw [List.length_set]; exact b1) b2 h5 (by rw [List.map_set]; exact h4)⟩

end

end Go.Proofs.YtejadojilncbjabGreat

namespace Go.Proofs.YtejadojilncbjabGreat
open Go.RowKit
set_option linter.unusedVariables false
attribute [local go_sem ↓] Go.wp_at_zero Go.wp_at_succ

set_option maxRecDepth 100000 in
set_option maxHeartbeats 1000000 in
/-- The program's thread tells its latest attempt. -/
theorem t_told {p z : Nat} {A B : List Value} {t : PT} {L : Ls} {w : World} (hb : TAt w p z A B t L) :
    Calls Tryz.prog 106 #[.pointer (some ⟨p, z, none⟩)] w fun e w' => e = .returned (.agg #[.int .i64 t.aTh, .int .i64 t.aJob, .int .i64 t.aStart, .int .i64 t.aEnd, .int .i64 t.valid, .int .i64 t.aStamp, .int .i64 t.aFate, .slice L.na t.notes.length L.nc]) ∧ Below w.heap.size w w' := by
  obtain ⟨w1, hw1⟩ : ∃ w1, w1 = w.alloc (.cells #[.int .i64 0, .int .i64 0, .int .i64 0, .int .i64 0, .int .i64 0, .int .i64 0, .int .i64 0, .slice none 0 0] 82) := ⟨_, rfl⟩
  have HB1 : Hid (Below w.heap.size w w1) := by rw [hw1]; exact (Below.refl w.heap.size w).alloc (Nat.le_refl _) _
  have HZ : Hid (Blk w1 w.heap.size 82 #[.int .i64 0, .int .i64 0, .int .i64 0, .int .i64 0, .int .i64 0, .int .i64 0, .int .i64 0, .slice none 0 0]) := by rw [hw1]; exact Blk.new w 82 _
  have hb1 : TAt w1 p z A B t L := hb.below HB1.out
  have hlt := hb.lt
  have hpn : p ≠ w.heap.size := by omega
  have h0 : w1.cell? ⟨p, z + 19, none⟩ = some (.int .i64 t.aTh) := hb1.cell 19 (by decide)
  have h1 : w1.cell? ⟨p, z + 19 + 1, none⟩ = some (.int .i64 t.aJob) := hb1.cell 20 (by decide)
  have h2 : w1.cell? ⟨p, z + 19 + 2, none⟩ = some (.int .i64 t.aStart) := hb1.cell 21 (by decide)
  have h3 : w1.cell? ⟨p, z + 19 + 3, none⟩ = some (.int .i64 t.aEnd) := hb1.cell 22 (by decide)
  have h4 : w1.cell? ⟨p, z + 19 + 4, none⟩ = some (.int .i64 t.valid) := hb1.cell 23 (by decide)
  have h5 : w1.cell? ⟨p, z + 19 + 5, none⟩ = some (.int .i64 t.aStamp) := hb1.cell 24 (by decide)
  have h6 : w1.cell? ⟨p, z + 19 + 6, none⟩ = some (.int .i64 t.aFate) := hb1.cell 25 (by decide)
  have h7 : w1.cell? ⟨p, z + 19 + 7, none⟩ = some (.slice L.na t.notes.length L.nc) := hb1.cell 26 (by decide)
  have zc := (HZ.out).cell
  have zf := (HZ.out).frozen
  obtain ⟨g, hg⟩ : ∃ g, g = w.heap.size := ⟨_, rfl⟩
  have HG : Hid (g = w.heap.size) := hg
  go_enter Tryz.func106, Tryz.ntmps106
  go_upto_region 1 with fail
  rw [← hw1, ← hg]
  rw [← hg] at zc zf hpn
  clear hb hb1 hw1 hg hlt
  go_wp2
  have hz : Blk w1 g 82 #[.int .i64 0, .int .i64 0, .int .i64 0, .int .i64 0, .int .i64 0, .int .i64 0, .int .i64 0, .slice none 0 0] := by rw [HG.out]; exact HZ.out
  have h8 := ((((((((hz.set (i := 0) (v := .int .i64 t.aTh)).set (i := 1) (v := .int .i64 t.aJob)).set (i := 2) (v := .int .i64 t.aStart)).set (i := 3) (v := .int .i64 t.aEnd)).set (i := 4) (v := .int .i64 t.valid)).set (i := 5) (v := .int .i64 t.aStamp)).set (i := 6) (v := .int .i64 t.aFate)).set (i := 7) (v := .slice L.na t.notes.length L.nc)).congr (ds := #[.int .i64 t.aTh, .int .i64 t.aJob, .int .i64 t.aStart, .int .i64 t.aEnd, .int .i64 t.valid, .int .i64 t.aStamp, .int .i64 t.aFate, .slice L.na t.notes.length L.nc]) (by simp)
  have h9 := h8.cell
  have hle : w.heap.size ≤ g := Nat.le_of_eq (HG.out).symm
  refine bodyPost_ret (v := .agg #[.int .i64 t.aTh, .int .i64 t.aJob, .int .i64 t.aStart, .int .i64 t.aEnd, .int .i64 t.valid, .int .i64 t.aStamp, .int .i64 t.aFate, .slice L.na t.notes.length L.nc]) ?_ rfl ⟨rfl, below_set (below_set (below_set (below_set (below_set (below_set (below_set (below_set HB1.out hle) hle) hle) hle) hle) hle) hle) hle⟩
  simp [results, Tryz.results106, go_sem, h9]

end Go.Proofs.YtejadojilncbjabGreat
