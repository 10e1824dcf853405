import Derived.Test.YtejadojilncbjaaH29
import Derived.Test.YtejadojilncbjaaH28
import Derived.Test.YtejadojilncbjaaH24
import Derived.Test.YtejadojilncbjaaH02
import Derived.Test.YtejadojilncbjaaH23
namespace Go.Proofs.Ytejadojilncbjaa
open Go.RowKit
set_option linter.unusedVariables false
attribute [local go_sem ↓] Go.wp_at_zero Go.wp_at_succ

/-- The threads and the cells behind k picks. -/
def WS (base p nb cb cap tcap : Nat) (X : List Value) (c : Cfg) (mem : List Int) (jobs : List (Int × List InsD)) (ps : List PickD) (k : Nat) (w : World) : Prop :=
  ∃ q Ds, WR base p nb cb cap tcap k X w q Ds ∧ SimW c jobs k (gAt c mem jobs ps k) q Ds

theorem WS.below {base p nb cb cap tcap : Nat} {X : List Value} {c : Cfg} {mem : List Int} {jobs : List (Int × List InsD)} {ps : List PickD} {k : Nat} {w w' : World} (h : WS base p nb cb cap tcap X c mem jobs ps k w) (hb : Below w.heap.size w w') : WS base p nb cb cap tcap X c mem jobs ps k w' := by
  obtain ⟨q, Ds, R, M⟩ := h
  exact ⟨q, Ds, R.below hb, M⟩

/-- What a pick leaves. -/
def PickIs (base p nb cb cap tcap : Nat) (X : List Value) (c : Cfg) (mem : List Int) (jobs : List (Int × List InsD)) (ps : List PickD) (k : Nat) (w : World) (e : Ending) (w' : World) : Prop :=
  (∃ a : AccD, a = (gStep c jobs (gAt c mem jobs ps k) ((k : Int) + 1) (pickAt ps k)).2 ∧ e = .returned (.agg #[.int .i64 a.kind, .int .i64 a.cell, .int .i64 a.seen, .int .i64 a.put])) ∧
  WS base p nb cb cap tcap X c mem jobs ps (k + 1) w' ∧ Below base w w' ∧ (∀ b T cs, Blk w b T cs → (115 : Nat) ≠ T → (3 : Nat) ≠ T → (163 : Nat) ≠ T → (165 : Nat) ≠ T → (158 : Nat) ≠ T → (35 : Nat) ≠ T → (102 : Nat) ≠ T → Blk w' b T cs)

theorem ws_pick {base p nb cb cap tcap : Nat} {X : List Value} {c : Cfg} {mem : List Int} {jobs : List (Int × List InsD)} {ps : List PickD} {k : Nat} {w : World} (S : SetupOk c mem jobs) (hk : k < 2 ^ 30) (W : WS base p nb cb cap tcap X c mem jobs ps k w) (ja : Option Addr) (jc : Nat) (hj : JobsRep w base ja jobs) :
    Calls Try.prog 61 #[.pointer (some ⟨cb, 0, none⟩), .slice ja jobs.length jc, .agg #[.int .i64 (pickAt ps k).thread, .int .i64 (pickAt ps k).draw]] w (PickIs base p nb cb cap tcap X c mem jobs ps k w) := by
  obtain ⟨q, Ds, R, M⟩ := W
  refine (t_wpick S.cfg ⟨by omega, by omega⟩ R M ⟨by omega, by omega⟩ (pickAt ps k) ja jc hj S.cd).mono ?_
  rintro e w' ⟨rfl, q', Ds', R', M', G, _⟩
  refine ⟨⟨_, rfl, rfl⟩, ⟨q', Ds', R', ?_⟩, G.low R, fun b T cs h h1 h2 h3 h4 h5 h6 h7 => ?_⟩
  · rw [show ((k + 1 : Nat) : Int) = (k : Int) + 1 from by simp]
    exact M'
  · exact (G.block b h.lt (Ne.symm (Blk.ne R.thr h h1)) (Ne.symm (Blk.ne R.num h h2)) (Ne.symm (Blk.ne R.wst h h7)) (fun ⟨i, hi, o⟩ => Own_tag (R.rows i hi) h h3 h4 h2 h5 h6 o)).trans h

theorem ws_cells {base p nb cb cap tcap : Nat} {X : List Value} {c : Cfg} {mem : List Int} {jobs : List (Int × List InsD)} {ps : List PickD} {w : World} (W : WS base p nb cb cap tcap X c mem jobs ps ps.length w) :
    Blk w nb 3 ((cellsOf c mem jobs ps).map (Value.int .i64 ·)).toArray ∧ w.cell? ⟨cb, 0, none⟩ = some (.slice (some ⟨nb, 0, none⟩) (cellsOf c mem jobs ps).length cap) ∧ cb < w.heap.size := by
  obtain ⟨q, Ds, R, M⟩ := W
  have e : cellsOf c mem jobs ps = Ds := by
    have hl := M.dl
    refine List.ext_getElem (by simp [cellsOf]; omega) (fun i h1 h2 => ?_)
    have := M.dv i h2
    rw [show Ds.getD i 0 = Ds[i] from by simp [List.getD, List.getElem?_eq_getElem h2]] at this
    rw [this]
    simp [cellsOf]
  rw [e]
  exact ⟨R.num, by rw [R.wst.cell]; rfl, R.wst.lt⟩

/-- What behind leaves: the threads and the cells behind all picks. -/
def BehindIs (c : Cfg) (mem : List Int) (jobs : List (Int × List InsD)) (ps : List PickD) (w : World) (e : Ending) (w' : World) : Prop :=
  ∃ (nb p cap tcap : Nat) (q : List (PT × Ls)) (Ds : List Int) (X : List Value), e = .returned (.agg #[.slice (some ⟨nb, 0, none⟩) Ds.length cap, .slice (some ⟨p, 0, none⟩) q.length tcap, .int .i64 (ps.length : Int)]) ∧
    (∀ w2 cb, Below w'.heap.size w' w2 → Blk w2 cb 102 #[.slice (some ⟨nb, 0, none⟩) Ds.length cap, .slice (some ⟨p, 0, none⟩) q.length tcap, .int .i64 (ps.length : Int)] → w.heap.size ≤ cb → WR w.heap.size p nb cb cap tcap (ps.length : Int) X w2 q Ds) ∧ SimW c jobs (ps.length : Int) (gAt c mem jobs ps ps.length) q Ds ∧ Below w.heap.size w w'

theorem WR.moved {base p nb cb cap tcap : Nat} {pn : Int} {X : List Value} {w w' w2 : World} {q : List (PT × Ls)} {Ds : List Int} {rb cb2 base2 : Nat} {cs : Array Value} (W : WR base p nb cb cap tcap pn X w q Ds) (hr : Blk w rb 102 cs) (ho : Only rb w w') (hb : Below w'.heap.size w' w2)
    (hc : Blk w2 cb2 102 #[.slice (some ⟨nb, 0, none⟩) Ds.length cap, .slice (some ⟨p, 0, none⟩) q.length tcap, .int .i64 pn]) (hb2 : base2 ≤ base) (hle : base2 ≤ cb2) : WR base2 p nb cb2 cap tcap pn X w2 q Ds := by
  have hrp : p ≠ rb := Blk.ne W.thr hr (by decide)
  have hrn : nb ≠ rb := Blk.ne W.num hr (by decide)
  have low : ∀ {t : PT} {L : Ls} {v : World}, RowsOk base v t L → RowsOk base2 v t L := fun R => ⟨ownsRow_low R.rd hb2, ownsRow_low R.wr hb2, ownsRow_low R.hd hb2, ownsRow_low R.mi hb2, R.ne, ownsRow_low R.nt hb2, ownsRow_low R.sr hb2⟩
  have h1 := W.thr.only ho hrp
  have h2 := W.num.only ho hrn
  refine ⟨h1.below hb h1.lt, fun i hi => low ((W.rows i hi).kept (fun k ok => ?_)), W.dis, h2.below hb h2.lt, W.nown, hc, Nat.le_trans hb2 W.pb, Nat.le_trans hb2 W.nbb, hle, Nat.le_trans hb2 (Nat.le_trans W.bs (Nat.le_trans ho.size hb.size))⟩
  have hlt := ((W.rows i hi).own k ok).2
  have hne : k ≠ rb := fun e => by subst e; exact Own_tag (W.rows i hi) hr (by decide) (by decide) (by decide) (by decide) (by decide) ok
  exact (hb.block k (Nat.lt_of_lt_of_le hlt ho.size)).trans (ho.block k hlt hne)

set_option maxRecDepth 100000 in
set_option maxHeartbeats 8000000 in
theorem behind_any {c : Cfg} {mem : List Int} {jobs : List (Int × List InsD)} (S : SetupOk c mem jobs) (ps : List PickD) (hps : ps.length ≤ 2 ^ 23) (ma ja pa : Option Addr) (mc jc pc : Nat) (w : World)
    (hm : Ints w w.heap.size ma mem) (hj : JobsRep w w.heap.size ja jobs) (hp : PicksIn w w.heap.size pa ps) :
    Calls Try.prog 49 #[.agg #[.int .i64 c.t, .int .i64 c.wd, .int .i64 c.s, .int .i64 c.g, .int .i64 c.r, .int .i64 c.cp, .int .i64 c.f, .slice ma mem.length mc, .slice ja jobs.length jc], .slice pa ps.length pc] w (BehindIs c mem jobs ps w) := by
  have HM : Hid (Ints w w.heap.size ma mem) := hm
  have HJ : Hid (JobsRep w w.heap.size ja jobs) := hj
  have HP : Hid (PicksIn w w.heap.size pa ps) := hp
  have HS : Hid (SetupOk c mem jobs) := S
  have hps' : ps.length ≤ 8388608 := hps
  clear hm hj hp S hps
  go_enter Try.func49, Try.ntmps49
  go_wp2_with fail
  obtain ⟨w1, hw1⟩ : ∃ w1, w1 = (w.alloc (.cells #[.int .i64 c.t, .int .i64 c.wd, .int .i64 c.s, .int .i64 c.g, .int .i64 c.r, .int .i64 c.cp, .int .i64 c.f, .slice ma mem.length mc, .slice ja jobs.length jc] 27)).alloc (.cells #[.slice none 0 0, .slice none 0 0, .int .i64 0] 102) := ⟨_, rfl⟩
  have HB1 : Hid (Below w.heap.size w w1) := by rw [hw1]; exact ((Below.refl w.heap.size w).alloc (Nat.le_refl _) _).alloc (by simp) _
  have HSb : Hid (Blk w1 w.heap.size 27 #[.int .i64 c.t, .int .i64 c.wd, .int .i64 c.s, .int .i64 c.g, .int .i64 c.r, .int .i64 c.cp, .int .i64 c.f, .slice ma mem.length mc, .slice ja jobs.length jc]) := by rw [hw1]; exact (Blk.new w 27 _).alloc _
  have HRb : Hid (Blk w1 (w.heap.size + 1) 102 #[.slice none 0 0, .slice none 0 0, .int .i64 0]) := by
    rw [hw1]
    have := Blk.new (w.alloc (.cells #[.int .i64 c.t, .int .i64 c.wd, .int .i64 c.s, .int .i64 c.g, .int .i64 c.r, .int .i64 c.cp, .int .i64 c.f, .slice ma mem.length mc, .slice ja jobs.length jc] 27)) 102 #[.slice none 0 0, .slice none 0 0, .int .i64 0]
    exact (by simpa using this : Blk _ _ _ _)
  have hs1 : w1.heap.size = w.heap.size + 2 := by rw [hw1]; simp
  rw [← hw1]
  clear hw1
  have HM1 : Hid (Ints w1 w1.heap.size ma mem) := (HM.out).up HB1.out
  have HJ1 : Hid (JobsRep w1 w1.heap.size ja jobs) := (HJ.out).up2 HB1.out
  have HP1 : Hid (PicksIn w1 w1.heap.size pa ps) := (HP.out).up2 HB1.out
  clear HM HJ HP
  refine (begin_any c (HS.out).cfg mem (HS.out).mw (HS.out).mb jobs (HS.out).j8 ma ja mc jc w1 HM1.out HJ1.out).mono ?_
  rintro e w2 ⟨nb, p, cap, tcap, q, Ds, X, rfl, hW, hM, hb2⟩
  obtain ⟨cb, hcb⟩ : ∃ cb, cb = w2.heap.size := ⟨_, rfl⟩
  have hB3 : Below w2.heap.size w2 (w2.alloc (.cells #[.slice (some ⟨nb, 0, none⟩) Ds.length cap, .slice (some ⟨p, 0, none⟩) q.length tcap, .int .i64 0] 102)) := (Below.refl _ _).alloc (Nat.le_refl _) _
  have HW3 : Hid (WS w1.heap.size p nb cb cap tcap X c mem jobs ps 0 (w2.alloc (.cells #[.slice (some ⟨nb, 0, none⟩) Ds.length cap, .slice (some ⟨p, 0, none⟩) q.length tcap, .int .i64 0] 102))) :=
    ⟨q, Ds, hW _ cb hB3 (by rw [hcb]; exact Blk.new w2 102 _) (by rw [hcb]; exact hb2.size), hM⟩
  have HB3 : Hid (Below w1.heap.size w1 (w2.alloc (.cells #[.slice (some ⟨nb, 0, none⟩) Ds.length cap, .slice (some ⟨p, 0, none⟩) q.length tcap, .int .i64 0] 102))) := hb2.trans (hB3.mono hb2.size)
  clear hW hM hB3 hb2
  go_upto_region 2 with fail
  rw [← hcb]
  clear hcb
  generalize w2.alloc (.cells #[.slice (some ⟨nb, 0, none⟩) Ds.length cap, .slice (some ⟨p, 0, none⟩) q.length tcap, .int .i64 0] 102) = w3 at *
  go_wp2_with fail
  go_loopg [12] (ps.length + 1) (fun m t12 wr => ∃ (k : Nat), t12 = .int .i64 (k : Int) ∧ k ≤ ps.length ∧ m = ps.length + 1 - k ∧ Hid (WS w1.heap.size p nb cb cap tcap X c mem jobs ps k wr) ∧ Hid (Below w1.heap.size w1 wr))
  case atStart => exact ⟨0, rfl, by omega, by omega, HW3, HB3⟩
  case round =>
    obtain ⟨k, rfl, hk, hgk, HW, HB⟩ := hrel
    clear HW3 HB3
    by_cases hkl : k < ps.length
    · obtain ⟨pb, poff, hpa, hpb, hpc0, hpc1⟩ := HP1.out k hkl
      have hk0 : (0 : Int) ≤ (k : Int) := by omega
      have hk1 : (k : Int) < (ps.length : Int) := by omega
      have hwk : IntKind.i64.wrap ((k : Int) + 1) = (k : Int) + 1 := wrapP _ (by omega) (by omega)
      have hszk : w1.heap.size ≤ wr.heap.size := (HB.out).size
      have hq0 : wr.cell? ⟨pb, poff + k * 2, none⟩ = some (.int .i64 (pickAt ps k).thread) := (World.cell?_of_block ((HB.out).block pb hpb)).trans hpc0
      have hq1 : wr.cell? ⟨pb, poff + k * 2 + 1, none⟩ = some (.int .i64 (pickAt ps k).draw) := (World.cell?_of_block ((HB.out).block pb hpb)).trans hpc1
      have hpbl : pb < wr.heap.size := by omega
      have hsbl : w.heap.size < wr.heap.size := by omega
      have hsc : ∀ i, wr.cell? ⟨w.heap.size, i, none⟩ = (#[.int .i64 c.t, .int .i64 c.wd, .int .i64 c.s, .int .i64 c.g, .int .i64 c.r, .int .i64 c.cp, .int .i64 c.f, .slice ma mem.length mc, .slice ja jobs.length jc] : Array Value)[i]? := ((HSb.out).below HB.out (by omega)).cell
      subst hpa
      clear hpc0 hpc1
      obtain ⟨th, hth⟩ : ∃ th, th = (pickAt ps k).thread := ⟨_, rfl⟩
      obtain ⟨dr, hdr⟩ : ∃ dr, dr = (pickAt ps k).draw := ⟨_, rfl⟩
      rw [← hth] at hq0
      rw [← hdr] at hq1
      have hBa : Below wr.heap.size wr (wr.alloc (.cells #[.int .i64 th, .int .i64 dr] 58)) := (Below.refl wr.heap.size wr).alloc (Nat.le_refl _) _
      have HBa : Hid (Below w1.heap.size w1 (wr.alloc (.cells #[.int .i64 th, .int .i64 dr] 58))) := (HB.out).trans (hBa.mono hszk)
      have HC : Hid (Calls Try.prog 61 #[.pointer (some ⟨cb, 0, none⟩), .slice ja jobs.length jc, .agg #[.int .i64 th, .int .i64 dr]] (wr.alloc (.cells #[.int .i64 th, .int .i64 dr] 58)) (PickIs w1.heap.size p nb cb cap tcap X c mem jobs ps k (wr.alloc (.cells #[.int .i64 th, .int .i64 dr] 58)))) := by
        rw [hth, hdr] at HBa hBa ⊢
        exact ws_pick HS.out (by omega) ((HW.out).below hBa) ja jc ((HJ1.out).up HBa.out)
      clear hth hdr hBa HW HB
      go_wp2_with fail
      clear hq0 hq1 hsc
      refine (HC.out).mono ?_
      rintro e w5 ⟨⟨a, ha, rfl⟩, hW5, hb5, hbk⟩
      have HW5 : Hid (WS w1.heap.size p nb cb cap tcap X c mem jobs ps (k + 1) w5) := hW5
      have HB5 : Hid (Below w1.heap.size w1 w5) := (HBa.out).trans hb5
      clear hW5 hb5 hbk HC HBa
      go_wp2_with fail
      go_roundg (gk - 1)
      case rel => exact ⟨k + 1, by simp, by omega, by omega, HW5, HB5⟩
      case measure => omega
    · have hkj : k = ps.length := by omega
      subst hkj
      have hk2 : ¬ ((ps.length : Int) < (ps.length : Int)) := by omega
      obtain ⟨q2, Ds2, W2, M2⟩ := HW.out
      have m0 := W2.wst.cell
      have hrw : Blk wr (w.heap.size + 1) 102 #[.slice none 0 0, .slice none 0 0, .int .i64 0] := (HRb.out).below HB.out (by omega)
      have r0 := hrw.cell
      have rf := hrw.frozen
      have hcr : cb ≠ w.heap.size + 1 := by have := W2.cbb; omega
      have HR : Hid (Blk wr (w.heap.size + 1) 102 #[.slice none 0 0, .slice none 0 0, .int .i64 0]) := hrw
      have HW2 : Hid (WR w1.heap.size p nb cb cap tcap (ps.length : Int) X wr q2 Ds2 ∧ SimW c jobs (ps.length : Int) (gAt c mem jobs ps ps.length) q2 Ds2) := ⟨W2, M2⟩
      clear W2 M2 HW hrw
      go_wp2_with fail
      have ho : Only (w.heap.size + 1) wr (((wr.setCell ⟨w.heap.size + 1, 0, none⟩ (.slice (some ⟨nb, 0, none⟩) Ds2.length cap)).setCell ⟨w.heap.size + 1, 1, none⟩ (.slice (some ⟨p, 0, none⟩) q2.length tcap)).setCell ⟨w.heap.size + 1, 2, none⟩ (.int .i64 (ps.length : Int))) := (((Only.refl _ _).set).set).set
      have hb9 : Blk (((wr.setCell ⟨w.heap.size + 1, 0, none⟩ (.slice (some ⟨nb, 0, none⟩) Ds2.length cap)).setCell ⟨w.heap.size + 1, 1, none⟩ (.slice (some ⟨p, 0, none⟩) q2.length tcap)).setCell ⟨w.heap.size + 1, 2, none⟩ (.int .i64 (ps.length : Int))) (w.heap.size + 1) 102 #[.slice (some ⟨nb, 0, none⟩) Ds2.length cap, .slice (some ⟨p, 0, none⟩) q2.length tcap, .int .i64 (ps.length : Int)] := (((HR.out).set.set).set).congr (by simp)
      refine bodyPost_ret (v := .agg #[.slice (some ⟨nb, 0, none⟩) Ds2.length cap, .slice (some ⟨p, 0, none⟩) q2.length tcap, .int .i64 (ps.length : Int)]) ?_ rfl ⟨nb, p, cap, tcap, q2, Ds2, X, rfl, fun w9 cb9 h9 hc9 hle => (HW2.out).1.moved HR.out ho h9 hc9 (by omega) hle, (HW2.out).2, below_onto ((HB1.out).trans ((HB.out).mono (HB1.out).size)) ho (by omega) (by have := (HB.out).size; omega)⟩
      generalize ((wr.setCell ⟨w.heap.size + 1, 0, none⟩ (.slice (some ⟨nb, 0, none⟩) Ds2.length cap)).setCell ⟨w.heap.size + 1, 1, none⟩ (.slice (some ⟨p, 0, none⟩) q2.length tcap)).setCell ⟨w.heap.size + 1, 2, none⟩ (.int .i64 (ps.length : Int)) = w9 at *
      have h9 := hb9.cell
      clear HR HW2 m0 r0 rf HB
      simp [results, Try.results49, go_sem, h9]

set_option maxRecDepth 100000 in
set_option maxHeartbeats 8000000 in
theorem playCells_any {c : Cfg} {mem : List Int} {jobs : List (Int × List InsD)} (S : SetupOk c mem jobs) (ps : List PickD) (hps : ps.length ≤ 2 ^ 21) (ma ja pa : Option Addr) (mc jc pc : Nat) (w : World)
    (hm : Ints w w.heap.size ma mem) (hj : JobsRep w w.heap.size ja jobs) (hp : PicksIn w w.heap.size pa ps) :
    Calls Try.prog 38 #[.agg #[.int .i64 c.t, .int .i64 c.wd, .int .i64 c.s, .int .i64 c.g, .int .i64 c.r, .int .i64 c.cp, .int .i64 c.f, .slice ma mem.length mc, .slice ja jobs.length jc], .slice pa ps.length pc] w fun e w' =>
      ∃ (la : Option Addr) (lc : Nat), e = .returned (.slice la (cellsOf c mem jobs ps).length lc) ∧ Ints w' w'.heap.size la (cellsOf c mem jobs ps) ∧ Below w.heap.size w w' := by
  have HS : Hid (SetupOk c mem jobs) := S
  obtain ⟨A, HA⟩ : ∃ A, Hid (cellsOf c mem jobs ps = A) := ⟨_, rfl⟩
  rw [show cellsOf c mem jobs ps = A from HA.out]
  have hps' : ps.length ≤ 2097152 := hps
  have hB1 : Below w.heap.size w (w.alloc (.cells #[.int .i64 c.t, .int .i64 c.wd, .int .i64 c.s, .int .i64 c.g, .int .i64 c.r, .int .i64 c.cp, .int .i64 c.f, .slice ma mem.length mc, .slice ja jobs.length jc] 27)) := (Below.refl w.heap.size w).alloc (Nat.le_refl _) _
  have HB1 : Hid (Below w.heap.size w (w.alloc (.cells #[.int .i64 c.t, .int .i64 c.wd, .int .i64 c.s, .int .i64 c.g, .int .i64 c.r, .int .i64 c.cp, .int .i64 c.f, .slice ma mem.length mc, .slice ja jobs.length jc] 27))) := hB1
  have HC : Hid (Calls Try.prog 49 #[.agg #[.int .i64 c.t, .int .i64 c.wd, .int .i64 c.s, .int .i64 c.g, .int .i64 c.r, .int .i64 c.cp, .int .i64 c.f, .slice ma mem.length mc, .slice ja jobs.length jc], .slice pa ps.length pc] (w.alloc (.cells #[.int .i64 c.t, .int .i64 c.wd, .int .i64 c.s, .int .i64 c.g, .int .i64 c.r, .int .i64 c.cp, .int .i64 c.f, .slice ma mem.length mc, .slice ja jobs.length jc] 27)) (BehindIs c mem jobs ps (w.alloc (.cells #[.int .i64 c.t, .int .i64 c.wd, .int .i64 c.s, .int .i64 c.g, .int .i64 c.r, .int .i64 c.cp, .int .i64 c.f, .slice ma mem.length mc, .slice ja jobs.length jc] 27)))) :=
    behind_any S ps (by omega) ma ja pa mc jc pc _ (hm.up hB1) (hj.up2 hB1) (hp.up2 hB1)
  clear hm hj hp S hps hB1
  go_enter Try.func38, Try.ntmps38
  go_wp2_with fail
  refine (HC.out).mono ?_
  rintro e w2 ⟨nb, p, cap, tcap, q, Ds, X, rfl, hW, hM, hb2⟩
  obtain ⟨cb, hcb⟩ : ∃ cb, cb = w2.heap.size := ⟨_, rfl⟩
  have hB3 : Below w2.heap.size w2 (w2.alloc (.cells #[.slice (some ⟨nb, 0, none⟩) Ds.length cap, .slice (some ⟨p, 0, none⟩) q.length tcap, .int .i64 (ps.length : Int)] 102)) := (Below.refl _ _).alloc (Nat.le_refl _) _
  have W3 := hW _ cb hB3 (by rw [hcb]; exact Blk.new w2 102 _) (by rw [hcb]; exact hb2.size)
  have HB3 : Hid (Below w.heap.size w (w2.alloc (.cells #[.slice (some ⟨nb, 0, none⟩) Ds.length cap, .slice (some ⟨p, 0, none⟩) q.length tcap, .int .i64 (ps.length : Int)] 102))) := (HB1.out).trans ((hb2.trans (hB3.mono hb2.size)).mono (HB1.out).size)
  obtain ⟨h1, h2, h3⟩ := ws_cells (ps := ps) (mem := mem) ⟨q, Ds, W3, hM⟩
  rw [show cellsOf c mem jobs ps = A from HA.out] at h1 h2
  have hA : A.length ≤ 1000 := by
    obtain ⟨⟨t1, t2⟩, ⟨x1, x2⟩, ⟨s1, s2⟩, _⟩ := cfgB_true (HS.out).cfg
    rw [← HA.out]
    simp only [cellsOf, List.length_map, List.length_range, total_eq]
    omega
  have HN : Hid (Calls Try.prog 50 #[.pointer (some ⟨cb, 0, none⟩)] (w2.alloc (.cells #[.slice (some ⟨nb, 0, none⟩) Ds.length cap, .slice (some ⟨p, 0, none⟩) q.length tcap, .int .i64 (ps.length : Int)] 102)) fun e w' => e = .returned (.slice (some ⟨(w2.alloc (.cells #[.slice (some ⟨nb, 0, none⟩) Ds.length cap, .slice (some ⟨p, 0, none⟩) q.length tcap, .int .i64 (ps.length : Int)] 102)).heap.size, 0, none⟩) A.length A.length) ∧ Blk w' (w2.alloc (.cells #[.slice (some ⟨nb, 0, none⟩) Ds.length cap, .slice (some ⟨p, 0, none⟩) q.length tcap, .int .i64 (ps.length : Int)] 102)).heap.size 3 (A.map (Value.int .i64 ·)).toArray ∧ Below (w2.alloc (.cells #[.slice (some ⟨nb, 0, none⟩) Ds.length cap, .slice (some ⟨p, 0, none⟩) q.length tcap, .int .i64 (ps.length : Int)] 102)).heap.size (w2.alloc (.cells #[.slice (some ⟨nb, 0, none⟩) Ds.length cap, .slice (some ⟨p, 0, none⟩) q.length tcap, .int .i64 (ps.length : Int)] 102)) w') := numbers_any cb 0 nb cap A _ hA h2 h3 h1
  clear hW hM hB3 hb2 W3 h1 h2 h3 hA HC
  go_upto_region 2 with fail
  rw [← hcb]
  clear hcb
  generalize w2.alloc (.cells #[.slice (some ⟨nb, 0, none⟩) Ds.length cap, .slice (some ⟨p, 0, none⟩) q.length tcap, .int .i64 (ps.length : Int)] 102) = w3 at *
  go_wp2_with fail
  refine (HN.out).mono ?_
  rintro e w5 ⟨rfl, h5, hb5⟩
  have H5 : Hid (Ints w5 w5.heap.size (some ⟨w3.heap.size, 0, none⟩) A) := ints_blk h5
  have HB5 : Hid (Below w.heap.size w w5) := (HB3.out).trans (hb5.mono (HB3.out).size)
  clear h5 hb5 HN
  go_wp2
  go_ret
  exact ⟨_, _, rfl, H5.out, HB5.out⟩

end Go.Proofs.Ytejadojilncbjaa

namespace Go.Proofs.Ytejadojilncbjaa
open Go.RowKit
set_option linter.unusedVariables false
attribute [local go_sem ↓] Go.wp_at_zero Go.wp_at_succ

theorem made51 (n : Nat) : madeCells (Value.agg #[.int .i64 0, .int .i64 0, .int .i64 0, .int .i64 0]).cells (n * 4) = (List.replicate (n * 4) (Value.int .i64 0)).toArray := by
  have hz : (Value.agg #[.int .i64 0, .int .i64 0, .int .i64 0, .int .i64 0]).cells = #[.int .i64 0, .int .i64 0, .int .i64 0, .int .i64 0] := by rfl
  rw [hz]
  apply Array.ext
  · simp [size_madeCells]
  · intro i h1 h2
    simp [madeCells]
    have : i % 4 = 0 ∨ i % 4 = 1 ∨ i % 4 = 2 ∨ i % 4 = 3 := by omega
    rcases this with h | h | h | h <;> rw [h] <;> rfl

theorem run_make51 (n : Nat) (hn : n ≤ 2097152) (w : World) : (Instr.makeSlice 42 (Value.int .i64 (n : Int)) (Value.int .i64 (n : Int))).run Try.prog w =
    .ok (.slice (some ⟨w.heap.size, 0, none⟩) n n) (w.alloc (.cells (List.replicate (n * 4) (Value.int .i64 0)).toArray 51)) := by
  obtain ⟨i0, h1, h2, h3, h4⟩ := info_parts Try.info51
  have := run_make (P := Try.prog) w 42 51 i0 _ Try.underlying42 h1 h2 .i64 .i64 n n (by omega) (by omega) (by rw [h4]; omega) (by omega)
  rw [h3] at this
  simp only [Int.toNat_natCast, made51] at this
  exact this

theorem flat4 : ∀ l : List AccD, (l.flatMap accCells).length = l.length * 4
  | [] => rfl
  | a :: l => by
    rw [List.flatMap_cons, List.length_append, flat4 l]
    simp [accCells]
    omega

/-- The accesses so far, and room for the others. -/
def accPad (c : Cfg) (mem : List Int) (jobs : List (Int × List InsD)) (ps : List PickD) (k : Nat) : List Value := (gLog c mem jobs ps k).flatMap accCells ++ List.replicate ((ps.length - k) * 4) (.int .i64 0)

theorem pad_set {c : Cfg} {mem : List Int} {jobs : List (Int × List InsD)} {ps : List PickD} {k : Nat} (hk : k < ps.length) {a : AccD} (ha : a = (gStep c jobs (gAt c mem jobs ps k) ((k : Int) + 1) (pickAt ps k)).2) {w : World} {ab : Nat} (h : Blk w ab 51 (accPad c mem jobs ps k).toArray) :
    Blk ((((w.setCell ⟨ab, k * 4, none⟩ (.int .i64 a.kind)).setCell ⟨ab, k * 4 + 1, none⟩ (.int .i64 a.cell)).setCell ⟨ab, k * 4 + 2, none⟩ (.int .i64 a.seen)).setCell ⟨ab, k * 4 + 3, none⟩ (.int .i64 a.put)) ab 51 (accPad c mem jobs ps (k + 1)).toArray := by
  refine h.set.set.set.set.congr ?_
  have hl : ((gLog c mem jobs ps k).flatMap accCells).length = k * 4 := by rw [flat4, gLog_len]
  have e : (ps.length - k) * 4 = 4 + (ps.length - (k + 1)) * 4 := by omega
  unfold accPad
  rw [glog_next c mem jobs ps k a ha, e, ← List.replicate_append_replicate]
  generalize (gLog c mem jobs ps k).flatMap accCells = L at *
  generalize List.replicate ((ps.length - (k + 1)) * 4) (Value.int .i64 0) = R
  rw [← hl]
  simp [List.set_append_right, List.replicate_succ]

theorem pad_at {c : Cfg} {mem : List Int} {jobs : List (Int × List InsD)} {ps : List PickD} {k : Nat} (hk : k < ps.length) (j : Nat) (hj : j < 4) : (accPad c mem jobs ps k).toArray[k * 4 + j]? = some (.int .i64 0) := by
  have hl : ((gLog c mem jobs ps k).flatMap accCells).length = k * 4 := by rw [flat4, gLog_len]
  unfold accPad
  rw [List.getElem?_toArray, List.getElem?_append_right (by omega), hl, List.getElem?_replicate, if_pos (by omega)]

theorem pad_log {c : Cfg} {mem : List Int} {jobs : List (Int × List InsD)} {ps : List PickD} (hps : ps.length ≤ 2097152) {w : World} {ab : Nat} (h : Blk w ab 51 (accPad c mem jobs ps ps.length).toArray) : LogIn w w.heap.size (some ⟨ab, 0, none⟩) (accs c mem jobs ps) := by
  have hl := gLog_len c mem jobs ps ps.length
  have e : accPad c mem jobs ps ps.length = (accs c mem jobs ps).flatMap accCells := by
    unfold accPad accs
    simp
  rw [e] at h
  refine log_row (base := 0) (c := (accs c mem jobs ps).length) ⟨flat4 _, Or.inr ⟨ab, _, _, rfl, Nat.zero_le _, h, Nat.le_refl _, ?_, by rw [List.size_toArray, flat4], ?_⟩⟩
  · unfold accs maxLen
    omega
  · rw [List.take_of_length_le (by rw [flat4]; exact Nat.le_refl _)]

end Go.Proofs.Ytejadojilncbjaa

namespace Go.Proofs.Ytejadojilncbjaa
open Go.RowKit
set_option linter.unusedVariables false
attribute [local go_sem ↓] Go.wp_at_zero Go.wp_at_succ

theorem WS.apart {base p nb cb cap tcap : Nat} {X : List Value} {c : Cfg} {mem : List Int} {jobs : List (Int × List InsD)} {ps : List PickD} {k ab : Nat} {w w' : World} {cs : Array Value} (h : WS base p nb cb cap tcap X c mem jobs ps k w) (hb : Blk w ab 51 cs) (ho : Only ab w w') : WS base p nb cb cap tcap X c mem jobs ps k w' := by
  obtain ⟨q, Ds, R, M⟩ := h
  exact ⟨q, Ds, R.apart hb ho (by decide) (by decide) (by decide) (by decide) (by decide) (by decide) (by decide), M⟩

set_option maxRecDepth 100000 in
set_option maxHeartbeats 8000000 in
theorem playAccesses_any {c : Cfg} {mem : List Int} {jobs : List (Int × List InsD)} (S : SetupOk c mem jobs) (ps : List PickD) (hps : ps.length ≤ 2 ^ 21) (ma ja pa : Option Addr) (mc jc pc : Nat) (w : World)
    (hm : Ints w w.heap.size ma mem) (hj : JobsRep w w.heap.size ja jobs) (hp : PicksIn w w.heap.size pa ps) :
    Calls Try.prog 48 #[.agg #[.int .i64 c.t, .int .i64 c.wd, .int .i64 c.s, .int .i64 c.g, .int .i64 c.r, .int .i64 c.cp, .int .i64 c.f, .slice ma mem.length mc, .slice ja jobs.length jc], .slice pa ps.length pc] w (AccIs w (accs c mem jobs ps)) := by
  have HM : Hid (Ints w w.heap.size ma mem) := hm
  have HJ : Hid (JobsRep w w.heap.size ja jobs) := hj
  have HP : Hid (PicksIn w w.heap.size pa ps) := hp
  have HS : Hid (SetupOk c mem jobs) := S
  obtain ⟨A, HA⟩ : ∃ A, Hid (accs c mem jobs ps = A) := ⟨_, rfl⟩
  rw [show accs c mem jobs ps = A from HA.out]
  have hps' : ps.length ≤ 2097152 := hps
  clear hm hj hp S hps
  go_enter Try.func48, Try.ntmps48
  go_wp2_with fail
  obtain ⟨w1, hw1⟩ : ∃ w1, w1 = w.alloc (.cells #[.int .i64 c.t, .int .i64 c.wd, .int .i64 c.s, .int .i64 c.g, .int .i64 c.r, .int .i64 c.cp, .int .i64 c.f, .slice ma mem.length mc, .slice ja jobs.length jc] 27) := ⟨_, rfl⟩
  have HB1 : Hid (Below w.heap.size w w1) := by rw [hw1]; exact (Below.refl w.heap.size w).alloc (Nat.le_refl _) _
  have HSb : Hid (Blk w1 w.heap.size 27 #[.int .i64 c.t, .int .i64 c.wd, .int .i64 c.s, .int .i64 c.g, .int .i64 c.r, .int .i64 c.cp, .int .i64 c.f, .slice ma mem.length mc, .slice ja jobs.length jc]) := by rw [hw1]; exact Blk.new w 27 _
  have hs1 : w1.heap.size = w.heap.size + 1 := by rw [hw1]; simp
  rw [← hw1]
  clear hw1
  have HM1 : Hid (Ints w1 w1.heap.size ma mem) := (HM.out).up HB1.out
  have HJ1 : Hid (JobsRep w1 w1.heap.size ja jobs) := (HJ.out).up2 HB1.out
  have HP1 : Hid (PicksIn w1 w1.heap.size pa ps) := (HP.out).up2 HB1.out
  clear HM HJ HP
  refine (begin_any c (HS.out).cfg mem (HS.out).mw (HS.out).mb jobs (HS.out).j8 ma ja mc jc w1 HM1.out HJ1.out).mono ?_
  rintro e w2 ⟨nb, p, cap, tcap, q, Ds, X, rfl, hW, hM, hb2⟩
  obtain ⟨cb, hcb⟩ : ∃ cb, cb = w2.heap.size := ⟨_, rfl⟩
  have hB3 : Below w2.heap.size w2 (w2.alloc (.cells #[.slice (some ⟨nb, 0, none⟩) Ds.length cap, .slice (some ⟨p, 0, none⟩) q.length tcap, .int .i64 0] 102)) := (Below.refl _ _).alloc (Nat.le_refl _) _
  have HW3 : Hid (WS w1.heap.size p nb cb cap tcap X c mem jobs ps 0 (w2.alloc (.cells #[.slice (some ⟨nb, 0, none⟩) Ds.length cap, .slice (some ⟨p, 0, none⟩) q.length tcap, .int .i64 0] 102))) :=
    ⟨q, Ds, hW _ cb hB3 (by rw [hcb]; exact Blk.new w2 102 _) (by rw [hcb]; exact hb2.size), hM⟩
  have HB3 : Hid (Below w1.heap.size w1 (w2.alloc (.cells #[.slice (some ⟨nb, 0, none⟩) Ds.length cap, .slice (some ⟨p, 0, none⟩) q.length tcap, .int .i64 0] 102))) := hb2.trans (hB3.mono hb2.size)
  clear hW hM hB3 hb2
  go_upto_region 2 with fail
  rw [← hcb]
  clear hcb
  generalize w2.alloc (.cells #[.slice (some ⟨nb, 0, none⟩) Ds.length cap, .slice (some ⟨p, 0, none⟩) q.length tcap, .int .i64 0] 102) = w3 at *
  have hmk := run_make51 ps.length hps'
  obtain ⟨ab, hab⟩ : ∃ ab, ab = w3.heap.size := ⟨_, rfl⟩
  obtain ⟨Z, hZ⟩ : ∃ Z, Z = (List.replicate (ps.length * 4) (Value.int .i64 0)).toArray := ⟨_, rfl⟩
  rw [← hZ] at hmk
  have hB4 : Below w3.heap.size w3 (w3.alloc (.cells Z 51)) := (Below.refl _ _).alloc (Nat.le_refl _) _
  have HW4 : Hid (WS w1.heap.size p nb cb cap tcap X c mem jobs ps 0 (w3.alloc (.cells Z 51))) := (HW3.out).below hB4
  have HB4 : Hid (Below w1.heap.size w1 (w3.alloc (.cells Z 51))) := (HB3.out).trans (hB4.mono (HB3.out).size)
  have HA4 : Hid (Blk (w3.alloc (.cells Z 51)) ab 51 (accPad c mem jobs ps 0).toArray) := by
    rw [hab]
    refine (Blk.new w3 51 _).congr ?_
    rw [hZ]
    simp [accPad, gLog]
  have HAb : Hid (w1.heap.size ≤ ab) := by show _ ≤ _; rw [hab]; exact (HB3.out).size
  clear HW3 HB3 hB4 hZ
  go_upto_region 3 with fail
  rw [← hab]
  clear hab hmk
  generalize w3.alloc (.cells Z 51) = w4 at *
  go_wp2_with fail
  go_loopg [16] (ps.length + 1) (fun m t16 wr => ∃ (k : Nat), t16 = .int .i64 (k : Int) ∧ k ≤ ps.length ∧ m = ps.length + 1 - k ∧ Hid (WS w1.heap.size p nb cb cap tcap X c mem jobs ps k wr) ∧ Hid (Below w1.heap.size w1 wr) ∧ Hid (Blk wr ab 51 (accPad c mem jobs ps k).toArray))
  case atStart => exact ⟨0, rfl, by omega, by omega, HW4, HB4, HA4⟩
  case round =>
    obtain ⟨k, rfl, hk, hgk, HW, HB, HAk⟩ := hrel
    clear HW4 HB4 HA4
    by_cases hkl : k < ps.length
    · obtain ⟨pb, poff, hpa, hpb, hpc0, hpc1⟩ := HP1.out k hkl
      have hk0 : (0 : Int) ≤ (k : Int) := by omega
      have hk1 : (k : Int) < (ps.length : Int) := by omega
      have hwk : IntKind.i64.wrap ((k : Int) + 1) = (k : Int) + 1 := wrapP _ (by omega) (by omega)
      have hszk : w1.heap.size ≤ wr.heap.size := (HB.out).size
      have hq0 : wr.cell? ⟨pb, poff + k * 2, none⟩ = some (.int .i64 (pickAt ps k).thread) := (World.cell?_of_block ((HB.out).block pb hpb)).trans hpc0
      have hq1 : wr.cell? ⟨pb, poff + k * 2 + 1, none⟩ = some (.int .i64 (pickAt ps k).draw) := (World.cell?_of_block ((HB.out).block pb hpb)).trans hpc1
      have hpbl : pb < wr.heap.size := by omega
      have hsbl : w.heap.size < wr.heap.size := by omega
      have hsc : ∀ i, wr.cell? ⟨w.heap.size, i, none⟩ = (#[.int .i64 c.t, .int .i64 c.wd, .int .i64 c.s, .int .i64 c.g, .int .i64 c.r, .int .i64 c.cp, .int .i64 c.f, .slice ma mem.length mc, .slice ja jobs.length jc] : Array Value)[i]? := ((HSb.out).below HB.out (by omega)).cell
      subst hpa
      clear hpc0 hpc1
      obtain ⟨th, hth⟩ : ∃ th, th = (pickAt ps k).thread := ⟨_, rfl⟩
      obtain ⟨dr, hdr⟩ : ∃ dr, dr = (pickAt ps k).draw := ⟨_, rfl⟩
      rw [← hth] at hq0
      rw [← hdr] at hq1
      have hBa : Below wr.heap.size wr (wr.alloc (.cells #[.int .i64 th, .int .i64 dr] 58)) := (Below.refl wr.heap.size wr).alloc (Nat.le_refl _) _
      have HBa : Hid (Below w1.heap.size w1 (wr.alloc (.cells #[.int .i64 th, .int .i64 dr] 58))) := (HB.out).trans (hBa.mono hszk)
      have HC : Hid (Calls Try.prog 61 #[.pointer (some ⟨cb, 0, none⟩), .slice ja jobs.length jc, .agg #[.int .i64 th, .int .i64 dr]] (wr.alloc (.cells #[.int .i64 th, .int .i64 dr] 58)) (PickIs w1.heap.size p nb cb cap tcap X c mem jobs ps k (wr.alloc (.cells #[.int .i64 th, .int .i64 dr] 58)))) := by
        rw [hth, hdr] at HBa hBa ⊢
        exact ws_pick HS.out (by omega) ((HW.out).below hBa) ja jc ((HJ1.out).up HBa.out)
      have HAa : Hid (Blk (wr.alloc (.cells #[.int .i64 th, .int .i64 dr] 58)) ab 51 (accPad c mem jobs ps k).toArray) := (HAk.out).alloc _
      clear hth hdr hBa HW HB HAk
      go_wp2_with fail
      clear hq0 hq1 hsc
      refine (HC.out).mono ?_
      rintro e w5 ⟨⟨a, ha, rfl⟩, hW5, hb5, hbk⟩
      have HW5 : Hid (WS w1.heap.size p nb cb cap tcap X c mem jobs ps (k + 1) w5) := hW5
      have HB5 : Hid (Below w1.heap.size w1 w5) := (HBa.out).trans hb5
      have HA5 : Hid (Blk w5 ab 51 (accPad c mem jobs ps k).toArray) := hbk ab 51 _ HAa.out (by decide) (by decide) (by decide) (by decide) (by decide) (by decide) (by decide)
      have Ha : Hid (a = (gStep c jobs (gAt c mem jobs ps k) ((k : Int) + 1) (pickAt ps k)).2) := ha
      have hf := (HA5.out).frozen
      have hc0 : w5.cell? ⟨ab, k * 4, none⟩ = some (.int .i64 0) := by rw [(HA5.out).cell]; exact pad_at hkl 0 (by omega)
      have hc1 : w5.cell? ⟨ab, k * 4 + 1, none⟩ = some (.int .i64 0) := by rw [(HA5.out).cell]; exact pad_at hkl 1 (by omega)
      have hc2 : w5.cell? ⟨ab, k * 4 + 2, none⟩ = some (.int .i64 0) := by rw [(HA5.out).cell]; exact pad_at hkl 2 (by omega)
      have hc3 : w5.cell? ⟨ab, k * 4 + 3, none⟩ = some (.int .i64 0) := by rw [(HA5.out).cell]; exact pad_at hkl 3 (by omega)
      have habl : ab < w5.heap.size := (HA5.out).lt
      clear hW5 hb5 hbk HC HBa HAa ha
      obtain ⟨ak, ac, az, ap⟩ := a
      go_wp2_with fail
      have hA6 := pad_set hkl Ha.out HA5.out
      have ho6 : Only ab w5 ((((w5.setCell ⟨ab, k * 4, none⟩ (.int .i64 ak)).setCell ⟨ab, k * 4 + 1, none⟩ (.int .i64 ac)).setCell ⟨ab, k * 4 + 2, none⟩ (.int .i64 az)).setCell ⟨ab, k * 4 + 3, none⟩ (.int .i64 ap)) := (((Only.refl _ _).set).set).set.set
      go_roundg (gk - 1)
      case rel => exact ⟨k + 1, by simp, by omega, by omega, (HW5.out).apart HA5.out ho6, below_onto HB5.out ho6 HAb.out (HB5.out).size, hA6⟩
      case measure => omega
    · have hkj : k = ps.length := by omega
      subst hkj
      have hk2 : ¬ ((ps.length : Int) < (ps.length : Int)) := by omega
      have HL : Hid (LogIn wr wr.heap.size (some ⟨ab, 0, none⟩) A ∧ A.length = ps.length) := by
        show _ ∧ _
        rw [← HA.out]
        exact ⟨pad_log hps' HAk.out, gLog_len _ _ _ _ _⟩
      have HB5 : Hid (Below w.heap.size w wr) := (HB1.out).trans ((HB.out).mono (HB1.out).size)
      clear HW HB HAk
      go_wp2_with fail
      go_ret
      exact ⟨some ⟨ab, 0, none⟩, ps.length, by rw [(HL.out).2]; rfl, (HL.out).1, HB5.out⟩

end Go.Proofs.Ytejadojilncbjaa
