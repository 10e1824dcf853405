import Derived.Test.YtejadojilncbjaaGreatG42
import Derived.Test.YtejadojilncbjaaGreatG38
import Derived.Test.YtejadojilncbjaaGreatG26
import Derived.Test.YtejadojilncbjaaGreatG24
import Derived.Test.YtejadojilncbjaaGreatG23
import Derived.Test.YtejadojilncbjaaGreatRows
import Derived.ShutString
import Derived.ChangeOld
import Derived.JoinedCond
namespace Go.Proofs.YtejadojilncbjaaGreat
open Go.RowKit
set_option linter.unusedVariables false
attribute [local go_sem ↓] Go.wp_at_zero Go.wp_at_succ
def WS (base p nb cb cap tcap : Nat) (X : List Value) (c : Cfg) (mem : List Int) (jobs : List (Int × List InsD)) (ps : List PickD) (k : Nat) (w : World) : Prop :=
 ∃ q Ds, WR base p nb cb cap tcap k X w q Ds ∧ SimW c jobs k (gAt c mem jobs ps k) q Ds
theorem WS.below {base p nb cb cap tcap : Nat} {X : List Value} {c : Cfg} {mem : List Int} {jobs : List (Int × List InsD)} {ps : List PickD} {k : Nat} {w w' : World} (h : WS base p nb cb cap tcap X c mem jobs ps k w) (hb : Below w.heap.size w w') : WS base p nb cb cap tcap X c mem jobs ps k w' := by
 obtain ⟨q, Ds, R, M⟩ := h
 exact ⟨q, Ds, R.below hb, M⟩
def PickIs (base p nb cb cap tcap : Nat) (X : List Value) (c : Cfg) (mem : List Int) (jobs : List (Int × List InsD)) (ps : List PickD) (k : Nat) (w : World) (e : Ending) (w' : World) : Prop :=
 (∃ a : AccD, a = (gStep c jobs (gAt c mem jobs ps k) ((k : Int) + 1) (pickAt ps k)).2 ∧ e = .returned (.agg #[.int .i64 a.kind, .int .i64 a.cell, .int .i64 a.seen, .int .i64 a.put])) ∧
 WS base p nb cb cap tcap X c mem jobs ps (k + 1) w' ∧ Below base w w' ∧ (∀ b T cs, Blk w b T cs → (119 : Nat) ≠ T → (3 : Nat) ≠ T → (175 : Nat) ≠ T → (180 : Nat) ≠ T → (95 : Nat) ≠ T → (84 : Nat) ≠ T → (106 : Nat) ≠ T → Blk w' b T cs)
theorem ws_pick {base p nb cb cap tcap : Nat} {X : List Value} {c : Cfg} {mem : List Int} {jobs : List (Int × List InsD)} {ps : List PickD} {k : Nat} {w : World} (S : SetupOk c mem jobs) (hk : k < 2 ^ 30) (W : WS base p nb cb cap tcap X c mem jobs ps k w) (ja : Option Addr) (jc : Nat) (hj : JobsRep w base ja jobs) :
  Calls Tryz.prog 67 #[.pointer (some ⟨cb, 0, none⟩), .slice ja jobs.length jc, .agg #[.int .i64 (pickAt ps k).thread, .int .i64 (pickAt ps k).draw]] w (PickIs base p nb cb cap tcap X c mem jobs ps k w) := by
 obtain ⟨q, Ds, R, M⟩ := W
 refine (t_wpick S.cfg ⟨by omega, by omega⟩ R M ⟨by omega, by omega⟩ (pickAt ps k) ja jc hj S.cd).mono ?_
 rintro e w' ⟨rfl, q', Ds', R', M', G, _⟩
 refine ⟨⟨_, rfl, rfl⟩, ⟨q', Ds', R', ?_⟩, G.low R, fun b T cs h h1 h2 h3 h4 h5 h6 h7 => ?_⟩
 ·rw [show ((k + 1 : Nat) : Int) = (k : Int) + 1 from by simp]
  exact M'
 ·exact (G.block b h.lt (Ne.symm (Blk.ne R.thr h h1)) (Ne.symm (Blk.ne R.num h h2)) (Ne.symm (Blk.ne R.wst h h7)) (fun ⟨i, hi, o⟩ => Own_tag (R.rows i hi) h h3 h4 h2 h5 h6 o)).trans h
def BehindIs (c : Cfg) (mem : List Int) (jobs : List (Int × List InsD)) (ps : List PickD) (w : World) (e : Ending) (w' : World) : Prop :=
 ∃ (nb p cap tcap : Nat) (q : List (PT × Ls)) (Ds : List Int) (X : List Value), e = .returned (.agg #[.slice (some ⟨nb, 0, none⟩) Ds.length cap, .slice (some ⟨p, 0, none⟩) q.length tcap, .int .i64 (ps.length : Int)]) ∧
  (∀ w2 cb, Below w'.heap.size w' w2 → Blk w2 cb 106 #[.slice (some ⟨nb, 0, none⟩) Ds.length cap, .slice (some ⟨p, 0, none⟩) q.length tcap, .int .i64 (ps.length : Int)] → w.heap.size ≤ cb → WR w.heap.size p nb cb cap tcap (ps.length : Int) X w2 q Ds) ∧ SimW c jobs (ps.length : Int) (gAt c mem jobs ps ps.length) q Ds ∧ Below w.heap.size w w'
theorem WR.moved {base p nb cb cap tcap : Nat} {pn : Int} {X : List Value} {w w' w2 : World} {q : List (PT × Ls)} {Ds : List Int} {rb cb2 base2 : Nat} {cs : Array Value} (W : WR base p nb cb cap tcap pn X w q Ds) (hr : Blk w rb 106 cs) (ho : Only rb w w') (hb : Below w'.heap.size w' w2)
  (hc : Blk w2 cb2 106 #[.slice (some ⟨nb, 0, none⟩) Ds.length cap, .slice (some ⟨p, 0, none⟩) q.length tcap, .int .i64 pn]) (hb2 : base2 ≤ base) (hle : base2 ≤ cb2) : WR base2 p nb cb2 cap tcap pn X w2 q Ds := by
 have hrp : p ≠ rb := Blk.ne W.thr hr (by decide)
 have hrn : nb ≠ rb := Blk.ne W.num hr (by decide)
 have low : ∀ {t : PT} {L : Ls} {v : World}, RowsOk base v t L → RowsOk base2 v t L := fun R => ⟨ownsRow_low R.rd hb2, ownsRow_low R.wr hb2, ownsRow_low R.hd hb2, ownsRow_low R.mi hb2, R.ne, ownsRow_low R.nt hb2, ownsRow_low R.sr hb2⟩
 have h1 := W.thr.only ho hrp
 have h2 := W.num.only ho hrn
 refine ⟨h1.below hb h1.lt, fun i hi => low ((W.rows i hi).kept (fun k ok => ?_)), W.dis, h2.below hb h2.lt, W.nown, hc, Nat.le_trans hb2 W.pb, Nat.le_trans hb2 W.nbb, hle, Nat.le_trans hb2 (Nat.le_trans W.bs (Nat.le_trans ho.size hb.size))⟩
 have hlt := ((W.rows i hi).own k ok).2
 have hne : k ≠ rb := fun e => by subst e; exact Own_tag (W.rows i hi) hr (by decide) (by decide) (by decide) (by decide) (by decide) ok
 exact (hb.block k (Nat.lt_of_lt_of_le hlt ho.size)).trans (ho.block k hlt hne)
set_option maxRecDepth 100000 in
set_option maxHeartbeats 8000000 in
theorem behind_any {c : Cfg} {mem : List Int} {jobs : List (Int × List InsD)} (S : SetupOk c mem jobs) (ps : List PickD) (hps : ps.length ≤ 2 ^ 23) (ma ja pa : Option Addr) (mc jc pc : Nat) (w : World)
  (hm : Ints w w.heap.size ma mem) (hj : JobsRep w w.heap.size ja jobs) (hp : PicksIn w w.heap.size pa ps) :
  Calls Tryz.prog 60 #[.agg #[.int .i64 c.t, .int .i64 c.wd, .int .i64 c.s, .int .i64 c.g, .int .i64 c.r, .int .i64 c.cp, .int .i64 c.f, .slice ma mem.length mc, .slice ja jobs.length jc], .slice pa ps.length pc] w (BehindIs c mem jobs ps w) := by
 have HM : Hid (Ints w w.heap.size ma mem) := hm
 have HJ : Hid (JobsRep w w.heap.size ja jobs) := hj
 have HP : Hid (PicksIn w w.heap.size pa ps) := hp
 have HS : Hid (SetupOk c mem jobs) := S
 have hps' : ps.length ≤ 8388608 := hps
 clear hm hj hp S hps
 go_enter Tryz.func60, Tryz.ntmps60
 go_wp2_with fail
 obtain ⟨w1, hw1⟩ : ∃ w1, w1 = (w.alloc (.cells #[.int .i64 c.t, .int .i64 c.wd, .int .i64 c.s, .int .i64 c.g, .int .i64 c.r, .int .i64 c.cp, .int .i64 c.f, .slice ma mem.length mc, .slice ja jobs.length jc] 27)).alloc (.cells #[.slice none 0 0, .slice none 0 0, .int .i64 0] 106) := ⟨_, rfl⟩
 have HB1 : Hid (Below w.heap.size w w1) := by rw [hw1]; exact ((Below.refl w.heap.size w).alloc (Nat.le_refl _) _).alloc (by simp) _
 have HSb : Hid (Blk w1 w.heap.size 27 #[.int .i64 c.t, .int .i64 c.wd, .int .i64 c.s, .int .i64 c.g, .int .i64 c.r, .int .i64 c.cp, .int .i64 c.f, .slice ma mem.length mc, .slice ja jobs.length jc]) := by rw [hw1]; exact (Blk.new w 27 _).alloc _
 have HRb : Hid (Blk w1 (w.heap.size + 1) 106 #[.slice none 0 0, .slice none 0 0, .int .i64 0]) := by
  rw [hw1]
  have := Blk.new (w.alloc (.cells #[.int .i64 c.t, .int .i64 c.wd, .int .i64 c.s, .int .i64 c.g, .int .i64 c.r, .int .i64 c.cp, .int .i64 c.f, .slice ma mem.length mc, .slice ja jobs.length jc] 27)) 106 #[.slice none 0 0, .slice none 0 0, .int .i64 0]
  exact (by simpa using this : Blk _ _ _ _)
 have hs1 : w1.heap.size = w.heap.size + 2 := by rw [hw1]; simp
 rw [← hw1]
 clear hw1
 have HM1 : Hid (Ints w1 w1.heap.size ma mem) := (HM.out).up HB1.out
 have HJ1 : Hid (JobsRep w1 w1.heap.size ja jobs) := (HJ.out).up2 HB1.out
 have HP1 : Hid (PicksIn w1 w1.heap.size pa ps) := (HP.out).up2 HB1.out
 clear HM HJ HP
 refine (begin_any c (HS.out).cfg mem (HS.out).mw (HS.out).mb jobs (HS.out).j8 ma ja mc jc w1 HM1.out HJ1.out).mono ?_
 rintro e w2 ⟨nb, p, cap, tcap, q, Ds, X, rfl, hW, hM, hb2⟩
 obtain ⟨cb, hcb⟩ : ∃ cb, cb = w2.heap.size := ⟨_, rfl⟩
 have hB3 : Below w2.heap.size w2 (w2.alloc (.cells #[.slice (some ⟨nb, 0, none⟩) Ds.length cap, .slice (some ⟨p, 0, none⟩) q.length tcap, .int .i64 0] 106)) := (Below.refl _ _).alloc (Nat.le_refl _) _
 have HW3 : Hid (WS w1.heap.size p nb cb cap tcap X c mem jobs ps 0 (w2.alloc (.cells #[.slice (some ⟨nb, 0, none⟩) Ds.length cap, .slice (some ⟨p, 0, none⟩) q.length tcap, .int .i64 0] 106))) :=
  ⟨q, Ds, hW _ cb hB3 (by rw [hcb]; exact Blk.new w2 106 _) (by rw [hcb]; exact hb2.size), hM⟩
 have HB3 : Hid (Below w1.heap.size w1 (w2.alloc (.cells #[.slice (some ⟨nb, 0, none⟩) Ds.length cap, .slice (some ⟨p, 0, none⟩) q.length tcap, .int .i64 0] 106))) := hb2.trans (hB3.mono hb2.size)
 clear hW hM hB3 hb2
 go_upto_region 2 with fail
 rw [← hcb]
 clear hcb
 generalize w2.alloc (.cells #[.slice (some ⟨nb, 0, none⟩) Ds.length cap, .slice (some ⟨p, 0, none⟩) q.length tcap, .int .i64 0] 106) = w3 at *
 go_wp2_with fail
 go_loopg [12] (ps.length + 1) (fun m t12 wr => ∃ (k : Nat), t12 = .int .i64 (k : Int) ∧ k ≤ ps.length ∧ m = ps.length + 1 - k ∧ Hid (WS w1.heap.size p nb cb cap tcap X c mem jobs ps k wr) ∧ Hid (Below w1.heap.size w1 wr))
 case atStart => exact ⟨0, rfl, by omega, by omega, HW3, HB3⟩
 case round =>
  obtain ⟨k, rfl, hk, hgk, HW, HB⟩ := hrel
  clear HW3 HB3
  by_cases hkl : k < ps.length
  ·obtain ⟨pb, poff, hpa, hpb, hpc0, hpc1⟩ := HP1.out k hkl
   have hk0 : (0 : Int) ≤ (k : Int) := by omega
   have hk1 : (k : Int) < (ps.length : Int) := by omega
   have hwk : IntKind.i64.wrap ((k : Int) + 1) = (k : Int) + 1 := wrapP _ (by omega) (by omega)
   have hszk : w1.heap.size ≤ wr.heap.size := (HB.out).size
   have hq0 : wr.cell? ⟨pb, poff + k * 2, none⟩ = some (.int .i64 (pickAt ps k).thread) := (World.cell?_of_block ((HB.out).block pb hpb)).trans hpc0
   have hq1 : wr.cell? ⟨pb, poff + k * 2 + 1, none⟩ = some (.int .i64 (pickAt ps k).draw) := (World.cell?_of_block ((HB.out).block pb hpb)).trans hpc1
   have hpbl : pb < wr.heap.size := by omega
   have hsbl : w.heap.size < wr.heap.size := by omega
   have hsc : ∀ i, wr.cell? ⟨w.heap.size, i, none⟩ = (#[.int .i64 c.t, .int .i64 c.wd, .int .i64 c.s, .int .i64 c.g, .int .i64 c.r, .int .i64 c.cp, .int .i64 c.f, .slice ma mem.length mc, .slice ja jobs.length jc] : Array Value)[i]? := ((HSb.out).below HB.out (by omega)).cell
   subst hpa
   clear hpc0 hpc1
   obtain ⟨th, hth⟩ : ∃ th, th = (pickAt ps k).thread := ⟨_, rfl⟩
   obtain ⟨dr, hdr⟩ : ∃ dr, dr = (pickAt ps k).draw := ⟨_, rfl⟩
   rw [← hth] at hq0
   rw [← hdr] at hq1
   have hBa : Below wr.heap.size wr (wr.alloc (.cells #[.int .i64 th, .int .i64 dr] 42)) := (Below.refl wr.heap.size wr).alloc (Nat.le_refl _) _
   have HBa : Hid (Below w1.heap.size w1 (wr.alloc (.cells #[.int .i64 th, .int .i64 dr] 42))) := (HB.out).trans (hBa.mono hszk)
   have HC : Hid (Calls Tryz.prog 67 #[.pointer (some ⟨cb, 0, none⟩), .slice ja jobs.length jc, .agg #[.int .i64 th, .int .i64 dr]] (wr.alloc (.cells #[.int .i64 th, .int .i64 dr] 42)) (PickIs w1.heap.size p nb cb cap tcap X c mem jobs ps k (wr.alloc (.cells #[.int .i64 th, .int .i64 dr] 42)))) := by
    rw [hth, hdr] at HBa hBa ⊢
    exact ws_pick HS.out (by omega) ((HW.out).below hBa) ja jc ((HJ1.out).up HBa.out)
   clear hth hdr hBa HW HB
   go_wp2_with fail
   clear hq0 hq1 hsc
   refine (HC.out).mono ?_
   rintro e w5 ⟨⟨a, ha, rfl⟩, hW5, hb5, hbk⟩
   have HW5 : Hid (WS w1.heap.size p nb cb cap tcap X c mem jobs ps (k + 1) w5) := hW5
   have HB5 : Hid (Below w1.heap.size w1 w5) := (HBa.out).trans hb5
   clear hW5 hb5 hbk HC HBa
   go_wp2_with fail
   go_roundg (gk - 1)
   case rel => exact ⟨k + 1, by simp, by omega, by omega, HW5, HB5⟩
   case measure => omega
  ·have hkj : k = ps.length := by omega
   subst hkj
   have hk2 : ¬ ((ps.length : Int) < (ps.length : Int)) := by omega
   obtain ⟨q2, Ds2, W2, M2⟩ := HW.out
   have m0 := W2.wst.cell
   have hrw : Blk wr (w.heap.size + 1) 106 #[.slice none 0 0, .slice none 0 0, .int .i64 0] := (HRb.out).below HB.out (by omega)
   have r0 := hrw.cell
   have rf := hrw.frozen
   have hcr : cb ≠ w.heap.size + 1 := by have := W2.cbb; omega
   have HR : Hid (Blk wr (w.heap.size + 1) 106 #[.slice none 0 0, .slice none 0 0, .int .i64 0]) := hrw
   have HW2 : Hid (WR w1.heap.size p nb cb cap tcap (ps.length : Int) X wr q2 Ds2 ∧ SimW c jobs (ps.length : Int) (gAt c mem jobs ps ps.length) q2 Ds2) := ⟨W2, M2⟩
   clear W2 M2 HW hrw
   go_wp2_with fail
   have ho : Only (w.heap.size + 1) wr (((wr.setCell ⟨w.heap.size + 1, 0, none⟩ (.slice (some ⟨nb, 0, none⟩) Ds2.length cap)).setCell ⟨w.heap.size + 1, 1, none⟩ (.slice (some ⟨p, 0, none⟩) q2.length tcap)).setCell ⟨w.heap.size + 1, 2, none⟩ (.int .i64 (ps.length : Int))) := (((Only.refl _ _).set).set).set
   have hb9 : Blk (((wr.setCell ⟨w.heap.size + 1, 0, none⟩ (.slice (some ⟨nb, 0, none⟩) Ds2.length cap)).setCell ⟨w.heap.size + 1, 1, none⟩ (.slice (some ⟨p, 0, none⟩) q2.length tcap)).setCell ⟨w.heap.size + 1, 2, none⟩ (.int .i64 (ps.length : Int))) (w.heap.size + 1) 106 #[.slice (some ⟨nb, 0, none⟩) Ds2.length cap, .slice (some ⟨p, 0, none⟩) q2.length tcap, .int .i64 (ps.length : Int)] := (((HR.out).set.set).set).congr (by simp)
   refine bodyPost_ret (v := .agg #[.slice (some ⟨nb, 0, none⟩) Ds2.length cap, .slice (some ⟨p, 0, none⟩) q2.length tcap, .int .i64 (ps.length : Int)]) ?_ rfl ⟨nb, p, cap, tcap, q2, Ds2, X, rfl, fun w9 cb9 h9 hc9 hle => (HW2.out).1.moved HR.out ho h9 hc9 (by omega) hle, (HW2.out).2, below_onto ((HB1.out).trans ((HB.out).mono (HB1.out).size)) ho (by omega) (by have := (HB.out).size; omega)⟩
   generalize ((wr.setCell ⟨w.heap.size + 1, 0, none⟩ (.slice (some ⟨nb, 0, none⟩) Ds2.length cap)).setCell ⟨w.heap.size + 1, 1, none⟩ (.slice (some ⟨p, 0, none⟩) q2.length tcap)).setCell ⟨w.heap.size + 1, 2, none⟩ (.int .i64 (ps.length : Int)) = w9 at *
   have h9 := hb9.cell
   clear HR HW2 m0 r0 rf HB
   simp [results, Tryz.results60, go_sem, h9]
theorem setup_rep (c : Cfg) (mem : List Int) (jobs : List (Int × List InsD)) (ma ja : Option Addr) (mc jc : Nat) (w : World) (hml : mem.length ≤ maxLen) (hjl : jobs.length ≤ maxLen) (hm : Ints w w.heap.size ma mem) (hj : JobsRep w w.heap.size ja jobs) :
  Calls Tryz.prog 41 #[.agg #[.int .i64 c.t, .int .i64 c.wd, .int .i64 c.s, .int .i64 c.g, .int .i64 c.r, .int .i64 c.cp, .int .i64 c.f, .slice ma mem.length mc, .slice ja jobs.length jc]] w fun e w' =>
   e = .returned (.int .i64 (errS c mem jobs)) ∧ Below w.heap.size w w' := by
 obtain ⟨js, h1, h2, h3⟩ := hj
 have := setup_core c.t c.wd c.s c.g c.r c.cp c.f ma mem.length mc mem ja jobs.length jc js w rfl hml hm h1 hjl h2
 rw [show (⟨c.t, c.wd, c.s, c.g, c.r, c.cp, c.f⟩ : Cfg) = c from rfl, check_err h1 (fun i hi => ⟨(h3 i hi).1, (h3 i hi).2.1⟩)] at this
 exact this
end Go.Proofs.YtejadojilncbjaaGreat
namespace Go.Proofs.YtejadojilncbjaaGreat
open Go.ChangeShapes Go.WideShapes Go.ChangeAt Go.RowKit Go.Deep
set_option linter.unusedVariables false
theorem ownP : ownKnob Tryz.prog.godebug = none := by kernel_rfl
theorem laidOutP : laidOutB Tryz.prog = true := by kernel_rfl
theorem Tryz.cells42 : Tryz.prog.cellsOf 42 = 2 := by kernel_rfl
theorem bulk_one {H : Type} (d : DataW H) : 1 ≤ Rows.uptoBulk d := by
 cases d with
 | lit l => cases l <;> simp [Rows.uptoBulk]
 | nil => simp [Rows.uptoBulk]
 | ptr d => simp [Rows.uptoBulk]
 | slice elems spare => simp [Rows.uptoBulk]
 | agg parts => simp [Rows.uptoBulk]
 | iface t d => simp [Rows.uptoBulk]
 | map entries => simp [Rows.uptoBulk]
 | held h => simp [Rows.uptoBulk]
theorem bulk_len {H : Type} : ∀ (l : List (DataW H)), l.length ≤ Rows.uptoBulkAll l
 | [] => by simp [Rows.uptoBulkAll]
 | x :: r => by
  have := bulk_one x
  have := bulk_len r
  simp only [Rows.uptoBulkAll, List.length_cons]
  omega
section
variable {H : Type} {enc : TypeId × Value → H} {w : World} {spare : Nat → Bool} {held : Bool}
theorem picks_open {fuel : Nat} {cs : List Value} {x : DataW H × List MemPlace} (h : DataW.trod enc Tryz.prog w 0 spare held fuel 28 cs = some x) :
  ∃ a len cap, ∃ ps : List PickD, cs = [.slice a len cap] ∧ ps.length = len ∧ PicksIn w w.heap.size a ps ∧ len ≤ Rows.uptoBulk x.1 := by
 rcases open_slice_pairs Tryz.underlying28 Tryz.underlying42 Tryz.cells42 rfl rfl Tryz.cells3 Tryz.cells3 h with ⟨hcs, _⟩ | ⟨x, l, c, m, n, V0, V1, D0, D1, P0, P1, hcs, _, hl, hm, hmm, rfl, hel⟩
 ·exact ⟨none, 0, 0, [], hcs, rfl, fun i hi => by simp at hi, Nat.zero_le _⟩
 ·have hle : l ≤ m := by rw [hmm]; split <;> omega
  have each : ∀ i, i < l → ∃ q : PickD, w.cell? (x.add (i * 2)) = some (.int .i64 q.thread) ∧ w.cell? (x.add (i * 2 + 1)) = some (.int .i64 q.draw) := by
   intro i hi
   obtain ⟨h0, h1, h2, h3⟩ := hel i (by omega)
   obtain ⟨n0, e0, _, w0⟩ := DataW.trod_int Tryz.underlying3 h2
   obtain ⟨n1, e1, _, w1⟩ := DataW.trod_int Tryz.underlying3 h3
   simp at e0 e1
   exact ⟨⟨n0, n1⟩, by rw [h0, e0], by rw [h1, e1]⟩
  have hin : Inhabited PickD := ⟨⟨0, 0⟩⟩
  obtain ⟨q, hq⟩ := choose_lt each
  obtain ⟨b, off, spot⟩ := x
  refine ⟨some ⟨b, off, spot⟩, l, c, (List.range l).map q, hcs, by simp, fun i hi => ?_, ?_⟩
  ·have hi' : i < l := by simpa using hi
   obtain ⟨h0, h1⟩ := hq i hi'
   have hspot : spot = none := by simpa [Addr.add] using World.cell?_spot (hq 0 (by omega)).1
   subst hspot
   rw [add_plain] at h0 h1
   have hat : pickAt ((List.range l).map q) i = q i := by simp [pickAt, List.getD, hi']
   rw [hat]
   exact ⟨b, off, rfl, block_lt h0, h0, h1⟩
  ·simp only [Rows.uptoBulk]
   have := bulk_len ((List.range l).map fun i => (DataW.agg [D0 i, D1 i] : DataW H))
   simp only [List.length_map, List.length_range] at this
   omega
theorem jobs_rep {w : World} {ja : Option Addr} {js : List JobD} (hj : JobsIn w w.heap.size ja js) (hc : ∀ j ∈ js, (Lit.int .i64 j.t).wf = true ∧ j.len ≤ maxLen ∧ ∃ is : List InsD, is.length = j.len ∧ CodeIn w w.heap.size j.a is ∧ ∀ i ∈ is, i.wf) :
  ∃ jobs : List (Int × List InsD), jobs.length = js.length ∧ JobsRep w w.heap.size ja jobs := by
 have each : ∀ i, i < js.length → ∃ is : List InsD, is.length = (jobAt js i).len ∧ CodeIn w w.heap.size (jobAt js i).a is := by
  intro i hi
  have hmem : jobAt js i ∈ js := by
   rw [show jobAt js i = js[i] from by simp [jobAt, List.getD, List.getElem?_eq_getElem hi]]
   exact List.getElem_mem hi
  obtain ⟨_, _, is, h1, h2, _⟩ := hc _ hmem
  exact ⟨is, h1, h2⟩
 obtain ⟨q, hq⟩ := choose_lt each
 refine ⟨(List.range js.length).map fun i => ((jobAt js i).t, q i), by simp, js, by simp, hj, fun i hi => ?_⟩
 have e : ((List.range js.length).map fun i => ((jobAt js i).t, q i)).getD i (0, []) = ((jobAt js i).t, q i) := by simp [List.getD, hi]
 rw [e]
 exact ⟨rfl, (hq i hi).1.symm, (hq i hi).2⟩
end
end Go.Proofs.YtejadojilncbjaaGreat
