import Derived.Test.YtejadojilncbjabGreatD33
namespace Go.Proofs.YtejadojilncbjabGreat
open Go.RowKit
set_option linter.unusedVariables false
attribute [local go_sem ↓] Go.wp_at_zero Go.wp_at_succ
theorem gstep_out {c : Cfg} {jobs : List (Int × List InsD)} {g : Gs} {n : Int} {pk : PickD} (h : ¬ (0 ≤ pk.thread ∧ pk.thread < c.t)) : gStep c jobs g n pk = (g, noAcc) := by unfold gStep; rw [if_neg h]
theorem SimW.still {c : Cfg} (hc : cfgB c = true) {jobs : List (Int × List InsD)} {k : Int} (hk : 0 ≤ k) {g : Gs} {q : List (PT × Ls)} {Ds : List Int} (M : SimW c jobs k g q Ds) (n : Int) (pk : PickD) (h : ¬ (0 ≤ pk.thread ∧ pk.thread < c.t)) : SimW c jobs (k + 1) (gStep c jobs g n pk).1 q Ds := by
 have hg := gstep_ok hc hk M.gok n pk
 rw [gstep_out h] at hg ⊢
 exact ⟨M.len, M.dl, M.dv, M.sim, fun i hi => (M.own i hi).mono (by omega), hg⟩
theorem WR.apart {base p nb cb cap tcap rb : Nat} {pn : Int} {X : List Value} {w w' : World} {q : List (PT × Ls)} {Ds : List Int} {T : TypeId} {cs : Array Value} (W : WR base p nb cb cap tcap pn X w q Ds) (h : Blk w rb T cs) (o : Only rb w w') (h1 : (222 : Nat) ≠ T) (h2 : (230 : Nat) ≠ T) (h3 : (3 : Nat) ≠ T) (h4 : (138 : Nat) ≠ T) (h5 : (125 : Nat) ≠ T) (h6 : (93 : Nat) ≠ T) (h7 : (47 : Nat) ≠ T) : WR base p nb cb cap tcap pn X w' q Ds := by
 have hrp : p ≠ rb := Blk.ne W.thr h h4
 have hrn : nb ≠ rb := Blk.ne W.num h h3
 have hrc : cb ≠ rb := Blk.ne W.wst h h5
 exact ⟨W.thr.only o hrp, fun i hi => (W.rows i hi).kept (fun k ok => o.block k ((W.rows i hi).own k ok).2 (fun e => by subst e; exact Own_tag (W.rows i hi) h h1 h2 h3 h6 h7 ok)), W.dis, W.num.only o hrn, W.nown, W.wst.only o hrc, W.pb, W.nbb, W.cbb, Nat.le_trans W.bs o.size⟩
theorem WR.counted {base p nb cb cap tcap : Nat} {pn : Int} {X : List Value} {w : World} {q : List (PT × Ls)} {Ds : List Int} (W : WR base p nb cb cap tcap pn X w q Ds) (m : Int) : WR base p nb cb cap tcap m X (w.setCell ⟨cb, 2, none⟩ (.int .i64 m)) q Ds := by
 have o : Only cb w (w.setCell ⟨cb, 2, none⟩ (.int .i64 m)) := (Only.refl _ _).set
 have hrp : p ≠ cb := Blk.ne W.thr W.wst (by decide)
 have hrn : nb ≠ cb := Blk.ne W.num W.wst (by decide)
 exact ⟨W.thr.only o hrp, fun i hi => (W.rows i hi).kept (fun k ok => o.block k ((W.rows i hi).own k ok).2 (fun e => by subst e; exact Own_tag (W.rows i hi) W.wst (by decide) (by decide) (by decide) (by decide) (by decide) ok)), W.dis, W.num.only o hrn, W.nown, W.wst.set.congr (by simp), W.pb, W.nbb, W.cbb, Nat.le_trans W.bs o.size⟩
theorem GoesW.counted {p nb cb : Nat} {q : List (PT × Ls)} {w w' : World} (h : Only cb w w') : GoesW p nb cb q w q w' := ⟨h.os, h.tape, h.output, h.size, fun k a _ _ c _ => h.block k a c, fun k o => Or.inl o⟩
theorem NGo.pre {i kind : Int} {q q' : List (PT × Ls)} {w w1 w' : World} (h : NGo i kind q q' w1 w') (he : ∀ j (hj : j < q.length), ∀ k, oB q[j].2.na = some k → w1.heap[k]? = w.heap[k]?) : NGo i kind q q' w w' :=
 ⟨h.len, h.other, h.none, fun hk j hj hj' e s k hk' => ⟨(h.fresh hk j hj hj' e s k hk').1, (h.fresh hk j hj hj' e s k hk').2.trans (he j hj k hk')⟩⟩
theorem NGo.post {i kind : Int} {q q' : List (PT × Ls)} {w w' w'' : World} (h : NGo i kind q q' w w') (he : ∀ j (hj : j < q.length), ∀ k, oB q[j].2.na = some k → w''.heap[k]? = w'.heap[k]?) : NGo i kind q q' w w'' :=
 ⟨h.len, h.other, h.none, fun hk j hj hj' e s k hk' => ⟨(h.fresh hk j hj hj' e s k hk').1, (he j hj k hk').trans (h.fresh hk j hj hj' e s k hk').2⟩⟩
theorem NGo.still (i : Int) (q : List (PT × Ls)) (w w' : World) : NGo i 0 q q w w' := ⟨rfl, fun _ _ _ _ => rfl, fun _ _ _ _ => ⟨rfl, rfl⟩, fun q => absurd rfl q⟩
theorem naOwn {L : Ls} {k : Nat} (h : oB L.na = some k) : Own L k := Or.inr (Or.inr (Or.inr (Or.inr (Or.inl h))))
set_option maxRecDepth 100000 in
set_option maxHeartbeats 8000000 in
theorem t_wpick {base p nb cb cap tcap : Nat} {pn : Int} {X : List Value} {w : World} {c : Cfg} (hc : cfgB c = true) {jobs : List (Int × List InsD)} {k : Int} (hk : 0 ≤ k ∧ k < 2 ^ 30) {g : Gs} {q : List (PT × Ls)} {Ds : List Int} (W : WR base p nb cb cap tcap pn X w q Ds) (M : SimW c jobs k g q Ds)
  (hpn0 : 0 ≤ pn ∧ pn < 2 ^ 40) (pk : PickD) (ja : Option Addr) (jc : Nat) (hjr : JobsRep w base ja jobs) (hcl : ∀ j ∈ jobs, j.2.length ≤ 20) :
  Calls Tryz.prog 105 #[.pointer (some ⟨cb, 0, none⟩), .slice ja jobs.length jc, .agg #[.int .i64 pk.thread, .int .i64 pk.draw]] w (OneIs base p nb cb cap tcap (pn + 1) X c jobs k g (pn + 1) pk q w) := by
 obtain ⟨th, dr⟩ := pk
 have hcbl := W.wst.lt
 have hne0 : cb ≠ w.heap.size := by omega
 have hne1 : cb ≠ w.heap.size + 1 := by omega
 have hoc : Only cb w (w.setCell ⟨cb, 2, none⟩ (.int .i64 (pn + 1))) := (Only.refl _ _).set
 have hsz : (w.setCell ⟨cb, 2, none⟩ (.int .i64 (pn + 1))).heap.size = w.heap.size := by simp [World.setCell]
 have hB : Below (w.setCell ⟨cb, 2, none⟩ (.int .i64 (pn + 1))).heap.size (w.setCell ⟨cb, 2, none⟩ (.int .i64 (pn + 1))) (((w.setCell ⟨cb, 2, none⟩ (.int .i64 (pn + 1))).alloc (.cells #[.int .i64 th, .int .i64 dr] 76)).alloc (.cells #[.int .i64 0, .int .i64 0, .int .i64 0, .int .i64 0] 158)) := ((Below.refl _ _).alloc (Nat.le_refl _) _).alloc (by simp) _
 have W0 := W.counted (pn + 1)
 have W1 := W0.below hB
 have hx0 : Blk (((w.setCell ⟨cb, 2, none⟩ (.int .i64 (pn + 1))).alloc (.cells #[.int .i64 th, .int .i64 dr] 76)).alloc (.cells #[.int .i64 0, .int .i64 0, .int .i64 0, .int .i64 0] 158)) w.heap.size 76 #[.int .i64 th, .int .i64 dr] := by
  have := (Blk.new (w.setCell ⟨cb, 2, none⟩ (.int .i64 (pn + 1))) 76 #[.int .i64 th, .int .i64 dr]).alloc (.cells #[.int .i64 0, .int .i64 0, .int .i64 0, .int .i64 0] 158)
  rw [hsz] at this
  exact this
 have hx1 : Blk (((w.setCell ⟨cb, 2, none⟩ (.int .i64 (pn + 1))).alloc (.cells #[.int .i64 th, .int .i64 dr] 76)).alloc (.cells #[.int .i64 0, .int .i64 0, .int .i64 0, .int .i64 0] 158)) (w.heap.size + 1) 158 #[.int .i64 0, .int .i64 0, .int .i64 0, .int .i64 0] := by
  have := Blk.new ((w.setCell ⟨cb, 2, none⟩ (.int .i64 (pn + 1))).alloc (.cells #[.int .i64 th, .int .i64 dr] 76)) 158 #[.int .i64 0, .int .i64 0, .int .i64 0, .int .i64 0]
  have e : ((w.setCell ⟨cb, 2, none⟩ (.int .i64 (pn + 1))).alloc (.cells #[.int .i64 th, .int .i64 dr] 76)).heap.size = w.heap.size + 1 := by simp [World.setCell]
  rw [e] at this
  exact this
 have hBb : Below base w (((w.setCell ⟨cb, 2, none⟩ (.int .i64 (pn + 1))).alloc (.cells #[.int .i64 th, .int .i64 dr] 76)).alloc (.cells #[.int .i64 0, .int .i64 0, .int .i64 0, .int .i64 0] 158)) := by
  have h1 : Below base w (w.setCell ⟨cb, 2, none⟩ (.int .i64 (pn + 1))) := below_onto (Below.refl _ _) hoc W.cbb W.bs
  exact h1.trans (hB.mono (by rw [hsz]; exact W.bs))
 have hjr1 := hjr.up hBb
 have hlen := M.len
 have hct := (cfgB_true hc).1
 have HW1 : Hid (WR base p nb cb cap tcap (pn + 1) X (((w.setCell ⟨cb, 2, none⟩ (.int .i64 (pn + 1))).alloc (.cells #[.int .i64 th, .int .i64 dr] 76)).alloc (.cells #[.int .i64 0, .int .i64 0, .int .i64 0, .int .i64 0] 158)) q Ds) := W1
 have HX0 : Hid (Blk (((w.setCell ⟨cb, 2, none⟩ (.int .i64 (pn + 1))).alloc (.cells #[.int .i64 th, .int .i64 dr] 76)).alloc (.cells #[.int .i64 0, .int .i64 0, .int .i64 0, .int .i64 0] 158)) w.heap.size 76 #[.int .i64 th, .int .i64 dr]) := hx0
 have HX1 : Hid (Blk (((w.setCell ⟨cb, 2, none⟩ (.int .i64 (pn + 1))).alloc (.cells #[.int .i64 th, .int .i64 dr] 76)).alloc (.cells #[.int .i64 0, .int .i64 0, .int .i64 0, .int .i64 0] 158)) (w.heap.size + 1) 158 #[.int .i64 0, .int .i64 0, .int .i64 0, .int .i64 0]) := hx1
 have HGw : Hid (GoesW p nb cb q w q (((w.setCell ⟨cb, 2, none⟩ (.int .i64 (pn + 1))).alloc (.cells #[.int .i64 th, .int .i64 dr] 76)).alloc (.cells #[.int .i64 0, .int .i64 0, .int .i64 0, .int .i64 0] 158))) := (GoesW.counted hoc).trans (GoesW.below hB)
 have HJ : Hid (JobsRep (((w.setCell ⟨cb, 2, none⟩ (.int .i64 (pn + 1))).alloc (.cells #[.int .i64 th, .int .i64 dr] 76)).alloc (.cells #[.int .i64 0, .int .i64 0, .int .i64 0, .int .i64 0] 158)) base ja jobs) := hjr1
 have HM : Hid (SimW c jobs k g q Ds) := M
 have HC : Hid (cfgB c = true ∧ (0 ≤ k ∧ k < 2 ^ 30) ∧ (∀ j ∈ jobs, j.2.length ≤ 20) ∧ base ≤ w.heap.size) := ⟨hc, hk, hcl, W.bs⟩
 have HNa : Hid (∀ j (hj : j < q.length), ∀ k', oB q[j].2.na = some k' → k' < w.heap.size ∧ (((w.setCell ⟨cb, 2, none⟩ (.int .i64 (pn + 1))).alloc (.cells #[.int .i64 th, .int .i64 dr] 76)).alloc (.cells #[.int .i64 0, .int .i64 0, .int .i64 0, .int .i64 0] 158)).heap[k']? = w.heap[k']?) := fun j hj k' hk' => by
  have ho := (W.rows j hj).own k' (naOwn hk')
  have hkc : k' ≠ cb := fun e => by subst e; exact Own_tag (W.rows j hj) W.wst (by decide) (by decide) (by decide) (by decide) (by decide) (naOwn hk')
  exact ⟨ho.2, (hB.block k' (by rw [hsz]; exact ho.2)).trans (hoc.block k' ho.2 hkc)⟩
 have hwp : IntKind.i64.wrap (pn + 1) = pn + 1 := wrapP _ (by omega) (by omega)
 have hq1 : (q.length : Int) ≤ 4 := by omega
 have hw1 : IntKind.i64.wrap ((q.length : Int) - 1) = (q.length : Int) - 1 := wrapP _ (by omega) (by omega)
 have k0 : w.cell? ⟨cb, 0, none⟩ = some (.slice (some ⟨nb, 0, none⟩) Ds.length cap) := by rw [W.wst.cell]; rfl
 have k1 : w.cell? ⟨cb, 1, none⟩ = some (.slice (some ⟨p, 0, none⟩) q.length tcap) := by rw [W.wst.cell]; rfl
 have k2 : w.cell? ⟨cb, 2, none⟩ = some (.int .i64 pn) := by rw [W.wst.cell]; rfl
 have kf : w.frozen? ⟨cb, 2, none⟩ = false := W.wst.frozen 2
 have hcb1 : cb < w.heap.size + 1 := by omega
 by_cases hin : 0 ≤ th ∧ th < c.t
 ·obtain ⟨i, hi⟩ := Int.eq_ofNat_of_zero_le hin.1
  have hiq : i < q.length := by omega
  have hib : inB th 0 ((q.length : Int) - 1) = true := by unfold inB; simp; omega
  have HI : Hid (i < q.length ∧ th = (i : Int)) := ⟨hiq, hi⟩
  have i0 : (0 : Int) ≤ th := hin.1
  have i1 : th < (q.length : Int) := by omega
  clear W M hc hk hjr hcl hB W0 W1 hoc hx0 hx1 hBb hjr1 hct hlen hsz hin hiq hi
  go_enter Tryz.func105, Tryz.ntmps105
  go_wp2_with fail
  obtain ⟨n0, hn0⟩ : ∃ n0, n0 = w.heap.size := ⟨_, rfl⟩
  have HN0 : Hid (n0 = w.heap.size ∧ cb < n0) := ⟨hn0, by omega⟩
  rw [← hn0] at HX0 HX1 HNa ⊢
  clear k0 k1 k2 kf hne0 hne1 hcb1 hcbl hn0
  generalize ((w.setCell ⟨cb, 2, none⟩ (.int .i64 (pn + 1))).alloc (.cells #[.int .i64 th, .int .i64 dr] 76)).alloc (.cells #[.int .i64 0, .int .i64 0, .int .i64 0, .int .i64 0] 158) = w1 at *
  have m0 : w1.cell? ⟨cb, 0, none⟩ = some (.slice (some ⟨nb, 0, none⟩) Ds.length cap) := by rw [(HW1.out).wst.cell]; rfl
  have m1 : w1.cell? ⟨cb, 1, none⟩ = some (.slice (some ⟨p, 0, none⟩) q.length tcap) := by rw [(HW1.out).wst.cell]; rfl
  have m2 := (HX0.out).cell
  go_cut [22, 23] (fun t22 t23 wx => t22 = .bool true ∧ t23 = .bool false ∧ Hid (∃ m, wx = w1.drewN m))
  case first =>
   go_region_with (go_at_call 110; refine (within_any _ _ _ _).mono ?_; rintro e w' ⟨rfl, rfl⟩; rw [hib])
   all_goals
    go_wp2
    go_meet
    case rel => exact ⟨rfl, rfl, ⟨1, rfl⟩⟩
  case rest =>
   obtain ⟨rfl, rfl, ⟨m, hm⟩⟩ := hcut
   have W2 : WR base p nb cb cap tcap (pn + 1) X wc q Ds := by rw [hm]; exact (HW1.out).below (below_drewX w1 m)
   have HW2 : Hid (WR base p nb cb cap tcap (pn + 1) X wc q Ds) := W2
   have HX02 : Hid (Blk wc n0 76 #[.int .i64 th, .int .i64 dr]) := by show Blk wc n0 76 _; rw [hm]; exact HX0.out
   have HX12 : Hid (Blk wc (n0 + 1) 158 #[.int .i64 0, .int .i64 0, .int .i64 0, .int .i64 0]) := by show Blk wc (n0 + 1) 158 _; rw [hm]; exact HX1.out
   have HG2 : Hid (GoesW p nb cb q w q wc) := by show GoesW _ _ _ _ w _ wc; rw [hm]; exact (HGw.out).trans (GoesW.below (below_drewX w1 m))
   have HNa2 : Hid (∀ j (hj : j < q.length), ∀ k', oB q[j].2.na = some k' → k' < n0 ∧ wc.heap[k']? = w.heap[k']?) := by show ∀ j (hj : j < q.length), ∀ k', oB q[j].2.na = some k' → k' < n0 ∧ wc.heap[k']? = w.heap[k']?; rw [hm]; exact HNa.out
   have HJ2 : Hid (JobsRep wc base ja jobs) := by show JobsRep wc base ja jobs; rw [hm]; exact (HJ.out).up ⟨rfl, rfl, rfl, Nat.le_refl _, fun _ _ => rfl⟩
   clear HW1 HX0 HX1 HGw HNa HJ m0 m1 m2 hm W2
   have HOne : Hid (∀ wy, (wy = wc.drew) → Calls Tryz.prog 122 #[.pointer (some ⟨p, i * 47, none⟩), .slice ja jobs.length jc, .pointer (some ⟨cb, 0, none⟩), .int .i64 (pn + 1), .int .i64 dr] wy (OneIs base p nb cb cap tcap (pn + 1) X c jobs k g (pn + 1) ⟨(i : Int), dr⟩ q wy)) := fun wy e => by
    subst e
    obtain ⟨hc, hk, hcl, hbs⟩ := HC.out
    exact t_one hc hk ((HW2.out).below (below_drew wc)) HM.out i (HI.out).1 (pn + 1) dr ja jc ((HJ2.out).up ⟨rfl, rfl, rfl, Nat.le_refl _, fun _ _ => rfl⟩) hcl
   have m0 : wc.cell? ⟨cb, 0, none⟩ = some (.slice (some ⟨nb, 0, none⟩) Ds.length cap) := by rw [(HW2.out).wst.cell]; rfl
   have m1 : wc.cell? ⟨cb, 1, none⟩ = some (.slice (some ⟨p, 0, none⟩) q.length tcap) := by rw [(HW2.out).wst.cell]; rfl
   have m2 := (HX02.out).cell
   have hnL : ¬ OwnW q (n0 + 1) := fun o => by
    obtain ⟨j, hj, o'⟩ := o
    exact Own_tag ((HW2.out).rows j hj) HX12.out (by decide) (by decide) (by decide) (by decide) (by decide) o'
   have hnp : n0 + 1 ≠ p := Blk.ne HX12.out (HW2.out).thr (by decide)
   have hnn : n0 + 1 ≠ nb := Blk.ne HX12.out (HW2.out).num (by decide)
   have hnc : n0 + 1 ≠ cb := Blk.ne HX12.out (HW2.out).wst (by decide)
   have m2p : wc.cell? ⟨cb, 2, none⟩ = some (.int .i64 (pn + 1)) := by rw [(HW2.out).wst.cell]; rfl
   have hthi := (HI.out).2
   subst hthi
   go_wp2_with fail
   go_region_with (go_at_call 122; refine (HOne.out _ rfl).mono ?_; rintro e w5 ⟨rfl, q', Ds', W5, M5, G5, Z5⟩; have HW5 : Hid (WR base p nb cb cap tcap (pn + 1) X w5 q' Ds' ∧ SimW c jobs (k + 1) (gStep c jobs g (pn + 1) ⟨(i : Int), dr⟩).1 q' Ds') := ⟨W5, M5⟩; have HG5 : Hid (GoesW p nb cb q w q' w5) := ((HG2.out).trans (GoesW.below (below_drew wc))).trans G5; have HZ5 : Hid (NGo (i : Int) (gStep c jobs g (pn + 1) ⟨(i : Int), dr⟩).2.kind q q' w w5) := Z5.pre (fun j hj k' hk' => ((HNa2.out) j hj k' hk').2); have hb5 : Blk w5 (n0 + 1) 158 #[.int .i64 0, .int .i64 0, .int .i64 0, .int .i64 0] := (G5.block (n0 + 1) (by exact (HX12.out).lt) hnp hnn hnc hnL).trans (by exact HX12.out); have b5c := hb5.cell; have b5f := hb5.frozen; have HB5 : Hid (Blk w5 (n0 + 1) 158 #[.int .i64 0, .int .i64 0, .int .i64 0, .int .i64 0]) := hb5; clear W5 M5 G5 Z5 hb5)
   all_goals
    go_wp2
    obtain ⟨r0, r1, r2, r3, hob⟩ := box4 (a' := .int .i64 (gStep c jobs g (pn + 1) ⟨(i : Int), dr⟩).2.kind) (b' := .int .i64 (gStep c jobs g (pn + 1) ⟨(i : Int), dr⟩).2.cell) (c' := .int .i64 (gStep c jobs g (pn + 1) ⟨(i : Int), dr⟩).2.seen) (d' := .int .i64 (gStep c jobs g (pn + 1) ⟨(i : Int), dr⟩).2.put) HB5.out rfl
    refine bodyPost_ret (v := .agg #[.int .i64 (gStep c jobs g (pn + 1) ⟨(i : Int), dr⟩).2.kind, .int .i64 (gStep c jobs g (pn + 1) ⟨(i : Int), dr⟩).2.cell, .int .i64 (gStep c jobs g (pn + 1) ⟨(i : Int), dr⟩).2.seen, .int .i64 (gStep c jobs g (pn + 1) ⟨(i : Int), dr⟩).2.put]) ?_ rfl ⟨rfl, q', Ds', (HW5.out).1.apart HB5.out hob (by decide) (by decide) (by decide) (by decide) (by decide) (by decide) (by decide), (HW5.out).2, GoesW.fresh HG5.out hob (by have := (HN0.out).1; omega), (HZ5.out).post (fun j hj k' hk' => hob.block k' (by have := ((HNa2.out) j hj k' hk').1; have := (HB5.out).lt; omega) (by have := ((HNa2.out) j hj k' hk').1; omega))⟩
    simp [results, Tryz.results105, go_sem, r0, r1, r2, r3]
 ·have hib : inB th 0 ((q.length : Int) - 1) = false := by unfold inB; simp; omega
  have HOut : Hid (¬ (0 ≤ th ∧ th < c.t)) := hin
  clear W M hc hk hjr hcl hB W0 W1 hoc hx0 hx1 hBb hjr1 hct hlen hsz hin
  go_enter Tryz.func105, Tryz.ntmps105
  go_wp2_with fail
  obtain ⟨n0, hn0⟩ : ∃ n0, n0 = w.heap.size := ⟨_, rfl⟩
  have HN0 : Hid (n0 = w.heap.size ∧ cb < n0) := ⟨hn0, by omega⟩
  rw [← hn0] at HX0 HX1 HNa ⊢
  clear k0 k1 k2 kf hne0 hne1 hcb1 hcbl hn0
  generalize ((w.setCell ⟨cb, 2, none⟩ (.int .i64 (pn + 1))).alloc (.cells #[.int .i64 th, .int .i64 dr] 76)).alloc (.cells #[.int .i64 0, .int .i64 0, .int .i64 0, .int .i64 0] 158) = w1 at *
  have m0 : w1.cell? ⟨cb, 0, none⟩ = some (.slice (some ⟨nb, 0, none⟩) Ds.length cap) := by rw [(HW1.out).wst.cell]; rfl
  have m1 : w1.cell? ⟨cb, 1, none⟩ = some (.slice (some ⟨p, 0, none⟩) q.length tcap) := by rw [(HW1.out).wst.cell]; rfl
  have m2 := (HX0.out).cell
  go_cut [22, 23] (fun t22 t23 wx => t22 = .bool false ∧ t23 = .bool true ∧ Hid (∃ m, wx = w1.drewN m))
  case first =>
   go_region_with (go_at_call 110; refine (within_any _ _ _ _).mono ?_; rintro e w' ⟨rfl, rfl⟩; rw [hib])
   all_goals
    go_wp2
    go_meet
    case rel => exact ⟨rfl, rfl, ⟨1, rfl⟩⟩
  case rest =>
   obtain ⟨rfl, rfl, ⟨m, hm⟩⟩ := hcut
   have W2 : WR base p nb cb cap tcap (pn + 1) X wc q Ds := by rw [hm]; exact (HW1.out).below (below_drewX w1 m)
   have HW2 : Hid (WR base p nb cb cap tcap (pn + 1) X wc q Ds) := W2
   have HX02 : Hid (Blk wc n0 76 #[.int .i64 th, .int .i64 dr]) := by show Blk wc n0 76 _; rw [hm]; exact HX0.out
   have HX12 : Hid (Blk wc (n0 + 1) 158 #[.int .i64 0, .int .i64 0, .int .i64 0, .int .i64 0]) := by show Blk wc (n0 + 1) 158 _; rw [hm]; exact HX1.out
   have HG2 : Hid (GoesW p nb cb q w q wc) := by show GoesW _ _ _ _ w _ wc; rw [hm]; exact (HGw.out).trans (GoesW.below (below_drewX w1 m))
   have HNa2 : Hid (∀ j (hj : j < q.length), ∀ k', oB q[j].2.na = some k' → k' < n0 ∧ wc.heap[k']? = w.heap[k']?) := by show ∀ j (hj : j < q.length), ∀ k', oB q[j].2.na = some k' → k' < n0 ∧ wc.heap[k']? = w.heap[k']?; rw [hm]; exact HNa.out
   have HJ2 : Hid (JobsRep wc base ja jobs) := by show JobsRep wc base ja jobs; rw [hm]; exact (HJ.out).up ⟨rfl, rfl, rfl, Nat.le_refl _, fun _ _ => rfl⟩
   clear HW1 HX0 HX1 HGw HNa HJ m0 m1 m2 hm W2
   have hbc := (HX12.out).cell
   have hbf := (HX12.out).frozen
   go_wp2
   obtain ⟨r0, r1, r2, r3, hob⟩ := box4 (a' := .int .i64 0) (b' := .int .i64 0) (c' := .int .i64 0) (d' := .int .i64 0) HX12.out rfl
   obtain ⟨hc, hk, hcl, hbs⟩ := HC.out
   refine bodyPost_ret (v := .agg #[.int .i64 0, .int .i64 0, .int .i64 0, .int .i64 0]) ?_ rfl ⟨by rw [gstep_out (pk := ⟨th, dr⟩) HOut.out]; rfl, q, Ds, (HW2.out).apart HX12.out hob (by decide) (by decide) (by decide) (by decide) (by decide) (by decide) (by decide), (HM.out).still hc hk.1 (pn + 1) ⟨th, dr⟩ HOut.out, GoesW.fresh HG2.out hob (by have := (HN0.out).1; omega), by rw [gstep_out (pk := ⟨th, dr⟩) HOut.out]; exact NGo.still _ _ _ _⟩
   simp [results, Tryz.results105, go_sem, r0, r1, r2, r3]
end Go.Proofs.YtejadojilncbjabGreat
