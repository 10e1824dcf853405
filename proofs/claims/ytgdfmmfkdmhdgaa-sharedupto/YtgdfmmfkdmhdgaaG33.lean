import Derived.Test.YtgdfmmfkdmhdgaaG32
namespace Go.Proofs.Ytgdfmmfkdmhdgaa
open Go.RowKit
set_option linter.unusedVariables false
attribute [local go_sem ↓] Go.wp_at_zero Go.wp_at_succ

theorem gstep_out {c : Cfg} {jobs : List (Int × List InsD)} {g : Gs} {n : Int} {pk : PickD} (h : ¬ (0 ≤ pk.thread ∧ pk.thread < c.t)) : gStep c jobs g n pk = (g, noAcc) := by unfold gStep; rw [if_neg h]

theorem SimW.still {c : Cfg} (hc : cfgB c = true) {jobs : List (Int × List InsD)} {k : Int} (hk : 0 ≤ k) {g : Gs} {q : List (PT × Ls)} {Ds : List Int} (M : SimW c jobs k g q Ds) (n : Int) (pk : PickD) (h : ¬ (0 ≤ pk.thread ∧ pk.thread < c.t)) : SimW c jobs (k + 1) (gStep c jobs g n pk).1 q Ds := by
  have hg := gstep_ok hc hk M.gok n pk
  rw [gstep_out h] at hg ⊢
  exact ⟨M.len, M.dl, M.dv, M.sim, fun i hi => (M.own i hi).mono (by omega), hg⟩

theorem WR.apart {base p nb cb cap tcap rb : Nat} {X : List Value} {w w' : World} {q : List (PT × Ls)} {Ds : List Int} {T : TypeId} {cs : Array Value} (W : WR base p nb cb cap tcap X w q Ds) (h : Blk w rb T cs) (o : Only rb w w') (h1 : (157 : Nat) ≠ T) (h2 : (161 : Nat) ≠ T) (h3 : (3 : Nat) ≠ T) (h4 : (120 : Nat) ≠ T) (h5 : (99 : Nat) ≠ T) : WR base p nb cb cap tcap X w' q Ds := by
  have hrp : p ≠ rb := Blk.ne W.thr h h4
  have hrn : nb ≠ rb := Blk.ne W.num h h3
  have hrc : cb ≠ rb := Blk.ne W.wst h h5
  exact ⟨W.thr.only o hrp, fun i hi => (W.rows i hi).kept (fun k ok => o.block k ((W.rows i hi).own k ok).2 (fun e => by subst e; exact Own_tag (W.rows i hi) h h1 h2 h3 ok)), W.dis, W.num.only o hrn, W.nown, W.wst.only o hrc, W.pb, W.nbb, W.cbb, Nat.le_trans W.bs o.size⟩

set_option maxRecDepth 100000 in
set_option maxHeartbeats 8000000 in
theorem t_wpick {base p nb cb cap tcap : Nat} {X : List Value} {w : World} {c : Cfg} (hc : cfgB c = true) {jobs : List (Int × List InsD)} {k : Int} (hk : 0 ≤ k ∧ k < 2 ^ 30) {g : Gs} {q : List (PT × Ls)} {Ds : List Int} (W : WR base p nb cb cap tcap X w q Ds) (M : SimW c jobs k g q Ds)
    (n : Int) (pk : PickD) (ja : Option Addr) (jc : Nat) (hjr : JobsRep w base ja jobs) (hcl : ∀ j ∈ jobs, j.2.length ≤ 20) :
    Calls Try.prog 51 #[.pointer (some ⟨cb, 0, none⟩), .slice ja jobs.length jc, .agg #[.int .i64 pk.thread, .int .i64 pk.draw]] w (OneIs base p nb cb cap tcap X c jobs k g n pk q w) := by
  obtain ⟨th, dr⟩ := pk
  have hB : Below w.heap.size w ((w.alloc (.cells #[.int .i64 th, .int .i64 dr] 57)).alloc (.cells #[.int .i64 0, .int .i64 0, .int .i64 0, .int .i64 0] 51)) := ((Below.refl _ _).alloc (Nat.le_refl _) _).alloc (by simp) _
  have W1 := W.below hB
  have hx0 : Blk ((w.alloc (.cells #[.int .i64 th, .int .i64 dr] 57)).alloc (.cells #[.int .i64 0, .int .i64 0, .int .i64 0, .int .i64 0] 51)) w.heap.size 57 #[.int .i64 th, .int .i64 dr] := (Blk.new w 57 _).alloc _
  have hx1 : Blk ((w.alloc (.cells #[.int .i64 th, .int .i64 dr] 57)).alloc (.cells #[.int .i64 0, .int .i64 0, .int .i64 0, .int .i64 0] 51)) (w.heap.size + 1) 51 #[.int .i64 0, .int .i64 0, .int .i64 0, .int .i64 0] := by
    have := Blk.new (w.alloc (.cells #[.int .i64 th, .int .i64 dr] 57)) 51 #[.int .i64 0, .int .i64 0, .int .i64 0, .int .i64 0]
    simpa using this
  have hjr1 := hjr.up (hB.mono W.bs)
  have hcbl := W.wst.lt
  have hlen := M.len
  have hct := (cfgB_true hc).1
  have HW1 : Hid (WR base p nb cb cap tcap X ((w.alloc (.cells #[.int .i64 th, .int .i64 dr] 57)).alloc (.cells #[.int .i64 0, .int .i64 0, .int .i64 0, .int .i64 0] 51)) q Ds) := W1
  have HX0 : Hid (Blk ((w.alloc (.cells #[.int .i64 th, .int .i64 dr] 57)).alloc (.cells #[.int .i64 0, .int .i64 0, .int .i64 0, .int .i64 0] 51)) w.heap.size 57 #[.int .i64 th, .int .i64 dr]) := hx0
  have HX1 : Hid (Blk ((w.alloc (.cells #[.int .i64 th, .int .i64 dr] 57)).alloc (.cells #[.int .i64 0, .int .i64 0, .int .i64 0, .int .i64 0] 51)) (w.heap.size + 1) 51 #[.int .i64 0, .int .i64 0, .int .i64 0, .int .i64 0]) := hx1
  have HB : Hid (Below w.heap.size w ((w.alloc (.cells #[.int .i64 th, .int .i64 dr] 57)).alloc (.cells #[.int .i64 0, .int .i64 0, .int .i64 0, .int .i64 0] 51))) := hB
  have HJ : Hid (JobsRep ((w.alloc (.cells #[.int .i64 th, .int .i64 dr] 57)).alloc (.cells #[.int .i64 0, .int .i64 0, .int .i64 0, .int .i64 0] 51)) base ja jobs) := hjr1
  have HM : Hid (SimW c jobs k g q Ds) := M
  have HC : Hid (cfgB c = true ∧ (0 ≤ k ∧ k < 2 ^ 30) ∧ (∀ j ∈ jobs, j.2.length ≤ 20) ∧ base ≤ w.heap.size) := ⟨hc, hk, hcl, W.bs⟩
  have hq1 : (q.length : Int) ≤ 4 := by omega
  have hw1 : IntKind.i64.wrap ((q.length : Int) - 1) = (q.length : Int) - 1 := wrapP _ (by omega) (by omega)
  have k0 : w.cell? ⟨cb, 0, none⟩ = some (.slice (some ⟨nb, 0, none⟩) Ds.length cap) := by rw [W.wst.cell]; rfl
  have k1 : w.cell? ⟨cb, 1, none⟩ = some (.slice (some ⟨p, 0, none⟩) q.length tcap) := by rw [W.wst.cell]; rfl
  have hne0 : cb ≠ w.heap.size := by omega
  have hne1 : cb ≠ w.heap.size + 1 := by omega
  have hcb1 : cb < w.heap.size + 1 := by omega
  by_cases hin : 0 ≤ th ∧ th < c.t
  · obtain ⟨i, hi⟩ := Int.eq_ofNat_of_zero_le hin.1
    have hiq : i < q.length := by omega
    have hib : inB th 0 ((q.length : Int) - 1) = true := by unfold inB; simp; omega
    have HI : Hid (i < q.length ∧ th = (i : Int)) := ⟨hiq, hi⟩
    have i0 : (0 : Int) ≤ th := hin.1
    have i1 : th < (q.length : Int) := by omega
    clear W M hc hk hjr hcl hB W1 hx0 hx1 hjr1 hct hlen hin hiq hi
    go_enter Try.func51, Try.ntmps51
    go_wp2_with fail
    obtain ⟨n0, hn0⟩ : ∃ n0, n0 = w.heap.size := ⟨_, rfl⟩
    have HN0 : Hid (n0 = w.heap.size ∧ cb < n0) := ⟨hn0, by omega⟩
    rw [← hn0] at HX0 HX1 ⊢
    clear k0 k1 hne0 hne1 hcb1 hcbl hn0
    generalize (w.alloc (.cells #[.int .i64 th, .int .i64 dr] 57)).alloc (.cells #[.int .i64 0, .int .i64 0, .int .i64 0, .int .i64 0] 51) = w1 at *
    have m0 : w1.cell? ⟨cb, 0, none⟩ = some (.slice (some ⟨nb, 0, none⟩) Ds.length cap) := by rw [(HW1.out).wst.cell]; rfl
    have m1 : w1.cell? ⟨cb, 1, none⟩ = some (.slice (some ⟨p, 0, none⟩) q.length tcap) := by rw [(HW1.out).wst.cell]; rfl
    have m2 := (HX0.out).cell
    go_cut [15, 16] (fun t15 t16 wx => t15 = .bool true ∧ t16 = .bool false ∧ Hid (∃ m, wx = w1.drewN m))
    case first =>
      go_region_with (go_at_call 55; refine (within_any _ _ _ _).mono ?_; rintro e w' ⟨rfl, rfl⟩; rw [hib])
      all_goals
        go_wp2
        go_meet
        case rel => exact ⟨rfl, rfl, ⟨1, rfl⟩⟩
    case rest =>
      obtain ⟨rfl, rfl, ⟨m, hm⟩⟩ := hcut
      have W2 : WR base p nb cb cap tcap X wc q Ds := by rw [hm]; exact (HW1.out).below (below_drewN w1 m)
      have HW2 : Hid (WR base p nb cb cap tcap X wc q Ds) := W2
      have HX02 : Hid (Blk wc n0 57 #[.int .i64 th, .int .i64 dr]) := by show Blk wc n0 57 _; rw [hm]; exact HX0.out
      have HX12 : Hid (Blk wc (n0 + 1) 51 #[.int .i64 0, .int .i64 0, .int .i64 0, .int .i64 0]) := by show Blk wc (n0 + 1) 51 _; rw [hm]; exact HX1.out
      have HB2 : Hid (Below w.heap.size w wc) := by show Below _ w wc; rw [hm]; exact (HB.out).trans ⟨rfl, rfl, rfl, Nat.le_refl _, fun _ _ => rfl⟩
      have HJ2 : Hid (JobsRep wc base ja jobs) := by show JobsRep wc base ja jobs; rw [hm]; exact (HJ.out).up ⟨rfl, rfl, rfl, Nat.le_refl _, fun _ _ => rfl⟩
      clear HW1 HX0 HX1 HB HJ m0 m1 m2 hm W2
      have HOne : Hid (∀ wy, (wy = wc.drew) → Calls Try.prog 63 #[.pointer (some ⟨p, i * 39, none⟩), .slice ja jobs.length jc, .pointer (some ⟨cb, 0, none⟩), .int .i64 dr] wy (OneIs base p nb cb cap tcap X c jobs k g n ⟨(i : Int), dr⟩ q wy)) := fun wy e => by
        subst e
        obtain ⟨hc, hk, hcl, hbs⟩ := HC.out
        exact t_one hc hk ((HW2.out).below (below_drew wc)) HM.out i (HI.out).1 n dr ja jc ((HJ2.out).up ⟨rfl, rfl, rfl, Nat.le_refl _, fun _ _ => rfl⟩) hcl
      have m0 : wc.cell? ⟨cb, 0, none⟩ = some (.slice (some ⟨nb, 0, none⟩) Ds.length cap) := by rw [(HW2.out).wst.cell]; rfl
      have m1 : wc.cell? ⟨cb, 1, none⟩ = some (.slice (some ⟨p, 0, none⟩) q.length tcap) := by rw [(HW2.out).wst.cell]; rfl
      have m2 := (HX02.out).cell
      have hnL : ¬ OwnW q (n0 + 1) := fun o => by
        obtain ⟨j, hj, o'⟩ := o
        exact Own_tag ((HW2.out).rows j hj) HX12.out (by decide) (by decide) (by decide) o'
      have hnp : n0 + 1 ≠ p := Blk.ne HX12.out (HW2.out).thr (by decide)
      have hnn : n0 + 1 ≠ nb := Blk.ne HX12.out (HW2.out).num (by decide)
      have hthi := (HI.out).2
      subst hthi
      go_wp2_with fail
      go_region_with (go_at_call 63; refine (HOne.out _ rfl).mono ?_; rintro e w5 ⟨rfl, q', Ds', W5, M5, G5⟩; have HW5 : Hid (WR base p nb cb cap tcap X w5 q' Ds' ∧ SimW c jobs (k + 1) (gStep c jobs g n ⟨(i : Int), dr⟩).1 q' Ds') := ⟨W5, M5⟩; have HG5 : Hid (GoesW p nb q w q' w5) := ((GoesW.below HB2.out).trans (GoesW.below (below_drew wc))).trans G5; have hb5 : Blk w5 (n0 + 1) 51 #[.int .i64 0, .int .i64 0, .int .i64 0, .int .i64 0] := (G5.block (n0 + 1) (by exact (HX12.out).lt) hnp hnn hnL).trans (by exact HX12.out); have b5c := hb5.cell; have b5f := hb5.frozen; have HB5 : Hid (Blk w5 (n0 + 1) 51 #[.int .i64 0, .int .i64 0, .int .i64 0, .int .i64 0]) := hb5; clear W5 M5 G5 hb5)
      all_goals
        go_wp2
        obtain ⟨r0, r1, r2, r3, hob⟩ := box4 (a' := .int .i64 (gStep c jobs g n ⟨(i : Int), dr⟩).2.kind) (b' := .int .i64 (gStep c jobs g n ⟨(i : Int), dr⟩).2.cell) (c' := .int .i64 (gStep c jobs g n ⟨(i : Int), dr⟩).2.seen) (d' := .int .i64 (gStep c jobs g n ⟨(i : Int), dr⟩).2.put) HB5.out rfl
        refine bodyPost_ret (v := .agg #[.int .i64 (gStep c jobs g n ⟨(i : Int), dr⟩).2.kind, .int .i64 (gStep c jobs g n ⟨(i : Int), dr⟩).2.cell, .int .i64 (gStep c jobs g n ⟨(i : Int), dr⟩).2.seen, .int .i64 (gStep c jobs g n ⟨(i : Int), dr⟩).2.put]) ?_ rfl ⟨rfl, q', Ds', (HW5.out).1.apart HB5.out hob (by decide) (by decide) (by decide) (by decide) (by decide), (HW5.out).2, GoesW.fresh HG5.out hob (by have := (HN0.out).1; omega)⟩
        simp [results, Try.results51, go_sem, r0, r1, r2, r3]
  · have hib : inB th 0 ((q.length : Int) - 1) = false := by unfold inB; simp; omega
    have HOut : Hid (¬ (0 ≤ th ∧ th < c.t)) := hin
    clear W M hc hk hjr hcl hB W1 hx0 hx1 hjr1 hct hlen hin
    go_enter Try.func51, Try.ntmps51
    go_wp2_with fail
    obtain ⟨n0, hn0⟩ : ∃ n0, n0 = w.heap.size := ⟨_, rfl⟩
    have HN0 : Hid (n0 = w.heap.size ∧ cb < n0) := ⟨hn0, by omega⟩
    rw [← hn0] at HX0 HX1 ⊢
    clear k0 k1 hne0 hne1 hcb1 hcbl hn0
    generalize (w.alloc (.cells #[.int .i64 th, .int .i64 dr] 57)).alloc (.cells #[.int .i64 0, .int .i64 0, .int .i64 0, .int .i64 0] 51) = w1 at *
    have m0 : w1.cell? ⟨cb, 0, none⟩ = some (.slice (some ⟨nb, 0, none⟩) Ds.length cap) := by rw [(HW1.out).wst.cell]; rfl
    have m1 : w1.cell? ⟨cb, 1, none⟩ = some (.slice (some ⟨p, 0, none⟩) q.length tcap) := by rw [(HW1.out).wst.cell]; rfl
    have m2 := (HX0.out).cell
    go_cut [15, 16] (fun t15 t16 wx => t15 = .bool false ∧ t16 = .bool true ∧ Hid (∃ m, wx = w1.drewN m))
    case first =>
      go_region_with (go_at_call 55; refine (within_any _ _ _ _).mono ?_; rintro e w' ⟨rfl, rfl⟩; rw [hib])
      all_goals
        go_wp2
        go_meet
        case rel => exact ⟨rfl, rfl, ⟨1, rfl⟩⟩
    case rest =>
      obtain ⟨rfl, rfl, ⟨m, hm⟩⟩ := hcut
      have W2 : WR base p nb cb cap tcap X wc q Ds := by rw [hm]; exact (HW1.out).below (below_drewN w1 m)
      have HW2 : Hid (WR base p nb cb cap tcap X wc q Ds) := W2
      have HX02 : Hid (Blk wc n0 57 #[.int .i64 th, .int .i64 dr]) := by show Blk wc n0 57 _; rw [hm]; exact HX0.out
      have HX12 : Hid (Blk wc (n0 + 1) 51 #[.int .i64 0, .int .i64 0, .int .i64 0, .int .i64 0]) := by show Blk wc (n0 + 1) 51 _; rw [hm]; exact HX1.out
      have HB2 : Hid (Below w.heap.size w wc) := by show Below _ w wc; rw [hm]; exact (HB.out).trans ⟨rfl, rfl, rfl, Nat.le_refl _, fun _ _ => rfl⟩
      have HJ2 : Hid (JobsRep wc base ja jobs) := by show JobsRep wc base ja jobs; rw [hm]; exact (HJ.out).up ⟨rfl, rfl, rfl, Nat.le_refl _, fun _ _ => rfl⟩
      clear HW1 HX0 HX1 HB HJ m0 m1 m2 hm W2
      have hbc := (HX12.out).cell
      have hbf := (HX12.out).frozen
      go_wp2
      obtain ⟨r0, r1, r2, r3, hob⟩ := box4 (a' := .int .i64 0) (b' := .int .i64 0) (c' := .int .i64 0) (d' := .int .i64 0) HX12.out rfl
      obtain ⟨hc, hk, hcl, hbs⟩ := HC.out
      refine bodyPost_ret (v := .agg #[.int .i64 0, .int .i64 0, .int .i64 0, .int .i64 0]) ?_ rfl ⟨by rw [gstep_out (pk := ⟨th, dr⟩) HOut.out]; rfl, q, Ds, (HW2.out).apart HX12.out hob (by decide) (by decide) (by decide) (by decide) (by decide), (HM.out).still hc hk.1 n ⟨th, dr⟩ HOut.out, GoesW.fresh (GoesW.below HB2.out) hob (by have := (HN0.out).1; omega)⟩
      simp [results, Try.results51, go_sem, r0, r1, r2, r3]

end Go.Proofs.Ytgdfmmfkdmhdgaa
