import Derived.Test.YtgdfmmfkdmhdgaaGreatH44
import Derived.Deep.Cut
import Derived.Test.YtgdfmmfkdmhdgaaGreatH41
import Derived.Test.YtgdfmmfkdmhdgaaGreatH03
namespace Go.Proofs.YtgdfmmfkdmhdgaaGreat
open Go.RowKit
set_option linter.unusedVariables false
attribute [local go_sem ↓] Go.wp_at_zero Go.wp_at_succ

theorem gstep_out {c : Cfg} {jobs : List (Int × List InsD)} {g : Gs} {n : Int} {pk : PickD} (h : ¬ (0 ≤ pk.thread ∧ pk.thread < c.t)) : gStep c jobs g n pk = (g, noAcc) := by unfold gStep; rw [if_neg h]

theorem SimW.still {c : Cfg} (hc : cfgB c = true) {jobs : List (Int × List InsD)} {k : Int} (hk : 0 ≤ k) {g : Gs} {q : List (PT × Ls)} {Ds : List Int} (M : SimW c jobs k g q Ds) (n : Int) (pk : PickD) (h : ¬ (0 ≤ pk.thread ∧ pk.thread < c.t)) : SimW c jobs (k + 1) (gStep c jobs g n pk).1 q Ds := by
  have hg := gstep_ok hc hk M.gok n pk
  rw [gstep_out h] at hg ⊢
  exact ⟨M.len, M.dl, M.dv, M.sim, fun i hi => (M.own i hi).mono (by omega), hg⟩

theorem WR.apart {base p nb cb cap tcap rb : Nat} {X : List Value} {w w' : World} {q : List (PT × Ls)} {Ds : List Int} {T : TypeId} {cs : Array Value} (W : WR base p nb cb cap tcap X w q Ds) (h : Blk w rb T cs) (o : Only rb w w') (h1 : (122 : Nat) ≠ T) (h2 : (135 : Nat) ≠ T) (h3 : (3 : Nat) ≠ T) (h4 : (89 : Nat) ≠ T) (h5 : (57 : Nat) ≠ T) : WR base p nb cb cap tcap X w' q Ds := by
  have hrp : p ≠ rb := Blk.ne W.thr h h4
  have hrn : nb ≠ rb := Blk.ne W.num h h3
  have hrc : cb ≠ rb := Blk.ne W.wst h h5
  exact ⟨W.thr.only o hrp, fun i hi => (W.rows i hi).kept (fun k ok => o.block k ((W.rows i hi).own k ok).2 (fun e => by subst e; exact Own_tag (W.rows i hi) h h1 h2 h3 ok)), W.dis, W.num.only o hrn, W.nown, W.wst.only o hrc, W.pb, W.nbb, W.cbb, Nat.le_trans W.bs o.size⟩

set_option maxRecDepth 100000 in
set_option maxHeartbeats 8000000 in
theorem t_wpick {base p nb cb cap tcap : Nat} {X : List Value} {w : World} {c : Cfg} (hc : cfgB c = true) {jobs : List (Int × List InsD)} {k : Int} (hk : 0 ≤ k ∧ k < 2 ^ 30) {g : Gs} {q : List (PT × Ls)} {Ds : List Int} (W : WR base p nb cb cap tcap X w q Ds) (M : SimW c jobs k g q Ds)
    (n : Int) (pk : PickD) (ja : Option Addr) (jc : Nat) (hjr : JobsRep w base ja jobs) (hcl : ∀ j ∈ jobs, j.2.length ≤ 20) :
    Calls Tryz.prog 27 #[.pointer (some ⟨cb, 0, none⟩), .slice ja jobs.length jc, .agg #[.int .i64 pk.thread, .int .i64 pk.draw]] w (OneIs base p nb cb cap tcap X c jobs k g n pk q w) := by
  obtain ⟨th, dr⟩ := pk
  have hB : Below w.heap.size w ((w.alloc (.cells #[.int .i64 th, .int .i64 dr] 60)).alloc (.cells #[.int .i64 0, .int .i64 0, .int .i64 0, .int .i64 0] 46)) := ((Below.refl _ _).alloc (Nat.le_refl _) _).alloc (by simp) _
  have W1 := W.below hB
  have hx0 : Blk ((w.alloc (.cells #[.int .i64 th, .int .i64 dr] 60)).alloc (.cells #[.int .i64 0, .int .i64 0, .int .i64 0, .int .i64 0] 46)) w.heap.size 60 #[.int .i64 th, .int .i64 dr] := (Blk.new w 60 _).alloc _
  have hx1 : Blk ((w.alloc (.cells #[.int .i64 th, .int .i64 dr] 60)).alloc (.cells #[.int .i64 0, .int .i64 0, .int .i64 0, .int .i64 0] 46)) (w.heap.size + 1) 46 #[.int .i64 0, .int .i64 0, .int .i64 0, .int .i64 0] := by
    have := Blk.new (w.alloc (.cells #[.int .i64 th, .int .i64 dr] 60)) 46 #[.int .i64 0, .int .i64 0, .int .i64 0, .int .i64 0]
    simpa using this
  have hjr1 := hjr.up (hB.mono W.bs)
  have hcbl := W.wst.lt
  have hlen := M.len
  have hct := (cfgB_true hc).1
  have HW1 : Hid (WR base p nb cb cap tcap X ((w.alloc (.cells #[.int .i64 th, .int .i64 dr] 60)).alloc (.cells #[.int .i64 0, .int .i64 0, .int .i64 0, .int .i64 0] 46)) q Ds) := W1
  have HX0 : Hid (Blk ((w.alloc (.cells #[.int .i64 th, .int .i64 dr] 60)).alloc (.cells #[.int .i64 0, .int .i64 0, .int .i64 0, .int .i64 0] 46)) w.heap.size 60 #[.int .i64 th, .int .i64 dr]) := hx0
  have HX1 : Hid (Blk ((w.alloc (.cells #[.int .i64 th, .int .i64 dr] 60)).alloc (.cells #[.int .i64 0, .int .i64 0, .int .i64 0, .int .i64 0] 46)) (w.heap.size + 1) 46 #[.int .i64 0, .int .i64 0, .int .i64 0, .int .i64 0]) := hx1
  have HB : Hid (Below w.heap.size w ((w.alloc (.cells #[.int .i64 th, .int .i64 dr] 60)).alloc (.cells #[.int .i64 0, .int .i64 0, .int .i64 0, .int .i64 0] 46))) := hB
  have HJ : Hid (JobsRep ((w.alloc (.cells #[.int .i64 th, .int .i64 dr] 60)).alloc (.cells #[.int .i64 0, .int .i64 0, .int .i64 0, .int .i64 0] 46)) base ja jobs) := hjr1
  have HM : Hid (SimW c jobs k g q Ds) := M
  have HC : Hid (cfgB c = true ∧ (0 ≤ k ∧ k < 2 ^ 30) ∧ (∀ j ∈ jobs, j.2.length ≤ 20) ∧ base ≤ w.heap.size) := ⟨hc, hk, hcl, W.bs⟩
  have hq1 : (q.length : Int) ≤ 4 := by omega
  have hw1 : IntKind.i64.wrap ((q.length : Int) - 1) = (q.length : Int) - 1 := wrapP _ (by omega) (by omega)
  have k0 : w.cell? ⟨cb, 0, none⟩ = some (.slice (some ⟨nb, 0, none⟩) Ds.length cap) := by rw [W.wst.cell]; rfl
  have k1 : w.cell? ⟨cb, 1, none⟩ = some (.slice (some ⟨p, 0, none⟩) q.length tcap) := by rw [W.wst.cell]; rfl
  have hne0 : cb ≠ w.heap.size := by omega
  have hne1 : cb ≠ w.heap.size + 1 := by omega
  have hcb1 : cb < w.heap.size + 1 := by omega
  by_cases hin : 0 ≤ th ∧ th < c.t
  · obtain ⟨i, hi⟩ := Int.eq_ofNat_of_zero_le hin.1
    have hiq : i < q.length := by omega
    have hib : inB th 0 ((q.length : Int) - 1) = true := by unfold inB; simp; omega
    have HI : Hid (i < q.length ∧ th = (i : Int)) := ⟨hiq, hi⟩
    have i0 : (0 : Int) ≤ th := hin.1
    have i1 : th < (q.length : Int) := by omega
    clear W M hc hk hjr hcl hB W1 hx0 hx1 hjr1 hct hlen hin hiq hi
    go_enter Tryz.func27, Tryz.ntmps27
    go_wp2_with fail
    obtain ⟨n0, hn0⟩ : ∃ n0, n0 = w.heap.size := ⟨_, rfl⟩
    have HN0 : Hid (n0 = w.heap.size ∧ cb < n0) := ⟨hn0, by omega⟩
    rw [← hn0] at HX0 HX1 ⊢
    clear k0 k1 hne0 hne1 hcb1 hcbl hn0
    generalize (w.alloc (.cells #[.int .i64 th, .int .i64 dr] 60)).alloc (.cells #[.int .i64 0, .int .i64 0, .int .i64 0, .int .i64 0] 46) = w1 at *
    have m0 : w1.cell? ⟨cb, 0, none⟩ = some (.slice (some ⟨nb, 0, none⟩) Ds.length cap) := by rw [(HW1.out).wst.cell]; rfl
    have m1 : w1.cell? ⟨cb, 1, none⟩ = some (.slice (some ⟨p, 0, none⟩) q.length tcap) := by rw [(HW1.out).wst.cell]; rfl
    have m2 := (HX0.out).cell
    go_cut [15, 16] (fun t15 t16 wx => t15 = .bool true ∧ t16 = .bool false ∧ Hid (∃ m, wx = w1.drewN m))
    case first =>
      go_region_with (go_at_call 36; refine (within_any _ _ _ _).mono ?_; rintro e w' ⟨rfl, rfl⟩; rw [hib])
      all_goals
        go_wp2
        go_meet
        case rel => exact ⟨rfl, rfl, ⟨1, rfl⟩⟩
    case rest =>
      obtain ⟨rfl, rfl, ⟨m, hm⟩⟩ := hcut
      have W2 : WR base p nb cb cap tcap X wc q Ds := by rw [hm]; exact (HW1.out).below (below_drewX w1 m)
      have HW2 : Hid (WR base p nb cb cap tcap X wc q Ds) := W2
      have HX02 : Hid (Blk wc n0 60 #[.int .i64 th, .int .i64 dr]) := by show Blk wc n0 60 _; rw [hm]; exact HX0.out
      have HX12 : Hid (Blk wc (n0 + 1) 46 #[.int .i64 0, .int .i64 0, .int .i64 0, .int .i64 0]) := by show Blk wc (n0 + 1) 46 _; rw [hm]; exact HX1.out
      have HB2 : Hid (Below w.heap.size w wc) := by show Below _ w wc; rw [hm]; exact (HB.out).trans ⟨rfl, rfl, rfl, Nat.le_refl _, fun _ _ => rfl⟩
      have HJ2 : Hid (JobsRep wc base ja jobs) := by show JobsRep wc base ja jobs; rw [hm]; exact (HJ.out).up ⟨rfl, rfl, rfl, Nat.le_refl _, fun _ _ => rfl⟩
      clear HW1 HX0 HX1 HB HJ m0 m1 m2 hm W2
      have HOne : Hid (∀ wy, (wy = wc.drew) → Calls Tryz.prog 39 #[.pointer (some ⟨p, i * 39, none⟩), .slice ja jobs.length jc, .pointer (some ⟨cb, 0, none⟩), .int .i64 dr] wy (OneIs base p nb cb cap tcap X c jobs k g n ⟨(i : Int), dr⟩ q wy)) := fun wy e => by
        subst e
        obtain ⟨hc, hk, hcl, hbs⟩ := HC.out
        exact t_one hc hk ((HW2.out).below (below_drew wc)) HM.out i (HI.out).1 n dr ja jc ((HJ2.out).up ⟨rfl, rfl, rfl, Nat.le_refl _, fun _ _ => rfl⟩) hcl
      have m0 : wc.cell? ⟨cb, 0, none⟩ = some (.slice (some ⟨nb, 0, none⟩) Ds.length cap) := by rw [(HW2.out).wst.cell]; rfl
      have m1 : wc.cell? ⟨cb, 1, none⟩ = some (.slice (some ⟨p, 0, none⟩) q.length tcap) := by rw [(HW2.out).wst.cell]; rfl
      have m2 := (HX02.out).cell
      have hnL : ¬ OwnW q (n0 + 1) := fun o => by
        obtain ⟨j, hj, o'⟩ := o
        exact Own_tag ((HW2.out).rows j hj) HX12.out (by decide) (by decide) (by decide) o'
      have hnp : n0 + 1 ≠ p := Blk.ne HX12.out (HW2.out).thr (by decide)
      have hnn : n0 + 1 ≠ nb := Blk.ne HX12.out (HW2.out).num (by decide)
      have hthi := (HI.out).2
      subst hthi
      go_wp2_with fail
      go_region_with (go_at_call 39; refine (HOne.out _ rfl).mono ?_; rintro e w5 ⟨rfl, q', Ds', W5, M5, G5⟩; have HW5 : Hid (WR base p nb cb cap tcap X w5 q' Ds' ∧ SimW c jobs (k + 1) (gStep c jobs g n ⟨(i : Int), dr⟩).1 q' Ds') := ⟨W5, M5⟩; have HG5 : Hid (GoesW p nb q w q' w5) := ((GoesW.below HB2.out).trans (GoesW.below (below_drew wc))).trans G5; have hb5 : Blk w5 (n0 + 1) 46 #[.int .i64 0, .int .i64 0, .int .i64 0, .int .i64 0] := (G5.block (n0 + 1) (by exact (HX12.out).lt) hnp hnn hnL).trans (by exact HX12.out); have b5c := hb5.cell; have b5f := hb5.frozen; have HB5 : Hid (Blk w5 (n0 + 1) 46 #[.int .i64 0, .int .i64 0, .int .i64 0, .int .i64 0]) := hb5; clear W5 M5 G5 hb5)
      all_goals
        go_wp2
        obtain ⟨r0, r1, r2, r3, hob⟩ := box4 (a' := .int .i64 (gStep c jobs g n ⟨(i : Int), dr⟩).2.kind) (b' := .int .i64 (gStep c jobs g n ⟨(i : Int), dr⟩).2.cell) (c' := .int .i64 (gStep c jobs g n ⟨(i : Int), dr⟩).2.seen) (d' := .int .i64 (gStep c jobs g n ⟨(i : Int), dr⟩).2.put) HB5.out rfl
        refine bodyPost_ret (v := .agg #[.int .i64 (gStep c jobs g n ⟨(i : Int), dr⟩).2.kind, .int .i64 (gStep c jobs g n ⟨(i : Int), dr⟩).2.cell, .int .i64 (gStep c jobs g n ⟨(i : Int), dr⟩).2.seen, .int .i64 (gStep c jobs g n ⟨(i : Int), dr⟩).2.put]) ?_ rfl ⟨rfl, q', Ds', (HW5.out).1.apart HB5.out hob (by decide) (by decide) (by decide) (by decide) (by decide), (HW5.out).2, GoesW.fresh HG5.out hob (by have := (HN0.out).1; omega)⟩
        simp [results, Tryz.results27, go_sem, r0, r1, r2, r3]
  · have hib : inB th 0 ((q.length : Int) - 1) = false := by unfold inB; simp; omega
    have HOut : Hid (¬ (0 ≤ th ∧ th < c.t)) := hin
    clear W M hc hk hjr hcl hB W1 hx0 hx1 hjr1 hct hlen hin
    go_enter Tryz.func27, Tryz.ntmps27
    go_wp2_with fail
    obtain ⟨n0, hn0⟩ : ∃ n0, n0 = w.heap.size := ⟨_, rfl⟩
    have HN0 : Hid (n0 = w.heap.size ∧ cb < n0) := ⟨hn0, by omega⟩
    rw [← hn0] at HX0 HX1 ⊢
    clear k0 k1 hne0 hne1 hcb1 hcbl hn0
    generalize (w.alloc (.cells #[.int .i64 th, .int .i64 dr] 60)).alloc (.cells #[.int .i64 0, .int .i64 0, .int .i64 0, .int .i64 0] 46) = w1 at *
    have m0 : w1.cell? ⟨cb, 0, none⟩ = some (.slice (some ⟨nb, 0, none⟩) Ds.length cap) := by rw [(HW1.out).wst.cell]; rfl
    have m1 : w1.cell? ⟨cb, 1, none⟩ = some (.slice (some ⟨p, 0, none⟩) q.length tcap) := by rw [(HW1.out).wst.cell]; rfl
    have m2 := (HX0.out).cell
    go_cut [15, 16] (fun t15 t16 wx => t15 = .bool false ∧ t16 = .bool true ∧ Hid (∃ m, wx = w1.drewN m))
    case first =>
      go_region_with (go_at_call 36; refine (within_any _ _ _ _).mono ?_; rintro e w' ⟨rfl, rfl⟩; rw [hib])
      all_goals
        go_wp2
        go_meet
        case rel => exact ⟨rfl, rfl, ⟨1, rfl⟩⟩
    case rest =>
      obtain ⟨rfl, rfl, ⟨m, hm⟩⟩ := hcut
      have W2 : WR base p nb cb cap tcap X wc q Ds := by rw [hm]; exact (HW1.out).below (below_drewX w1 m)
      have HW2 : Hid (WR base p nb cb cap tcap X wc q Ds) := W2
      have HX02 : Hid (Blk wc n0 60 #[.int .i64 th, .int .i64 dr]) := by show Blk wc n0 60 _; rw [hm]; exact HX0.out
      have HX12 : Hid (Blk wc (n0 + 1) 46 #[.int .i64 0, .int .i64 0, .int .i64 0, .int .i64 0]) := by show Blk wc (n0 + 1) 46 _; rw [hm]; exact HX1.out
      have HB2 : Hid (Below w.heap.size w wc) := by show Below _ w wc; rw [hm]; exact (HB.out).trans ⟨rfl, rfl, rfl, Nat.le_refl _, fun _ _ => rfl⟩
      have HJ2 : Hid (JobsRep wc base ja jobs) := by show JobsRep wc base ja jobs; rw [hm]; exact (HJ.out).up ⟨rfl, rfl, rfl, Nat.le_refl _, fun _ _ => rfl⟩
      clear HW1 HX0 HX1 HB HJ m0 m1 m2 hm W2
      have hbc := (HX12.out).cell
      have hbf := (HX12.out).frozen
      go_wp2
      obtain ⟨r0, r1, r2, r3, hob⟩ := box4 (a' := .int .i64 0) (b' := .int .i64 0) (c' := .int .i64 0) (d' := .int .i64 0) HX12.out rfl
      obtain ⟨hc, hk, hcl, hbs⟩ := HC.out
      refine bodyPost_ret (v := .agg #[.int .i64 0, .int .i64 0, .int .i64 0, .int .i64 0]) ?_ rfl ⟨by rw [gstep_out (pk := ⟨th, dr⟩) HOut.out]; rfl, q, Ds, (HW2.out).apart HX12.out hob (by decide) (by decide) (by decide) (by decide) (by decide), (HM.out).still hc hk.1 n ⟨th, dr⟩ HOut.out, GoesW.fresh (GoesW.below HB2.out) hob (by have := (HN0.out).1; omega)⟩
      simp [results, Tryz.results27, go_sem, r0, r1, r2, r3]

end Go.Proofs.YtgdfmmfkdmhdgaaGreat

namespace Go.Proofs.YtgdfmmfkdmhdgaaGreat
open Go.RowKit
set_option linter.unusedVariables false
attribute [local go_sem ↓] Go.wp_at_zero Go.wp_at_succ

/-! The program's thread at its beginning. -/

def t0 (c : Cfg) (i : Int) (mine : List Int) : PT := ⟨c, i, mine, 0, 0, 0, 0, 0, ⟨0, 0, 0, 0⟩, ⟨[0, 0, 0, 0], 0, 0, 0⟩, ⟨0, 0, 0, 0⟩, 0, [], [], [], 0, 0, 0, 0, 0, 0⟩
def L0 (ma : Option Addr) (mc : Nat) : Ls := ⟨ma, mc, none, 0, none, 0, none, 0⟩
def zc : Array Value := (tArr (t0 ⟨0, 0, 0, 0, 0, 0, 0⟩ 0 []) (L0 none 0)).toArray

theorem Tryz.size89 : (Tryz.prog.info? 89).map (·.size) = some 39 := by kernel_rfl

theorem mineF_snoc (me : Int) (b : Int × List InsD) : ∀ (l : List (Int × List InsD)) (j : Nat), mineF me j (l ++ [b]) = mineF me j l ++ (if b.1 = me then [((j + l.length : Nat) : Int)] else [])
  | [], j => by
    show (if b.1 = me then (j : Int) :: mineF me (j + 1) [] else mineF me (j + 1) []) = _
    split <;> simp [mineF]
  | a :: l, j => by
    rw [List.cons_append, mineF_cons, mineF_cons, mineF_snoc me b l (j + 1)]
    have e : j + 1 + l.length = j + (a :: l).length := by simp; omega
    rw [e]
    split <;> simp
theorem mineF_len (me : Int) : ∀ (l : List (Int × List InsD)) (j : Nat), (mineF me j l).length ≤ l.length
  | [], j => by simp [mineF]
  | a :: l, j => by
    rw [mineF_cons]
    have := mineF_len me l (j + 1)
    split <;> simp <;> omega

theorem below_onto {n rb : Nat} {w w' w'' : World} (h : Below n w w') (o : Only rb w' w'') (hr : n ≤ rb) (hn : n ≤ w'.heap.size) : Below n w w'' :=
  ⟨o.os.trans h.os, o.tape.trans h.tape, o.output.trans h.output, Nat.le_trans h.size o.size, fun k hk => (o.block k (by omega) (by omega)).trans (h.block k hk)⟩

theorem TAt.range {w : World} {p z : Nat} {A B : List Value} {t : PT} {L : Ls} (h : TAt w p z A B t L) : w.rangeAt p z (tArr t L) := fun j v hv => by
  have hj : j < (tArr t L).length := (List.getElem?_eq_some_iff.1 hv).1
  rw [Seg.cell h j hj]
  exact hv
theorem Blk.there {w : World} {b : Nat} {T : TypeId} {cs : Array Value} (h : Blk w b T cs) : w.there b 0 cs.size := fun j hj => by
  refine ⟨?_, h.frozen _⟩
  rw [h.cell]
  simp [hj]
theorem Blk.setCells {w : World} {b : Nat} {T : TypeId} {cs : Array Value} (h : Blk w b T cs) (V : List Value) (hV : V.length = cs.size) : Blk (w.setCells b 0 V) b T V.toArray := by
  have hs : Seg w b 0 T [] [] cs.toList := Blk.seg (z := 0) (A := []) (B := []) (L := []) (cs := cs.toList) (by simpa using h)
  have := Seg.setCells V w [] cs.toList [] 0 rfl (by simpa using hV) (by simpa using hs)
  exact Seg.blk (z := 0) (A := []) (B := []) (by simpa using this)

theorem results_cell {fn : Func} {p : Tmp} {ty : TypeId} (h : fn.results = #[.cell p ty]) (tmps : Array Value) (P : Program) (w : World) :
    (results fn tmps).run P w = ((asAddr (tmps.getD p undef)).run P w).andThen fun a w₁ => (loadVar ty a).run P w₁ := by
  simp only [results, h]
  simp [Sem.run_bind, Result.andThen]

set_option maxRecDepth 100000 in
set_option maxHeartbeats 8000000 in
theorem new_any (c : Cfg) (i : Int) (jobs : List (Int × List InsD)) (ja : Option Addr) (jc : Nat) (w : World) (hj : JobsRep w w.heap.size ja jobs) (hjl : jobs.length ≤ 8) :
    Calls Tryz.prog 38 #[.agg #[.int .i64 c.t, .int .i64 c.wd, .int .i64 c.s, .int .i64 c.g, .int .i64 c.r, .int .i64 c.cp, .int .i64 c.f], .int .i64 i, .slice ja jobs.length jc] w fun e w' =>
      ∃ ma mc, e = .returned (.agg (tArr (yBegin (t0 c i (mineF i 0 jobs))) (L0 ma mc)).toArray) ∧ w'.ownsRow w.heap.size 3 1 (.slice ma (mineF i 0 jobs).length mc) (mineF i 0 jobs).length (intCells (mineF i 0 jobs)) ∧ Below w.heap.size w w' := by
  obtain ⟨V, hV⟩ : ∃ V : Array Value, V = (tArr (t0 c i []) (L0 none 0)).toArray := ⟨_, rfl⟩
  have HV : Hid (V = (tArr (t0 c i []) (L0 none 0)).toArray) := hV
  have hVs : V.size = 39 := by rw [hV]; rfl
  have hV1 : V.all (·.oneCell') = true := by rw [hV]; simp [tArr, t0, L0, Value.oneCell']
  have HJ : Hid (JobsRep w w.heap.size ja jobs) := hj
  have hB3 : Below w.heap.size w (((w.alloc (.cells #[.int .i64 c.t, .int .i64 c.wd, .int .i64 c.s, .int .i64 c.g, .int .i64 c.r, .int .i64 c.cp, .int .i64 c.f] 23)).alloc (.cells zc 89)).alloc (.cells zc 89)) := (((Below.refl _ _).alloc (Nat.le_refl _) _).alloc (by simp) _).alloc (by simp; omega) _
  have hs3 : (((w.alloc (.cells #[.int .i64 c.t, .int .i64 c.wd, .int .i64 c.s, .int .i64 c.g, .int .i64 c.r, .int .i64 c.cp, .int .i64 c.f] 23)).alloc (.cells zc 89)).alloc (.cells zc 89)).heap.size = w.heap.size + 3 := by simp
  have hb2 : Blk (((w.alloc (.cells #[.int .i64 c.t, .int .i64 c.wd, .int .i64 c.s, .int .i64 c.g, .int .i64 c.r, .int .i64 c.cp, .int .i64 c.f] 23)).alloc (.cells zc 89)).alloc (.cells zc 89)) (w.heap.size + 2) 89 zc := by
    have := Blk.new ((w.alloc (.cells #[.int .i64 c.t, .int .i64 c.wd, .int .i64 c.s, .int .i64 c.g, .int .i64 c.r, .int .i64 c.cp, .int .i64 c.f] 23)).alloc (.cells zc 89)) 89 zc
    simpa using this
  have hb1 : Blk (((w.alloc (.cells #[.int .i64 c.t, .int .i64 c.wd, .int .i64 c.s, .int .i64 c.g, .int .i64 c.r, .int .i64 c.cp, .int .i64 c.f] 23)).alloc (.cells zc 89)).alloc (.cells zc 89)) (w.heap.size + 1) 89 zc := by
    have := (Blk.new (w.alloc (.cells #[.int .i64 c.t, .int .i64 c.wd, .int .i64 c.s, .int .i64 c.g, .int .i64 c.r, .int .i64 c.cp, .int .i64 c.f] 23)) 89 zc).alloc (.cells zc 89)
    simpa using this
  have HT : Hid ((((w.alloc (.cells #[.int .i64 c.t, .int .i64 c.wd, .int .i64 c.s, .int .i64 c.g, .int .i64 c.r, .int .i64 c.cp, .int .i64 c.f] 23)).alloc (.cells zc 89)).alloc (.cells zc 89)).there (w.heap.size + 2) 0 V.size) := by
    show World.there _ _ _ _
    rw [hVs]; exact hb2.there
  have ho : Only (w.heap.size + 2) (((w.alloc (.cells #[.int .i64 c.t, .int .i64 c.wd, .int .i64 c.s, .int .i64 c.g, .int .i64 c.r, .int .i64 c.cp, .int .i64 c.f] 23)).alloc (.cells zc 89)).alloc (.cells zc 89)) ((((w.alloc (.cells #[.int .i64 c.t, .int .i64 c.wd, .int .i64 c.s, .int .i64 c.g, .int .i64 c.r, .int .i64 c.cp, .int .i64 c.f] 23)).alloc (.cells zc 89)).alloc (.cells zc 89)).setCells (w.heap.size + 2) 0 V.toList) := Only.setCells _ _ _
  have HTA : Hid (TAt ((((w.alloc (.cells #[.int .i64 c.t, .int .i64 c.wd, .int .i64 c.s, .int .i64 c.g, .int .i64 c.r, .int .i64 c.cp, .int .i64 c.f] 23)).alloc (.cells zc 89)).alloc (.cells zc 89)).setCells (w.heap.size + 2) 0 V.toList) (w.heap.size + 2) 0 [] [] (t0 c i []) (L0 none 0)) := by
    have h1 := hb2.setCells V.toList (by rw [Array.length_toList, hVs]; rfl)
    have h2 : Seg _ (w.heap.size + 2) 0 89 [] [] V.toList := Blk.seg (z := 0) (A := []) (B := []) (L := []) h1
    rw [hV] at h2 ⊢
    exact h2
  have HRB : Hid (Blk ((((w.alloc (.cells #[.int .i64 c.t, .int .i64 c.wd, .int .i64 c.s, .int .i64 c.g, .int .i64 c.r, .int .i64 c.cp, .int .i64 c.f] 23)).alloc (.cells zc 89)).alloc (.cells zc 89)).setCells (w.heap.size + 2) 0 V.toList) (w.heap.size + 1) 89 zc) := hb1.only ho (by omega)
  have HBl : Hid (Below w.heap.size w ((((w.alloc (.cells #[.int .i64 c.t, .int .i64 c.wd, .int .i64 c.s, .int .i64 c.g, .int .i64 c.r, .int .i64 c.cp, .int .i64 c.f] 23)).alloc (.cells zc 89)).alloc (.cells zc 89)).setCells (w.heap.size + 2) 0 V.toList)) := below_onto hB3 ho (by omega) (by omega)
  clear hj hB3 hs3 hb2 hb1 ho
  obtain ⟨tb, htb⟩ : ∃ tb, tb = w.heap.size + 2 := ⟨_, rfl⟩
  obtain ⟨rb, hrb⟩ : ∃ rb, rb = w.heap.size + 1 := ⟨_, rfl⟩
  go_enter Tryz.func38, Tryz.ntmps38
  go_wp2_with
    (refine wpList_store_mid (by rfl) 89 _ _ (by rfl) (w.heap.size + 2) 0 V (by rfl) (by rw [HV.out]; rfl) (by exact HT.out) (by rw [hVs]; exact Tryz.size89) hV1 ?_;
     show wpList _ _ _ _ _ ((((w.alloc (.cells #[.int .i64 c.t, .int .i64 c.wd, .int .i64 c.s, .int .i64 c.g, .int .i64 c.r, .int .i64 c.cp, .int .i64 c.f] 23)).alloc (.cells zc 89)).alloc (.cells zc 89)).setCells (w.heap.size + 2) 0 V.toList);
     clear HT;
     generalize (((w.alloc (.cells #[.int .i64 c.t, .int .i64 c.wd, .int .i64 c.s, .int .i64 c.g, .int .i64 c.r, .int .i64 c.cp, .int .i64 c.f] 23)).alloc (.cells zc 89)).alloc (.cells zc 89)).setCells (w.heap.size + 2) 0 V.toList = w9 at *)
  rw [show w.heap.size + 1 + 1 = tb from htb.symm, ← hrb]
  rw [← htb] at HTA
  rw [← hrb] at HRB
  have hjl1 : jobs.length ≤ 8 := hjl
  obtain ⟨iz, hiz, hz0, hz1, hz2⟩ := info_parts Tryz.info3
  have HTb : Hid (tb = w.heap.size + 2 ∧ rb = w.heap.size + 1) := ⟨htb, hrb⟩
  clear htb hrb hVs hV1 HV hV
  go_loopg [15] (jobs.length + 1) (fun m t15 wr => ∃ (k : Nat) (ma : Option Addr) (mc : Nat), t15 = .int .i64 (k : Int) ∧ k ≤ jobs.length ∧ m = jobs.length + 1 - k ∧ Hid (Below w.heap.size w wr) ∧ Hid (TAt wr tb 0 [] [] (t0 c i (mineF i 0 (jobs.take k))) (L0 ma mc)) ∧
    Hid (wr.ownsRow w.heap.size 3 1 (.slice ma (mineF i 0 (jobs.take k)).length mc) (mineF i 0 (jobs.take k)).length (intCells (mineF i 0 (jobs.take k)))) ∧ Hid (Blk wr rb 89 zc))
  case atStart => exact ⟨0, none, 0, rfl, by omega, by omega, HBl, HTA, World.ownsRow_nil _ _ _ _, HRB⟩
  case round =>
    obtain ⟨k, ma, mc, rfl, hk, hgk, HB, HTk, HMk, HRk⟩ := hrel
    clear HBl HTA HRB
    have hml : (mineF i 0 (jobs.take k)).length ≤ 8 := by
      have h1 := mineF_len i (jobs.take k) 0
      have h2 : (jobs.take k).length ≤ jobs.length := by simp; omega
      omega
    have hk0 : (0 : Int) ≤ (k : Int) := by omega
    by_cases hlt : k < jobs.length
    · obtain ⟨js, q1, q2, q3⟩ := (HJ.out).up HB.out
      obtain ⟨b, off, hja, hbl, hc0, hc1⟩ := q2 k (by omega)
      have hth := (q3 k (by omega)).1
      rw [hth] at hc0
      subst hja
      have hk1 : (k : Int) < (jobs.length : Int) := by omega
      have hwk : IntKind.i64.wrap ((k : Int) + 1) = (k : Int) + 1 := wrapP _ (by omega) (by omega)
      have hsn : mineF i 0 (jobs.take (k + 1)) = mineF i 0 (jobs.take k) ++ (if (jobs.getD k (0, [])).1 = i then [(k : Int)] else []) := by
        have e : jobs.take (k + 1) = jobs.take k ++ [jobs.getD k (0, [])] := by
          rw [List.take_add_one, List.getElem?_eq_getElem hlt]
          simp [List.getD, List.getElem?_eq_getElem hlt]
        rw [e, mineF_snoc]
        simp [Nat.min_eq_left (Nat.le_of_lt hlt)]
      have HSn : Hid (mineF i 0 (jobs.take (k + 1)) = mineF i 0 (jobs.take k) ++ (if (jobs.getD k (0, [])).1 = i then [(k : Int)] else [])) := hsn
      obtain ⟨th, hthv⟩ : ∃ th, th = (jobs.getD k (0, [])).1 := ⟨_, rfl⟩
      rw [← hthv] at hc0 HSn
      have hbw : b < wr.heap.size := by have := (HB.out).size; omega
      clear q1 q2 q3 hth hsn hthv
      generalize hmk : mineF i 0 (jobs.take k) = mk at *
      have hBa : Below w.heap.size w (wr.alloc (.cells #[.int .i64 th, .slice (jobAt js k).a (jobAt js k).len (jobAt js k).cap] 33)) := (HB.out).trans ((Below.refl _ _).alloc (HB.out).size _)
      have hBw : Below wr.heap.size wr (wr.alloc (.cells #[.int .i64 th, .slice (jobAt js k).a (jobAt js k).len (jobAt js k).cap] 33)) := (Below.refl _ _).alloc (Nat.le_refl _) _
      cases hin : (th == i) with
      | false =>
        have HM2 : Hid (mineF i 0 (jobs.take (k + 1)) = mk) := by
          show _ = mk
          rw [HSn.out, if_neg (by simpa using hin)]
          simp
        go_wp2
        go_roundg (gk - 1)
        case rel =>
          refine ⟨k + 1, ma, mc, by simp, by omega, by omega, hBa, ?_, ?_, ?_⟩
          · show TAt _ tb 0 [] [] (t0 c i (mineF i 0 (jobs.take (k + 1)))) (L0 ma mc)
            rw [HM2.out]; exact (HTk.out).below hBw
          · show World.ownsRow _ _ _ _ _ _ _
            rw [HM2.out]; exact (HMk.out).alloc _
          · exact (HRk.out).below hBw (HRk.out).lt
        case measure => omega
      | true =>
        have HM2 : Hid (mineF i 0 (jobs.take (k + 1)) = mk ++ [(k : Int)]) := by
          show _ = mk ++ _
          rw [HSn.out, if_pos (by simpa using hin)]
        have HTq : Hid (TAt (wr.alloc (.cells #[.int .i64 th, .slice (jobAt js k).a (jobAt js k).len (jobAt js k).cap] 33)) tb 0 [] [] (t0 c i mk) (L0 ma mc)) := (HTk.out).below hBw
        have HMq : Hid ((wr.alloc (.cells #[.int .i64 th, .slice (jobAt js k).a (jobAt js k).len (jobAt js k).cap] 33)).ownsRow w.heap.size 3 1 (.slice ma mk.length mc) mk.length (intCells mk)) := (HMk.out).alloc _
        have HRq : Hid (Blk (wr.alloc (.cells #[.int .i64 th, .slice (jobAt js k).a (jobAt js k).len (jobAt js k).cap] 33)) rb 89 zc) := (HRk.out).below hBw (HRk.out).lt
        have HBq : Hid (Below w.heap.size w (wr.alloc (.cells #[.int .i64 th, .slice (jobAt js k).a (jobAt js k).len (jobAt js k).cap] 33))) := hBa
        have hsq : w.heap.size ≤ (wr.alloc (.cells #[.int .i64 th, .slice (jobAt js k).a (jobAt js k).len (jobAt js k).cap] 33)).heap.size := hBa.size
        clear HTk HMk HRk HB hBa hBw
        go_upto_region 6 with fail
        generalize wr.alloc (.cells #[.int .i64 th, .slice (jobAt js k).a (jobAt js k).len (jobAt js k).cap] 33) = wq at *
        have k8 : wq.cell? ⟨tb, 8, none⟩ = some (.slice ma mk.length mc) := (HTq.out).cMine
        have kf8 : wq.frozen? ⟨tb, 8, none⟩ = false := (HTq.out).froz _
        have hxlt : tb < wq.heap.size := (HTq.out).lt
        have hpne : (Value.slice ma mk.length mc).ownBlock ≠ some tb := fun q => own_tag HMq.out (HTq.out).2 (by decide) tb q rfl
        clear hc0 hc1
        go_wp2_with
          (at_builtin;
           refine wpList_append_lies _ (by rfl) _ _ _ (by rfl) w.heap.size 3 iz _ 1 8 Tryz.underlying24 hiz hz0 hz1 hz2 rfl (by omega) (.slice ma mk.length mc) mk.length (intCells mk) (by rfl) ((HMq.out).alloc _)
             ⟨wq.heap.size, 0, none⟩ 1 1 [.int .i64 (k : Int)] (by rfl) (by rfl) (World.news_of_block (cs := #[.int .i64 (k : Int)]) (t := 3) (fr := (0, 0)) (heap_alloc_new wq _)) (by simp [Value.oneCell'])
             (by omega) (by unfold maxLen; omega) (by omega) (by simp; omega) (wq.heap.size + 1) (by simp) ?_;
           intro gg cap w7 hown1 hgrow hat hlt7;
           have hd8 : w7.cell? ⟨tb, 8, none⟩ = some (.slice ma mk.length mc) := (by rw [hgrow.cell_far _ (by simp; omega) (Ne.symm hpne)]; simpa [World.cell?_alloc_lt, hxlt] using k8);
           have he8 : w7.frozen? ⟨tb, 8, none⟩ = false := (by rw [hgrow.frozen_far _ (by simp; omega) (Ne.symm hpne)]; simpa [World.frozen?_alloc_past, hxlt] using kf8))
        have hB0 : Below wq.heap.size wq (wq.alloc (.cells #[.int .i64 (k : Int)] 3)) := (Below.refl _ _).alloc (Nat.le_refl _) _
        have hT0 : TAt (wq.alloc (.cells #[.int .i64 (k : Int)] 3)) tb 0 [] [] (t0 c i mk) (L0 ma mc) := (HTq.out).below hB0
        have hM0 : (wq.alloc (.cells #[.int .i64 (k : Int)] 3)).ownsRow w.heap.size 3 1 (.slice ma mk.length mc) mk.length (intCells mk) := (HMq.out).alloc _
        have hT7 : TAt w7 tb 0 [] [] (t0 c i mk) (L0 ma mc) := tat_grown hT0 hM0 (by decide) hgrow
        have hT8 : TAt (w7.setCell ⟨tb, 8, none⟩ (.slice (some ⟨gg, 0, none⟩) (mk.length + 1) cap)) tb 0 [] [] (t0 c i (mk ++ [(k : Int)])) (L0 (some ⟨gg, 0, none⟩) cap) := hT7.set 8 (by decide) _ (by simp [tArr, t0, L0])
        have ho8 : Only tb w7 (w7.setCell ⟨tb, 8, none⟩ (.slice (some ⟨gg, 0, none⟩) (mk.length + 1) cap)) := (Only.refl _ _).set
        have hM8 : World.ownsRow (w7.setCell ⟨tb, 8, none⟩ (.slice (some ⟨gg, 0, none⟩) (mk.length + 1) cap)) w.heap.size 3 1 (.slice (some ⟨gg, 0, none⟩) (mk ++ [(k : Int)]).length cap) (mk ++ [(k : Int)]).length (intCells (mk ++ [(k : Int)])) := by
          have := ownsRow_only hown1 ho8 (own_tag hown1 hT7.2 (by decide))
          simpa [intCells] using this
        have hrow : ∀ q, (Value.slice ma mk.length mc).ownBlock = some q → w.heap.size ≤ q := fun q hq => (hM0.lt q hq).1
        have hB8 : Below w.heap.size w (w7.setCell ⟨tb, 8, none⟩ (.slice (some ⟨gg, 0, none⟩) (mk.length + 1) cap)) := by
          have h1 := (HBq.out).trans (hB0.mono hsq)
          refine below_onto (w' := w7) ⟨hgrow.os.trans h1.os, hgrow.tape.trans h1.tape, hgrow.output.trans h1.output, Nat.le_trans h1.size hgrow.size, fun q hq => ?_⟩ ho8 (by have := (HTb.out).1; omega) (by have := hgrow.size; have := hB0.size; omega)
          rw [hgrow.block q (by have := hB0.size; omega) (fun e => by have := hrow q e.symm; omega)]
          exact h1.block q hq
        have hR8 : Blk (w7.setCell ⟨tb, 8, none⟩ (.slice (some ⟨gg, 0, none⟩) (mk.length + 1) cap)) rb 89 zc := by
          have hr0 := (HRq.out).below hB0 (HRq.out).lt
          refine Blk.only ?_ ho8 (by have := HTb.out; omega)
          refine (hgrow.block rb hr0.lt (fun e => ?_)).trans hr0
          exact own_tag hM0 hr0 (by decide) rb e.symm rfl
        go_roundg (gk - 1)
        case rel =>
          refine ⟨k + 1, some ⟨gg, 0, none⟩, cap, by simp, by omega, by omega, hB8, ?_, ?_, hR8⟩
          · show TAt _ tb 0 [] [] (t0 c i (mineF i 0 (jobs.take (k + 1)))) _
            rw [HM2.out]; exact hT8
          · show World.ownsRow _ _ _ _ _ _ _
            rw [HM2.out]; exact hM8
        case measure => omega
    · have hkj : k = jobs.length := by omega
      subst hkj
      rw [List.take_length] at HTk HMk hml
      have hk2 : ¬ ((jobs.length : Int) < (jobs.length : Int)) := by omega
      clear HJ
      go_wp2_with fail
      refine (t_begin tb 0 [] [] (t0 c i (mineF i 0 jobs)) (L0 ma mc) _ HTk.out).mono ?_
      rintro e w2 ⟨rfl, a1, a2⟩
      obtain ⟨T, hT⟩ : ∃ T, T = tArr (yBegin (t0 c i (mineF i 0 jobs))) (L0 ma mc) := ⟨_, rfl⟩
      have hTl : T.length = 39 := by rw [hT]; rfl
      have hT1 : T.toArray.all (·.oneCell') = true := by
        rw [hT]
        unfold yBegin yLoad
        split <;> simp [tArr, t0, L0, Value.oneCell']
      have HRg : Hid (w2.rangeAt tb 0 T) := by show World.rangeAt _ _ _ _; rw [hT]; exact TAt.range a1
      have HRb : Hid (Blk w2 rb 89 zc) := (HRk.out).only a2 (by have := HTb.out; omega)
      have HTh : Hid (w2.there rb 0 T.toArray.size) := by show World.there _ _ _ _; rw [show T.toArray.size = 39 from by simp [hTl]]; exact (HRb.out).there
      have HB2 : Hid (Below w.heap.size w w2) := below_onto HB.out a2 (by have := (HTb.out).1; omega) (HB.out).size
      have HM2 : Hid (w2.ownsRow w.heap.size 3 1 (.slice ma (mineF i 0 jobs).length mc) (mineF i 0 jobs).length (intCells (mineF i 0 jobs))) := ownsRow_only HMk.out a2 (own_tag HMk.out (HTk.out).2 (by decide))
      have HTe : Hid (T = tArr (yBegin (t0 c i (mineF i 0 jobs))) (L0 ma mc)) := hT
      clear HTk HMk HRk HB a1 a2 hT
      go_wp2_with
        (first
          | (refine wpList_load_mid (by rfl) 89 _ (by rfl) tb 0 (by rfl) T _ HRg.out Tryz.underlying89 (by rfl) (by rw [hTl]; exact Tryz.size89) ?_)
          | (refine wpList_store_mid (by rfl) 89 _ _ (by rfl) rb 0 T.toArray (by rfl) (by rfl) HTh.out (by rw [show T.toArray.size = 39 from by simp [hTl]]; exact Tryz.size89) hT1 ?_))
      have hB3 := (HRb.out).setCells T (by rw [hTl]; rfl)
      have ho3 : Only rb w2 (w2.setCells rb 0 T) := Only.setCells _ _ _
      (try simp only [Exit.inBlock, Exit.then])
      refine bodyPost_ret (v := .agg T.toArray) ?_ rfl ⟨ma, mc, by rw [HTe.out], ownsRow_only HM2.out ho3 (own_tag HM2.out HRb.out (by decide)), below_onto HB2.out ho3 (by have := (HTb.out).2; omega) (HB2.out).size⟩
      have hrg : (w2.setCells rb 0 T).rangeAt rb 0 T := World.rangeAt_setCells_same w2 rb 0 T (by have := HTh.out; simpa using this)
      have hld := run_loadVar_mid (P := Tryz.prog) (w2.setCells rb 0 T) rb 0 89 T _ hrg Tryz.underlying89 (by rfl) (by rw [hTl]; exact Tryz.size89)
      rw [results_cell rfl]
      show ((asAddr (.pointer (some ⟨rb, 0, none⟩))).run Tryz.prog (w2.setCells rb 0 T)).andThen _ = _
      simp only [asAddr, Sem.run_pure, Result.andThen_ok]
      exact hld

end Go.Proofs.YtgdfmmfkdmhdgaaGreat

namespace Go.Proofs.YtgdfmmfkdmhdgaaGreat
open Go.RowKit
set_option linter.unusedVariables false
attribute [local go_sem ↓] Go.wp_at_zero Go.wp_at_succ

set_option maxRecDepth 100000 in
set_option maxHeartbeats 2000000 in
theorem numbers_any (cb co nb cap : Nat) (zs : List Int) (w : World) (hz : zs.length ≤ 1000) (hc : w.cell? ⟨cb, co, none⟩ = some (.slice (some ⟨nb, 0, none⟩) zs.length cap)) (hcb : cb < w.heap.size) (h : Blk w nb 3 (zs.map (Value.int .i64 ·)).toArray) :
    Calls Tryz.prog 32 #[.pointer (some ⟨cb, co, none⟩)] w fun e w' =>
      e = .returned (.slice (some ⟨w.heap.size, 0, none⟩) zs.length zs.length) ∧ Blk w' w.heap.size 3 (zs.map (Value.int .i64 ·)).toArray ∧ Below w.heap.size w w' := by
  have HI : Hid (Ints w w.heap.size (some ⟨nb, 0, none⟩) zs) := ints_blk h
  obtain ⟨Z, hZ⟩ : ∃ Z, Z = List.replicate zs.length (Value.int .i64 0) := ⟨_, rfl⟩
  have hZl : Z.length = zs.length := by rw [hZ]; simp
  have hmk := run_make3 zs.length hz
  rw [← hZ] at hmk
  obtain ⟨i0, h1, h2, h3, h4⟩ := info_parts Tryz.info3
  have hsz : (Tryz.prog.info? 3).map (·.size) = some 1 := by rw [h1]; simp [h3]
  obtain ⟨CS, hCS⟩ : ∃ CS, CS = zs.map (Value.int .i64 ·) := ⟨_, rfl⟩
  have hCl : CS.length = zs.length := by rw [hCS]; simp
  have HCS : Hid (CS = zs.map (Value.int .i64 ·)) := hCS
  have HSrc : Hid (0 < CS.length → ∃ ad, (some ⟨nb, 0, none⟩ : Option Addr) = some ad ∧ ∀ j v, CS[j]? = some v → (w.alloc (.cells Z.toArray 3)).cell? (ad.add j) = some v) := fun hp => by
    obtain ⟨b, off, ha, hlt, hc⟩ := HI.out 0 (by omega)
    refine ⟨_, ha, fun j v hj => ?_⟩
    have hjl : j < zs.length := by have := (List.getElem?_eq_some_iff.1 hj).1; omega
    obtain ⟨b', off', ha', hlt', hc'⟩ := HI.out j hjl
    rw [ha] at ha'
    cases ha'
    rw [hCS, List.getElem?_map, List.getElem?_eq_getElem hjl] at hj
    simp at hj
    subst hj
    have hcell : (w.alloc (.cells Z.toArray 3)).cell? ⟨b, off + j, none⟩ = w.cell? ⟨b, off + j, none⟩ := World.cell?_of_block (((Below.refl _ _).alloc (Nat.le_refl _) _).block b hlt)
    rw [show ((⟨b, off, none⟩ : Addr).add j) = ⟨b, off + j, none⟩ from by simp [Addr.add], hcell, hc']
    simp [List.getD, List.getElem?_eq_getElem hjl]
  have HOne : Hid (∀ v ∈ CS, v.oneCell' = true) := fun v hv => by
    rw [hCS] at hv
    obtain ⟨z, _, rfl⟩ := List.mem_map.1 hv
    rfl
  have HSp : Hid ((splice Z 0 CS) = CS) := by
    show _ = _
    unfold splice
    simp [hCl, hZl]
  have hcb1 : cb ≠ w.heap.size := by omega
  clear h hCS h2 h3 h4 hZ
  go_enter Tryz.func32, Tryz.ntmps32
  go_wp2_with
    (refine wpList_copy_splice (by rfl) _ _ _ _ (by rfl) 3 Tryz.underlying24 hsz (some ⟨w.heap.size, 0, none⟩) (some ⟨nb, 0, none⟩) zs.length zs.length zs.length cap (by rfl) (by rfl) w.heap.size 0 Z 3 (by exact heap_alloc_new w _) CS (by rw [hCl]; simp)
       (fun hp => ⟨rfl, HSrc.out hp⟩) (by simp [hCl, hZl]) HOne.out w.heap.size w (by exact (Below.refl _ _).alloc (Nat.le_refl _) _) (Nat.le_refl _) ?_;
     intro w5 hrow hbel)
  go_ret
  refine ⟨rfl, ?_, hbel⟩
  have h := hrow.out
  rw [HSp.out, HCS.out] at h
  exact h

end Go.Proofs.YtgdfmmfkdmhdgaaGreat
