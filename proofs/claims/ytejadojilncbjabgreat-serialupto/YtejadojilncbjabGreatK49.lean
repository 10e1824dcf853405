import Derived.Test.YtejadojilncbjabGreatK47
import Derived.Test.YtejadojilncbjabGreatK45
import Derived.Test.YtejadojilncbjabGreatK48
import Derived.Test.YtejadojilncbjabGreatK40
import Derived.Test.YtejadojilncbjabGreatK22
import Derived.Test.YtejadojilncbjabGreatK35
import Derived.Test.YtejadojilncbjabGreatK46
namespace Go.Proofs.YtejadojilncbjabGreat
open Go.RowKit
set_option linter.unusedVariables false
def HI (R : Rn) (base p nb cb bb cap tcap : Nat) (X : List Value) (w0 : World) (k : Nat) (w : World) : Prop :=
 ∃ (q : List (PT × Ls)) (Ds : List Int) (AN : List (AttD × Value)) (lat : List Int) (ba : Option Addr) (bc : Nat), WR base p nb cb cap tcap k X w q Ds ∧ SimW R.c R.jobs k (R.g k) q Ds ∧ BookB w bb ba AN.length bc lat ∧ AttsRow w base ba bc AN ∧ Nts w q lat AN ∧ BkI R k (AN.map (·.1)) lat ∧ Below base w0 w
def HP (R : Rn) (base p nb cb bb cap tcap : Nat) (X : List Value) (w0 : World) (k t : Nat) (w : World) (q : List (PT × Ls)) (ht : t < q.length) : Prop :=
 ∃ (Ds : List Int) (AN : List (AttD × Value)) (lat : List Int) (ba : Option Addr) (bc : Nat), WR base p nb cb cap tcap ((k : Int) + 1) X w q Ds ∧ SimW R.c R.jobs ((k : Int) + 1) (R.g (k + 1)) q Ds ∧ BookB w bb ba AN.length bc lat ∧ AttsRow w base ba bc AN ∧ Below base w0 w ∧ q[t].1.told.thread = (t : Int) ∧ t < 4 ∧ AN.length ≤ k ∧
  ((q[t].1.told.start = (k : Int) + 1 ∧ BkI R (k + 1) (AN.map (·.1) ++ [q[t].1.told]) (lat.set t (AN.length : Int)) ∧ Nts w q (lat.set t (AN.length : Int)) (AN ++ [(q[t].1.told, .slice q[t].2.na q[t].1.notes.length q[t].2.nc)])) ∨
      (q[t].1.told.start ≠ (k : Int) + 1 ∧ ∃ m : Nat, m < AN.length ∧ lat.getD t 0 = (m : Int) ∧ BkI R (k + 1) ((AN.map (·.1)).set m q[t].1.told) lat ∧ Nts w q lat (AN.set m (q[t].1.told, .slice q[t].2.na q[t].1.notes.length q[t].2.nc))))
theorem own_blk {w : World} {base : Nat} {e : TypeId} {size n : Nat} {v : Value} {xs : List Value} (h : w.ownsRow base e size v n xs) {k : Nat} (hk : v.ownBlock = some k) : ∃ cs, Blk w k e cs := by
 rcases h.2 with ⟨rfl, _⟩ | ⟨g, cap, cur, rfl, hb, hg, rest⟩
 ·simp [Value.ownBlock] at hk
 ·simp [Value.ownBlock] at hk
  subst hk
  exact ⟨cur, hg⟩
section
variable {R : Rn} {base p nb cb bb cap tcap : Nat} {X : List Value} {w0 w w' : World} {k t : Nat} {q q' : List (PT × Ls)} {Ds : List Int} {pn : Int}
theorem goes_blk (W : WR base p nb cb cap tcap pn X w q Ds) (G : GoesW p nb cb q w q' w') {b : Nat} {T : TypeId} {cs : Array Value} (h : Blk w b T cs) (h1 : (222 : Nat) ≠ T) (h2 : (230 : Nat) ≠ T) (h3 : (3 : Nat) ≠ T) (h4 : (138 : Nat) ≠ T) (h5 : (125 : Nat) ≠ T) (h6 : (93 : Nat) ≠ T) (h7 : (47 : Nat) ≠ T) : w'.heap[b]? = w.heap[b]? :=
 G.block b h.lt (Ne.symm (Blk.ne W.thr h h4)) (Ne.symm (Blk.ne W.num h h3)) (Ne.symm (Blk.ne W.wst h h5)) (fun ⟨i, hi, o⟩ => Own_tag (W.rows i hi) h h1 h2 h3 h6 h7 o)
theorem goes_atts (W : WR base p nb cb cap tcap pn X w q Ds) (G : GoesW p nb cb q w q' w') {ba : Option Addr} {bc : Nat} {AN : List (AttD × Value)} (h : AttsRow w base ba bc AN) : AttsRow w' base ba bc AN :=
 ownsRow_same h fun k hk => by
  obtain ⟨cs, hcs⟩ := own_blk h hk
  exact goes_blk W G hcs (by decide) (by decide) (by decide) (by decide) (by decide) (by decide) (by decide)
theorem goes_book (W : WR base p nb cb cap tcap pn X w q Ds) (G : GoesW p nb cb q w q' w') {ba : Option Addr} {bc n : Nat} {lat : List Int} (h : BookB w bb ba n bc lat) : BookB w' bb ba n bc lat :=
 ⟨(goes_blk W G h.1 (by decide) (by decide) (by decide) (by decide) (by decide) (by decide) (by decide)).trans h.1, h.2⟩
theorem kd_in (R : Rn) (k : Nat) (h : 0 ≤ (R.pk k).thread ∧ (R.pk k).thread < R.c.t) : (gStep R.c R.jobs (R.g k) ((k : Int) + 1) (R.pk k)).2.kind = (R.out k (R.pk k).thread).kind := by
 unfold gStep
 rw [if_pos h]
 show (accBy _ (R.out k (R.pk k).thread)).kind = _
 unfold accBy
 split
 ·rename_i e
  rw [e]
  rfl
 ·rfl
theorem kd_out (R : Rn) (k : Nat) (h : ¬ (0 ≤ (R.pk k).thread ∧ (R.pk k).thread < R.c.t)) : (gStep R.c R.jobs (R.g k) ((k : Int) + 1) (R.pk k)).2.kind = 0 := by
 unfold gStep
 rw [if_neg h]
 rfl
theorem HI.pick (O : R.Ok) (h : HI R base p nb cb bb cap tcap X w0 k w) :
  ∃ (q : List (PT × Ls)) (Ds : List Int), WR base p nb cb cap tcap k X w q Ds ∧ SimW R.c R.jobs k (R.g k) q Ds ∧
   ∀ (q' : List (PT × Ls)) (Ds' : List Int) (w' : World), WR base p nb cb cap tcap ((k : Int) + 1) X w' q' Ds' → SimW R.c R.jobs ((k : Int) + 1) (R.g (k + 1)) q' Ds' → GoesW p nb cb q w q' w' → NGo (R.pk k).thread (gStep R.c R.jobs (R.g k) ((k : Int) + 1) (R.pk k)).2.kind q q' w w' →
    ((gStep R.c R.jobs (R.g k) ((k : Int) + 1) (R.pk k)).2.kind = 0 ∧ HI R base p nb cb bb cap tcap X w0 (k + 1) w') ∨
    ((gStep R.c R.jobs (R.g k) ((k : Int) + 1) (R.pk k)).2.kind ≠ 0 ∧ ∃ (t : Nat) (ht : t < q'.length), (R.pk k).thread = (t : Int) ∧ HP R base p nb cb bb cap tcap X w0 k t w' q' ht) := by
 obtain ⟨q, Ds, AN, lat, ba, bc, W, M, B, A, N, I, L⟩ := h
 have hct := (cfgB_true O.c).1
 refine ⟨q, Ds, W, M, fun q' Ds' w' W' M' G Z => ?_⟩
 have B' := goes_book W G B
 have A' := goes_atts W G A
 have L' : Below base w0 w' := L.trans (G.low W)
 rcases I.step O (by rw [B.2]; omega) (fun t t0 t1 => hne_at R k t t0 t1) with ⟨h0, I'⟩ | ⟨t, z, ht, t1, h0, hz, hc⟩
 ·have hk : (gStep R.c R.jobs (R.g k) ((k : Int) + 1) (R.pk k)).2.kind = 0 := by
   by_cases hr : 0 ≤ (R.pk k).thread ∧ (R.pk k).thread < R.c.t
   ·rw [kd_in R k hr]
    rcases h0 with h0 | h0
    ·exact absurd hr h0
    ·exact h0
   ·exact kd_out R k hr
  refine Or.inl ⟨hk, q', Ds', AN, lat, ba, bc, ?_, ?_, B', A', N.none W W' G Z hk, I', L'⟩
  ·rw [show ((k + 1 : Nat) : Int) = (k : Int) + 1 from by simp]; exact W'
  ·rw [show ((k + 1 : Nat) : Int) = (k : Int) + 1 from by simp]; exact M'
 ·have hk : (gStep R.c R.jobs (R.g k) ((k : Int) + 1) (R.pk k)).2.kind ≠ 0 := by
   rw [kd_in R k (by rw [ht]; exact ⟨by omega, t1⟩), ht]
   exact h0
  have htq : t < q'.length := by have := M'.len; omega
  have htq0 : t < q.length := by have := M.len; omega
  have T := ((M'.sim t htq).tol).tl
  have hzt : z = q'[t].1.told := by
   rcases T with T | T
   ·rw [T] at hz; cases hz
   ·rw [T] at hz; exact (Option.some.inj hz).symm
  have hzn : z.notes = q'[t].1.notes := by rw [hzt]; rfl
  have htl : t < lat.length := by rw [B.2]; omega
  have hlen : (AN.map (·.1)).length = AN.length := List.length_map _
  have hzth : z.thread = (t : Int) := thread_of O (by omega) t1 hz
  refine Or.inr ⟨hk, t, htq, ht, Ds', AN, lat, ba, bc, W', M', B', A', L', by rw [← hzt]; exact hzth, by omega, by rw [← hlen]; exact I.len O, ?_⟩
  rw [← hzt]
  rcases hc with ⟨h1, h2⟩ | ⟨h1, m, h2, h3, h4⟩
  ·rw [hlen] at h2
   exact Or.inl ⟨h1, h2, N.new W W' G Z hk t ht.symm htq htq0 (sim_step2 (M.sim t htq0) (start_of O ht t1 hz h1)) htl z hzn⟩
  ·rw [hlen] at h2
   exact Or.inr ⟨h1, m, h2, h3, h4, N.mod W W' G Z t m ht.symm htq h2 h3 z hzn⟩
theorem HI.below (h : HI R base p nb cb bb cap tcap X w0 k w) (hb : Below w.heap.size w w') : HI R base p nb cb bb cap tcap X w0 k w' := by
 obtain ⟨q, Ds, AN, lat, ba, bc, W, M, B, A, N, I, L⟩ := h
 exact ⟨q, Ds, AN, lat, ba, bc, W.below hb, M, ⟨B.1.below hb B.1.lt, B.2⟩, ownsRow_below A hb, N.keep (Kp.below (chg := []) (p := 0) (eb := 0) (B := 0) hb (Nat.zero_le _)) (by simp), I, L.trans (hb.mono W.bs)⟩
theorem HP.below {ht : t < q.length} (h : HP R base p nb cb bb cap tcap X w0 k t w q ht) (hb : Below w.heap.size w w') : HP R base p nb cb bb cap tcap X w0 k t w' q ht := by
 obtain ⟨Ds, AN, lat, ba, bc, W, M, B, A, L, e1, e2, e3, hc⟩ := h
 have K : Kp [] 0 0 0 w w' := Kp.below hb (Nat.zero_le _)
 refine ⟨Ds, AN, lat, ba, bc, W.below hb, M, ⟨B.1.below hb B.1.lt, B.2⟩, ownsRow_below A hb, L.trans (hb.mono W.bs), e1, e2, e3, ?_⟩
 rcases hc with ⟨h1, h2, h3⟩ | ⟨h1, m, h2, h3, h4, h5⟩
 ·exact Or.inl ⟨h1, h2, h3.keep K (by simp)⟩
 ·exact Or.inr ⟨h1, m, h2, h3, h4, h5.keep K (by simp)⟩
theorem HP.enter {ht : t < q.length} (h : HP R base p nb cb bb cap tcap X w0 k t w q ht) (hq : base ≤ bb) (hk : k < 2 ^ 30) :
  Calls Tryz.prog 107 #[.pointer (some ⟨bb, 0, none⟩), .agg #[.int .i64 q[t].1.aTh, .int .i64 q[t].1.aJob, .int .i64 q[t].1.aStart, .int .i64 q[t].1.aEnd, .int .i64 q[t].1.valid, .int .i64 q[t].1.aStamp, .int .i64 q[t].1.aFate, .slice q[t].2.na q[t].1.notes.length q[t].2.nc], .int .i64 ((k : Int) + 1)] w fun e w' =>
   e = .returned (.tuple #[]) ∧ HI R base p nb cb bb cap tcap X w0 (k + 1) w' := by
 obtain ⟨Ds, AN, lat, ba, bc, W, M, B, A, L, e1, e2, e3, hc⟩ := h
 have fin : ∀ (w' : World) (AN' : List (AttD × Value)) (lat' : List Int) (ba' : Option Addr) (bc' : Nat), Kp [82, 164] base base base w w' → BookB w' bb ba' AN'.length bc' lat' → AttsRow w' base ba' bc' AN' → Nts w q lat' AN' → BkI R (k + 1) (AN'.map (·.1)) lat' → HI R base p nb cb bb cap tcap X w0 (k + 1) w' := by
  intro w' AN' lat' ba' bc' K B' A' N' I'
  refine ⟨q, Ds, AN', lat', ba', bc', ?_, ?_, B', A', N'.keep K (by decide), I', ?_⟩
  ·rw [show ((k + 1 : Nat) : Int) = (k : Int) + 1 from by simp]; exact W.keep K (by decide) (by decide) (by decide) (by decide) (by decide) (by decide) (by decide)
  ·rw [show ((k + 1 : Nat) : Int) = (k : Int) + 1 from by simp]; exact M
  ·exact L.trans ⟨K.os, K.tape, K.output, K.size, fun i hi => K.low i hi (by omega) (by omega)⟩
 rcases hc with ⟨h1, h2, h3⟩ | ⟨h1, m, h2, h3, h4, h5⟩
 ·have h0 := enter_new B A W.bs hq (by omega) q[t].1.told q[t].2.na q[t].2.nc t e2 e1
  rw [h1] at h0
  have h1' : q[t].1.aStart = (k : Int) + 1 := h1
  rw [h1']
  refine Calls.mono h0 ?_
  rintro e w' ⟨rfl, ⟨a', c', b1, b2⟩, K⟩
  exact ⟨rfl, fin w' _ _ a' c' K (by rw [List.length_append]; exact b1) b2 h3 (by rw [List.map_append]; exact h2)⟩
 ·refine Calls.mono (enter_old B A W.bs hq q[t].1.told q[t].2.na q[t].2.nc ((k : Int) + 1) t m e2 e1 h1 h3 h2) ?_
  rintro e w' ⟨rfl, ⟨b1, b2⟩, K⟩
  exact ⟨rfl, fin w' _ _ ba bc K (by rw [List.length_set]; exact b1) b2 h5 (by rw [List.map_set]; exact h4)⟩
end
end Go.Proofs.YtejadojilncbjabGreat
namespace Go.Proofs.YtejadojilncbjabGreat
open Go.RowKit
set_option linter.unusedVariables false
attribute [local go_sem ↓] Go.wp_at_zero Go.wp_at_succ
set_option maxRecDepth 100000 in
set_option maxHeartbeats 1000000 in
theorem t_told {p z : Nat} {A B : List Value} {t : PT} {L : Ls} {w : World} (hb : TAt w p z A B t L) :
  Calls Tryz.prog 106 #[.pointer (some ⟨p, z, none⟩)] w fun e w' => e = .returned (.agg #[.int .i64 t.aTh, .int .i64 t.aJob, .int .i64 t.aStart, .int .i64 t.aEnd, .int .i64 t.valid, .int .i64 t.aStamp, .int .i64 t.aFate, .slice L.na t.notes.length L.nc]) ∧ Below w.heap.size w w' := by
 obtain ⟨w1, hw1⟩ : ∃ w1, w1 = w.alloc (.cells #[.int .i64 0, .int .i64 0, .int .i64 0, .int .i64 0, .int .i64 0, .int .i64 0, .int .i64 0, .slice none 0 0] 82) := ⟨_, rfl⟩
 have HB1 : Hid (Below w.heap.size w w1) := by rw [hw1]; exact (Below.refl w.heap.size w).alloc (Nat.le_refl _) _
 have HZ : Hid (Blk w1 w.heap.size 82 #[.int .i64 0, .int .i64 0, .int .i64 0, .int .i64 0, .int .i64 0, .int .i64 0, .int .i64 0, .slice none 0 0]) := by rw [hw1]; exact Blk.new w 82 _
 have hb1 : TAt w1 p z A B t L := hb.below HB1.out
 have hlt := hb.lt
 have hpn : p ≠ w.heap.size := by omega
 have h0 : w1.cell? ⟨p, z + 19, none⟩ = some (.int .i64 t.aTh) := hb1.cell 19 (by decide)
 have h1 : w1.cell? ⟨p, z + 19 + 1, none⟩ = some (.int .i64 t.aJob) := hb1.cell 20 (by decide)
 have h2 : w1.cell? ⟨p, z + 19 + 2, none⟩ = some (.int .i64 t.aStart) := hb1.cell 21 (by decide)
 have h3 : w1.cell? ⟨p, z + 19 + 3, none⟩ = some (.int .i64 t.aEnd) := hb1.cell 22 (by decide)
 have h4 : w1.cell? ⟨p, z + 19 + 4, none⟩ = some (.int .i64 t.valid) := hb1.cell 23 (by decide)
 have h5 : w1.cell? ⟨p, z + 19 + 5, none⟩ = some (.int .i64 t.aStamp) := hb1.cell 24 (by decide)
 have h6 : w1.cell? ⟨p, z + 19 + 6, none⟩ = some (.int .i64 t.aFate) := hb1.cell 25 (by decide)
 have h7 : w1.cell? ⟨p, z + 19 + 7, none⟩ = some (.slice L.na t.notes.length L.nc) := hb1.cell 26 (by decide)
 have zc := (HZ.out).cell
 have zf := (HZ.out).frozen
 obtain ⟨g, hg⟩ : ∃ g, g = w.heap.size := ⟨_, rfl⟩
 have HG : Hid (g = w.heap.size) := hg
 go_enter Tryz.func106, Tryz.ntmps106
 go_upto_region 1 with fail
 rw [← hw1, ← hg]
 rw [← hg] at zc zf hpn
 clear hb hb1 hw1 hg hlt
 go_wp2
 have hz : Blk w1 g 82 #[.int .i64 0, .int .i64 0, .int .i64 0, .int .i64 0, .int .i64 0, .int .i64 0, .int .i64 0, .slice none 0 0] := by rw [HG.out]; exact HZ.out
 have h8 := ((((((((hz.set (i := 0) (v := .int .i64 t.aTh)).set (i := 1) (v := .int .i64 t.aJob)).set (i := 2) (v := .int .i64 t.aStart)).set (i := 3) (v := .int .i64 t.aEnd)).set (i := 4) (v := .int .i64 t.valid)).set (i := 5) (v := .int .i64 t.aStamp)).set (i := 6) (v := .int .i64 t.aFate)).set (i := 7) (v := .slice L.na t.notes.length L.nc)).congr (ds := #[.int .i64 t.aTh, .int .i64 t.aJob, .int .i64 t.aStart, .int .i64 t.aEnd, .int .i64 t.valid, .int .i64 t.aStamp, .int .i64 t.aFate, .slice L.na t.notes.length L.nc]) (by simp)
 have h9 := h8.cell
 have hle : w.heap.size ≤ g := Nat.le_of_eq (HG.out).symm
 refine bodyPost_ret (v := .agg #[.int .i64 t.aTh, .int .i64 t.aJob, .int .i64 t.aStart, .int .i64 t.aEnd, .int .i64 t.valid, .int .i64 t.aStamp, .int .i64 t.aFate, .slice L.na t.notes.length L.nc]) ?_ rfl ⟨rfl, below_set (below_set (below_set (below_set (below_set (below_set (below_set (below_set HB1.out hle) hle) hle) hle) hle) hle) hle) hle⟩
 simp [results, Tryz.results106, go_sem, h9]
def PHistIs (w : World) (l : List AttD) (e : Ending) (w' : World) : Prop :=
 ∃ (la : Option Addr) (lc : Nat) (AN : List (AttD × Value)), AN.map (·.1) = l ∧ e = .returned (.slice la AN.length lc) ∧ AttsRow w' w.heap.size la lc AN ∧ NotesOf w' AN ∧ Below w.heap.size w w'
theorem HI.low {R : Rn} {base p nb cb bb cap tcap : Nat} {X : List Value} {w0 w : World} {k : Nat} (h : HI R base p nb cb bb cap tcap X w0 k w) : Below base w0 w := by
 obtain ⟨q, Ds, AN, lat, ba, bc, W, M, B, A, N, I, L⟩ := h
 exact L
theorem HP.cells {R : Rn} {base p nb cb bb cap tcap : Nat} {X : List Value} {w0 w : World} {k t : Nat} {q : List (PT × Ls)} {ht : t < q.length} (h : HP R base p nb cb bb cap tcap X w0 k t w q ht) :
  w.cell? ⟨cb, 1, none⟩ = some (.slice (some ⟨p, 0, none⟩) q.length tcap) ∧ w.cell? ⟨cb, 2, none⟩ = some (.int .i64 ((k : Int) + 1)) ∧ (∃ A B, TAt w p (t * 47) A B q[t].1 q[t].2) := by
 obtain ⟨Ds, AN, lat, ba, bc, W, M, B, A, L, e1, e2, e3, hc⟩ := h
 exact ⟨by rw [W.wst.cell]; rfl, by rw [W.wst.cell]; rfl, _, _, (W.tr t ht).tt⟩
theorem HP.cbl {R : Rn} {base p nb cb bb cap tcap : Nat} {X : List Value} {w0 w : World} {k t : Nat} {q : List (PT × Ls)} {ht : t < q.length} (h : HP R base p nb cb bb cap tcap X w0 k t w q ht) : cb < w.heap.size := by
 obtain ⟨Ds, AN, lat, ba, bc, W, M, B, A, L, e1, e2, e3, hc⟩ := h
 exact W.wst.lt
set_option maxRecDepth 100000 in
set_option maxHeartbeats 1000000 in
theorem playHistory_any {c : Cfg} {mem : List Int} {jobs : List (Int × List InsD)} (S : SetupOk c mem jobs) (ps : List PickD) (hps : ps.length ≤ 2 ^ 23) (ma ja pa : Option Addr) (mc jc pc : Nat) (w : World)
  (hm : Ints w w.heap.size ma mem) (hj : JobsRep w w.heap.size ja jobs) (hp : PicksIn w w.heap.size pa ps) :
  Calls Tryz.prog 73 #[.agg #[.int .i64 c.t, .int .i64 c.wd, .int .i64 c.s, .int .i64 c.g, .int .i64 c.r, .int .i64 c.cp, .int .i64 c.f, .slice ma mem.length mc, .slice ja jobs.length jc], .slice pa ps.length pc] w (PHistIs w (⟨c, mem, jobs, ps⟩ : Rn).hist) := by
 have HM : Hid (Ints w w.heap.size ma mem) := hm
 have HJ : Hid (JobsRep w w.heap.size ja jobs) := hj
 have HP : Hid (PicksIn w w.heap.size pa ps) := hp
 have HS : Hid (SetupOk c mem jobs) := S
 obtain ⟨R, hR⟩ : ∃ R : Rn, R = ⟨c, mem, jobs, ps⟩ := ⟨_, rfl⟩
 have HR : Hid (R = ⟨c, mem, jobs, ps⟩) := hR
 have HO : Hid R.Ok := by rw [hR]; exact ⟨S.cfg, S.mw, S.mb⟩
 rw [← hR]
 have hps' : ps.length ≤ 8388608 := hps
 clear hm hj hp S hps hR
 go_enter Tryz.func73, Tryz.ntmps73
 go_wp2_with fail
 obtain ⟨w1, hw1⟩ : ∃ w1, w1 = w.alloc (.cells #[.int .i64 c.t, .int .i64 c.wd, .int .i64 c.s, .int .i64 c.g, .int .i64 c.r, .int .i64 c.cp, .int .i64 c.f, .slice ma mem.length mc, .slice ja jobs.length jc] 27) := ⟨_, rfl⟩
 have HB1 : Hid (Below w.heap.size w w1) := by rw [hw1]; exact (Below.refl w.heap.size w).alloc (Nat.le_refl _) _
 have HSb : Hid (Blk w1 w.heap.size 27 #[.int .i64 c.t, .int .i64 c.wd, .int .i64 c.s, .int .i64 c.g, .int .i64 c.r, .int .i64 c.cp, .int .i64 c.f, .slice ma mem.length mc, .slice ja jobs.length jc]) := by rw [hw1]; exact Blk.new w 27 _
 have hs1 : w1.heap.size = w.heap.size + 1 := by rw [hw1]; simp
 rw [← hw1]
 clear hw1
 have HM1 : Hid (Ints w1 w1.heap.size ma mem) := (HM.out).up HB1.out
 have HJ1 : Hid (JobsRep w1 w1.heap.size ja jobs) := (HJ.out).up2 HB1.out
 have HP1 : Hid (PicksIn w1 w1.heap.size pa ps) := (HP.out).up2 HB1.out
 clear HM HJ HP
 refine (begin_any c (HS.out).cfg mem (HS.out).mw (HS.out).mb jobs (HS.out).j8 ma ja mc jc w1 HM1.out HJ1.out).mono ?_
 rintro e w2 ⟨nb, p, cap, tcap, q, Ds, X, rfl, hW, hM, hb2⟩
 obtain ⟨cb, hcb⟩ : ∃ cb, cb = w2.heap.size := ⟨_, rfl⟩
 have hB3 : Below w2.heap.size w2 (w2.alloc (.cells #[.slice (some ⟨nb, 0, none⟩) Ds.length cap, .slice (some ⟨p, 0, none⟩) q.length tcap, .int .i64 0] 125)) := (Below.refl _ _).alloc (Nat.le_refl _) _
 have HW3 : Hid (WR w1.heap.size p nb cb cap tcap ((0 : Nat) : Int) X (w2.alloc (.cells #[.slice (some ⟨nb, 0, none⟩) Ds.length cap, .slice (some ⟨p, 0, none⟩) q.length tcap, .int .i64 0] 125)) q Ds ∧ SimW R.c R.jobs ((0 : Nat) : Int) (R.g 0) q Ds) := by
  refine ⟨hW _ cb hB3 (by rw [hcb]; exact Blk.new w2 125 _) (by rw [hcb]; exact hb2.size), ?_⟩
  rw [HR.out]
  exact hM
 have HB3 : Hid (Below w1.heap.size w1 (w2.alloc (.cells #[.slice (some ⟨nb, 0, none⟩) Ds.length cap, .slice (some ⟨p, 0, none⟩) q.length tcap, .int .i64 0] 125))) := hb2.trans (hB3.mono hb2.size)
 clear hW hM hB3 hb2
 go_upto_region 2 with fail
 rw [← hcb]
 clear hcb
 generalize w2.alloc (.cells #[.slice (some ⟨nb, 0, none⟩) Ds.length cap, .slice (some ⟨p, 0, none⟩) q.length tcap, .int .i64 0] 125) = w3 at *
 obtain ⟨bb, hbb⟩ : ∃ bb, bb = w3.heap.size := ⟨_, rfl⟩
 have hB4 : Below w3.heap.size w3 (w3.alloc (.cells #[.slice none 0 0, .int .i64 0, .int .i64 0, .int .i64 0, .int .i64 0] 164)) := (Below.refl _ _).alloc (Nat.le_refl _) _
 have HBb : Hid (w1.heap.size ≤ bb) := by show _ ≤ _; rw [hbb]; exact (HB3.out).size
 have HI4 : Hid (HI R w1.heap.size p nb cb bb cap tcap X w1 0 (w3.alloc (.cells #[.slice none 0 0, .int .i64 0, .int .i64 0, .int .i64 0, .int .i64 0] 164))) := by
  refine ⟨q, Ds, [], [0, 0, 0, 0], none, 0, (HW3.out).1.below hB4, (HW3.out).2, ⟨?_, rfl⟩, World.ownsRow_nil _ _ _ _, fun m x hx => by simp at hx, BkI.zero R, (HB3.out).trans (hB4.mono (HB3.out).size)⟩
  rw [hbb]
  exact Blk.new w3 164 _
 clear HW3 HB3 hB4
 go_upto_region 3 with fail
 rw [← hbb]
 clear hbb
 generalize w3.alloc (.cells #[.slice none 0 0, .int .i64 0, .int .i64 0, .int .i64 0, .int .i64 0] 164) = w4 at *
 go_wp2_with fail
 go_loopg [16] (ps.length + 1) (fun m t16 wr => ∃ (k : Nat), t16 = .int .i64 (k : Int) ∧ k ≤ ps.length ∧ m = ps.length + 1 - k ∧ Hid (HI R w1.heap.size p nb cb bb cap tcap X w1 k wr))
 case atStart => exact ⟨0, rfl, by omega, by omega, HI4⟩
 case round =>
  obtain ⟨k, rfl, hk, hgk, HH⟩ := hrel
  clear HI4
  have HB : Hid (Below w1.heap.size w1 wr) := (HH.out).low
  by_cases hkl : k < ps.length
  ·obtain ⟨pb, poff, hpa, hpb, hpc0, hpc1⟩ := HP1.out k hkl
   have hk0 : (0 : Int) ≤ (k : Int) := by omega
   have hk1 : (k : Int) < (ps.length : Int) := by omega
   have hwk : IntKind.i64.wrap ((k : Int) + 1) = (k : Int) + 1 := wrapP _ (by omega) (by omega)
   have hszk : w1.heap.size ≤ wr.heap.size := (HB.out).size
   have hq0 : wr.cell? ⟨pb, poff + k * 2, none⟩ = some (.int .i64 (pickAt ps k).thread) := (World.cell?_of_block ((HB.out).block pb hpb)).trans hpc0
   have hq1 : wr.cell? ⟨pb, poff + k * 2 + 1, none⟩ = some (.int .i64 (pickAt ps k).draw) := (World.cell?_of_block ((HB.out).block pb hpb)).trans hpc1
   have hpbl : pb < wr.heap.size := by omega
   have hsbl : w.heap.size < wr.heap.size := by omega
   subst hpa
   clear hpc0 hpc1
   obtain ⟨th, hth⟩ : ∃ th, th = (pickAt ps k).thread := ⟨_, rfl⟩
   obtain ⟨dr, hdr⟩ : ∃ dr, dr = (pickAt ps k).draw := ⟨_, rfl⟩
   rw [← hth] at hq0
   rw [← hdr] at hq1
   have HPk : Hid (R.pk k = ⟨th, dr⟩) := by show _ = _; rw [HR.out, hth, hdr]; rfl
   have hBa : Below wr.heap.size wr (wr.alloc (.cells #[.int .i64 th, .int .i64 dr] 76)) := (Below.refl wr.heap.size wr).alloc (Nat.le_refl _) _
   have HBa : Hid (Below w1.heap.size w1 (wr.alloc (.cells #[.int .i64 th, .int .i64 dr] 76))) := (HB.out).trans (hBa.mono hszk)
   have hPb : Blk (wr.alloc (.cells #[.int .i64 th, .int .i64 dr] 76)) wr.heap.size 76 #[.int .i64 th, .int .i64 dr] := Blk.new wr 76 _
   obtain ⟨n0, hn0⟩ : ∃ n0, n0 = wr.heap.size := ⟨_, rfl⟩
   have HPb : Hid (Blk (wr.alloc (.cells #[.int .i64 th, .int .i64 dr] 76)) n0 76 #[.int .i64 th, .int .i64 dr]) := by rw [hn0]; exact hPb
   obtain ⟨qq, Dq, Wq, Mq, hnx⟩ := ((HH.out).below hBa).pick HO.out
   rw [HPk.out] at hnx
   have HC : Hid (Calls Tryz.prog 105 #[.pointer (some ⟨cb, 0, none⟩), .slice ja jobs.length jc, .agg #[.int .i64 th, .int .i64 dr]] (wr.alloc (.cells #[.int .i64 th, .int .i64 dr] 76)) (OneIs w1.heap.size p nb cb cap tcap ((k : Int) + 1) X R.c R.jobs k (R.g k) ((k : Int) + 1) ⟨th, dr⟩ qq (wr.alloc (.cells #[.int .i64 th, .int .i64 dr] 76)))) := by
    have hjr : JobsRep (wr.alloc (.cells #[.int .i64 th, .int .i64 dr] 76)) w1.heap.size ja R.jobs := by rw [HR.out]; exact (HJ1.out).up HBa.out
    have h := t_wpick (HO.out).c ⟨by omega, by omega⟩ Wq Mq ⟨by omega, by omega⟩ ⟨th, dr⟩ ja jc hjr (by rw [HR.out]; exact (HS.out).cd)
    have hjl : R.jobs.length = jobs.length := by rw [HR.out]
    rw [hjl] at h
    exact h
   have HNx : Hid (∀ (q' : List (PT × Ls)) (Ds' : List Int) (w' : World), WR w1.heap.size p nb cb cap tcap ((k : Int) + 1) X w' q' Ds' → SimW R.c R.jobs ((k : Int) + 1) (gStep R.c R.jobs (R.g k) ((k : Int) + 1) ⟨th, dr⟩).1 q' Ds' → GoesW p nb cb qq (wr.alloc (.cells #[.int .i64 th, .int .i64 dr] 76)) q' w' → NGo th (gStep R.c R.jobs (R.g k) ((k : Int) + 1) ⟨th, dr⟩).2.kind qq q' (wr.alloc (.cells #[.int .i64 th, .int .i64 dr] 76)) w' →
       ((gStep R.c R.jobs (R.g k) ((k : Int) + 1) ⟨th, dr⟩).2.kind = 0 ∧ HI R w1.heap.size p nb cb bb cap tcap X w1 (k + 1) w') ∨
       ((gStep R.c R.jobs (R.g k) ((k : Int) + 1) ⟨th, dr⟩).2.kind ≠ 0 ∧ ∃ (t : Nat) (ht : t < q'.length), th = (t : Int) ∧ Go.Proofs.YtejadojilncbjabGreat.HP R w1.heap.size p nb cb bb cap tcap X w1 k t w' q' ht)) := by
    intro q' Ds' w' a1 a2 a3 a4
    refine hnx q' Ds' w' a1 ?_ a3 a4
    rw [R.step, HPk.out]
    exact a2
   have HWq : Hid (WR w1.heap.size p nb cb cap tcap (k : Int) X (wr.alloc (.cells #[.int .i64 th, .int .i64 dr] 76)) qq Dq) := Wq
   clear hth hdr hBa HH HB hnx Wq Mq hPb
   go_upto_region 6 with fail
   rw [← hn0]
   clear hn0
   generalize wr.alloc (.cells #[.int .i64 th, .int .i64 dr] 76) = wp at *
   have hsc : ∀ i, wp.cell? ⟨w.heap.size, i, none⟩ = (#[.int .i64 c.t, .int .i64 c.wd, .int .i64 c.s, .int .i64 c.g, .int .i64 c.r, .int .i64 c.cp, .int .i64 c.f, .slice ma mem.length mc, .slice ja jobs.length jc] : Array Value)[i]? := ((HSb.out).below HBa.out (by omega)).cell
   have hpc := (HPb.out).cell
   clear hq0 hq1
   go_wp2_with fail
   clear hsc hpc
   refine (HC.out).mono ?_
   rintro e w5 ⟨rfl, q', Ds', W5, M5, G5, N5⟩
   have hP5 : Blk w5 n0 76 #[.int .i64 th, .int .i64 dr] := (goes_blk HWq.out G5 HPb.out (by decide) (by decide) (by decide) (by decide) (by decide) (by decide) (by decide)).trans HPb.out
   have hcase := HNx.out q' Ds' w5 W5 M5 G5 N5
   obtain ⟨a, ha⟩ : ∃ a, a = (gStep R.c R.jobs (R.g k) ((k : Int) + 1) ⟨th, dr⟩).2 := ⟨_, rfl⟩
   rw [← ha] at hcase ⊢
   clear ha W5 M5 G5 N5 HC HNx HBa HPb HWq HPk
   obtain ⟨ak, ac, az, ap⟩ := a
   have hBc : Below w5.heap.size w5 (w5.alloc (.cells #[.int .i64 ak, .int .i64 ac, .int .i64 az, .int .i64 ap] 158)) := (Below.refl _ _).alloc (Nat.le_refl _) _
   rcases hcase with ⟨h0, H5⟩ | ⟨h0, t, ht, hth, H5⟩
   ·have hbn : (ak != 0) = false := by simpa using h0
    have H6 : Hid (HI R w1.heap.size p nb cb bb cap tcap X w1 (k + 1) (w5.alloc (.cells #[.int .i64 ak, .int .i64 ac, .int .i64 az, .int .i64 ap] 158))) := H5.below hBc
    clear H5 hBc hP5 h0
    go_wp2_with fail
    go_roundg (gk - 1)
    case rel => exact ⟨k + 1, by simp, by omega, by omega, H6⟩
    case measure => omega
   ·have hbn : (ak != 0) = true := by simpa using h0
    have H6 := H5.below hBc
    obtain ⟨m1, m2, A, B, hT⟩ := H5.cells
    obtain ⟨_, _, A', B', hT'⟩ := H6.cells
    have hcbl : cb < w5.heap.size := H5.cbl
    have hcbn : cb ≠ w5.heap.size := by omega
    have hnl : n0 < w5.heap.size := hP5.lt
    have hnn : n0 ≠ w5.heap.size := by omega
    have hpc5 := hP5.cell
    have ht0 : (0 : Int) ≤ th := by omega
    have ht1 : th < (q'.length : Int) := by omega
    have hto : th.toNat = t := by omega
    obtain ⟨T, hT0⟩ : ∃ T, T = q'[t].1 := ⟨_, rfl⟩
    obtain ⟨L, hL0⟩ : ∃ L, L = q'[t].2 := ⟨_, rfl⟩
    have hC := t_told hT'
    rw [← hT0, ← hL0] at hC
    have HC : Hid (Calls Tryz.prog 106 #[.pointer (some ⟨p, t * 47, none⟩)] (w5.alloc (.cells #[.int .i64 ak, .int .i64 ac, .int .i64 az, .int .i64 ap] 158)) fun e w' => e = .returned (.agg #[.int .i64 T.aTh, .int .i64 T.aJob, .int .i64 T.aStart, .int .i64 T.aEnd, .int .i64 T.valid, .int .i64 T.aStamp, .int .i64 T.aFate, .slice L.na T.notes.length L.nc]) ∧ Below (w5.alloc (.cells #[.int .i64 ak, .int .i64 ac, .int .i64 az, .int .i64 ap] 158)).heap.size (w5.alloc (.cells #[.int .i64 ak, .int .i64 ac, .int .i64 az, .int .i64 ap] 158)) w') := hC
    have H6' : Hid (Go.Proofs.YtejadojilncbjabGreat.HP R w1.heap.size p nb cb bb cap tcap X w1 k t (w5.alloc (.cells #[.int .i64 ak, .int .i64 ac, .int .i64 az, .int .i64 ap] 158)) q' ht) := H6
    have HTL : Hid (T = q'[t].1 ∧ L = q'[t].2) := ⟨hT0, hL0⟩
    clear H5 H6 hT hT' hC hT0 hL0 hBc hP5 h0 m2 hth
    go_wp2_with fail
    clear m1 hpc5 hbn
    refine (HC.out).mono ?_
    rintro e w7 ⟨rfl, hb7⟩
    have H7 := (H6'.out).below hb7
    obtain ⟨_, m7, _⟩ := H7.cells
    have hc7 : cb < w7.heap.size := H7.cbl
    have hcn7 : cb ≠ w7.heap.size := by omega
    have hE := (H7.below ((Below.refl w7.heap.size w7).alloc (Nat.le_refl _) (.cells #[.int .i64 T.aTh, .int .i64 T.aJob, .int .i64 T.aStart, .int .i64 T.aEnd, .int .i64 T.valid, .int .i64 T.aStamp, .int .i64 T.aFate, .slice L.na T.notes.length L.nc] 82))).enter HBb.out (by omega)
    rw [← (HTL.out).1, ← (HTL.out).2] at hE
    have HE : Hid (Calls Tryz.prog 107 #[.pointer (some ⟨bb, 0, none⟩), .agg #[.int .i64 T.aTh, .int .i64 T.aJob, .int .i64 T.aStart, .int .i64 T.aEnd, .int .i64 T.valid, .int .i64 T.aStamp, .int .i64 T.aFate, .slice L.na T.notes.length L.nc], .int .i64 ((k : Int) + 1)] (w7.alloc (.cells #[.int .i64 T.aTh, .int .i64 T.aJob, .int .i64 T.aStart, .int .i64 T.aEnd, .int .i64 T.valid, .int .i64 T.aStamp, .int .i64 T.aFate, .slice L.na T.notes.length L.nc] 82)) fun e w' => e = .returned (.tuple #[]) ∧ HI R w1.heap.size p nb cb bb cap tcap X w1 (k + 1) w') := hE
    clear hE H7 hb7 HC H6' HTL
    go_wp2_with fail
    clear m7
    refine (HE.out).mono ?_
    rintro e w9 ⟨rfl, h9⟩
    have H9 : Hid (HI R w1.heap.size p nb cb bb cap tcap X w1 (k + 1) w9) := h9
    clear h9 HE
    go_wp2_with fail
    go_roundg (gk - 1)
    case rel => exact ⟨k + 1, by simp, by omega, by omega, H9⟩
    case measure => omega
  ·have hkj : k = ps.length := by omega
   subst hkj
   have hk2 : ¬ ((ps.length : Int) < (ps.length : Int)) := by omega
   obtain ⟨q2, Ds2, AN, lat, ba, bc, W, M, B, A, N, I, L⟩ := HH.out
   have b0 : wr.cell? ⟨bb, 0, none⟩ = some (.slice ba AN.length bc) := by rw [B.1.cell]; rfl
   have hRl : R.ps.length = ps.length := by rw [HR.out]
   have HA : Hid (AN.map (·.1) = R.hist ∧ AttsRow wr w.heap.size ba bc AN ∧ NotesOf wr AN ∧ Below w.heap.size w wr) := by
    refine ⟨?_, ownsRow_low A (HB1.out).size, N.of, (HB1.out).trans (L.mono (HB1.out).size)⟩
    rw [← hRl] at I
    exact I.hist HO.out
   clear W M B A N I L HH HB hRl
   go_wp2_with fail
   go_ret
   exact ⟨ba, bc, AN, (HA.out).1, rfl, (HA.out).2⟩
theorem setup_rep (c : Cfg) (mem : List Int) (jobs : List (Int × List InsD)) (ma ja : Option Addr) (mc jc : Nat) (w : World) (hml : mem.length ≤ maxLen) (hjl : jobs.length ≤ maxLen) (hm : Ints w w.heap.size ma mem) (hj : JobsRep w w.heap.size ja jobs) :
  Calls Tryz.prog 32 #[.agg #[.int .i64 c.t, .int .i64 c.wd, .int .i64 c.s, .int .i64 c.g, .int .i64 c.r, .int .i64 c.cp, .int .i64 c.f, .slice ma mem.length mc, .slice ja jobs.length jc]] w fun e w' =>
   e = .returned (.int .i64 (errS c mem jobs)) ∧ Below w.heap.size w w' := by
 obtain ⟨js, h1, h2, h3⟩ := hj
 have := setup_core c.t c.wd c.s c.g c.r c.cp c.f ma mem.length mc mem ja jobs.length jc js w rfl hml hm h1 hjl h2
 rw [show (⟨c.t, c.wd, c.s, c.g, c.r, c.cp, c.f⟩ : Cfg) = c from rfl, check_err h1 (fun i hi => ⟨(h3 i hi).1, (h3 i hi).2.1⟩)] at this
 exact this
def NumsGood : Prop := ∀ {c : Cfg} {mem : List Int} {jobs : List (Int × List InsD)} (S : SetupOk c mem jobs) (ps : List PickD) (hps : ps.length ≤ 2 ^ 21) (ma ja pa : Option Addr) (mc jc pc : Nat) (w : World)
  (hm : Ints w w.heap.size ma mem) (hj : JobsRep w w.heap.size ja jobs) (hp : PicksIn w w.heap.size pa ps),
  Calls Tryz.prog 34 #[.agg #[.int .i64 c.t, .int .i64 c.wd, .int .i64 c.s, .int .i64 c.g, .int .i64 c.r, .int .i64 c.cp, .int .i64 c.f, .slice ma mem.length mc, .slice ja jobs.length jc], .slice pa ps.length pc] w fun e w' =>
   ∃ (la : Option Addr) (lc : Nat), e = .returned (.slice la (cellsOf c mem jobs ps).length lc) ∧ Ints w' w'.heap.size la (cellsOf c mem jobs ps) ∧ Below w.heap.size w w'
set_option maxRecDepth 100000 in
set_option maxHeartbeats 4000000 in
theorem cellsGood_of (G : NumsGood) : CellsGood := by
 intro c mem jobs ps ma ja pa mc jc pc w hps hml hjl hm hj hp
 have HG : Hid NumsGood := G
 have HM : Hid (Ints w w.heap.size ma mem) := hm
 have HJ : Hid (JobsRep w w.heap.size ja jobs) := hj
 have HP : Hid (PicksIn w w.heap.size pa ps) := hp
 have HPS : Hid (ps.length ≤ 2 ^ 21) := hps
 obtain ⟨L, HL⟩ : ∃ L, Hid (cellsA c mem jobs ps = L) := ⟨_, rfl⟩
 obtain ⟨ER, HER⟩ : ∃ ER, Hid (errS c mem jobs = ER) := ⟨_, rfl⟩
 rw [show cellsA c mem jobs ps = L from HL.out, show errS c mem jobs = ER from HER.out]
 clear hm hj hp hps G
 go_enter Tryz.func10, Tryz.ntmps10
 go_wp2_with fail
 obtain ⟨w0, hw0⟩ : ∃ w0, w0 = w.alloc (.cells #[.int .i64 c.t, .int .i64 c.wd, .int .i64 c.s, .int .i64 c.g, .int .i64 c.r, .int .i64 c.cp, .int .i64 c.f, .slice ma mem.length mc, .slice ja jobs.length jc] 27) := ⟨_, rfl⟩
 have hB0 : Below w.heap.size w w0 := by rw [hw0]; exact (Below.refl w.heap.size w).alloc (Nat.le_refl _) _
 have hSb : Blk w0 w.heap.size 27 #[.int .i64 c.t, .int .i64 c.wd, .int .i64 c.s, .int .i64 c.g, .int .i64 c.r, .int .i64 c.cp, .int .i64 c.f, .slice ma mem.length mc, .slice ja jobs.length jc] := by rw [hw0]; exact Blk.new w 27 _
 have hs0 : w0.heap.size = w.heap.size + 1 := by rw [hw0]; simp
 rw [← hw0]
 clear hw0
 refine (setup_rep c mem jobs ma ja mc jc w0 hml hjl ((HM.out).up hB0) ((HJ.out).up2 hB0)).mono ?_
 rintro e w1 ⟨rfl, hb1⟩
 have hB1 : Below w.heap.size w w1 := hB0.trans (hb1.mono hB0.size)
 have hsc : ∀ i, w1.cell? ⟨w.heap.size, i, none⟩ = (#[.int .i64 c.t, .int .i64 c.wd, .int .i64 c.s, .int .i64 c.g, .int .i64 c.r, .int .i64 c.cp, .int .i64 c.f, .slice ma mem.length mc, .slice ja jobs.length jc] : Array Value)[i]? := (hSb.below hb1 (by omega)).cell
 have HB1 : Hid (Below w.heap.size w w1) := hB1
 have HM1 : Hid (Ints w1 w1.heap.size ma mem) := (HM.out).up hB1
 have HJ1 : Hid (JobsRep w1 w1.heap.size ja jobs) := (HJ.out).up2 hB1
 have HP1 : Hid (PicksIn w1 w1.heap.size pa ps) := (HP.out).up2 hB1
 clear hB0 hSb hs0 hb1 hB1 HM HJ HP
 rw [show errS c mem jobs = ER from HER.out]
 by_cases he : ER = 0
 ·have hbn : (ER != 0) = false := by simp [he]
  have HLe : Hid (L = cellsOf c mem jobs ps) := (HL.out).symm.trans (if_pos ((HER.out).trans he))
  have HSo : Hid (SetupOk c mem jobs) := (errS_ok ((HER.out).trans he)).1
  have HE0 : Hid (ER = 0) := he
  clear he HL HER
  go_wp2_with fail
  refine ((HG.out) HSo.out ps HPS.out ma ja pa mc jc pc w1 HM1.out HJ1.out HP1.out).mono ?_
  rintro e w2 ⟨la, lc, rfl, hl2, hb2⟩
  have HL2 : Hid (Ints w2 w2.heap.size la (cellsOf c mem jobs ps)) := hl2
  have HB2 : Hid (Below w.heap.size w w2) := (HB1.out).trans (hb2.mono (HB1.out).size)
  clear hl2 hb2 hsc hbn
  go_wp2
  exact bodyPost_ret (v := .tuple #[.slice la (cellsOf c mem jobs ps).length lc, .int .i64 0]) (by simp [results, Tryz.results10, go_sem]) rfl ⟨la, lc, by rw [HLe.out, HE0.out], by rw [HLe.out]; exact HL2.out, HB2.out⟩
 ·have hbn : (ER != 0) = true := by simp [he]
  have HLe : Hid (L = []) := (HL.out).symm.trans (if_neg (by rw [HER.out]; exact he))
  clear he HL HER hsc
  go_wp2
  exact bodyPost_ret (v := .tuple #[.slice none 0 0, .int .i64 ER]) (by simp [results, Tryz.results10, go_sem]) rfl ⟨none, 0, by rw [HLe.out]; rfl, by rw [HLe.out]; exact fun i hi => absurd hi (by simp), HB1.out⟩
def HistoryGood : Prop := ∀ (c : Cfg) (mem : List Int) (jobs : List (Int × List InsD)) (ps : List PickD) (ma ja pa : Option Addr) (mc jc pc : Nat) (w : World), ps.length ≤ 2 ^ 23 → mem.length ≤ maxLen → jobs.length ≤ maxLen →
  Ints w w.heap.size ma mem → JobsRep w w.heap.size ja jobs → PicksIn w w.heap.size pa ps →
  Calls Tryz.prog 30 #[.agg #[.int .i64 c.t, .int .i64 c.wd, .int .i64 c.s, .int .i64 c.g, .int .i64 c.r, .int .i64 c.cp, .int .i64 c.f, .slice ma mem.length mc, .slice ja jobs.length jc], .slice pa ps.length pc] w (HistIs w (histA c mem jobs ps) (errS c mem jobs))
set_option maxRecDepth 100000 in
set_option maxHeartbeats 4000000 in
theorem historyGood : HistoryGood := by
 intro c mem jobs ps ma ja pa mc jc pc w hps hml hjl hm hj hp
 have HM : Hid (Ints w w.heap.size ma mem) := hm
 have HJ : Hid (JobsRep w w.heap.size ja jobs) := hj
 have HP : Hid (PicksIn w w.heap.size pa ps) := hp
 have HPS : Hid (ps.length ≤ 2 ^ 23) := hps
 obtain ⟨L, HL⟩ : ∃ L, Hid (histA c mem jobs ps = L) := ⟨_, rfl⟩
 obtain ⟨ER, HER⟩ : ∃ ER, Hid (errS c mem jobs = ER) := ⟨_, rfl⟩
 rw [show histA c mem jobs ps = L from HL.out, show errS c mem jobs = ER from HER.out]
 clear hm hj hp hps
 go_enter Tryz.func30, Tryz.ntmps30
 go_wp2_with fail
 obtain ⟨w0, hw0⟩ : ∃ w0, w0 = w.alloc (.cells #[.int .i64 c.t, .int .i64 c.wd, .int .i64 c.s, .int .i64 c.g, .int .i64 c.r, .int .i64 c.cp, .int .i64 c.f, .slice ma mem.length mc, .slice ja jobs.length jc] 27) := ⟨_, rfl⟩
 have hB0 : Below w.heap.size w w0 := by rw [hw0]; exact (Below.refl w.heap.size w).alloc (Nat.le_refl _) _
 have hSb : Blk w0 w.heap.size 27 #[.int .i64 c.t, .int .i64 c.wd, .int .i64 c.s, .int .i64 c.g, .int .i64 c.r, .int .i64 c.cp, .int .i64 c.f, .slice ma mem.length mc, .slice ja jobs.length jc] := by rw [hw0]; exact Blk.new w 27 _
 have hs0 : w0.heap.size = w.heap.size + 1 := by rw [hw0]; simp
 rw [← hw0]
 clear hw0
 refine (setup_rep c mem jobs ma ja mc jc w0 hml hjl ((HM.out).up hB0) ((HJ.out).up2 hB0)).mono ?_
 rintro e w1 ⟨rfl, hb1⟩
 have hB1 : Below w.heap.size w w1 := hB0.trans (hb1.mono hB0.size)
 have hsc : ∀ i, w1.cell? ⟨w.heap.size, i, none⟩ = (#[.int .i64 c.t, .int .i64 c.wd, .int .i64 c.s, .int .i64 c.g, .int .i64 c.r, .int .i64 c.cp, .int .i64 c.f, .slice ma mem.length mc, .slice ja jobs.length jc] : Array Value)[i]? := (hSb.below hb1 (by omega)).cell
 have HB1 : Hid (Below w.heap.size w w1) := hB1
 have HM1 : Hid (Ints w1 w1.heap.size ma mem) := (HM.out).up hB1
 have HJ1 : Hid (JobsRep w1 w1.heap.size ja jobs) := (HJ.out).up2 hB1
 have HP1 : Hid (PicksIn w1 w1.heap.size pa ps) := (HP.out).up2 hB1
 clear hB0 hSb hs0 hb1 hB1 HM HJ HP
 rw [show errS c mem jobs = ER from HER.out]
 by_cases he : ER = 0
 ·have hbn : (ER != 0) = false := by simp [he]
  have HLe : Hid (L = (⟨c, mem, jobs, ps⟩ : Rn).hist) := (HL.out).symm.trans (if_pos ((HER.out).trans he))
  have HSo : Hid (SetupOk c mem jobs ∧ ∀ j ∈ jobs, 0 ≤ j.1 ∧ j.1 < c.t) := errS_ok ((HER.out).trans he)
  have HE0 : Hid (ER = 0) := he
  clear he HL HER
  go_wp2_with fail
  refine (playHistory_any (HSo.out).1 ps HPS.out ma ja pa mc jc pc w1 HM1.out HJ1.out HP1.out).mono ?_
  rintro e w2 ⟨la, lc, AN, hAN, rfl, hl2, hn2, hb2⟩
  have HL2 : Hid (AttsRow w2 w.heap.size la lc AN) := ownsRow_low hl2 (HB1.out).size
  have HN2 : Hid (NotesOf w2 AN) := hn2
  have HAN : Hid (AN.map (·.1) = (⟨c, mem, jobs, ps⟩ : Rn).hist) := hAN
  have HB2 : Hid (Below w.heap.size w w2) := (HB1.out).trans (hb2.mono (HB1.out).size)
  clear hl2 hb2 hsc hbn hn2 hAN
  go_wp2
  exact bodyPost_ret (v := .tuple #[.slice la AN.length lc, .int .i64 0]) (by simp [results, Tryz.results30, go_sem]) rfl ⟨la, lc, AN, by rw [HLe.out]; exact HAN.out, by rw [HE0.out], HL2.out, HN2.out, HB2.out⟩
 ·have hbn : (ER != 0) = true := by simp [he]
  have HLe : Hid (L = []) := (HL.out).symm.trans (if_neg (by rw [HER.out]; exact he))
  clear he HL HER hsc
  go_wp2
  exact bodyPost_ret (v := .tuple #[.slice none 0 0, .int .i64 ER]) (by simp [results, Tryz.results30, go_sem]) rfl ⟨none, 0, [], by rw [HLe.out]; rfl, rfl, World.ownsRow_nil _ _ _ _, fun q hq => absurd hq (by simp), HB1.out⟩
def howN (c : Cfg) (mem : List Int) (jobs : List (Int × List InsD)) : Int := if errS c mem jobs = 0 then 2 else 1
end Go.Proofs.YtejadojilncbjabGreat
