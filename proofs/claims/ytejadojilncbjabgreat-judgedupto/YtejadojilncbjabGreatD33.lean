import Derived.Test.YtejadojilncbjabGreatD32
namespace Go.Proofs.YtejadojilncbjabGreat
open Go.RowKit
set_option linter.unusedVariables false
attribute [local go_sem ↓] Go.wp_at_zero Go.wp_at_succ
structure SimW (c : Cfg) (jobs : List (Int × List InsD)) (k : Int) (g : Gs) (q : List (PT × Ls)) (Ds : List Int) : Prop where
 len : (q.length : Int) = c.t
 dl : (Ds.length : Int) = total c
 dv : ∀ x : Nat, x < Ds.length → Ds.getD x 0 = g.m x
 sim : ∀ (i : Nat) (h : i < q.length), Sim (cxOf c jobs i) q[i].1 (g.th i)
 own : ∀ i (h : i < q.length), Own5 k q[i].1
 gok : GOk c jobs k g
theorem Own5.mono {k k' : Int} {t : PT} (O : Own5 k t) (h : k ≤ k') : Own5 k' t := ⟨⟨O.fails.1, by have := O.fails.2; omega⟩, O.mine, O.cur, O.rest, by have := O.notes; omega⟩
theorem gstep_th {c : Cfg} {jobs : List (Int × List InsD)} {g : Gs} {n : Int} {pk : PickD} (h : 0 ≤ pk.thread ∧ pk.thread < c.t) : (gStep c jobs g n pk).1.th pk.thread = hNext (cxOf c jobs pk.thread) (g.th pk.thread) ⟨(gAcc c jobs g pk.thread).seen, pk.draw, n⟩ := by
 unfold gStep
 rw [if_pos h]
 simp
theorem gstep_other {c : Cfg} {jobs : List (Int × List InsD)} {g : Gs} {n : Int} {pk : PickD} {t : Int} (h : t ≠ pk.thread) : (gStep c jobs g n pk).1.th t = g.th t := by
 unfold gStep
 split
 ·simp [h]
 ·rfl
theorem SimW.next {c : Cfg} (hc : cfgB c = true) {jobs : List (Int × List InsD)} {k : Int} (hk : 0 ≤ k) {g : Gs} {q : List (PT × Ls)} {Ds Ds' : List Int} (M : SimW c jobs k g q Ds) (i : Nat) (hi : i < q.length) (n draw : Int) {t' : PT} {L' : Ls}
  (hs : Sim (cxOf c jobs i) t' (hNext (cxOf c jobs i) (g.th i) ⟨(gAcc c jobs g i).seen, draw, n⟩)) (ho : Own5 (k + 1) t') (hl : Ds'.length = Ds.length) (hd : ∀ x : Nat, x < Ds'.length → Ds'.getD x 0 = (gStep c jobs g n ⟨i, draw⟩).1.m x) :
  SimW c jobs (k + 1) (gStep c jobs g n ⟨i, draw⟩).1 (q.set i (t', L')) Ds' := by
 have hr : 0 ≤ (i : Int) ∧ (i : Int) < c.t := ⟨by omega, by have := M.len; omega⟩
 refine ⟨by rw [List.length_set]; exact M.len, by rw [hl]; exact M.dl, hd, ?_, ?_, gstep_ok hc hk M.gok n ⟨i, draw⟩⟩
 ·intro j hj
  have hj' : j < q.length := by simpa using hj
  by_cases e : i = j
  ·subst e
   rw [List.getElem_set_self]
   rw [show (gStep c jobs g n ⟨(i : Int), draw⟩).1.th (i : Int) = _ from gstep_th (pk := ⟨(i : Int), draw⟩) hr]
   exact hs
  ·rw [List.getElem_set_ne e, gstep_other (pk := ⟨(i : Int), draw⟩) (show (j : Int) ≠ (i : Int) by omega)]
   exact M.sim j hj'
 ·intro j hj
  have hj' : j < q.length := by simpa using hj
  by_cases e : i = j
  ·subst e
   rw [List.getElem_set_self]
   exact ho
  ·rw [List.getElem_set_ne e]
   exact (M.own j hj').mono (by omega)
theorem kind_ok {K : Cx} {k : Int} {h : Th} (A : ThOk K k h) (h1 : h.st ≠ .idle) (h2 : ∀ n, h.st ≠ .rest n) : 1 ≤ (hOut K h).kind ∧ (hOut K h).kind ≤ 4 := by
 have hx := A.step
 obtain ⟨hrank, hfails, hlist, hends, hjob, x, st⟩ := h
 cases st with
 | idle => exact absurd rfl h1
 | rest n => exact absurd rfl (h2 n)
 | xVer e c r => cases r with
  | nil => exact absurd rfl (show ExOk K e ∧ (0 ≤ c ∧ c ≤ k) ∧ RdOk K [] from hx).2.2.1
  | cons y r => simp [hOut]
 | cVer c r => cases r with
  | nil => exact absurd rfl (show (0 ≤ c ∧ c ≤ k) ∧ RdOk K [] from hx).2.1
  | cons y r => simp [hOut]
 | cShut c r => cases r with
  | nil => exact absurd rfl (show (0 ≤ c ∧ c ≤ k) ∧ HdOk K [] from hx).2.1
  | cons y r => simp [hOut]
 | cWord c r => cases r with
  | nil => exact absurd rfl (show (0 ≤ c ∧ c ≤ k) ∧ WrOk K [] from hx).2.1
  | cons y r => simp [hOut]
 | cOpen c r => cases r with
  | nil => exact absurd rfl (show (0 ≤ c ∧ c ≤ k) ∧ HdOk K [] from hx).2.1
  | cons y r => simp [hOut]
 | cOwn c r => cases r with
  | nil => exact absurd rfl (show (0 ≤ c ∧ c ≤ k) ∧ HdOk K [] from hx).2.1
  | cons y r => simp [hOut]
 | free e r => cases r with
  | nil => exact absurd rfl (show HdOk K [] from hx).1
  | cons y r => simp [hOut]
 | fOwn r => cases r with
  | nil => exact absurd rfl (show HdOk K [] from hx).1
  | cons y r => simp [hOut]
 | _ => simp [hOut]
theorem sim_fails {K : Cx} {t : PT} {h : Th} (S : Sim K t h) (hn : h.st ≠ .idle) : h.fails = t.fails := by
 rcases S with ⟨q, _⟩ | ⟨_, b, _⟩ | ⟨n, _, b, _⟩ | ⟨n, _, b, _⟩ | ⟨b, _⟩
 ·exact absurd q hn
 ·exact b.fails.symm
 ·exact b.fails.symm
 ·exact b.fails.symm
 ·exact b.1.fails.symm
theorem sim_order {K : Cx} {t : PT} {h : Th} (S : Sim K t h) (h1 : h.st ≠ .idle) (h2 : ∀ n, h.st ≠ .rest n) : t.order = hOut K h := by
 rcases S with ⟨q, _⟩ | ⟨q, _, _, _, o⟩ | ⟨n, q, _⟩ | ⟨n, q, _, _, _, o⟩ | ⟨_, o, _⟩
 ·exact absurd q h1
 ·rw [o]; unfold hOut; rw [q]
 ·exact absurd q (h2 n)
 ·rw [o]; unfold hOut; rw [q]
 ·exact o
theorem RunI.mono {K : Cx} {code : List InsD} {k k' : Int} {t : PT} {h : Th} (r : RunI K code k t h) (hk : k ≤ k') : RunI K code k' t h := ⟨r.b, r.g, ⟨⟨r.a.rank.1, Int.le_trans r.a.rank.2 hk⟩, r.a.x.mono hk⟩, r.c⟩
def OwnW (q : List (PT × Ls)) (k : Nat) : Prop := ∃ (j : Nat) (h : j < q.length), Own q[j].2 k
structure GoesW (p nb cb : Nat) (q : List (PT × Ls)) (w : World) (q' : List (PT × Ls)) (w' : World) : Prop where
 os : w'.os = w.os
 tape : w'.tape = w.tape
 output : w'.output = w.output
 size : w.heap.size ≤ w'.heap.size
 block : ∀ k, k < w.heap.size → k ≠ p → k ≠ nb → k ≠ cb → ¬ OwnW q k → w'.heap[k]? = w.heap[k]?
 own : ∀ k, OwnW q' k → OwnW q k ∨ w.heap.size ≤ k
theorem GoesW.trans {p nb cb : Nat} {q q' q'' : List (PT × Ls)} {w w' w'' : World} (h : GoesW p nb cb q w q' w') (k : GoesW p nb cb q' w' q'' w'') : GoesW p nb cb q w q'' w'' :=
 ⟨k.os.trans h.os, k.tape.trans h.tape, k.output.trans h.output, Nat.le_trans h.size k.size,
     fun i hi hp hn hc ho => (k.block i (Nat.lt_of_lt_of_le hi h.size) hp hn hc (fun q => by rcases h.own i q with q | q; exact ho q; omega)).trans (h.block i hi hp hn hc ho),
     fun i hi => by
      rcases k.own i hi with q | q
      ·exact h.own i q
      ·exact Or.inr (Nat.le_trans h.size q)⟩
theorem GoesW.below {p nb cb : Nat} {q : List (PT × Ls)} {w w' : World} (h : Below w.heap.size w w') : GoesW p nb cb q w q w' := ⟨h.os, h.tape, h.output, h.size, fun k a _ _ _ _ => h.block k a, fun k o => Or.inl o⟩
theorem GoesW.fresh {p nb cb rb : Nat} {q q' : List (PT × Ls)} {w w' w'' : World} (h : GoesW p nb cb q w q' w') (k : Only rb w' w'') (hr : w.heap.size ≤ rb) : GoesW p nb cb q w q' w'' :=
 ⟨k.os.trans h.os, k.tape.trans h.tape, k.output.trans h.output, Nat.le_trans h.size k.size, fun i hi hp hn hc ho => (k.block i (Nat.lt_of_lt_of_le hi h.size) (by omega)).trans (h.block i hi hp hn hc ho), h.own⟩
theorem GoesN.toW {p nb cb : Nat} {q : List (PT × Ls)} {w w' : World} {i : Nat} (hi : i < q.length) {t' : PT} {L' : Ls} (h : GoesN p nb q[i].2 w L' w') : GoesW p nb cb q w (q.set i (t', L')) w' :=
 ⟨h.os, h.tape, h.output, h.size, fun k a b c _ d => h.block k a b c (fun o => d ⟨i, hi, o⟩), fun k ⟨j, hj, o⟩ => by
     have hj' : j < q.length := by simpa using hj
     by_cases e : i = j
     ·subst e
      rw [List.getElem_set_self] at o
      rcases h.own k o with o | o
      ·exact Or.inl ⟨i, hi, o⟩
      ·exact Or.inr o
     ·rw [List.getElem_set_ne e] at o
      exact Or.inl ⟨j, hj', o⟩⟩
theorem WR.ownW {base p nb cb cap tcap : Nat} {pn : Int} {X : List Value} {w : World} {q : List (PT × Ls)} {Ds : List Int} (W : WR base p nb cb cap tcap pn X w q Ds) (k : Nat) (h : OwnW q k) : base ≤ k ∧ k < w.heap.size := by
 obtain ⟨j, hj, o⟩ := h
 exact (W.rows j hj).own k o
theorem GoesW.low {base p nb cb cap tcap : Nat} {pn : Int} {X : List Value} {q q' : List (PT × Ls)} {w w' : World} {Ds : List Int} (h : GoesW p nb cb q w q' w') (W : WR base p nb cb cap tcap pn X w q Ds) : Below base w w' :=
 ⟨h.os, h.tape, h.output, h.size, fun k hk => h.block k (by have := W.bs; omega) (by have := W.pb; omega) (by have := W.nbb; omega) (by have := W.cbb; omega) (fun o => by have := W.ownW k o; omega)⟩
structure NGo (i kind : Int) (q q' : List (PT × Ls)) (w w' : World) : Prop where
 len : q'.length = q.length
 other : ∀ j (h : j < q.length) (h' : j < q'.length), (j : Int) ≠ i → q'[j] = q[j]
 none : kind = 0 → ∀ j (h : j < q.length) (h' : j < q'.length), q'[j].2 = q[j].2 ∧ q'[j].1.told = q[j].1.told
 fresh : kind ≠ 0 → ∀ j (h : j < q.length) (h' : j < q'.length), (j : Int) = i → q[j].1.step = 2 → ∀ k, oB q[j].2.na = some k → ¬ Own q'[j].2 k ∧ w'.heap[k]? = w.heap[k]?
theorem NGo.of {q : List (PT × Ls)} {w w' : World} {i : Nat} (hi : i < q.length) {kind : Int} {t' : PT} {L' : Ls} (h0 : kind = 0 → L' = q[i].2 ∧ t'.told = q[i].1.told) (h1 : kind ≠ 0 → q[i].1.step = 2 → ∀ k, oB q[i].2.na = some k → ¬ Own L' k ∧ w'.heap[k]? = w.heap[k]?) : NGo i kind q (q.set i (t', L')) w w' := by
 refine ⟨by simp, ?_, ?_, ?_⟩
 ·intro j h h' hne
  rw [List.getElem_set_ne (by omega)]
 ·intro hk j h h'
  by_cases e : i = j
  ·subst e
   rw [List.getElem_set_self]
   exact h0 hk
  ·rw [List.getElem_set_ne e]
   exact ⟨rfl, rfl⟩
 ·intro hk j h h' e
  have e' : i = j := by omega
  subst e'
  rw [List.getElem_set_self]
  exact h1 hk
def OneIs (base p nb cb cap tcap : Nat) (pn : Int) (X : List Value) (c : Cfg) (jobs : List (Int × List InsD)) (k : Int) (g : Gs) (n : Int) (pk : PickD) (q : List (PT × Ls)) (w : World) (e : Ending) (w' : World) : Prop :=
 e = .returned (.agg #[.int .i64 (gStep c jobs g n pk).2.kind, .int .i64 (gStep c jobs g n pk).2.cell, .int .i64 (gStep c jobs g n pk).2.seen, .int .i64 (gStep c jobs g n pk).2.put]) ∧
  (∃ q' Ds', WR base p nb cb cap tcap pn X w' q' Ds' ∧ SimW c jobs (k + 1) (gStep c jobs g n pk).1 q' Ds' ∧ GoesW p nb cb q w q' w' ∧ NGo pk.thread (gStep c jobs g n pk).2.kind q q' w w')
set_option maxHeartbeats 4000000 in
theorem t_one {base p nb cb cap tcap : Nat} {pn : Int} {X : List Value} {w : World} {c : Cfg} (hc : cfgB c = true) {jobs : List (Int × List InsD)} {k : Int} (hk : 0 ≤ k ∧ k < 2 ^ 30) {g : Gs} {q : List (PT × Ls)} {Ds : List Int} (W : WR base p nb cb cap tcap pn X w q Ds) (M : SimW c jobs k g q Ds)
  (i : Nat) (hi : i < q.length) (n draw : Int) (ja : Option Addr) (jc : Nat) (hjr : JobsRep w base ja jobs) (hcl : ∀ j ∈ jobs, j.2.length ≤ 20) :
  Calls Tryz.prog 122 #[.pointer (some ⟨p, i * 47, none⟩), .slice ja jobs.length jc, .pointer (some ⟨cb, 0, none⟩), .int .i64 n, .int .i64 draw] w (OneIs base p nb cb cap tcap pn X c jobs k g n ⟨i, draw⟩ q w) := by
 have hr : 0 ≤ (i : Int) ∧ (i : Int) < c.t := ⟨by omega, by have := M.len; omega⟩
 have S := M.sim i hi
 have A : ThOk (cxOf c jobs i) k (g.th i) := M.gok.th i hr.1 hr.2
 have O := M.own i hi
 have R := W.tr i hi
 have hpn : p ≠ nb := Blk.ne W.thr W.num (by decide)
 have hcn : cb ≠ nb := Blk.ne W.wst W.num (by decide)
 have hm : 0 ≤ (cxOf c jobs i).me ∧ (cxOf c jobs i).me < (cxOf c jobs i).c.t := hr
 have hcp := (cfgB_true hc).2.2.2.2.2.1
 generalize hqt : q[i].1 = t at *
 generalize hqL : q[i].2 = L at *
 have hown : ∀ k', Own L k' → base ≤ k' := fun k' o => (R.own k' o).1
 have hnoL : ¬ Own L nb := by rw [← hqL]; exact W.nown i hi
 by_cases hid : (g.th i).st = .idle
 ·have hs0 : t.step = 0 := by
   rcases S with ⟨_, h0, _⟩ | ⟨h0, _⟩ | ⟨m, h0, _⟩ | ⟨m, h0, _⟩ | ⟨_, _, h0⟩
   ·exact h0
   ·rw [hid] at h0; cases h0
   ·rw [hid] at h0; cases h0
   ·rw [hid] at h0; cases h0
   ·rw [hid] at h0; exact h0.elim
  have hout : hOut (cxOf c jobs i) (g.th i) = ⟨0, 0, 0, 0⟩ := by unfold hOut; rw [hid]
  have hacc : gAcc c jobs g i = noAcc := by unfold gAcc; rw [hout]; rfl
  have hg2 : (gStep c jobs g n ⟨(i : Int), draw⟩).2 = noAcc := by unfold gStep; rw [if_pos hr]; exact hacc
  have hgm : (gStep c jobs g n ⟨(i : Int), draw⟩).1.m = g.m := by unfold gStep; rw [if_pos hr]; simp only; rw [hout]; rfl
  have hnx : hNext (cxOf c jobs i) (g.th i) ⟨(gAcc c jobs g i).seen, draw, n⟩ = g.th i := by unfold hNext; rw [hid]
  refine (t_pickIdle base p nb (i * 47) _ _ t L w R hs0 Ds W.num ja jobs.length jc cb 0 n draw).mono ?_
  rintro e w' ⟨h1, ⟨L', R', G', Z0, Z1⟩, N'⟩
  refine ⟨by rw [hg2]; exact h1, ⟨_, Ds, W.picked i hi R' (by rw [hqL]; exact G') N' rfl, M.next hc hk.1 i hi n draw ?_ (O.mono (by omega)) rfl (by rw [hgm]; exact M.dv), GoesN.toW hi (by rw [hqL]; exact G'), NGo.of hi ?_ ?_⟩⟩
  ·rw [hnx]
   exact S
  ·intro _; rw [hqL, hqt]; exact ⟨Z0 rfl, rfl⟩
  ·intro q; rw [hg2] at q; exact absurd rfl q
 by_cases hrs : ∃ m, (g.th i).st = .rest m
 ·obtain ⟨m, hrs⟩ := hrs
  obtain ⟨hb, hrm, hm0, hst⟩ : Bas (cxOf c jobs i) t (g.th i) ∧ t.rest = m ∧ 0 < m ∧ t.step = 2 := by
   rcases S with ⟨h0, _⟩ | ⟨h0, _⟩ | ⟨m', h0, b, h1, h2, h3, _⟩ | ⟨m', h0, _⟩ | ⟨_, _, h0⟩
   ·exact absurd h0 hid
   ·rw [hrs] at h0; cases h0
   ·rw [hrs] at h0; cases h0; exact ⟨b, h1, h2, h3⟩
   ·rw [hrs] at h0; cases h0
   ·rw [hrs] at h0; exact h0.elim
  have hout : hOut (cxOf c jobs i) (g.th i) = ⟨0, 0, 0, 0⟩ := by unfold hOut; rw [hrs]
  have hacc : gAcc c jobs g i = noAcc := by unfold gAcc; rw [hout]; rfl
  have hg2 : (gStep c jobs g n ⟨(i : Int), draw⟩).2 = noAcc := by unfold gStep; rw [if_pos hr]; exact hacc
  have hgm : (gStep c jobs g n ⟨(i : Int), draw⟩).1.m = g.m := by unfold gStep; rw [if_pos hr]; simp only; rw [hout]; rfl
  have hps := pick_sim (K := cxOf c jobs i) hc hm hk.1 A (by rw [sim_fails S hid]; exact O.fails.1) S ⟨(gAcc c jobs g i).seen, draw, n⟩ (by rw [hout]; intro q; exact absurd rfl q)
  have hyp : yPick (cxOf c jobs i).jobs (gAcc c jobs g i).seen (putV (hOut (cxOf c jobs i) (g.th i)) (gAcc c jobs g i).seen) n draw t = { t with rest := t.rest - 1 } := by unfold yPick; rw [if_neg (by omega), if_pos (by omega)]
  refine (t_pickRest base p nb (i * 47) _ _ t L w R (by omega) (by omega) (by have := O.rest; omega) hpn Ds W.num ja jobs.length jc cb 0 n draw).mono ?_
  rintro e w' ⟨h1, ⟨L', R', G', Z0, Z1⟩, N'⟩
  refine ⟨by rw [hg2]; exact h1, ⟨_, Ds, W.picked i hi R' (by rw [hqL]; exact G') N' rfl, M.next hc hk.1 i hi n draw ?_ ?_ rfl (by rw [hgm]; exact M.dv), GoesN.toW hi (by rw [hqL]; exact G'), NGo.of hi ?_ ?_⟩⟩
  rotate_left 2
  ·intro _; rw [hqL, hqt]; exact ⟨Z0 rfl, rfl⟩
  ·intro q; rw [hg2] at q; exact absurd rfl q
  ·rw [← hyp]; exact hps
  ·have := O.rest
   exact ⟨⟨O.fails.1, by have := O.fails.2; show t.fails ≤ k + 1; omega⟩, O.mine, O.cur, by show t.rest - 1 ≤ 8; omega, by have := O.notes; show (t.notes.length : Int) ≤ 60 * (k + 1); omega⟩
 ·have hrn : ∀ m, (g.th i).st ≠ .rest m := fun m q => hrs ⟨m, q⟩
  have hko := kind_ok A hid hrn
  obtain ⟨hcr, _⟩ := ask_ok (K := cxOf c jobs i) hc hm hk.1 A (by omega)
  have hord := sim_order S hid hrn
  obtain ⟨cn, hcn'⟩ := Int.eq_ofNat_of_zero_le hcr.1
  have hcD : cn < Ds.length := by have := M.dl; have := hcr.2; have h3 : total (cxOf c jobs i).c = total c := rfl; omega
  have hseen : (gAcc c jobs g i).seen = g.m cn := by unfold gAcc accBy; rw [if_neg (by omega), hcn']
  have hvok : VOk c k (hOut (cxOf c jobs i) (g.th i)).cell (gAcc c jobs g i).seen := by rw [hseen, hcn']; exact M.gok.m _ (by omega) (by have := M.dl; omega)
  have hbd := VOk.bd hc hk.1 hvok hcr.1 hcr.2
  have hg2 : (gStep c jobs g n ⟨(i : Int), draw⟩).2 = gAcc c jobs g i := by unfold gStep; rw [if_pos hr]
  have hgm : (gStep c jobs g n ⟨(i : Int), draw⟩).1.m = wr g.m (hOut (cxOf c jobs i) (g.th i)) := by unfold gStep; rw [if_pos hr]; simp only; rw [if_neg (by omega)]
  have hacc : gAcc c jobs g i = ⟨(hOut (cxOf c jobs i) (g.th i)).kind, (hOut (cxOf c jobs i) (g.th i)).cell, (gAcc c jobs g i).seen, putV (hOut (cxOf c jobs i) (g.th i)) (gAcc c jobs g i).seen⟩ := by unfold gAcc accBy; rw [if_neg (by omega)]
  have D : Side (cxOf c jobs i) k t := ⟨⟨hk.1, by omega⟩, hm, O.fails, O.mine, O.cur, by have := O.notes; omega⟩
  have hfh : 0 ≤ (g.th i).fails := by rw [sim_fails S hid]; exact O.fails.1
  have F := fall_of hc A S D hid hrn ⟨(gAcc c jobs g i).seen, draw, n⟩ hvok hcr
  have G := follow_sim (K := cxOf c jobs i) hc hm hk.1 A hfh S ⟨(gAcc c jobs g i).seen, draw, n⟩ (fun _ => hvok)
  rcases G with G | ⟨m, G⟩ | ⟨hs0, hr0, hb, G⟩
  ·exact absurd G hid
  ·exact absurd G (hrn m)
  have hbc : t.c = c := hb.c
  have O1 : Own6 (k + 1) (yFollow (gAcc c jobs g i).seen (putV (hOut (cxOf c jobs i) (g.th i)) (gAcc c jobs g i).seen) n draw t) := own5_follow O hk.1 _ _ _ _ (by rw [hbc]; exact hcp) (fun _ => (drop_cons3 hb.mine).2.1)
  have hjob := mine_at hb
  have hjl : (g.th i).job < jobs.length := hb.jlt
  have hjm : t.mine.getD t.cur 0 = ((g.th i).job : Int) := getD_drop hb.mine
  have hcode : (jobs.getD (g.th i).job (0, [])).2.length ≤ 20 := by
   rw [show jobs.getD (g.th i).job (0, []) = jobs[(g.th i).job] from by simp [List.getD, List.getElem?_eq_getElem hjl]]
   exact hcl _ (List.getElem_mem hjl)
  have hkk : (hOut (cxOf c jobs i) (g.th i)) = ⟨(hOut (cxOf c jobs i) (g.th i)).kind, (cn : Int), (hOut (cxOf c jobs i) (g.th i)).frm, (hOut (cxOf c jobs i) (g.th i)).to⟩ := by
   rw [← show (hOut (cxOf c jobs i) (g.th i)).cell = (cn : Int) from hcn']
  have hws : w.cell? ⟨cb, 0, none⟩ = some (.slice (some ⟨nb, 0, none⟩) Ds.length cap) := by rw [W.wst.cell]; rfl
  refine (t_pickGo (K := cxOf c jobs i) (k := k + 1) base p nb (i * 47) _ _ t L w hc R hs0 hr0 W.bs W.pb W.nbb hpn hnoL Ds W.num ja jc cb 0 cap n draw hws hcn (g.th i).job (drop_cons3 hb.mine).2.1 hjm hjl hjr _ rfl hcode
      (hOut (cxOf c jobs i) (g.th i)).kind (hOut (cxOf c jobs i) (g.th i)).frm (hOut (cxOf c jobs i) (g.th i)).to cn (by rw [hord]; exact hkk) hko hcD (gAcc c jobs g i).seen (putV (hOut (cxOf c jobs i) (g.th i)) (gAcc c jobs g i).seen)
      (by rw [M.dv cn hcD, hseen]) (by rw [← hkk]) hbd.1 (by have := hbd.2; omega) F ?_ ⟨⟨by omega, by omega⟩, hm, O1.fails, O1.mine, O1.cur, by have := O1.notes; omega⟩ (by have := O1.notes; omega)).mono ?_
  ·intro hs1
   rcases G with G | ⟨_, h1, r1, _⟩
   ·exact absurd hs1 G.step_ne
   ·exact ⟨h1, r1.mono (by omega)⟩
  ·rintro e w' ⟨h1, ⟨L', R', G', Z0, Z1⟩, N'⟩
   have hps : Sim (cxOf c jobs i) (yTurns (jobs.getD (g.th i).job (0, [])).2 yRounds (yFollow (gAcc c jobs g i).seen (putV (hOut (cxOf c jobs i) (g.th i)) (gAcc c jobs g i).seen) n draw t)) (hNext (cxOf c jobs i) (g.th i) ⟨(gAcc c jobs g i).seen, draw, n⟩) := G.sim hc
   refine ⟨?_, ⟨_, _, W.picked i hi R' (by rw [hqL]; exact G') N' (by simp), M.next hc hk.1 i hi n draw hps (own5_turns O1) (by simp) ?_, GoesN.toW hi (by rw [hqL]; exact G'), NGo.of hi ?_ ?_⟩⟩
   rotate_left 2
   ·intro q
    exact absurd q (by rw [hg2, hacc]; show ¬ (hOut (cxOf c jobs i) (g.th i)).kind = 0; omega)
   ·intro _ q
    rw [hqL]
    rw [hqt] at q
    exact Z1 (by show (hOut (cxOf c jobs i) (g.th i)).kind ≠ 0; omega) q
   ·rw [h1, hg2]
    rw [hacc]
    simp only
    rw [hcn']
   ·intro x hx
    rw [hgm]
    rw [List.length_set] at hx
    by_cases e : x = cn
    ·subst e
     rw [show ((x : Nat) : Int) = (hOut (cxOf c jobs i) (g.th i)).cell from hcn'.symm, wr_at]
     simp [List.getD, List.getElem?_set_self hx, hseen, hcn']
    ·rw [wr_off (show (x : Int) ≠ (hOut (cxOf c jobs i) (g.th i)).cell by rw [hcn']; intro q; exact e (by have : (x : Int) = (cn : Int) := q; omega))]
     have := M.dv x hx
     simp only [List.getD, List.getElem?_set_ne (Ne.symm e)]
     exact this
end Go.Proofs.YtejadojilncbjabGreat
