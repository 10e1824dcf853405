import Derived.Test.YtejadojilncbjaaGreatG47
import Derived.Test.YtejadojilncbjaaGreatG40
import Derived.Test.YtejadojilncbjaaGreatG42
import Derived.Test.YtejadojilncbjaaGreatG46
import Derived.Test.YtejadojilncbjaaGreatG43
import Derived.Test.YtejadojilncbjaaGreatG28
namespace Go.Proofs.YtejadojilncbjaaGreat
open Go.RowKit
set_option linter.unusedVariables false
def Nts (w : World) (q : List (PT × Ls)) (lat : List Int) (AN : List (AttD × Value)) : Prop :=
 ∀ (m : Nat) (x : AttD × Value), AN[m]? = some x → w.ownsRow 0 95 3 x.2 x.1.notes.length (x.1.notes.flatMap noteCells) ∧
  ∀ k, x.2.ownBlock = some k → OwnW q k → ∃ (j : Nat) (h : j < q.length), lat.getD j 0 = (m : Int) ∧ x.2 = .slice q[j].2.na q[j].1.notes.length q[j].2.nc ∧ x.1.notes = q[j].1.notes
theorem Nts.of {w : World} {q : List (PT × Ls)} {lat : List Int} {AN : List (AttD × Value)} (h : Nts w q lat AN) : NotesOf w AN := fun x hx => by
 obtain ⟨m, hm⟩ := List.mem_iff_getElem?.1 hx
 exact (h m x hm).1
theorem Nts.keep {chg : List TypeId} {B p eb : Nat} {w w' : World} {q : List (PT × Ls)} {lat : List Int} {AN : List (AttD × Value)} (h : Nts w q lat AN) (hk : Kp chg B p eb w w') (ht : 95 ∉ chg) : Nts w' q lat AN := fun m x hx => ⟨ownsRow_keep (h m x hx).1 hk ht, (h m x hx).2⟩
theorem WR.keep {chg : List TypeId} {B p' eb base p nb cb cap tcap : Nat} {pn : Int} {X : List Value} {w w' : World} {q : List (PT × Ls)} {Ds : List Int} (W : WR base p nb cb cap tcap pn X w q Ds) (hk : Kp chg B p' eb w w') (h1 : 175 ∉ chg) (h2 : 180 ∉ chg) (h3 : 3 ∉ chg) (h4 : 119 ∉ chg) (h5 : 106 ∉ chg) (h6 : 95 ∉ chg) (h7 : 84 ∉ chg) : WR base p nb cb cap tcap pn X w' q Ds :=
 ⟨W.thr.keep hk h4, fun i hi => ⟨ownsRow_keep (W.rows i hi).rd hk h1, ownsRow_keep (W.rows i hi).wr hk h2, ownsRow_keep (W.rows i hi).hd hk h3, ownsRow_keep (W.rows i hi).mi hk h3, (W.rows i hi).ne, ownsRow_keep (W.rows i hi).nt hk h6, ownsRow_keep (W.rows i hi).sr hk h7⟩, W.dis, W.num.keep hk h3, W.nown, W.wst.keep hk h5, W.pb, W.nbb, W.cbb, Nat.le_trans W.bs hk.size⟩
section
variable {base p nb cb cap tcap : Nat} {pn pn' : Int} {X : List Value} {w w' : World} {q q' : List (PT × Ls)} {Ds Ds' lat : List Int} {AN : List (AttD × Value)} {th kind : Int}
theorem free_same (W : WR base p nb cb cap tcap pn X w q Ds) (G : GoesW p nb cb q w q' w') {v : Value} {n : Nat} {xs : List Value} (h : w.ownsRow 0 95 3 v n xs) (hf : ∀ k, v.ownBlock = some k → ¬ OwnW q k) : w'.ownsRow 0 95 3 v n xs ∧ ∀ k, v.ownBlock = some k → ¬ OwnW q' k :=
 ⟨ownsRow_same h fun k hk => G.block k (h.lt k hk).2 (own_tag h W.thr (by decide) k hk) (own_tag h W.num (by decide) k hk) (own_tag h W.wst (by decide) k hk) (hf k hk), fun k hk o => by
     rcases G.own k o with o | o
     ·exact hf k hk o
     ·have := (h.lt k hk).2; omega⟩
theorem nts_old (W : WR base p nb cb cap tcap pn X w q Ds) (W' : WR base p nb cb cap tcap pn' X w' q' Ds') (G : GoesW p nb cb q w q' w') (hl : q'.length = q.length) {x : AttD × Value} (h : w.ownsRow 0 95 3 x.2 x.1.notes.length (x.1.notes.flatMap noteCells)) {j : Nat} (hj : j < q.length) (hj' : j < q'.length) (e1 : q'[j].2 = q[j].2) (e2 : q'[j].1.notes = q[j].1.notes)
  (hx : x.2 = .slice q[j].2.na q[j].1.notes.length q[j].2.nc) (hn : x.1.notes = q[j].1.notes) : w'.ownsRow 0 95 3 x.2 x.1.notes.length (x.1.notes.flatMap noteCells) := by
 have h1 := ownsRow_low (W'.rows j hj').nt (Nat.zero_le base)
 rw [e1, e2] at h1
 rw [hx, hn]
 exact h1
theorem Nts.none (W : WR base p nb cb cap tcap pn X w q Ds) (W' : WR base p nb cb cap tcap pn' X w' q' Ds') (G : GoesW p nb cb q w q' w') (N : NGo th kind q q' w w') (h0 : kind = 0) (h : Nts w q lat AN) : Nts w' q' lat AN := fun m x hx => by
 obtain ⟨h1, h2⟩ := h m x hx
 by_cases hf : ∀ k, x.2.ownBlock = some k → ¬ OwnW q k
 ·obtain ⟨a, b⟩ := free_same W G h1 hf
  exact ⟨a, fun k hk o => absurd o (b k hk)⟩
 ·obtain ⟨k, hk⟩ := Classical.not_forall.1 hf
  obtain ⟨hk1, hk2⟩ := Classical.not_imp.1 hk
  obtain ⟨j, hj, e1, e2, e3⟩ := h2 k hk1 (Classical.not_not.1 hk2)
  have hj' : j < q'.length := by rw [N.len]; exact hj
  obtain ⟨n1, n2⟩ := N.none h0 j hj hj'
  have n3 : q'[j].1.notes = q[j].1.notes := congrArg AttD.notes n2
  exact ⟨nts_old W W' G N.len h1 hj hj' n1 n3 e2 e3, fun k' _ _ => ⟨j, hj', e1, by rw [n1, n3]; exact e2, by rw [n3]; exact e3⟩⟩
theorem Nts.mod (W : WR base p nb cb cap tcap pn X w q Ds) (W' : WR base p nb cb cap tcap pn' X w' q' Ds') (G : GoesW p nb cb q w q' w') (N : NGo th kind q q' w w') (h : Nts w q lat AN) (t m0 : Nat) (ht : (t : Int) = th) (htq : t < q'.length) (hm : m0 < AN.length) (hlat : lat.getD t 0 = (m0 : Int)) (z : AttD) (hz : z.notes = q'[t].1.notes) :
  Nts w' q' lat (AN.set m0 (z, .slice q'[t].2.na q'[t].1.notes.length q'[t].2.nc)) := fun m x hx => by
 rw [List.getElem?_set] at hx
 by_cases e : m0 = m
 ·rw [if_pos e, if_pos hm] at hx
  cases hx
  refine ⟨?_, fun k _ _ => ⟨t, htq, by rw [hlat, e], rfl, hz⟩⟩
  simp only
  rw [hz]
  exact ownsRow_low (W'.rows t htq).nt (Nat.zero_le base)
 ·rw [if_neg e] at hx
  obtain ⟨h1, h2⟩ := h m x hx
  by_cases hf : ∀ k, x.2.ownBlock = some k → ¬ OwnW q k
  ·obtain ⟨a, b⟩ := free_same W G h1 hf
   exact ⟨a, fun k hk o => absurd o (b k hk)⟩
  ·obtain ⟨k, hk⟩ := Classical.not_forall.1 hf
   obtain ⟨hk1, hk2⟩ := Classical.not_imp.1 hk
   obtain ⟨j, hj, e1, e2, e3⟩ := h2 k hk1 (Classical.not_not.1 hk2)
   have hj' : j < q'.length := by rw [N.len]; exact hj
   have hjt : (j : Int) ≠ th := fun e4 => by
    have : j = t := by omega
    subst this
    rw [hlat] at e1
    omega
   have n0 := N.other j hj hj' hjt
   exact ⟨nts_old W W' G N.len h1 hj hj' (by rw [n0]) (by rw [n0]) e2 e3, fun k' _ _ => ⟨j, hj', e1, by rw [n0]; exact e2, by rw [n0]; exact e3⟩⟩
theorem Nts.new (W : WR base p nb cb cap tcap pn X w q Ds) (W' : WR base p nb cb cap tcap pn' X w' q' Ds') (G : GoesW p nb cb q w q' w') (N : NGo th kind q q' w w') (h0 : kind ≠ 0) (h : Nts w q lat AN) (t : Nat) (ht : (t : Int) = th) (htq : t < q'.length) (htq0 : t < q.length) (hst : q[t].1.step = 2) (hlt : t < lat.length) (z : AttD) (hz : z.notes = q'[t].1.notes) :
  Nts w' q' (lat.set t (AN.length : Int)) (AN ++ [(z, .slice q'[t].2.na q'[t].1.notes.length q'[t].2.nc)]) := fun m x hx => by
 by_cases e : m < AN.length
 ·rw [List.getElem?_append_left e] at hx
  obtain ⟨h1, h2⟩ := h m x hx
  by_cases hf : ∀ k, x.2.ownBlock = some k → ¬ OwnW q k
  ·obtain ⟨a, b⟩ := free_same W G h1 hf
   exact ⟨a, fun k hk o => absurd o (b k hk)⟩
  ·obtain ⟨k, hk⟩ := Classical.not_forall.1 hf
   obtain ⟨hk1, hk2⟩ := Classical.not_imp.1 hk
   obtain ⟨j, hj, e1, e2, e3⟩ := h2 k hk1 (Classical.not_not.1 hk2)
   have hj' : j < q'.length := by rw [N.len]; exact hj
   by_cases hjt : (j : Int) = th
   ·have : j = t := by omega
    subst this
    have hna : oB q[j].2.na = some k := by rw [← hk1, e2, oB_eq]
    obtain ⟨f1, f2⟩ := N.fresh h0 j hj hj' hjt hst k hna
    refine ⟨ownsRow_same h1 fun k' hk' => ?_, fun k' hk' o => ?_⟩
    ·have : k' = k := by rw [hk1] at hk'; exact (Option.some.inj hk').symm
     subst this
     exact f2
    ·have : k' = k := by rw [hk1] at hk'; exact (Option.some.inj hk').symm
     subst this
     obtain ⟨i, hi, oi⟩ := o
     exfalso
     by_cases hij : i = j
     ·subst hij; exact f1 oi
     ·have hi0 : i < q.length := by rw [← N.len]; exact hi
      rw [N.other i hi0 hi (by omega)] at oi
      exact W.dis i j hi0 hj hij k' oi (naOwn hna)
   ·have n0 := N.other j hj hj' hjt
    have hjn : t ≠ j := by omega
    exact ⟨nts_old W W' G N.len h1 hj hj' (by rw [n0]) (by rw [n0]) e2 e3, fun k' _ _ => ⟨j, hj', by rw [← e1]; simp [List.getD, hjn], by rw [n0]; exact e2, by rw [n0]; exact e3⟩⟩
 ·rw [List.getElem?_append_right (by omega)] at hx
  have hm : m = AN.length := by
   have := (List.getElem?_eq_some_iff.1 hx).1
   simp at this
   omega
  subst hm
  simp at hx
  subst hx
  refine ⟨?_, fun k _ _ => ⟨t, htq, by simp [List.getD, hlt], rfl, hz⟩⟩
  simp only
  rw [hz]
  exact ownsRow_low (W'.rows t htq).nt (Nat.zero_le base)
end
theorem modLast_nil {l : List AttD} {f : AttD → AttD} (h : modLast l f = []) : l = [] := by
 have := congrArg List.length h
 unfold modLast at this
 rw [List.length_modify] at this
 exact List.length_eq_zero_iff.1 this
theorem list_st (R : Rn) (t : Int) (t0 : 0 ≤ t) (t1 : t < R.c.t) : ∀ k : Nat, ((R.g k).th t).list = [] → ((R.g k).th t).st = .start ∨ ((R.g k).th t).st = .idle
 | 0, _ => by
  show (hTo (R.K t) 0 _).st = _ ∨ (hTo (R.K t) 0 _).st = _
  unfold hTo
  split
  ·exact Or.inl rfl
  ·exact Or.inr rfl
 | k + 1, h => by
  by_cases hp : (R.pk k).thread = t
  ·rw [R.at k hp t0 t1] at h ⊢
   by_cases hs : ((R.g k).th t).st = .start
   ·obtain ⟨a, e, _⟩ := lm_start (R.K t) ((R.g k).th t) ⟨(accBy (R.g k).m (R.out k t)).seen, (R.pk k).draw, (k : Int) + 1⟩ hs
    rw [e] at h
    simp at h
   ·obtain ⟨f, _, e⟩ := lm_next (R.K t) ((R.g k).th t) ⟨(accBy (R.g k).m (R.out k t)).seen, (R.pk k).draw, (k : Int) + 1⟩ hs
    rw [e] at h
    rcases list_st R t t0 t1 k (modLast_nil h) with h1 | h1
    ·exact absurd h1 hs
    ·refine Or.inr ?_
     unfold hNext
     rw [h1]
     exact h1
  ·rw [R.off k hp] at h ⊢
   exact list_st R t t0 t1 k h
theorem hne_at (R : Rn) (k : Nat) (t : Int) (t0 : 0 ≤ t) (t1 : t < R.c.t) (h1 : ((R.g k).th t).st ≠ .start) (h2 : (R.out k t).kind ≠ 0) : ((R.g k).th t).list ≠ [] := fun h => by
 rcases list_st R t t0 t1 k h with e | e
 ·exact h1 e
 ·apply h2
  show (hOut _ _).kind = 0
  unfold hOut
  rw [e]
theorem sim_step2 {K : Cx} {t : PT} {h : Th} (S : Sim K t h) (hs : h.st = .start) : t.step = 2 := by
 rcases S with ⟨q, _⟩ | ⟨_, _, _, q, _⟩ | ⟨n, q, _⟩ | ⟨n, q, _⟩ | ⟨_, _, q⟩
 ·rw [hs] at q; cases q
 ·exact q
 ·rw [hs] at q; cases q
 ·rw [hs] at q; cases q
 ·rw [hs] at q; exact q.elim
theorem start_of {R : Rn} (O : R.Ok) {k t : Nat} (ht : (R.pk k).thread = (t : Int)) (t1 : (t : Int) < R.c.t) {z : AttD} (hz : ((R.g (k + 1)).th (t : Int)).list.getLast? = some z) (hk : z.start = (k : Int) + 1) : ((R.g k).th (t : Int)).st = .start := by
 refine Classical.byContradiction fun hs => ?_
 obtain ⟨f, hf, e1⟩ := lm_next (R.K (t : Int)) ((R.g k).th (t : Int)) ⟨(accBy (R.g k).m (R.out k (t : Int))).seen, (R.pk k).draw, (k : Int) + 1⟩ hs
 rw [← R.at k ht (by omega) t1] at e1
 by_cases hn : ((R.g k).th (t : Int)).list = []
 ·rw [e1, hn] at hz
  simp [modLast] at hz
 ·obtain ⟨l0, y, hy⟩ := snoc_of hn
  rw [e1, hy, modLast_snoc] at hz
  simp at hz
  subst hz
  have A := la_t k (t : Int) (by omega) t1 (show y ∈ ((R.g k).th (t : Int)).list from by rw [hy]; simp)
  have := A.s2
  rw [(hf y).1] at hk
  omega
theorem thread_of {R : Rn} (O : R.Ok) {k : Nat} {t : Int} (t0 : 0 ≤ t) (t1 : t < R.c.t) {z : AttD} (hz : ((R.g k).th t).list.getLast? = some z) : z.thread = t := (la_t k t t0 t1 (List.mem_of_getLast? hz)).thr
theorem srt_len {l : List AttD} (h : Srt l) {k : Nat} (hb : ∀ a ∈ l, 1 ≤ a.start ∧ a.start ≤ (k : Int)) : l.length ≤ k := by
 have := starts_len (l.map (·.start)) 0 k (by rw [List.pairwise_map]; exact h) (fun x hx => by
     obtain ⟨a, ha, rfl⟩ := List.mem_map.1 hx
     have := hb a ha
     omega) (by omega)
 simp at this
 omega
theorem BkI.len {R : Rn} (O : R.Ok) {k : Nat} {l : List AttD} {lat : List Int} (h : BkI R k l lat) : l.length ≤ k := srt_len h.srt fun a ha => by
 obtain ⟨t, t0, t1, ht⟩ := (h.mem a).1 ha
 have A := la_t k t t0 t1 ht
 exact ⟨A.s1, A.s2⟩
theorem hist_len {R : Rn} (O : R.Ok) : R.hist.length ≤ R.ps.length := srt_len (histL_srt R) fun a ha => by
 obtain ⟨t, t0, t1, ht⟩ := histL_mem.1 ha
 have A := la_t _ t t0 t1 ht
 exact ⟨A.s1, A.s2⟩
theorem BkI.zero (R : Rn) : BkI R 0 [] [0, 0, 0, 0] := by
 have e : ∀ t, ((R.g 0).th t).list = [] := fun t => by
  show (hTo (R.K t) 0 _).list = _
  rw [l_to]
 refine ⟨List.Pairwise.nil, fun a => ?_, fun t _ z hz => ?_⟩
 ·constructor
  ·intro h; cases h
  ·rintro ⟨t, _, _, h⟩; rw [e t] at h; cases h
 ·rw [e] at hz; cases hz
end Go.Proofs.YtejadojilncbjaaGreat
namespace Go.Proofs.YtejadojilncbjaaGreat
open Go.RowKit
set_option linter.unusedVariables false
attribute [local go_sem ↓] Go.wp_at_zero Go.wp_at_succ
theorem av_set (l : List (AttD × Value)) (k : Nat) (hk : k < l.length) (q : AttD × Value) : (l.set k q).flatMap avCells = ((((((((l.flatMap avCells).set (k * 8) (.int .i64 q.1.thread)).set (k * 8 + 1) (.int .i64 q.1.job)).set (k * 8 + 2) (.int .i64 q.1.start)).set (k * 8 + 3) (.int .i64 q.1.fin)).set (k * 8 + 4) (.int .i64 q.1.valid)).set (k * 8 + 5) (.int .i64 q.1.stamp)).set (k * 8 + 6) (.int .i64 q.1.fate)).set (k * 8 + 7) q.2 := by
 have hl := av_len l
 apply List.ext_getElem?
 intro j
 obtain ⟨i, s, hs, rfl⟩ : ∃ i s, s < 8 ∧ j = i * 8 + s := ⟨j / 8, j % 8, by omega, by omega⟩
 rw [flat_at (f := avCells) (n := 8) (fun _ => rfl) _ i s hs]
 simp only [List.getElem?_set, List.length_set, hl]
 by_cases hi : i = k
 ·subst hi
  rw [if_pos rfl, if_pos hk]
  have : s = 0 ∨ s = 1 ∨ s = 2 ∨ s = 3 ∨ s = 4 ∨ s = 5 ∨ s = 6 ∨ s = 7 := by omega
  rcases this with rfl | rfl | rfl | rfl | rfl | rfl | rfl | rfl
  ·rw [if_neg (by omega), if_neg (by omega), if_neg (by omega), if_neg (by omega), if_neg (by omega), if_neg (by omega), if_neg (by omega), if_pos (by omega), if_pos (by omega)]; rfl
  ·rw [if_neg (by omega), if_neg (by omega), if_neg (by omega), if_neg (by omega), if_neg (by omega), if_neg (by omega), if_pos (by omega), if_pos (by omega)]; rfl
  ·rw [if_neg (by omega), if_neg (by omega), if_neg (by omega), if_neg (by omega), if_neg (by omega), if_pos (by omega), if_pos (by omega)]; rfl
  ·rw [if_neg (by omega), if_neg (by omega), if_neg (by omega), if_neg (by omega), if_pos (by omega), if_pos (by omega)]; rfl
  ·rw [if_neg (by omega), if_neg (by omega), if_neg (by omega), if_pos (by omega), if_pos (by omega)]; rfl
  ·rw [if_neg (by omega), if_neg (by omega), if_pos (by omega), if_pos (by omega)]; rfl
  ·rw [if_neg (by omega), if_pos (by omega), if_pos (by omega)]; rfl
  ·rw [if_pos (by omega), if_pos (by omega)]; rfl
 ·rw [if_neg (fun e => hi e.symm), if_neg (by omega), if_neg (by omega), if_neg (by omega), if_neg (by omega), if_neg (by omega), if_neg (by omega), if_neg (by omega), if_neg (by omega), flat_at (f := avCells) (n := 8) (fun _ => rfl) _ i s hs]
set_option maxRecDepth 100000 in
set_option maxHeartbeats 400000 in
theorem enter_old {base q : Nat} {aa : Option Addr} {ac : Nat} {lat : List Int} {AN : List (AttD × Value)} {w : World} (hB : BookB w q aa AN.length ac lat) (hr : AttsRow w base aa ac AN) (hbs : base ≤ w.heap.size) (hq : base ≤ q)
  (x : AttD) (na : Option Addr) (nc : Nat) (num : Int) (k m : Nat) (hk : k < 4) (hth : x.thread = (k : Int)) (hne : x.start ≠ num) (hlat : lat.getD k 0 = (m : Int)) (hm : m < AN.length) :
  Calls Tryz.prog 69 #[.pointer (some ⟨q, 0, none⟩), .agg #[.int .i64 x.thread, .int .i64 x.job, .int .i64 x.start, .int .i64 x.fin, .int .i64 x.valid, .int .i64 x.stamp, .int .i64 x.fate, .slice na x.notes.length nc], .int .i64 num] w fun e w' =>
   e = .returned (.tuple #[]) ∧ (BookB w' q aa AN.length ac lat ∧ AttsRow w' base aa ac (AN.set m (x, .slice na x.notes.length nc))) ∧ Kp [63, 125] base base base w w' := by
 obtain ⟨g, hga, hgb, hgl, _⟩ := hr.cells (by omega)
 subst hga
 obtain ⟨x0, x1, x2, x3, x4, x5, x6, xl⟩ := x
 simp only at hth hne ⊢
 subst hth
 obtain ⟨NN, HNN⟩ : ∃ NN, Hid (xl.length = NN) := ⟨_, rfl⟩
 rw [show xl.length = NN from HNN.out]
 obtain ⟨w0, hw0⟩ : ∃ w0, w0 = w.alloc (.cells #[.int .i64 (k : Int), .int .i64 x1, .int .i64 x2, .int .i64 x3, .int .i64 x4, .int .i64 x5, .int .i64 x6, .slice na NN nc] 63) := ⟨_, rfl⟩
 have hB0 : Below w.heap.size w w0 := by rw [hw0]; exact (Below.refl w.heap.size w).alloc (Nat.le_refl _) _
 have hT0 : Blk w0 w.heap.size 63 #[.int .i64 (k : Int), .int .i64 x1, .int .i64 x2, .int .i64 x3, .int .i64 x4, .int .i64 x5, .int .i64 x6, .slice na NN nc] := by rw [hw0]; exact Blk.new w 63 _
 have hb0 : Blk w0 q 125 (.slice (some ⟨g, 0, none⟩) AN.length ac :: lat.map (.int .i64 ·)).toArray := hB.1.below hB0 hB.1.lt
 have hqc : w0.cell? ⟨q, 0, none⟩ = some (.slice (some ⟨g, 0, none⟩) AN.length ac) := by rw [hb0.cell]; rfl
 have hqk : w0.cell? ⟨q, 1 + k, none⟩ = some (.int .i64 (m : Int)) := by
  rw [hb0.cell, Nat.add_comm, ← hlat]
  have := hB.2
  simp [List.getElem?_eq_getElem (show k < lat.length by omega), List.getD]
 have htc := hT0.cell
 have hk0 : (0 : Int) ≤ (k : Int) := by omega
 have hk4 : (k : Int) < 4 := by omega
 have hm0 : (0 : Int) ≤ (m : Int) := by omega
 have hm1 : (m : Int) < (AN.length : Int) := by omega
 have hnb : (x2 == num) = false := by rw [beq_eq_false_iff_ne]; exact hne
 have HR0 : Hid (w0.ownsRow base 63 8 (.slice (some ⟨g, 0, none⟩) AN.length ac) AN.length (AN.flatMap avCells)) := ownsRow_below hr hB0
 obtain ⟨z, hz⟩ : ∃ z, AN[m]? = some z := ⟨_, List.getElem?_eq_getElem hm⟩
 obtain ⟨g', hg', _, c0, c1, c2, c3, c4, c5, c6, c7⟩ := AttsRow.at (show AttsRow w0 base (some ⟨g, 0, none⟩) ac AN from HR0.out) m z hz
 cases hg'
 obtain ⟨⟨z0, z1, z2, z3, z4, z5, z6, zl⟩, zv⟩ := z
 simp only at c0 c1 c2 c3 c4 c5 c6 c7
 have hgf : ∀ i, w0.frozen? ⟨g, i, none⟩ = false := own_frozen HR0.out
 have hgt : g ≠ w.heap.size := by omega
 have hgq : g ≠ q := own_tag HR0.out hb0 (by decide) g rfl
 go_enter Tryz.func69, Tryz.ntmps69
 go_upto_region 1 with fail
 rw [← hw0]
 have HB0 : Hid (Below w.heap.size w w0) := hB0
 have Hb0 : Hid (Blk w0 q 125 (.slice (some ⟨g, 0, none⟩) AN.length ac :: lat.map (.int .i64 ·)).toArray) := hb0
 have HQ4 : Hid (lat.length = 4) := hB.2
 have HM : Hid (m < AN.length) := hm
 have hbs0 : base ≤ w0.heap.size := Nat.le_trans hbs (HB0.out).size
 clear hw0 hB0 hT0 hb0 hr hB hlat hne hm hz
 go_wp2_with fail
 go_still_tail 13, (by kernel_rfl)
 go_wp2
 go_end0
 have HM8 : Hid (m * 8 + 7 < AN.length * 8) := by show _ < _; have := HM.out; omega
 have hm8 := HM8.out
 obtain ⟨X, hX⟩ : ∃ X, X = AN.flatMap avCells := ⟨_, rfl⟩
 have hr0 : w0.ownsRow base 63 8 (.slice (some ⟨g, 0, none⟩) AN.length ac) AN.length X := by rw [hX]; exact HR0.out
 have hr8 := World.ownsRow.drew (own_set (own_set (own_set (own_set (own_set (own_set (own_set (own_set hr0 (i := m * 8) (by omega) (.int .i64 (k : Int))) (i := m * 8 + 1) (by omega) (.int .i64 x1)) (i := m * 8 + 2) (by omega) (.int .i64 x2)) (i := m * 8 + 3) (by omega) (.int .i64 x3)) (i := m * 8 + 4) (by omega) (.int .i64 x4)) (i := m * 8 + 5) (by omega) (.int .i64 x5)) (i := m * 8 + 6) (by omega) (.int .i64 x6)) (i := m * 8 + 7) (by omega) (.slice na NN nc))
 have hO : Only g w0 ((((((((w0.setCell ⟨g, m * 8, none⟩ (.int .i64 (k : Int))).setCell ⟨g, m * 8 + 1, none⟩ (.int .i64 x1)).setCell ⟨g, m * 8 + 2, none⟩ (.int .i64 x2)).setCell ⟨g, m * 8 + 3, none⟩ (.int .i64 x3)).setCell ⟨g, m * 8 + 4, none⟩ (.int .i64 x4)).setCell ⟨g, m * 8 + 5, none⟩ (.int .i64 x5)).setCell ⟨g, m * 8 + 6, none⟩ (.int .i64 x6)).setCell ⟨g, m * 8 + 7, none⟩ (.slice na NN nc)).drew := (((((((((Only.refl g w0).set).set).set).set).set).set).set).set).drew
 obtain ⟨gc, gcap, gcur, gv, gb, gg, _⟩ := own_block HR0.out (by have := HM.out; omega)
 injection gv with gv1
 cases gv1
 have K1 : Kp [63, 125] base base base w w0 := Kp.below HB0.out hbs
 have K2 := Kp.only (chg := [63, 125]) (B := base) (p := base) (eb := base) hO hbs0 gg (by simp) (Or.inr (Or.inr hgb))
 refine ⟨rfl, ⟨⟨(Hb0.out).only hO (Ne.symm hgq), HQ4.out⟩, ?_⟩, K1.trans K2⟩
 show World.ownsRow _ _ _ _ _ _ _
 rw [List.length_set, av_set AN m HM.out, ← hX]
 exact hr8
end Go.Proofs.YtejadojilncbjaaGreat
namespace Go.Proofs.YtejadojilncbjaaGreat
open Go.RowKit
set_option linter.unusedVariables false
def HI (R : Rn) (base p nb cb bb cap tcap : Nat) (X : List Value) (w0 : World) (k : Nat) (w : World) : Prop :=
 ∃ (q : List (PT × Ls)) (Ds : List Int) (AN : List (AttD × Value)) (lat : List Int) (ba : Option Addr) (bc : Nat), WR base p nb cb cap tcap k X w q Ds ∧ SimW R.c R.jobs k (R.g k) q Ds ∧ BookB w bb ba AN.length bc lat ∧ AttsRow w base ba bc AN ∧ Nts w q lat AN ∧ BkI R k (AN.map (·.1)) lat ∧ Below base w0 w
def HP (R : Rn) (base p nb cb bb cap tcap : Nat) (X : List Value) (w0 : World) (k t : Nat) (w : World) (q : List (PT × Ls)) (ht : t < q.length) : Prop :=
 ∃ (Ds : List Int) (AN : List (AttD × Value)) (lat : List Int) (ba : Option Addr) (bc : Nat), WR base p nb cb cap tcap ((k : Int) + 1) X w q Ds ∧ SimW R.c R.jobs ((k : Int) + 1) (R.g (k + 1)) q Ds ∧ BookB w bb ba AN.length bc lat ∧ AttsRow w base ba bc AN ∧ Below base w0 w ∧ q[t].1.told.thread = (t : Int) ∧ t < 4 ∧ AN.length ≤ k ∧
  ((q[t].1.told.start = (k : Int) + 1 ∧ BkI R (k + 1) (AN.map (·.1) ++ [q[t].1.told]) (lat.set t (AN.length : Int)) ∧ Nts w q (lat.set t (AN.length : Int)) (AN ++ [(q[t].1.told, .slice q[t].2.na q[t].1.notes.length q[t].2.nc)])) ∨
      (q[t].1.told.start ≠ (k : Int) + 1 ∧ ∃ m : Nat, m < AN.length ∧ lat.getD t 0 = (m : Int) ∧ BkI R (k + 1) ((AN.map (·.1)).set m q[t].1.told) lat ∧ Nts w q lat (AN.set m (q[t].1.told, .slice q[t].2.na q[t].1.notes.length q[t].2.nc))))
theorem own_blk {w : World} {base : Nat} {e : TypeId} {size n : Nat} {v : Value} {xs : List Value} (h : w.ownsRow base e size v n xs) {k : Nat} (hk : v.ownBlock = some k) : ∃ cs, Blk w k e cs := by
 rcases h.2 with ⟨rfl, _⟩ | ⟨g, cap, cur, rfl, hb, hg, rest⟩
 ·simp [Value.ownBlock] at hk
 ·simp [Value.ownBlock] at hk
  subst hk
  exact ⟨cur, hg⟩
section
variable {R : Rn} {base p nb cb bb cap tcap : Nat} {X : List Value} {w0 w w' : World} {k t : Nat} {q q' : List (PT × Ls)} {Ds : List Int} {pn : Int}
theorem goes_blk (W : WR base p nb cb cap tcap pn X w q Ds) (G : GoesW p nb cb q w q' w') {b : Nat} {T : TypeId} {cs : Array Value} (h : Blk w b T cs) (h1 : (175 : Nat) ≠ T) (h2 : (180 : Nat) ≠ T) (h3 : (3 : Nat) ≠ T) (h4 : (119 : Nat) ≠ T) (h5 : (106 : Nat) ≠ T) (h6 : (95 : Nat) ≠ T) (h7 : (84 : Nat) ≠ T) : w'.heap[b]? = w.heap[b]? :=
 G.block b h.lt (Ne.symm (Blk.ne W.thr h h4)) (Ne.symm (Blk.ne W.num h h3)) (Ne.symm (Blk.ne W.wst h h5)) (fun ⟨i, hi, o⟩ => Own_tag (W.rows i hi) h h1 h2 h3 h6 h7 o)
theorem goes_atts (W : WR base p nb cb cap tcap pn X w q Ds) (G : GoesW p nb cb q w q' w') {ba : Option Addr} {bc : Nat} {AN : List (AttD × Value)} (h : AttsRow w base ba bc AN) : AttsRow w' base ba bc AN :=
 ownsRow_same h fun k hk => by
  obtain ⟨cs, hcs⟩ := own_blk h hk
  exact goes_blk W G hcs (by decide) (by decide) (by decide) (by decide) (by decide) (by decide) (by decide)
theorem goes_book (W : WR base p nb cb cap tcap pn X w q Ds) (G : GoesW p nb cb q w q' w') {ba : Option Addr} {bc n : Nat} {lat : List Int} (h : BookB w bb ba n bc lat) : BookB w' bb ba n bc lat :=
 ⟨(goes_blk W G h.1 (by decide) (by decide) (by decide) (by decide) (by decide) (by decide) (by decide)).trans h.1, h.2⟩
theorem kd_in (R : Rn) (k : Nat) (h : 0 ≤ (R.pk k).thread ∧ (R.pk k).thread < R.c.t) : (gStep R.c R.jobs (R.g k) ((k : Int) + 1) (R.pk k)).2.kind = (R.out k (R.pk k).thread).kind := by
 unfold gStep
 rw [if_pos h]
 show (accBy _ (R.out k (R.pk k).thread)).kind = _
 unfold accBy
 split
 ·rename_i e
  rw [e]
  rfl
 ·rfl
theorem kd_out (R : Rn) (k : Nat) (h : ¬ (0 ≤ (R.pk k).thread ∧ (R.pk k).thread < R.c.t)) : (gStep R.c R.jobs (R.g k) ((k : Int) + 1) (R.pk k)).2.kind = 0 := by
 unfold gStep
 rw [if_neg h]
 rfl
theorem HI.pick (O : R.Ok) (h : HI R base p nb cb bb cap tcap X w0 k w) :
  ∃ (q : List (PT × Ls)) (Ds : List Int), WR base p nb cb cap tcap k X w q Ds ∧ SimW R.c R.jobs k (R.g k) q Ds ∧
   ∀ (q' : List (PT × Ls)) (Ds' : List Int) (w' : World), WR base p nb cb cap tcap ((k : Int) + 1) X w' q' Ds' → SimW R.c R.jobs ((k : Int) + 1) (R.g (k + 1)) q' Ds' → GoesW p nb cb q w q' w' → NGo (R.pk k).thread (gStep R.c R.jobs (R.g k) ((k : Int) + 1) (R.pk k)).2.kind q q' w w' →
    ((gStep R.c R.jobs (R.g k) ((k : Int) + 1) (R.pk k)).2.kind = 0 ∧ HI R base p nb cb bb cap tcap X w0 (k + 1) w') ∨
    ((gStep R.c R.jobs (R.g k) ((k : Int) + 1) (R.pk k)).2.kind ≠ 0 ∧ ∃ (t : Nat) (ht : t < q'.length), (R.pk k).thread = (t : Int) ∧ HP R base p nb cb bb cap tcap X w0 k t w' q' ht) := by
 obtain ⟨q, Ds, AN, lat, ba, bc, W, M, B, A, N, I, L⟩ := h
 have hct := (cfgB_true O.c).1
 refine ⟨q, Ds, W, M, fun q' Ds' w' W' M' G Z => ?_⟩
 have B' := goes_book W G B
 have A' := goes_atts W G A
 have L' : Below base w0 w' := L.trans (G.low W)
 rcases I.step O (by rw [B.2]; omega) (fun t t0 t1 => hne_at R k t t0 t1) with ⟨h0, I'⟩ | ⟨t, z, ht, t1, h0, hz, hc⟩
 ·have hk : (gStep R.c R.jobs (R.g k) ((k : Int) + 1) (R.pk k)).2.kind = 0 := by
   by_cases hr : 0 ≤ (R.pk k).thread ∧ (R.pk k).thread < R.c.t
   ·rw [kd_in R k hr]
    rcases h0 with h0 | h0
    ·exact absurd hr h0
    ·exact h0
   ·exact kd_out R k hr
  refine Or.inl ⟨hk, q', Ds', AN, lat, ba, bc, ?_, ?_, B', A', N.none W W' G Z hk, I', L'⟩
  ·rw [show ((k + 1 : Nat) : Int) = (k : Int) + 1 from by simp]; exact W'
  ·rw [show ((k + 1 : Nat) : Int) = (k : Int) + 1 from by simp]; exact M'
 ·have hk : (gStep R.c R.jobs (R.g k) ((k : Int) + 1) (R.pk k)).2.kind ≠ 0 := by
   rw [kd_in R k (by rw [ht]; exact ⟨by omega, t1⟩), ht]
   exact h0
  have htq : t < q'.length := by have := M'.len; omega
  have htq0 : t < q.length := by have := M.len; omega
  have T := ((M'.sim t htq).tol).tl
  have hzt : z = q'[t].1.told := by
   rcases T with T | T
   ·rw [T] at hz; cases hz
   ·rw [T] at hz; exact (Option.some.inj hz).symm
  have hzn : z.notes = q'[t].1.notes := by rw [hzt]; rfl
  have htl : t < lat.length := by rw [B.2]; omega
  have hlen : (AN.map (·.1)).length = AN.length := List.length_map _
  have hzth : z.thread = (t : Int) := thread_of O (by omega) t1 hz
  refine Or.inr ⟨hk, t, htq, ht, Ds', AN, lat, ba, bc, W', M', B', A', L', by rw [← hzt]; exact hzth, by omega, by rw [← hlen]; exact I.len O, ?_⟩
  rw [← hzt]
  rcases hc with ⟨h1, h2⟩ | ⟨h1, m, h2, h3, h4⟩
  ·rw [hlen] at h2
   exact Or.inl ⟨h1, h2, N.new W W' G Z hk t ht.symm htq htq0 (sim_step2 (M.sim t htq0) (start_of O ht t1 hz h1)) htl z hzn⟩
  ·rw [hlen] at h2
   exact Or.inr ⟨h1, m, h2, h3, h4, N.mod W W' G Z t m ht.symm htq h2 h3 z hzn⟩
theorem HI.below (h : HI R base p nb cb bb cap tcap X w0 k w) (hb : Below w.heap.size w w') : HI R base p nb cb bb cap tcap X w0 k w' := by
 obtain ⟨q, Ds, AN, lat, ba, bc, W, M, B, A, N, I, L⟩ := h
 exact ⟨q, Ds, AN, lat, ba, bc, W.below hb, M, ⟨B.1.below hb B.1.lt, B.2⟩, ownsRow_below A hb, N.keep (Kp.below (chg := []) (p := 0) (eb := 0) (B := 0) hb (Nat.zero_le _)) (by simp), I, L.trans (hb.mono W.bs)⟩
theorem HP.below {ht : t < q.length} (h : HP R base p nb cb bb cap tcap X w0 k t w q ht) (hb : Below w.heap.size w w') : HP R base p nb cb bb cap tcap X w0 k t w' q ht := by
 obtain ⟨Ds, AN, lat, ba, bc, W, M, B, A, L, e1, e2, e3, hc⟩ := h
 have K : Kp [] 0 0 0 w w' := Kp.below hb (Nat.zero_le _)
 refine ⟨Ds, AN, lat, ba, bc, W.below hb, M, ⟨B.1.below hb B.1.lt, B.2⟩, ownsRow_below A hb, L.trans (hb.mono W.bs), e1, e2, e3, ?_⟩
 rcases hc with ⟨h1, h2, h3⟩ | ⟨h1, m, h2, h3, h4, h5⟩
 ·exact Or.inl ⟨h1, h2, h3.keep K (by simp)⟩
 ·exact Or.inr ⟨h1, m, h2, h3, h4, h5.keep K (by simp)⟩
theorem HP.enter {ht : t < q.length} (h : HP R base p nb cb bb cap tcap X w0 k t w q ht) (hq : base ≤ bb) (hk : k < 2 ^ 30) :
  Calls Tryz.prog 69 #[.pointer (some ⟨bb, 0, none⟩), .agg #[.int .i64 q[t].1.aTh, .int .i64 q[t].1.aJob, .int .i64 q[t].1.aStart, .int .i64 q[t].1.aEnd, .int .i64 q[t].1.valid, .int .i64 q[t].1.aStamp, .int .i64 q[t].1.aFate, .slice q[t].2.na q[t].1.notes.length q[t].2.nc], .int .i64 ((k : Int) + 1)] w fun e w' =>
   e = .returned (.tuple #[]) ∧ HI R base p nb cb bb cap tcap X w0 (k + 1) w' := by
 obtain ⟨Ds, AN, lat, ba, bc, W, M, B, A, L, e1, e2, e3, hc⟩ := h
 have fin : ∀ (w' : World) (AN' : List (AttD × Value)) (lat' : List Int) (ba' : Option Addr) (bc' : Nat), Kp [63, 125] base base base w w' → BookB w' bb ba' AN'.length bc' lat' → AttsRow w' base ba' bc' AN' → Nts w q lat' AN' → BkI R (k + 1) (AN'.map (·.1)) lat' → HI R base p nb cb bb cap tcap X w0 (k + 1) w' := by
  intro w' AN' lat' ba' bc' K B' A' N' I'
  refine ⟨q, Ds, AN', lat', ba', bc', ?_, ?_, B', A', N'.keep K (by decide), I', ?_⟩
  ·rw [show ((k + 1 : Nat) : Int) = (k : Int) + 1 from by simp]; exact W.keep K (by decide) (by decide) (by decide) (by decide) (by decide) (by decide) (by decide)
  ·rw [show ((k + 1 : Nat) : Int) = (k : Int) + 1 from by simp]; exact M
  ·exact L.trans ⟨K.os, K.tape, K.output, K.size, fun i hi => K.low i hi (by omega) (by omega)⟩
 rcases hc with ⟨h1, h2, h3⟩ | ⟨h1, m, h2, h3, h4, h5⟩
 ·have h0 := enter_new B A W.bs hq (by omega) q[t].1.told q[t].2.na q[t].2.nc t e2 e1
  rw [h1] at h0
  have h1' : q[t].1.aStart = (k : Int) + 1 := h1
  rw [h1']
  refine Calls.mono h0 ?_
  rintro e w' ⟨rfl, ⟨a', c', b1, b2⟩, K⟩
  exact ⟨rfl, fin w' _ _ a' c' K (by rw [List.length_append]; exact b1) b2 h3 (by rw [List.map_append]; exact h2)⟩
 ·refine Calls.mono (enter_old B A W.bs hq q[t].1.told q[t].2.na q[t].2.nc ((k : Int) + 1) t m e2 e1 h1 h3 h2) ?_
  rintro e w' ⟨rfl, ⟨b1, b2⟩, K⟩
  exact ⟨rfl, fin w' _ _ ba bc K (by rw [List.length_set]; exact b1) b2 h5 (by rw [List.map_set]; exact h4)⟩
end
end Go.Proofs.YtejadojilncbjaaGreat
namespace Go.Proofs.YtejadojilncbjaaGreat
open Go.RowKit
set_option linter.unusedVariables false
attribute [local go_sem ↓] Go.wp_at_zero Go.wp_at_succ
set_option maxRecDepth 100000 in
set_option maxHeartbeats 1000000 in
theorem t_told {p z : Nat} {A B : List Value} {t : PT} {L : Ls} {w : World} (hb : TAt w p z A B t L) :
  Calls Tryz.prog 68 #[.pointer (some ⟨p, z, none⟩)] w fun e w' => e = .returned (.agg #[.int .i64 t.aTh, .int .i64 t.aJob, .int .i64 t.aStart, .int .i64 t.aEnd, .int .i64 t.valid, .int .i64 t.aStamp, .int .i64 t.aFate, .slice L.na t.notes.length L.nc]) ∧ Below w.heap.size w w' := by
 obtain ⟨w1, hw1⟩ : ∃ w1, w1 = w.alloc (.cells #[.int .i64 0, .int .i64 0, .int .i64 0, .int .i64 0, .int .i64 0, .int .i64 0, .int .i64 0, .slice none 0 0] 63) := ⟨_, rfl⟩
 have HB1 : Hid (Below w.heap.size w w1) := by rw [hw1]; exact (Below.refl w.heap.size w).alloc (Nat.le_refl _) _
 have HZ : Hid (Blk w1 w.heap.size 63 #[.int .i64 0, .int .i64 0, .int .i64 0, .int .i64 0, .int .i64 0, .int .i64 0, .int .i64 0, .slice none 0 0]) := by rw [hw1]; exact Blk.new w 63 _
 have hb1 : TAt w1 p z A B t L := hb.below HB1.out
 have hlt := hb.lt
 have hpn : p ≠ w.heap.size := by omega
 have h0 : w1.cell? ⟨p, z + 19, none⟩ = some (.int .i64 t.aTh) := hb1.cell 19 (by decide)
 have h1 : w1.cell? ⟨p, z + 19 + 1, none⟩ = some (.int .i64 t.aJob) := hb1.cell 20 (by decide)
 have h2 : w1.cell? ⟨p, z + 19 + 2, none⟩ = some (.int .i64 t.aStart) := hb1.cell 21 (by decide)
 have h3 : w1.cell? ⟨p, z + 19 + 3, none⟩ = some (.int .i64 t.aEnd) := hb1.cell 22 (by decide)
 have h4 : w1.cell? ⟨p, z + 19 + 4, none⟩ = some (.int .i64 t.valid) := hb1.cell 23 (by decide)
 have h5 : w1.cell? ⟨p, z + 19 + 5, none⟩ = some (.int .i64 t.aStamp) := hb1.cell 24 (by decide)
 have h6 : w1.cell? ⟨p, z + 19 + 6, none⟩ = some (.int .i64 t.aFate) := hb1.cell 25 (by decide)
 have h7 : w1.cell? ⟨p, z + 19 + 7, none⟩ = some (.slice L.na t.notes.length L.nc) := hb1.cell 26 (by decide)
 have zc := (HZ.out).cell
 have zf := (HZ.out).frozen
 obtain ⟨g, hg⟩ : ∃ g, g = w.heap.size := ⟨_, rfl⟩
 have HG : Hid (g = w.heap.size) := hg
 go_enter Tryz.func68, Tryz.ntmps68
 go_upto_region 1 with fail
 rw [← hw1, ← hg]
 rw [← hg] at zc zf hpn
 clear hb hb1 hw1 hg hlt
 go_wp2
 have hz : Blk w1 g 63 #[.int .i64 0, .int .i64 0, .int .i64 0, .int .i64 0, .int .i64 0, .int .i64 0, .int .i64 0, .slice none 0 0] := by rw [HG.out]; exact HZ.out
 have h8 := ((((((((hz.set (i := 0) (v := .int .i64 t.aTh)).set (i := 1) (v := .int .i64 t.aJob)).set (i := 2) (v := .int .i64 t.aStart)).set (i := 3) (v := .int .i64 t.aEnd)).set (i := 4) (v := .int .i64 t.valid)).set (i := 5) (v := .int .i64 t.aStamp)).set (i := 6) (v := .int .i64 t.aFate)).set (i := 7) (v := .slice L.na t.notes.length L.nc)).congr (ds := #[.int .i64 t.aTh, .int .i64 t.aJob, .int .i64 t.aStart, .int .i64 t.aEnd, .int .i64 t.valid, .int .i64 t.aStamp, .int .i64 t.aFate, .slice L.na t.notes.length L.nc]) (by simp)
 have h9 := h8.cell
 have hle : w.heap.size ≤ g := Nat.le_of_eq (HG.out).symm
 refine bodyPost_ret (v := .agg #[.int .i64 t.aTh, .int .i64 t.aJob, .int .i64 t.aStart, .int .i64 t.aEnd, .int .i64 t.valid, .int .i64 t.aStamp, .int .i64 t.aFate, .slice L.na t.notes.length L.nc]) ?_ rfl ⟨rfl, below_set (below_set (below_set (below_set (below_set (below_set (below_set (below_set HB1.out hle) hle) hle) hle) hle) hle) hle) hle⟩
 simp [results, Tryz.results68, go_sem, h9]
end Go.Proofs.YtejadojilncbjaaGreat
