import Derived.Test.YtejadojilncbjabGreatK15
import Derived.Test.YtejadojilncbjabGreatK45
import Derived.Test.YtejadojilncbjabGreatK38
import Derived.Test.YtejadojilncbjabGreatK40
import Derived.Test.YtejadojilncbjabGreatK46
import Derived.Test.YtejadojilncbjabGreatK39
import Derived.Deep.DeepCutAuto
namespace Go.Proofs.YtejadojilncbjabGreat
set_option linter.unusedVariables false
def Srt (l : List AttD) : Prop := l.Pairwise fun a b => a.start < b.start
theorem srt_eq : ∀ (l l' : List AttD), Srt l → Srt l' → (∀ a, a ∈ l ↔ a ∈ l') → l = l'
 | [], [], _, _, _ => rfl
 | [], b :: l', _, _, h => by have := (h b).2 (by simp); cases this
 | a :: l, [], _, _, h => by have := (h a).1 (by simp); cases this
 | a :: l, b :: l', h1, h2, h => by
  obtain ⟨p1, p2⟩ := List.pairwise_cons.1 h1
  obtain ⟨q1, q2⟩ := List.pairwise_cons.1 h2
  have e : a = b := by
   have ha := (h a).1 (by simp)
   have hb := (h b).2 (by simp)
   simp only [List.mem_cons] at ha hb
   rcases ha with ha | ha
   ·exact ha
   ·rcases hb with hb | hb
    ·exact hb.symm
    ·have := q1 a ha
     have := p1 b hb
     omega
  subst e
  have : l = l' := srt_eq l l' p2 q2 (fun c => by
      have := h c
      simp only [List.mem_cons] at this
      constructor
      ·intro hc
       rcases this.1 (Or.inr hc) with rfl | h3
       ·have := p1 c hc; omega
       ·exact h3
      ·intro hc
       rcases this.2 (Or.inr hc) with rfl | h3
       ·have := q1 c hc; omega
       ·exact h3)
  rw [this]
structure BkI (R : Rn) (k : Nat) (l : List AttD) (lat : List Int) : Prop where
 srt : Srt l
 mem : ∀ a, a ∈ l ↔ ∃ t, 0 ≤ t ∧ t < R.c.t ∧ a ∈ ((R.g k).th t).list
 lst : ∀ t : Nat, (t : Int) < R.c.t → ∀ z, ((R.g k).th (t : Int)).list.getLast? = some z → ∃ m : Nat, lat.getD t 0 = (m : Int) ∧ l[m]? = some z
theorem BkI.hist {R : Rn} (O : R.Ok) {l : List AttD} {lat : List Int} (h : BkI R R.ps.length l lat) : l = R.hist :=
 srt_eq l R.hist h.srt (histL_srt R) (fun a => by rw [h.mem a, histL_mem])
theorem BkI.same {R : Rn} {k : Nat} {l : List AttD} {lat : List Int} (h : BkI R k l lat) (e : ∀ t, 0 ≤ t → t < R.c.t → ((R.g (k + 1)).th t).list = ((R.g k).th t).list) : BkI R (k + 1) l lat := by
 refine ⟨h.srt, fun a => ?_, fun t ht z hz => h.lst t ht z (by rw [← e t (by omega) ht]; exact hz)⟩
 rw [h.mem a]
 constructor
 ·rintro ⟨t, h0, h1, h2⟩; exact ⟨t, h0, h1, by rw [e t h0 h1]; exact h2⟩
 ·rintro ⟨t, h0, h1, h2⟩; exact ⟨t, h0, h1, by rw [← e t h0 h1]; exact h2⟩
theorem BkI.new {R : Rn} (O : R.Ok) {k : Nat} {l : List AttD} {lat : List Int} (h : BkI R k l lat) (t : Nat) (ht : (t : Int) < R.c.t) (hlat : t < lat.length) (a : AttD) (hs : a.start = (k : Int) + 1)
  (e1 : ((R.g (k + 1)).th (t : Int)).list = ((R.g k).th (t : Int)).list ++ [a]) (e : ∀ u, 0 ≤ u → u < R.c.t → u ≠ (t : Int) → ((R.g (k + 1)).th u).list = ((R.g k).th u).list) : BkI R (k + 1) (l ++ [a]) (lat.set t (l.length : Int)) := by
 refine ⟨?_, fun b => ?_, fun u hu z hz => ?_⟩
 ·unfold Srt
  rw [List.pairwise_append]
  refine ⟨h.srt, by simp, fun b hb c hc => ?_⟩
  simp at hc
  subst hc
  obtain ⟨u, u0, u1, u2⟩ := (h.mem b).1 hb
  have := (la_t k u u0 u1 u2).s2
  omega
 ·rw [List.mem_append, h.mem b]
  constructor
  ·rintro (⟨u, u0, u1, u2⟩ | hb)
   ·by_cases hu : u = (t : Int)
    ·subst hu; exact ⟨_, u0, u1, by rw [e1]; simp [u2]⟩
    ·exact ⟨u, u0, u1, by rw [e u u0 u1 hu]; exact u2⟩
   ·simp at hb; subst hb; exact ⟨(t : Int), by omega, ht, by rw [e1]; simp⟩
  ·rintro ⟨u, u0, u1, u2⟩
   by_cases hu : u = (t : Int)
   ·subst hu
    rw [e1, List.mem_append] at u2
    rcases u2 with u2 | u2
    ·exact Or.inl ⟨_, u0, u1, u2⟩
    ·exact Or.inr u2
   ·exact Or.inl ⟨u, u0, u1, by rw [← e u u0 u1 hu]; exact u2⟩
 ·by_cases hu' : u = t
  ·subst hu'
   rw [e1, List.getLast?_append] at hz
   simp at hz
   subst hz
   exact ⟨l.length, by simp [List.getD, hlat], by simp⟩
  ·rw [e (u : Int) (by omega) hu (by omega)] at hz
   obtain ⟨m, h1, h2⟩ := h.lst u hu z hz
   refine ⟨m, ?_, ?_⟩
   ·rw [← h1]
    simp [List.getD, Ne.symm hu']
   ·rw [List.getElem?_append_left (List.getElem?_eq_some_iff.1 h2).1]
    exact h2
theorem srt_at {l : List AttD} (h : Srt l) {i j : Nat} {a b : AttD} (hi : l[i]? = some a) (hj : l[j]? = some b) (hs : a.start = b.start) : i = j := by
 obtain ⟨li, rfl⟩ := List.getElem?_eq_some_iff.1 hi
 obtain ⟨lj, rfl⟩ := List.getElem?_eq_some_iff.1 hj
 have hp := List.pairwise_iff_getElem.1 h
 rcases Nat.lt_trichotomy i j with h1 | h1 | h1
 ·have := hp i j li lj h1; omega
 ·exact h1
 ·have := hp j i lj li h1; omega
theorem mem_modLast {l : List AttD} {f : AttD → AttD} {z b : AttD} (hz : l.getLast? = some z) (hl : Srt l) (hf : (f z).start = z.start) : b ∈ modLast l f ↔ b = f z ∨ (b ∈ l ∧ b.start ≠ z.start) := by
 obtain ⟨l0, rfl⟩ := List.getLast?_eq_some_iff.1 hz
 have hm : modLast (l0 ++ [z]) f = l0 ++ [f z] := modLast_snoc _ _ _
 obtain ⟨p1, p2, p3⟩ := List.pairwise_append.1 hl
 rw [hm, List.mem_append, List.mem_append]
 constructor
 ·rintro (h | h)
  ·have := p3 b h z (by simp)
   exact Or.inr ⟨Or.inl h, by omega⟩
  ·simp at h; exact Or.inl h
 ·rintro (h | ⟨h | h, h2⟩)
  ·exact Or.inr (by simp [h])
  ·exact Or.inl h
  ·simp at h; subst h; exact absurd rfl h2
theorem BkI.mod {R : Rn} (O : R.Ok) {k : Nat} {l : List AttD} {lat : List Int} (h : BkI R k l lat) (t : Nat) (ht : (t : Int) < R.c.t) (z : AttD) (hz : ((R.g k).th (t : Int)).list.getLast? = some z) (f : AttD → AttD) (hf : (f z).start = z.start)
  (e1 : ((R.g (k + 1)).th (t : Int)).list = modLast ((R.g k).th (t : Int)).list f) (e : ∀ u, 0 ≤ u → u < R.c.t → u ≠ (t : Int) → ((R.g (k + 1)).th u).list = ((R.g k).th u).list) :
  ∃ m : Nat, m < l.length ∧ lat.getD t 0 = (m : Int) ∧ BkI R (k + 1) (l.set m (f z)) lat := by
 obtain ⟨m, hm1, hm2⟩ := h.lst t ht z hz
 obtain ⟨hml, hme⟩ := List.getElem?_eq_some_iff.1 hm2
 have hzm : z ∈ ((R.g k).th (t : Int)).list := List.mem_of_getLast? hz
 have hst := la_srt k (t : Int) (by omega) ht
 have hset : ∀ b, b ∈ l.set m (f z) ↔ b = f z ∨ (b ∈ l ∧ b.start ≠ z.start) := fun b => by
  rw [List.mem_iff_getElem?]
  constructor
  ·rintro ⟨i, hi⟩
   rw [List.getElem?_set] at hi
   by_cases hmi : m = i
   ·rw [if_pos hmi, if_pos hml] at hi
    exact Or.inl (Option.some.inj hi).symm
   ·rw [if_neg hmi] at hi
    exact Or.inr ⟨List.mem_of_getElem? hi, fun hs => hmi (srt_at h.srt hi hm2 hs).symm⟩
  ·rintro (rfl | ⟨hb, hs⟩)
   ·exact ⟨m, by rw [List.getElem?_set, if_pos rfl, if_pos hml]⟩
   ·obtain ⟨i, hi⟩ := List.mem_iff_getElem?.1 hb
    refine ⟨i, ?_⟩
    rw [List.getElem?_set, if_neg]
    ·exact hi
    ·rintro rfl
     rw [hm2] at hi
     exact hs (by rw [← Option.some.inj hi])
 refine ⟨m, hml, hm1, ?_, fun b => ?_, fun u hu y hy => ?_⟩
 ·unfold Srt
  rw [List.pairwise_iff_getElem]
  intro i j hi hj hij
  have hp := List.pairwise_iff_getElem.1 h.srt
  have key : ∀ (i : Nat) (hi : i < (l.set m (f z)).length), ((l.set m (f z))[i]).start = (l[i]'(by simpa using hi)).start := fun i hi => by
   rw [List.getElem_set]
   split
   ·rename_i hmi
    subst hmi
    rw [hf, hme]
   ·rfl
  rw [key i hi, key j hj]
  exact hp i j _ _ hij
 ·rw [hset b, h.mem b]
  constructor
  ·rintro (hb | ⟨⟨u, u0, u1, u2⟩, hs⟩)
   ·exact ⟨(t : Int), by omega, ht, by rw [e1]; exact (mem_modLast hz hst hf).2 (Or.inl hb)⟩
   ·by_cases hu : u = (t : Int)
    ·subst hu
     exact ⟨_, u0, u1, by rw [e1]; exact (mem_modLast hz hst hf).2 (Or.inr ⟨u2, hs⟩)⟩
    ·exact ⟨u, u0, u1, by rw [e u u0 u1 hu]; exact u2⟩
  ·rintro ⟨u, u0, u1, u2⟩
   by_cases hu : u = (t : Int)
   ·subst hu
    rw [e1] at u2
    rcases (mem_modLast hz hst hf).1 u2 with h1 | ⟨h1, h2⟩
    ·exact Or.inl h1
    ·exact Or.inr ⟨⟨_, u0, u1, h1⟩, h2⟩
   ·rw [e u u0 u1 hu] at u2
    refine Or.inr ⟨⟨u, u0, u1, u2⟩, fun hs => hu ?_⟩
    have A := la_t k u u0 u1 u2
    have B := la_t k (t : Int) (by omega) ht hzm
    have p1 := A.pk
    have p2 := B.pk
    rw [hs] at p1
    exact p1.symm.trans p2
 ·by_cases hu' : u = t
  ·subst hu'
   have hy2 : y = f z := by
    obtain ⟨l0, hl0⟩ := List.getLast?_eq_some_iff.1 hz
    rw [e1, hl0] at hy
    have hm : modLast (l0 ++ [z]) f = l0 ++ [f z] := modLast_snoc _ _ _
    rw [hm] at hy
    simp at hy
    exact hy.symm
   exact ⟨m, hm1, by rw [List.getElem?_set, if_pos rfl, if_pos hml, hy2]⟩
  ·rw [e (u : Int) (by omega) hu (by omega)] at hy
   obtain ⟨n, h1, h2⟩ := h.lst u hu y hy
   refine ⟨n, h1, ?_⟩
   rw [List.getElem?_set, if_neg]
   ·exact h2
   ·rintro rfl
    rw [hm2] at h2
    have hyz := Option.some.inj h2
    have A := la_t k (u : Int) (by omega) hu (List.mem_of_getLast? hy)
    have B := la_t k (t : Int) (by omega) ht hzm
    have p1 := A.pk
    have p2 := B.pk
    rw [← hyz] at p1
    have := p1.symm.trans p2
    omega
theorem list_kind0 {K : Cx} {h : Th} {v : AnsD} (h0 : (hOut K h).kind = 0) : (hNext K h v).list = h.list := by
 unfold hNext
 split
 all_goals rename_i heq
 all_goals first
  | rfl
  | (exfalso; unfold hOut at h0; rw [heq] at h0; simp at h0; done)
  | (split <;> rfl)
theorem BkI.step {R : Rn} (O : R.Ok) {k : Nat} {l : List AttD} {lat : List Int} (h : BkI R k l lat) (hlat : R.c.t ≤ (lat.length : Int)) (hne : ∀ t, 0 ≤ t → t < R.c.t → ((R.g k).th t).st ≠ .start → (R.out k t).kind ≠ 0 → ((R.g k).th t).list ≠ []) :
  ((¬ (0 ≤ (R.pk k).thread ∧ (R.pk k).thread < R.c.t) ∨ (R.out k (R.pk k).thread).kind = 0) ∧ BkI R (k + 1) l lat) ∨
  (∃ (t : Nat) (z : AttD), (R.pk k).thread = (t : Int) ∧ (t : Int) < R.c.t ∧ (R.out k (t : Int)).kind ≠ 0 ∧ ((R.g (k + 1)).th (t : Int)).list.getLast? = some z ∧
      ((z.start = (k : Int) + 1 ∧ BkI R (k + 1) (l ++ [z]) (lat.set t (l.length : Int))) ∨ (z.start ≠ (k : Int) + 1 ∧ ∃ m : Nat, m < l.length ∧ lat.getD t 0 = (m : Int) ∧ BkI R (k + 1) (l.set m z) lat))) := by
 by_cases hr : 0 ≤ (R.pk k).thread ∧ (R.pk k).thread < R.c.t
 ·obtain ⟨t, ht⟩ := Int.eq_ofNat_of_zero_le hr.1
  have ht' : (R.pk k).thread = (t : Int) := ht
  have h1 : (t : Int) < R.c.t := by omega
  have off : ∀ u, 0 ≤ u → u < R.c.t → u ≠ (t : Int) → ((R.g (k + 1)).th u).list = ((R.g k).th u).list := fun u _ _ hu => by rw [R.off k (by rw [ht']; exact fun e => hu e.symm)]
  have at_ := R.at k ht' (by omega) h1
  by_cases h0 : (R.out k (t : Int)).kind = 0
  ·refine Or.inl ⟨Or.inr (by rw [ht']; exact h0), h.same fun u u0 u1 => ?_⟩
   by_cases hu : u = (t : Int)
   ·subst hu
    rw [at_]
    exact list_kind0 h0
   ·exact off u u0 u1 hu
  ·refine Or.inr ⟨t, ?_⟩
   by_cases hs : ((R.g k).th (t : Int)).st = .start
   ·obtain ⟨a, e1, e2, _⟩ := lm_start (R.K (t : Int)) ((R.g k).th (t : Int)) ⟨(accBy (R.g k).m (R.out k (t : Int))).seen, (R.pk k).draw, (k : Int) + 1⟩ hs
    rw [← at_] at e1
    exact ⟨a, ht', h1, h0, by rw [e1]; simp, Or.inl ⟨e2, h.new O t h1 (by omega) a e2 e1 off⟩⟩
   ·obtain ⟨f, hf, e1⟩ := lm_next (R.K (t : Int)) ((R.g k).th (t : Int)) ⟨(accBy (R.g k).m (R.out k (t : Int))).seen, (R.pk k).draw, (k : Int) + 1⟩ hs
    rw [← at_] at e1
    obtain ⟨l0, z, hz⟩ := snoc_of (hne (t : Int) (by omega) h1 hs h0)
    have hzl : ((R.g k).th (t : Int)).list.getLast? = some z := by rw [hz]; simp
    obtain ⟨m, m1, m2, m3⟩ := h.mod O t h1 z hzl f (hf z).1 e1 off
    have A := la_t k (t : Int) (by omega) h1 (List.mem_of_getLast? hzl)
    refine ⟨f z, ht', h1, h0, ?_, Or.inr ⟨?_, m, m1, m2, m3⟩⟩
    ·rw [e1, hz, modLast_snoc]; simp
    ·rw [(hf z).1]; have := A.s2; omega
 ·refine Or.inl ⟨Or.inl hr, h.same fun u u0 u1 => ?_⟩
  rw [R.off k (fun e => hr (by rw [e]; exact ⟨u0, u1⟩))]
end Go.Proofs.YtejadojilncbjabGreat
namespace Go.Proofs.YtejadojilncbjabGreat
open Go.RowKit
set_option linter.unusedVariables false
def Nts (w : World) (q : List (PT × Ls)) (lat : List Int) (AN : List (AttD × Value)) : Prop :=
 ∀ (m : Nat) (x : AttD × Value), AN[m]? = some x → w.ownsRow 0 93 3 x.2 x.1.notes.length (x.1.notes.flatMap noteCells) ∧
  ∀ k, x.2.ownBlock = some k → OwnW q k → ∃ (j : Nat) (h : j < q.length), lat.getD j 0 = (m : Int) ∧ x.2 = .slice q[j].2.na q[j].1.notes.length q[j].2.nc ∧ x.1.notes = q[j].1.notes
theorem Nts.of {w : World} {q : List (PT × Ls)} {lat : List Int} {AN : List (AttD × Value)} (h : Nts w q lat AN) : NotesOf w AN := fun x hx => by
 obtain ⟨m, hm⟩ := List.mem_iff_getElem?.1 hx
 exact (h m x hm).1
theorem Nts.keep {chg : List TypeId} {B p eb : Nat} {w w' : World} {q : List (PT × Ls)} {lat : List Int} {AN : List (AttD × Value)} (h : Nts w q lat AN) (hk : Kp chg B p eb w w') (ht : 93 ∉ chg) : Nts w' q lat AN := fun m x hx => ⟨ownsRow_keep (h m x hx).1 hk ht, (h m x hx).2⟩
theorem WR.keep {chg : List TypeId} {B p' eb base p nb cb cap tcap : Nat} {pn : Int} {X : List Value} {w w' : World} {q : List (PT × Ls)} {Ds : List Int} (W : WR base p nb cb cap tcap pn X w q Ds) (hk : Kp chg B p' eb w w') (h1 : 222 ∉ chg) (h2 : 230 ∉ chg) (h3 : 3 ∉ chg) (h4 : 138 ∉ chg) (h5 : 125 ∉ chg) (h6 : 93 ∉ chg) (h7 : 47 ∉ chg) : WR base p nb cb cap tcap pn X w' q Ds :=
 ⟨W.thr.keep hk h4, fun i hi => ⟨ownsRow_keep (W.rows i hi).rd hk h1, ownsRow_keep (W.rows i hi).wr hk h2, ownsRow_keep (W.rows i hi).hd hk h3, ownsRow_keep (W.rows i hi).mi hk h3, (W.rows i hi).ne, ownsRow_keep (W.rows i hi).nt hk h6, ownsRow_keep (W.rows i hi).sr hk h7⟩, W.dis, W.num.keep hk h3, W.nown, W.wst.keep hk h5, W.pb, W.nbb, W.cbb, Nat.le_trans W.bs hk.size⟩
section
variable {base p nb cb cap tcap : Nat} {pn pn' : Int} {X : List Value} {w w' : World} {q q' : List (PT × Ls)} {Ds Ds' lat : List Int} {AN : List (AttD × Value)} {th kind : Int}
theorem free_same (W : WR base p nb cb cap tcap pn X w q Ds) (G : GoesW p nb cb q w q' w') {v : Value} {n : Nat} {xs : List Value} (h : w.ownsRow 0 93 3 v n xs) (hf : ∀ k, v.ownBlock = some k → ¬ OwnW q k) : w'.ownsRow 0 93 3 v n xs ∧ ∀ k, v.ownBlock = some k → ¬ OwnW q' k :=
 ⟨ownsRow_same h fun k hk => G.block k (h.lt k hk).2 (own_tag h W.thr (by decide) k hk) (own_tag h W.num (by decide) k hk) (own_tag h W.wst (by decide) k hk) (hf k hk), fun k hk o => by
     rcases G.own k o with o | o
     ·exact hf k hk o
     ·have := (h.lt k hk).2; omega⟩
theorem nts_old (W : WR base p nb cb cap tcap pn X w q Ds) (W' : WR base p nb cb cap tcap pn' X w' q' Ds') (G : GoesW p nb cb q w q' w') (hl : q'.length = q.length) {x : AttD × Value} (h : w.ownsRow 0 93 3 x.2 x.1.notes.length (x.1.notes.flatMap noteCells)) {j : Nat} (hj : j < q.length) (hj' : j < q'.length) (e1 : q'[j].2 = q[j].2) (e2 : q'[j].1.notes = q[j].1.notes)
  (hx : x.2 = .slice q[j].2.na q[j].1.notes.length q[j].2.nc) (hn : x.1.notes = q[j].1.notes) : w'.ownsRow 0 93 3 x.2 x.1.notes.length (x.1.notes.flatMap noteCells) := by
 have h1 := ownsRow_low (W'.rows j hj').nt (Nat.zero_le base)
 rw [e1, e2] at h1
 rw [hx, hn]
 exact h1
theorem Nts.none (W : WR base p nb cb cap tcap pn X w q Ds) (W' : WR base p nb cb cap tcap pn' X w' q' Ds') (G : GoesW p nb cb q w q' w') (N : NGo th kind q q' w w') (h0 : kind = 0) (h : Nts w q lat AN) : Nts w' q' lat AN := fun m x hx => by
 obtain ⟨h1, h2⟩ := h m x hx
 by_cases hf : ∀ k, x.2.ownBlock = some k → ¬ OwnW q k
 ·obtain ⟨a, b⟩ := free_same W G h1 hf
  exact ⟨a, fun k hk o => absurd o (b k hk)⟩
 ·obtain ⟨k, hk⟩ := Classical.not_forall.1 hf
  obtain ⟨hk1, hk2⟩ := Classical.not_imp.1 hk
  obtain ⟨j, hj, e1, e2, e3⟩ := h2 k hk1 (Classical.not_not.1 hk2)
  have hj' : j < q'.length := by rw [N.len]; exact hj
  obtain ⟨n1, n2⟩ := N.none h0 j hj hj'
  have n3 : q'[j].1.notes = q[j].1.notes := congrArg AttD.notes n2
  exact ⟨nts_old W W' G N.len h1 hj hj' n1 n3 e2 e3, fun k' _ _ => ⟨j, hj', e1, by rw [n1, n3]; exact e2, by rw [n3]; exact e3⟩⟩
theorem Nts.mod (W : WR base p nb cb cap tcap pn X w q Ds) (W' : WR base p nb cb cap tcap pn' X w' q' Ds') (G : GoesW p nb cb q w q' w') (N : NGo th kind q q' w w') (h : Nts w q lat AN) (t m0 : Nat) (ht : (t : Int) = th) (htq : t < q'.length) (hm : m0 < AN.length) (hlat : lat.getD t 0 = (m0 : Int)) (z : AttD) (hz : z.notes = q'[t].1.notes) :
  Nts w' q' lat (AN.set m0 (z, .slice q'[t].2.na q'[t].1.notes.length q'[t].2.nc)) := fun m x hx => by
 rw [List.getElem?_set] at hx
 by_cases e : m0 = m
 ·rw [if_pos e, if_pos hm] at hx
  cases hx
  refine ⟨?_, fun k _ _ => ⟨t, htq, by rw [hlat, e], rfl, hz⟩⟩
  simp only
  rw [hz]
  exact ownsRow_low (W'.rows t htq).nt (Nat.zero_le base)
 ·rw [if_neg e] at hx
  obtain ⟨h1, h2⟩ := h m x hx
  by_cases hf : ∀ k, x.2.ownBlock = some k → ¬ OwnW q k
  ·obtain ⟨a, b⟩ := free_same W G h1 hf
   exact ⟨a, fun k hk o => absurd o (b k hk)⟩
  ·obtain ⟨k, hk⟩ := Classical.not_forall.1 hf
   obtain ⟨hk1, hk2⟩ := Classical.not_imp.1 hk
   obtain ⟨j, hj, e1, e2, e3⟩ := h2 k hk1 (Classical.not_not.1 hk2)
   have hj' : j < q'.length := by rw [N.len]; exact hj
   have hjt : (j : Int) ≠ th := fun e4 => by
    have : j = t := by omega
    subst this
    rw [hlat] at e1
    omega
   have n0 := N.other j hj hj' hjt
   exact ⟨nts_old W W' G N.len h1 hj hj' (by rw [n0]) (by rw [n0]) e2 e3, fun k' _ _ => ⟨j, hj', e1, by rw [n0]; exact e2, by rw [n0]; exact e3⟩⟩
theorem Nts.new (W : WR base p nb cb cap tcap pn X w q Ds) (W' : WR base p nb cb cap tcap pn' X w' q' Ds') (G : GoesW p nb cb q w q' w') (N : NGo th kind q q' w w') (h0 : kind ≠ 0) (h : Nts w q lat AN) (t : Nat) (ht : (t : Int) = th) (htq : t < q'.length) (htq0 : t < q.length) (hst : q[t].1.step = 2) (hlt : t < lat.length) (z : AttD) (hz : z.notes = q'[t].1.notes) :
  Nts w' q' (lat.set t (AN.length : Int)) (AN ++ [(z, .slice q'[t].2.na q'[t].1.notes.length q'[t].2.nc)]) := fun m x hx => by
 by_cases e : m < AN.length
 ·rw [List.getElem?_append_left e] at hx
  obtain ⟨h1, h2⟩ := h m x hx
  by_cases hf : ∀ k, x.2.ownBlock = some k → ¬ OwnW q k
  ·obtain ⟨a, b⟩ := free_same W G h1 hf
   exact ⟨a, fun k hk o => absurd o (b k hk)⟩
  ·obtain ⟨k, hk⟩ := Classical.not_forall.1 hf
   obtain ⟨hk1, hk2⟩ := Classical.not_imp.1 hk
   obtain ⟨j, hj, e1, e2, e3⟩ := h2 k hk1 (Classical.not_not.1 hk2)
   have hj' : j < q'.length := by rw [N.len]; exact hj
   by_cases hjt : (j : Int) = th
   ·have : j = t := by omega
    subst this
    have hna : oB q[j].2.na = some k := by rw [← hk1, e2, oB_eq]
    obtain ⟨f1, f2⟩ := N.fresh h0 j hj hj' hjt hst k hna
    refine ⟨ownsRow_same h1 fun k' hk' => ?_, fun k' hk' o => ?_⟩
    ·have : k' = k := by rw [hk1] at hk'; exact (Option.some.inj hk').symm
     subst this
     exact f2
    ·have : k' = k := by rw [hk1] at hk'; exact (Option.some.inj hk').symm
     subst this
     obtain ⟨i, hi, oi⟩ := o
     exfalso
     by_cases hij : i = j
     ·subst hij; exact f1 oi
     ·have hi0 : i < q.length := by rw [← N.len]; exact hi
      rw [N.other i hi0 hi (by omega)] at oi
      exact W.dis i j hi0 hj hij k' oi (naOwn hna)
   ·have n0 := N.other j hj hj' hjt
    have hjn : t ≠ j := by omega
    exact ⟨nts_old W W' G N.len h1 hj hj' (by rw [n0]) (by rw [n0]) e2 e3, fun k' _ _ => ⟨j, hj', by rw [← e1]; simp [List.getD, hjn], by rw [n0]; exact e2, by rw [n0]; exact e3⟩⟩
 ·rw [List.getElem?_append_right (by omega)] at hx
  have hm : m = AN.length := by
   have := (List.getElem?_eq_some_iff.1 hx).1
   simp at this
   omega
  subst hm
  simp at hx
  subst hx
  refine ⟨?_, fun k _ _ => ⟨t, htq, by simp [List.getD, hlt], rfl, hz⟩⟩
  simp only
  rw [hz]
  exact ownsRow_low (W'.rows t htq).nt (Nat.zero_le base)
end
theorem modLast_nil {l : List AttD} {f : AttD → AttD} (h : modLast l f = []) : l = [] := by
 have := congrArg List.length h
 unfold modLast at this
 rw [List.length_modify] at this
 exact List.length_eq_zero_iff.1 this
theorem list_st (R : Rn) (t : Int) (t0 : 0 ≤ t) (t1 : t < R.c.t) : ∀ k : Nat, ((R.g k).th t).list = [] → ((R.g k).th t).st = .start ∨ ((R.g k).th t).st = .idle
 | 0, _ => by
  show (hTo (R.K t) 0 _).st = _ ∨ (hTo (R.K t) 0 _).st = _
  unfold hTo
  split
  ·exact Or.inl rfl
  ·exact Or.inr rfl
 | k + 1, h => by
  by_cases hp : (R.pk k).thread = t
  ·rw [R.at k hp t0 t1] at h ⊢
   by_cases hs : ((R.g k).th t).st = .start
   ·obtain ⟨a, e, _⟩ := lm_start (R.K t) ((R.g k).th t) ⟨(accBy (R.g k).m (R.out k t)).seen, (R.pk k).draw, (k : Int) + 1⟩ hs
    rw [e] at h
    simp at h
   ·obtain ⟨f, _, e⟩ := lm_next (R.K t) ((R.g k).th t) ⟨(accBy (R.g k).m (R.out k t)).seen, (R.pk k).draw, (k : Int) + 1⟩ hs
    rw [e] at h
    rcases list_st R t t0 t1 k (modLast_nil h) with h1 | h1
    ·exact absurd h1 hs
    ·refine Or.inr ?_
     unfold hNext
     rw [h1]
     exact h1
  ·rw [R.off k hp] at h ⊢
   exact list_st R t t0 t1 k h
theorem hne_at (R : Rn) (k : Nat) (t : Int) (t0 : 0 ≤ t) (t1 : t < R.c.t) (h1 : ((R.g k).th t).st ≠ .start) (h2 : (R.out k t).kind ≠ 0) : ((R.g k).th t).list ≠ [] := fun h => by
 rcases list_st R t t0 t1 k h with e | e
 ·exact h1 e
 ·apply h2
  show (hOut _ _).kind = 0
  unfold hOut
  rw [e]
theorem sim_step2 {K : Cx} {t : PT} {h : Th} (S : Sim K t h) (hs : h.st = .start) : t.step = 2 := by
 rcases S with ⟨q, _⟩ | ⟨_, _, _, q, _⟩ | ⟨n, q, _⟩ | ⟨n, q, _⟩ | ⟨_, _, q⟩
 ·rw [hs] at q; cases q
 ·exact q
 ·rw [hs] at q; cases q
 ·rw [hs] at q; cases q
 ·rw [hs] at q; exact q.elim
theorem start_of {R : Rn} (O : R.Ok) {k t : Nat} (ht : (R.pk k).thread = (t : Int)) (t1 : (t : Int) < R.c.t) {z : AttD} (hz : ((R.g (k + 1)).th (t : Int)).list.getLast? = some z) (hk : z.start = (k : Int) + 1) : ((R.g k).th (t : Int)).st = .start := by
 refine Classical.byContradiction fun hs => ?_
 obtain ⟨f, hf, e1⟩ := lm_next (R.K (t : Int)) ((R.g k).th (t : Int)) ⟨(accBy (R.g k).m (R.out k (t : Int))).seen, (R.pk k).draw, (k : Int) + 1⟩ hs
 rw [← R.at k ht (by omega) t1] at e1
 by_cases hn : ((R.g k).th (t : Int)).list = []
 ·rw [e1, hn] at hz
  simp [modLast] at hz
 ·obtain ⟨l0, y, hy⟩ := snoc_of hn
  rw [e1, hy, modLast_snoc] at hz
  simp at hz
  subst hz
  have A := la_t k (t : Int) (by omega) t1 (show y ∈ ((R.g k).th (t : Int)).list from by rw [hy]; simp)
  have := A.s2
  rw [(hf y).1] at hk
  omega
theorem thread_of {R : Rn} (O : R.Ok) {k : Nat} {t : Int} (t0 : 0 ≤ t) (t1 : t < R.c.t) {z : AttD} (hz : ((R.g k).th t).list.getLast? = some z) : z.thread = t := (la_t k t t0 t1 (List.mem_of_getLast? hz)).thr
theorem srt_len {l : List AttD} (h : Srt l) {k : Nat} (hb : ∀ a ∈ l, 1 ≤ a.start ∧ a.start ≤ (k : Int)) : l.length ≤ k := by
 have := starts_len (l.map (·.start)) 0 k (by rw [List.pairwise_map]; exact h) (fun x hx => by
     obtain ⟨a, ha, rfl⟩ := List.mem_map.1 hx
     have := hb a ha
     omega) (by omega)
 simp at this
 omega
theorem BkI.len {R : Rn} (O : R.Ok) {k : Nat} {l : List AttD} {lat : List Int} (h : BkI R k l lat) : l.length ≤ k := srt_len h.srt fun a ha => by
 obtain ⟨t, t0, t1, ht⟩ := (h.mem a).1 ha
 have A := la_t k t t0 t1 ht
 exact ⟨A.s1, A.s2⟩
theorem hist_len {R : Rn} (O : R.Ok) : R.hist.length ≤ R.ps.length := srt_len (histL_srt R) fun a ha => by
 obtain ⟨t, t0, t1, ht⟩ := histL_mem.1 ha
 have A := la_t _ t t0 t1 ht
 exact ⟨A.s1, A.s2⟩
theorem BkI.zero (R : Rn) : BkI R 0 [] [0, 0, 0, 0] := by
 have e : ∀ t, ((R.g 0).th t).list = [] := fun t => by
  show (hTo (R.K t) 0 _).list = _
  rw [l_to]
 refine ⟨List.Pairwise.nil, fun a => ?_, fun t _ z hz => ?_⟩
 ·constructor
  ·intro h; cases h
  ·rintro ⟨t, _, _, h⟩; rw [e t] at h; cases h
 ·rw [e] at hz; cases hz
theorem list_grow (R : Rn) (t : Int) (t0 : 0 ≤ t) (t1 : t < R.c.t) (k : Nat) (h : ((R.g k).th t).list ≠ []) : ((R.g (k + 1)).th t).list ≠ [] := by
 by_cases hp : (R.pk k).thread = t
 ·rw [R.at k hp t0 t1]
  by_cases hs : ((R.g k).th t).st = .start
  ·obtain ⟨a, e, _⟩ := lm_start (R.K t) ((R.g k).th t) ⟨(accBy (R.g k).m (R.out k t)).seen, (R.pk k).draw, (k : Int) + 1⟩ hs
   rw [e]
   simp
  ·obtain ⟨f, _, e⟩ := lm_next (R.K t) ((R.g k).th t) ⟨(accBy (R.g k).m (R.out k t)).seen, (R.pk k).draw, (k : Int) + 1⟩ hs
   rw [e]
   exact fun q => h (modLast_nil q)
 ·rw [R.off k hp]
  exact h
theorem list_grows (R : Rn) (t : Int) (t0 : 0 ≤ t) (t1 : t < R.c.t) (k : Nat) (h : ((R.g k).th t).list ≠ []) : ∀ d, ((R.g (k + d)).th t).list ≠ []
 | 0 => h
 | d + 1 => list_grow R t t0 t1 (k + d) (list_grows R t t0 t1 k h d)
theorem hist_some {R : Rn} (O : R.Ok) (hjt : ∀ j ∈ R.jobs, 0 ≤ j.1 ∧ j.1 < R.c.t) {k : Nat} (hk : k < R.ps.length) (hw : worksB R.jobs (R.pk k).thread = true) : R.hist ≠ [] := by
 obtain ⟨b, hb, hbt⟩ := works_true hw
 have ht := hjt b hb
 rw [hbt] at ht
 obtain ⟨t, hT⟩ : ∃ t, t = (R.pk k).thread := ⟨_, rfl⟩
 rw [← hT] at ht hbt
 obtain ⟨j, hj, hje⟩ := List.getElem_of_mem hb
 have hjd : (R.jobs.getD j (0, [])).1 = t := by
  rw [show R.jobs.getD j (0, []) = R.jobs[j] from by simp [List.getD, List.getElem?_eq_getElem hj], hje]
  exact hbt
 have h1 : ((R.g (k + 1)).th t).list ≠ [] := by
  by_cases hl : ((R.g k).th t).list = []
  ·rcases list_st R t ht.1 ht.2 k hl with hs | hs
   ·rw [R.at k hT.symm ht.1 ht.2]
    obtain ⟨a, e, _⟩ := lm_start (R.K t) ((R.g k).th t) ⟨(accBy (R.g k).m (R.out k t)).seen, (R.pk k).draw, (k : Int) + 1⟩ hs
    rw [e]
    simp
   ·have T := ti_at O t ht.1 ht.2 k
    rcases T.ed j hj hjd with q | q
    ·obtain ⟨a, ha, _⟩ := T.ee j q
     rw [hl] at ha
     simp at ha
    ·exact absurd hs q.1
  ·exact list_grow R t ht.1 ht.2 k hl
 have h2 := list_grows R t ht.1 ht.2 (k + 1) h1 (R.ps.length - (k + 1))
 rw [show k + 1 + (R.ps.length - (k + 1)) = R.ps.length by omega] at h2
 obtain ⟨l0, z, hz⟩ := snoc_of h2
 have hm : z ∈ R.hist := (hist_mem O).2 ⟨t, ht.1, ht.2, by rw [hz]; simp⟩
 exact fun e => by rw [e] at hm; cases hm
end Go.Proofs.YtejadojilncbjabGreat
namespace Go.Proofs.YtejadojilncbjabGreat
open Go.RowKit
set_option linter.unusedVariables false
attribute [local go_sem ↓] Go.wp_at_zero Go.wp_at_succ
theorem Tryz.info138 : (Tryz.prog.info? 138).map (fun i => (i.zero, i.size, i.bytes)) = some (some (.agg zc), 47, 472) := by kernel_rfl
theorem fold_set : ∀ (l : List Value) (j : Nat) (a : Array Value), j + l.length = a.size → (l.zipIdx j).foldl (fun cs x => cs.setIfInBounds x.snd x.fst) a = (a.toList.take j ++ l).toArray
 | [], j, a, h => by
  have : j = a.size := by simpa using h
  subst this
  rw [List.take_of_length_le (by simp)]
  simp
 | v :: l, j, a, h => by
  rw [List.zipIdx_cons, List.foldl_cons, fold_set l (j + 1) (a.setIfInBounds j v) (by simp at h ⊢; omega)]
  congr 1
  have hj : j < a.toList.length := by simp at h ⊢; omega
  rw [Array.toList_setIfInBounds, List.take_set, List.take_add_one, List.getElem?_eq_getElem hj]
  simp only [Option.toList]
  rw [List.set_append_right _ _ (by simp; omega)]
  simp [Nat.min_eq_left (Nat.le_of_lt (by simpa using hj))]
def BegunIs (c : Cfg) (mem : List Int) (jobs : List (Int × List InsD)) (w : World) (e : Ending) (w' : World) : Prop :=
 ∃ (nb p cap tcap : Nat) (q : List (PT × Ls)) (Ds : List Int) (X : List Value), e = .returned (.agg #[.slice (some ⟨nb, 0, none⟩) Ds.length cap, .slice (some ⟨p, 0, none⟩) q.length tcap, .int .i64 0]) ∧
  (∀ w2 cb, Below w'.heap.size w' w2 → Blk w2 cb 125 #[.slice (some ⟨nb, 0, none⟩) Ds.length cap, .slice (some ⟨p, 0, none⟩) q.length tcap, .int .i64 0] → w.heap.size ≤ cb → WR w.heap.size p nb cb cap tcap 0 X w2 q Ds) ∧ SimW c jobs 0 (gStart c mem jobs) q Ds ∧ Below w.heap.size w w'
theorem bi_below {wb k tcap : Nat} {ta : Option Addr} {xs : List Value} {w wr w5 w6 w7 : World} (hB : Below w.heap.size w wr) (hb5 : Below wr.heap.size wr w5) (hb6 : Below w5.heap.size w5 w6) (hthr : wr.ownsRow w.heap.size 138 47 (.slice ta k tcap) k xs) (hgr : w6.grownBy w7 (Value.slice ta k tcap).ownBlock) (hwb : w.heap.size ≤ wb) (v : Value) :
  Below w.heap.size w (w7.setCell ⟨wb, 1, none⟩ v) := by
 have h1 : Below w.heap.size w w6 := (hB.trans (hb5.mono hB.size)).trans (hb6.mono (Nat.le_trans hB.size hb5.size))
 have hs : w.heap.size ≤ w6.heap.size := h1.size
 refine below_onto (w' := w7) ⟨hgr.os.trans h1.os, hgr.tape.trans h1.tape, hgr.output.trans h1.output, Nat.le_trans h1.size hgr.size, fun q hq => ?_⟩ ((Only.refl _ _).set) hwb (by have := hgr.size; omega)
 rw [hgr.block q (by omega) (fun e => by have := (hthr.lt q e.symm).1; omega)]
 exact h1.block q hq
theorem begun_of {c : Cfg} {mem : List Int} {jobs : List (Int × List InsD)} {w wr w' : World} {base nb wb sb r2 tcap tn : Nat} {S : Array Value} {Ds : List Int} {ta : Option Addr} {q : List (PT × Ls)} (hc : cfgB c = true) (hmw : (mem.length : Int) = c.wd) (hmb : memB mem = true) (hjl : jobs.length ≤ 8)
  (hbase : (base : Int) = 3 + 2 * c.s + c.t) (htn : (tn : Int) = c.t) (ht1 : 1 ≤ tn) (hDs : Ds = List.replicate base (0 : Int) ++ mem) (I : BI w.heap.size nb wb sb r2 Ds.length Ds.length S c jobs Ds ta tcap tn q wr) (HB : Below w.heap.size w wr) (ho : Only r2 wr w') (hr : w.heap.size ≤ r2) :
  BegunIs c mem jobs w (.returned (.agg #[.slice (some ⟨nb, 0, none⟩) Ds.length Ds.length, .slice ta tn tcap, .int .i64 0])) w' := by
 obtain ⟨g, cap, cur, hv, hbg, hgb, h1, h2, h3, h4⟩ := own_block I.thr ht1
 obtain ⟨rfl, rfl⟩ : ta = some ⟨g, 0, none⟩ ∧ tcap = cap := by injection hv with a b c; exact ⟨a, c⟩
 have hql := I.ql
 have hg2 : Blk w' g 138 cur := hgb.only ho (Blk.ne hgb I.res (by decide))
 have hn2 : Blk w' nb 3 (Ds.map (Value.int .i64 ·)).toArray := I.num.only ho (Blk.ne I.num I.res (by decide))
 have hrows : ∀ i (h : i < q.length), RowsOk w.heap.size w' q[i].1 q[i].2 := fun i h => (I.rows i h).kept (fun k o => ho.block k ((I.rows i h).own k o).2 (fun e => Own_tag (I.rows i h) I.res (by decide) (by decide) (by decide) (by decide) (by decide) (e ▸ o)))
 refine ⟨nb, g, Ds.length, tcap, q, Ds, cur.toList.drop (tn * 47), by rw [hql], ?_, ?_, below_onto HB ho hr HB.size⟩
 ·intro w2 cb hb hcb hle
  have hbs : w.heap.size ≤ w2.heap.size := Nat.le_trans HB.size (Nat.le_trans ho.size hb.size)
  refine ⟨?_, fun i h => (hrows i h).kept (fun k o => hb.block k ((hrows i h).own k o).2), I.dis, hn2.below hb hn2.lt, I.nown, hcb, hbg, I.nbb, hle, hbs⟩
  refine (hg2.below hb hg2.lt).congr ?_
  rw [← h4, List.take_append_drop]
 ·have hd : ∀ i (h : i < q.length), q[i].1 = tInit c jobs i := I.init
  refine ⟨by rw [hql]; exact htn, ?_, ?_, fun i h => by rw [hd i h]; exact init_sim c jobs i, fun i h => by rw [hd i h]; exact init_own c jobs i hjl, gstart_ok hc hmw hmb jobs⟩
  ·rw [hDs, total_eq]
   simp
   omega
  ·intro x hx
   show Ds.getD x 0 = startVal c mem x
   unfold startVal wordBase
   rw [hDs] at hx ⊢
   by_cases hxb : x < base
   ·rw [if_neg (by omega)]
    simp [List.getD_eq_getElem?_getD, List.getElem?_append_left, hxb]
   ·rw [if_pos (by omega)]
    have e : ((x : Int) - (3 + 2 * c.s + c.t)).toNat = x - base := by omega
    rw [e]
    simp [List.getD_eq_getElem?_getD, List.getElem?_append_right, Nat.le_of_not_lt hxb]
end Go.Proofs.YtejadojilncbjabGreat
