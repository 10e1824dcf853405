import Derived.Test.YtejadojilncbjabGreatD39
import Derived.Test.YtejadojilncbjabGreatD40
namespace Go.Proofs.YtejadojilncbjabGreat
set_option linter.unusedVariables false
theorem sort_ex (f : Nat → AttD) : ∀ l : List Nat, l.Nodup → ∃ l' : List Nat, l'.Perm l ∧ l'.Pairwise (Kl f)
 | [], _ => ⟨[], List.Perm.refl _, List.Pairwise.nil⟩
 | a :: r, h => by
  obtain ⟨h1, h2⟩ := List.nodup_cons.1 h
  obtain ⟨l', hp, hw⟩ := sort_ex f r h2
  refine ⟨mrg f [a] l', (mrg_perm f _ _ _ (Nat.le_refl _)).trans (hp.cons a), mrg_pw f _ _ _ (Nat.le_refl _) (List.pairwise_singleton _ _) hw fun x hx y hy => ?_⟩
  simp at hx
  subst hx
  intro q
  exact h1 (q ▸ hp.mem_iff.1 hy)
def Agr (wd : Int) (v : List Int) (g : Int → Int) : Prop := (v.length : Int) = wd ∧ ∀ a, 0 ≤ a → a < wd → v.getD a.toNat 0 = g a
def NtOk (wd : Int) (ns : List NoteD) : Prop := ∀ n ∈ ns, (n.op = 7 ∨ n.op = 8) ∧ 0 ≤ n.addr ∧ n.addr < wd
theorem agr_step {wd : Int} {v : List Int} {g : Int → Int} (h : Agr wd v g) {n : NoteD} (hn : (n.op = 7 ∨ n.op = 8) ∧ 0 ≤ n.addr ∧ n.addr < wd) : Agr wd (nStep n v) (if n.op = 7 then g else upd g n.addr n.val) := by
 obtain ⟨h1, h2⟩ := h
 unfold nStep
 rcases hn.1 with q | q
 ·rw [if_neg (fun r => by omega), if_pos q]
  exact ⟨h1, h2⟩
 ·rw [if_pos ⟨q, hn.2.1, by omega⟩, if_neg (by omega)]
  refine ⟨by rw [List.length_set]; exact h1, fun a a0 a1 => ?_⟩
  unfold upd
  by_cases e : a = n.addr
  ·rw [if_pos e, e, List.getD_eq_getElem?_getD, List.getElem?_set_self (by omega)]
   rfl
  ·rw [if_neg e, List.getD_eq_getElem?_getD, List.getElem?_set_ne (by omega), ← List.getD_eq_getElem?_getD]
   exact h2 a a0 a1
theorem agr_notes {wd : Int} : ∀ (ns : List NoteD) (v : List Int) (g : Int → Int), Agr wd v g → NtOk wd ns → Agr wd (wrN ns v) (overN ns g) ∧ (rdN ns v = true ↔ fOk ns g)
 | [], v, g, h, _ => ⟨h, by simp [rdN, fOk]⟩
 | n :: r, v, g, h, hn => by
  have h1 := hn n List.mem_cons_self
  have h2 := agr_step h h1
  have ih := agr_notes r (nStep n v) _ h2 fun m hm => hn m (List.mem_cons_of_mem _ hm)
  refine ⟨ih.1, ?_⟩
  show (nRead n v && rdN r (nStep n v)) = true ↔ _
  rw [Bool.and_eq_true, ih.2]
  unfold nRead
  rcases h1.1 with q | q
  ·rw [if_pos q]
   conv => rhs; unfold fOk
   rw [if_pos q, if_pos q, decide_eq_true_iff]
   have e := h.2 n.addr h1.2.1 h1.2.2
   have hl := h.1
   constructor
   ·rintro ⟨⟨_, _, k⟩, k2⟩
    exact ⟨e.symm.trans k, k2⟩
   ·rintro ⟨k, k2⟩
    exact ⟨⟨h1.2.1, by omega, e.trans k⟩, k2⟩
  ·rw [if_neg (by omega)]
   conv => rhs; unfold fOk
   rw [if_neg (by omega), if_neg (by omega)]
   simp
theorem agr_list {wd : Int} (f : Nat → AttD) : ∀ (l : List Nat) (v : List Int) (g : Int → Int), Agr wd v g → (∀ i ∈ l, NtOk wd (f i).notes) → Agr wd (wrL f l v) ((l.map f).foldl (fun g x => overN x.notes g) g)
 | [], v, g, h, _ => h
 | i :: r, v, g, h, hn => by
  rw [List.map_cons, List.foldl_cons]
  exact agr_list f r _ _ (agr_notes _ v g h (hn i List.mem_cons_self)).1 fun j hj => hn j (List.mem_cons_of_mem _ hj)
theorem atL_mem {L : List AttD} {i : Nat} (h : i < L.length) : atL L i ∈ L := by
 unfold atL
 rw [List.getD_eq_getElem?_getD, List.getElem?_eq_getElem h]
 exact List.getElem_mem h
theorem hist_lt {R : Rn} (O : R.Ok) {i j : Nat} (hi : i < R.hist.length) (hj : j < R.hist.length) : (atL R.hist i).start < (atL R.hist j).start ↔ i < j := by
 have hs := List.pairwise_iff_getElem.1 (hist_srt O)
 have e : ∀ k (hk : k < R.hist.length), atL R.hist k = R.hist[k] := fun k hk => by unfold atL; rw [List.getD_eq_getElem?_getD, List.getElem?_eq_getElem hk]; rfl
 rw [e i hi, e j hj]
 constructor
 ·intro h
  rcases Nat.lt_trichotomy i j with q | q | q
  ·exact q
  ·subst q; omega
  ·have := hs j i hj hi q; omega
 ·intro h
  exact hs i j hi hj h
theorem kl_ahd {R : Rn} (O : R.Ok) {i j : Nat} (hi : i < R.hist.length) (hj : j < R.hist.length) : Kl (atL R.hist) i j ↔ Ahd (atL R.hist i) (atL R.hist j) := by
 have h := hist_lt O hi hj
 unfold Kl Ahd Sooner plA plB pT pA
 omega
theorem mem_start {R : Rn} (O : R.Ok) (g : Int → Int) : Agr R.c.wd R.mem (fun a => (R.gh R.ps.length).W 0 a) := by
 refine ⟨O.w, fun a a0 a1 => ?_⟩
 show R.mem.getD a.toNat 0 = (R.gh R.ps.length).W 0 a
 rw [show (R.gh R.ps.length).W 0 a = startVal R.c R.mem (3 + 2 * R.c.s + R.c.t + a) from gh_zero R.c R.mem R.jobs R.ps O.c O.w O.m R.ps.length 0 _ rfl]
 obtain ⟨⟨ct1, ct2⟩, ⟨cw1, cw2⟩, ⟨cs1, cs2⟩, _⟩ := cfgB_true O.c
 unfold startVal wordBase
 rw [if_pos (by omega), show 3 + 2 * R.c.s + R.c.t + a - (3 + 2 * R.c.s + R.c.t) = a by omega]
theorem hist_read {R : Rn} (O : R.Ok) {j : Nat} (hj : j < R.hist.length) (l : List Nat) (h1 : l.Pairwise (Kl (atL R.hist))) (h2 : ∀ i, i ∈ l ↔ (i < R.hist.length ∧ Kl (atL R.hist) i j ∧ 0 < (atL R.hist i).stamp)) : rdN (atL R.hist j).notes (wrL (atL R.hist) l R.mem) = true := by
 have hx := atL_mem hj
 have nok : ∀ i, i < R.hist.length → NtOk R.c.wd (atL R.hist i).notes := fun i hi => (hist_ok O (atL_mem hi)).inn
 have ha := agr_list (atL R.hist) l R.mem _ (mem_start O fun _ => 0) fun i hi => nok i ((h2 i).1 hi).1
 have hw := ahead_words O hx (l.map (atL R.hist)) (fun y => by
     constructor
     ·intro hy
      obtain ⟨i, hi, rfl⟩ := List.mem_map.1 hy
      obtain ⟨q1, q2, q3⟩ := (h2 i).1 hi
      refine ⟨atL_mem q1, q3, fun e => ?_, (kl_ahd O q1 hj).1 q2⟩
      have k1 := hist_lt O q1 hj
      have k2 := hist_lt O hj q1
      have : i = j := by omega
      subst this
      exact kl_irr q2
     ·rintro ⟨q1, q2, q3, q4⟩
      obtain ⟨i, hi, rfl⟩ := List.mem_iff_getElem.1 q1
      have e : R.hist[i] = atL R.hist i := by unfold atL; rw [List.getD_eq_getElem?_getD, List.getElem?_eq_getElem hi]; rfl
      rw [e] at q2 q4 ⊢
      exact List.mem_map.2 ⟨i, (h2 i).2 ⟨hi, (kl_ahd O hi hj).2 q4, q2⟩, rfl⟩)
  (List.pairwise_map.2 (h1.imp_of_mem fun {a b} ma mb k => (kl_ahd O ((h2 a).1 ma).1 ((h2 b).1 mb).1).1 k)) _ (fun a _ _ => rfl)
 have ha2 : Agr R.c.wd (wrL (atL R.hist) l R.mem) (fun a => (R.gh R.ps.length).W (plN (atL R.hist j)) a) := ⟨ha.1, fun a a0 a1 => (ha.2 a a0 a1).trans (hw a a0 a1)⟩
 exact ((agr_notes _ _ _ ha2 (nok j hj)).2).2 (ahead_ok O hx _ fun a _ _ => rfl)
theorem hist_good {R : Rn} (O : R.Ok) (j : Nat) : ¬ Bad (atL R.hist) R.hist.length R.mem j := by
 rintro ⟨hj, h | h | h⟩
 ·obtain ⟨i, hi, h1, h2⟩ := h
  have hiL : i < R.hist.length := by omega
  have := stamp_un O (atL_mem hiL) (atL_mem hj) (by omega) h2
  have := (hist_lt O hiL hj).2 hi
  omega
 ·obtain ⟨i, hi, hne, h1, h2, h3⟩ := h
  exact h3 ((kl_ahd O hi hj).2 (real_time O (atL_mem hj) (atL_mem hi) h1 h2))
 ·obtain ⟨l, hp, hw⟩ := sort_ex (atL R.hist) ((List.range R.hist.length).filter fun x => decide (Kl (atL R.hist) x j ∧ 0 < (atL R.hist x).stamp)) (List.nodup_range.filter _)
  have hm : ∀ i, i ∈ l ↔ (i < R.hist.length ∧ Kl (atL R.hist) i j ∧ 0 < (atL R.hist i).stamp) := fun i => by rw [hp.mem_iff]; simp
  have := h l hw hm
  rw [hist_read O hj l hw hm] at this
  cases this
end Go.Proofs.YtejadojilncbjabGreat
