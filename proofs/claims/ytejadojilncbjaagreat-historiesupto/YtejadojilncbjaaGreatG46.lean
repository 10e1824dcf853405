import Derived.Test.YtejadojilncbjaaGreatG24
import Derived.Test.YtejadojilncbjaaGreatG01
import Derived.Test.YtejadojilncbjaaGreatG41
import Derived.Deep.Upon
namespace Go.Proofs.YtejadojilncbjaaGreat
set_option linter.unusedVariables false
def Rn.all (R : Rn) (k : Nat) : List AttD := (List.range R.c.t.toNat).flatMap fun t : Nat => ((R.g k).th (t : Int)).list
def Rn.hist (R : Rn) : List AttD := (List.range R.ps.length).flatMap fun i : Nat => (R.all R.ps.length).filter fun a => decide (a.start = (i : Int) + 1)
theorem all_mem {R : Rn} {k : Nat} {a : AttD} : a ∈ R.all k ↔ ∃ t, 0 ≤ t ∧ t < R.c.t ∧ a ∈ ((R.g k).th t).list := by
 unfold Rn.all
 rw [List.mem_flatMap]
 constructor
 ·rintro ⟨t, ht, ha⟩
  rw [List.mem_range] at ht
  exact ⟨(t : Int), by omega, by omega, ha⟩
 ·rintro ⟨t, t0, t1, ha⟩
  refine ⟨t.toNat, by rw [List.mem_range]; omega, ?_⟩
  rw [show ((t.toNat : Nat) : Int) = t from by omega]
  exact ha
def plA (a : AttD) : Int := if 0 < a.stamp then a.stamp else a.valid
def plB (a : AttD) : Int := if 0 < a.stamp then 0 else 1
def Sooner (a b : AttD) : Prop := plA a < plA b ∨ (plA a = plA b ∧ plB a < plB b)
instance (a b : AttD) : Decidable (Sooner a b) := by unfold Sooner; infer_instance
def LM (l l' : List AttD) : Prop := ∃ f : AttD → AttD, (∀ t, (f t).start = t.start ∧ (f t).thread = t.thread) ∧ l' = modLast l f
theorem modLast_id (l : List AttD) : modLast l (fun t => t) = l := by
 unfold modLast
 apply List.ext_getElem?
 intro i
 rw [List.getElem?_modify]
 split <;> simp
theorem modLast_comp (l : List AttD) (f g : AttD → AttD) : modLast (modLast l f) g = modLast l (fun t => g (f t)) := by
 unfold modLast
 apply List.ext_getElem?
 intro i
 simp only [List.length_modify, List.getElem?_modify]
 split <;> simp [Option.map_map, Function.comp_def]
theorem LM.refl (l : List AttD) : LM l l := ⟨fun t => t, fun _ => ⟨rfl, rfl⟩, (modLast_id l).symm⟩
theorem LM.trans {l l' l2 : List AttD} (h : LM l l') (k : LM l' l2) : LM l l2 := by
 obtain ⟨f, hf, rfl⟩ := h
 obtain ⟨g, hg, rfl⟩ := k
 exact ⟨fun t => g (f t), fun t => ⟨(hg _).1.trans (hf t).1, (hg _).2.trans (hf t).2⟩, modLast_comp l f g⟩
theorem LM.of {l l' : List AttD} (h : l' = l) : LM l l' := by subst h; exact LM.refl _
theorem lm_noted (h : Th) (op a v : Int) : LM h.list (h.noted op a v).list := ⟨fun t => { t with notes := t.notes ++ [⟨op, a, v⟩] }, fun t => ⟨rfl, rfl⟩, rfl⟩
theorem lm_ended (h : Th) (n f : Int) : LM h.list (h.ended n f).list := ⟨fun t => { t with fin := n, fate := f }, fun t => ⟨rfl, rfl⟩, rfl⟩
theorem lm_stamp (l : List AttD) (c : Int) : LM l (modLast l fun t => { t with stamp := c }) := ⟨fun t => { t with stamp := c }, fun t => ⟨rfl, rfl⟩, rfl⟩
theorem lm_ite {l : List AttD} {c : Prop} [Decidable c] {a b : Bool × Th} (h1 : LM l a.2.list) (h2 : LM l b.2.list) : LM l (if c then a else b).2.list := by split <;> assumption
theorem lm_iteT {l : List AttD} {c : Prop} [Decidable c] {a b : Th} (h1 : LM l a.list) (h2 : LM l b.list) : LM l (if c then a else b).list := by split <;> assumption
theorem l_to (K : Cx) (j : Nat) (h : Th) : (hTo K j h).list = h.list := by unfold hTo; split <;> rfl
theorem l_freeAt (e : Int) (r : List Int) (h : Th) : (hFreeAt e r h).list = h.list := by unfold hFreeAt; split <;> rfl
theorem l_close (e : Int) (h : Th) : (hClose e h).list = h.list := by
 unfold hClose
 split
 ·rfl
 ·exact l_freeAt _ _ _
theorem l_count (K : Cx) (h : Th) : (hCount K h).list = h.list := by unfold hCount; split <;> rfl
theorem l_failOwn (K : Cx) (r : List Int) (h : Th) : (hFailOwn K r h).list = h.list := by
 unfold hFailOwn
 split
 ·exact l_count _ _
 ·rfl
theorem l_fail (K : Cx) (h : Th) : (hFail K h).list = h.list := by
 unfold hFail
 split
 ·rfl
 ·exact l_failOwn _ _ _
theorem lm_read (K : Cx) (i : InsD) (h : Th) : LM h.list (hRead K i h).2.list := by
 unfold hRead
 simp only
 split
 ·exact LM.of (l_close _ _)
 ·split
  ·exact lm_noted _ _ _ _
  ·simp only
   split <;> exact LM.refl _
theorem lm_put (i : InsD) (a : Int) (h : Th) : LM h.list (hPut i a h).list := lm_noted _ _ _ _
theorem lm_write (K : Cx) (i : InsD) (h : Th) : LM h.list (hWrite K i h).2.list := by
 unfold hWrite
 simp only
 split
 ·exact LM.of (l_close _ _)
 ·split
  ·exact lm_put _ _ _
  ·exact LM.refl _
attribute [local irreducible] hRead hWrite in
theorem lm_step (K : Cx) (h : Th) : LM h.list (hStep K h).2.list := by
 unfold hStep
 simp only
 repeat' (refine lm_ite ?_ ?_)
 all_goals first
  | exact LM.of (l_close _ _)
  | exact LM.refl _
  | exact lm_read K _ _
  | exact lm_write K _ _
theorem lm_adv (K : Cx) : ∀ (n : Nat) (h : Th), LM h.list (hAdv K n h).list
 | 0, h => LM.refl _
 | n + 1, h => by
  unfold hAdv
  split
  ·exact (lm_step K h).trans (lm_adv K n _)
  ·exact lm_step K h
theorem lm_go (K : Cx) (h : Th) : LM h.list (hGo K h).list := lm_adv K _ h
theorem lm_got (K : Cx) (i : InsD) (a v : Int) (h : Th) : LM h.list (hGot K i a v h).list := (lm_noted ({ h with x := setReg h.x i.a v } : Th) 7 a v).trans (lm_go K _)
theorem lm_wrote (K : Cx) (i : InsD) (a : Int) (h : Th) : LM h.list (hWrote K i a h).list := by
 unfold hWrote
 split
 ·exact (lm_put i a h).trans (lm_go K _)
 ·exact lm_put i a h
theorem lm_exDone (K : Cx) (k : Ex) (c : Int) (h : Th) : LM h.list (hExDone K k c h).list := by
 have h0 : LM h.list (modLast h.list (fun t => { t with valid := c })) := ⟨fun t => { t with valid := c }, fun t => ⟨rfl, rfl⟩, rfl⟩
 unfold hExDone
 simp only
 split
 ·exact h0.trans (lm_got K _ _ _ _)
 ·exact h0.trans (lm_wrote K _ _ _)
theorem lm_exStill (K : Cx) (k : Ex) (c : Int) (r : List EntD) (h : Th) : LM h.list (hExStill K k c r h).list := by
 unfold hExStill
 split
 ·exact lm_exDone _ _ _ _
 ·exact LM.refl _
theorem l_openAt (c : Int) (r : List Int) (h : Th) : (hOpenAt c r h).list = h.list := by unfold hOpenAt; split <;> rfl
theorem l_wordAt (c : Int) (r : List EntD) (h : Th) : (hWordAt c r h).list = h.list := by
 unfold hWordAt
 split
 ·exact l_openAt _ _ _
 ·rfl
theorem l_shutAt (c : Int) (r : List Int) (h : Th) : (hShutAt c r h).list = h.list := by unfold hShutAt; split <;> rfl
theorem l_stillAt (c : Int) : ∀ (r : List EntD) (h : Th), (hStillAt c r h).list = h.list
 | [], h => by unfold hStillAt; exact l_shutAt _ _ _
 | e :: r, h => by
  unfold hStillAt
  split
  ·exact l_stillAt c r h
  ·rfl
theorem l_rest (K : Cx) (d : Int) (h : Th) : (hRest K d h).list = h.list := by
 unfold hRest
 simp only
 split <;> split <;> rfl
attribute [local irreducible] hWrote hFail hRest hFailOwn hCount hGot hGo hExStill hShutAt hStillAt hTo hFreeAt hOpenAt hWordAt in
theorem lm_next (K : Cx) (h : Th) (v : AnsD) (hs : h.st ≠ .start) : LM h.list (hNext K h v).list := by
 unfold hNext
 split
 all_goals first
  | exact LM.refl _
  | (exfalso; apply hs; assumption)
  | skip
 all_goals try simp only
 all_goals repeat' (refine lm_iteT ?_ ?_)
 all_goals first
  | exact LM.refl _
  | exact lm_got K _ _ _ _
  | exact lm_exStill K _ _ _ _
  | exact LM.of (l_fail _ _)
  | exact lm_wrote K _ _ _
  | exact lm_go K _
  | exact LM.of (l_stillAt _ _ _)
  | exact LM.of (l_shutAt _ _ _)
  | exact lm_stamp _ _
  | exact LM.of (l_wordAt _ _ _)
  | exact LM.of (l_openAt _ _ _)
  | exact LM.of (l_freeAt _ _ _)
  | exact (lm_ended h _ _).trans (LM.of (l_to _ _ _))
  | exact LM.of (l_failOwn _ _ _)
  | exact lm_ended h _ _
  | exact (lm_ended h _ _).trans (LM.of (l_rest _ _ _))
theorem lm_start (K : Cx) (h : Th) (v : AnsD) (hs : h.st = .start) : ∃ a : AttD, (hNext K h v).list = h.list ++ [a] ∧ a.start = v.num ∧ a.thread = K.me := by
 have e : hNext K h v = hGo K { h with list := h.list ++ [⟨K.me, h.job, v.num, 0, v.seen, 0, 0, []⟩], x := newTS (K.jobs.getD h.job (0, [])).2 v.seen } := by
  unfold hNext
  rw [hs]
 obtain ⟨f, hf, hl⟩ := lm_go K { h with list := h.list ++ [⟨K.me, h.job, v.num, 0, v.seen, 0, 0, []⟩], x := newTS (K.jobs.getD h.job (0, [])).2 v.seen }
 refine ⟨f ⟨K.me, h.job, v.num, 0, v.seen, 0, 0, []⟩, ?_, (hf _).1, (hf _).2⟩
 rw [e, hl]
 unfold modLast
 apply List.ext_getElem?
 intro i
 simp only [List.getElem?_modify, List.length_append, List.length_singleton, Nat.add_sub_cancel]
 by_cases hi : h.list.length = i
 ·subst hi
  simp
 ·rcases Nat.lt_or_ge i h.list.length with h1 | h1
  ·rw [List.getElem?_append_left h1, List.getElem?_append_left h1]; simp [hi]
  ·rw [List.getElem?_append_right h1, List.getElem?_append_right h1]
   have : i - h.list.length ≠ 0 := by omega
   obtain ⟨n, hn⟩ := Nat.exists_eq_succ_of_ne_zero this
   rw [hn]
   simp [hi]
structure LA (R : Rn) (k : Nat) (t : Int) (a : AttD) : Prop where
 thr : a.thread = t
 s1 : 1 ≤ a.start
 s2 : a.start ≤ k
 pk : (R.pk (a.start - 1).toNat).thread = t
theorem la_at (R : Rn) (t : Int) (t0 : 0 ≤ t) (t1 : t < R.c.t) : ∀ k : Nat, (∀ a ∈ ((R.g k).th t).list, LA R k t a) ∧ ((R.g k).th t).list.Pairwise fun a b => a.start < b.start
 | 0 => by
  have e : ((R.g 0).th t).list = [] := by
   show (hTo (R.K t) 0 _).list = _
   rw [l_to]
  rw [e]
  exact ⟨fun a ha => (by cases ha), List.Pairwise.nil⟩
 | k + 1 => by
  obtain ⟨h1, h2⟩ := la_at R t t0 t1 k
  have up : ∀ a ∈ ((R.g k).th t).list, LA R (k + 1) t a := fun a ha => ⟨(h1 a ha).thr, (h1 a ha).s1, by have := (h1 a ha).s2; omega, (h1 a ha).pk⟩
  by_cases hp : (R.pk k).thread = t
  ·rw [R.at k hp t0 t1]
   by_cases hs : ((R.g k).th t).st = .start
   ·obtain ⟨a, e, ea, et⟩ := lm_start (R.K t) ((R.g k).th t) ⟨(accBy (R.g k).m (R.out k t)).seen, (R.pk k).draw, (k : Int) + 1⟩ hs
    have ea' : a.start = (k : Int) + 1 := ea
    rw [e]
    refine ⟨fun b hb => ?_, ?_⟩
    ·rcases List.mem_append.1 hb with hb | hb
     ·exact up b hb
     ·simp at hb
      subst hb
      refine ⟨et, by omega, by omega, ?_⟩
      rw [ea', show ((k : Int) + 1 - 1).toNat = k by omega]
      exact hp
    ·rw [List.pairwise_append]
     refine ⟨h2, by simp, fun b hb c hc => ?_⟩
     simp at hc
     subst hc
     have := (h1 b hb).s2
     omega
   ·obtain ⟨f, hf, e⟩ := lm_next (R.K t) ((R.g k).th t) ⟨(accBy (R.g k).m (R.out k t)).seen, (R.pk k).draw, (k : Int) + 1⟩ hs
    rw [e]
    by_cases hn : ((R.g k).th t).list = []
    ·rw [hn]
     exact ⟨fun a ha => (by simp [modLast] at ha), by simp [modLast]⟩
    ·obtain ⟨l0, y, hy⟩ := snoc_of hn
     rw [hy] at up h2 ⊢
     rw [modLast_snoc]
     obtain ⟨p1, p2, p3⟩ := List.pairwise_append.1 h2
     have hfy := hf y
     refine ⟨fun b hb => ?_, ?_⟩
     ·rcases List.mem_append.1 hb with hb | hb
      ·exact up b (by simp [hb])
      ·simp at hb
       subst hb
       have A := up y (by simp)
       exact ⟨hfy.2.trans A.thr, by rw [hfy.1]; exact A.s1, by rw [hfy.1]; exact A.s2, by rw [hfy.1]; exact A.pk⟩
     ·rw [List.pairwise_append]
      refine ⟨p1, by simp, fun b hb c hc => ?_⟩
      simp at hc
      subst hc
      rw [hfy.1]
      exact p3 b hb y (by simp)
  ·rw [R.off k hp]
   exact ⟨up, h2⟩
theorem la_t {R : Rn} (k : Nat) (t : Int) (t0 : 0 ≤ t) (t1 : t < R.c.t) {a : AttD} (ha : a ∈ ((R.g k).th t).list) : LA R k t a := (la_at R t t0 t1 k).1 a ha
theorem la_srt {R : Rn} (k : Nat) (t : Int) (t0 : 0 ≤ t) (t1 : t < R.c.t) : ((R.g k).th t).list.Pairwise fun a b => a.start < b.start := (la_at R t t0 t1 k).2
theorem histL_mem {R : Rn} {a : AttD} : a ∈ R.hist ↔ ∃ t, 0 ≤ t ∧ t < R.c.t ∧ a ∈ ((R.g R.ps.length).th t).list := by
 unfold Rn.hist
 rw [List.mem_flatMap]
 constructor
 ·rintro ⟨i, _, ha⟩
  exact all_mem.1 (List.mem_filter.1 ha).1
 ·rintro ⟨t, t0, t1, ha⟩
  have A := la_t _ t t0 t1 ha
  have h1 := A.s1
  have h2 := A.s2
  exact ⟨(a.start - 1).toNat, by rw [List.mem_range]; omega, List.mem_filter.2 ⟨all_mem.2 ⟨t, t0, t1, ha⟩, by simp only [decide_eq_true_eq]; omega⟩⟩
theorem allL_srt (R : Rn) (k : Nat) : (R.all k).Pairwise fun a b => a.start ≠ b.start := by
 unfold Rn.all
 rw [List.pairwise_flatMap]
 constructor
 ·intro t ht
  rw [List.mem_range] at ht
  exact (la_srt k (t : Int) (by omega) (by omega)).imp (fun h => by omega)
 ·have hl : ∀ n, n ≤ R.c.t.toNat → (List.range n).Pairwise fun t u : Nat => ∀ x ∈ ((R.g k).th (t : Int)).list, ∀ y ∈ ((R.g k).th (u : Int)).list, x.start ≠ y.start := by
   intro n
   induction n with
   | zero => intro _; exact List.Pairwise.nil
   | succ n ih =>
    intro hn
    rw [List.range_succ, List.pairwise_append]
    refine ⟨ih (by omega), List.pairwise_singleton _ _, fun t ht u hu x hx y hy e => ?_⟩
    rw [List.mem_range] at ht
    rw [List.mem_singleton] at hu
    have h1 := (la_t k (t : Int) (by omega) (by omega) hx).pk
    have h2 := (la_t k (u : Int) (by omega) (by omega) hy).pk
    rw [e, h2] at h1
    omega
  exact hl _ (Nat.le_refl _)
theorem histL_srt (R : Rn) : R.hist.Pairwise fun a b => a.start < b.start := by
 unfold Rn.hist
 rw [List.pairwise_flatMap]
 constructor
 ·intro i hi
  have h := (allL_srt R R.ps.length).filter (fun a => decide (a.start = (i : Int) + 1))
  refine h.imp_of_mem fun {a b} ha hb x => ?_
  have h1 := (List.mem_filter.1 ha).2
  have h2 := (List.mem_filter.1 hb).2
  simp only [decide_eq_true_eq] at h1 h2
  omega
 ·refine List.Pairwise.imp (R := fun i j : Nat => i < j) (fun {i j} hij x hx y hy => ?_) List.pairwise_lt_range
  have h1 := (List.mem_filter.1 hx).2
  have h2 := (List.mem_filter.1 hy).2
  simp only [decide_eq_true_eq] at h1 h2
  omega
end Go.Proofs.YtejadojilncbjaaGreat
namespace Go.Proofs.YtejadojilncbjaaGreat
open Go.RowKit
set_option linter.unusedVariables false
def avCells (q : AttD × Value) : List Value := attCells q.1 q.2
def NotesOf (w : World) (AN : List (AttD × Value)) : Prop := ∀ q ∈ AN, w.ownsRow 0 95 3 q.2 q.1.notes.length (q.1.notes.flatMap noteCells)
def AttsRow (w : World) (base : Nat) (a : Option Addr) (c : Nat) (AN : List (AttD × Value)) : Prop := w.ownsRow base 63 8 (.slice a AN.length c) AN.length (AN.flatMap avCells)
theorem list_av {w : World} {B : Nat} {la : Option Addr} {lc : Nat} {L : List AttD} (h : ListRep w B la lc L) : ∃ AN : List (AttD × Value), AN.map (·.1) = L ∧ AttsRow w B la lc AN ∧ NotesOf w AN := by
 obtain ⟨nvs, h1, h2, h3, _⟩ := h
 have hl : (L.zip nvs).length = L.length := by simp [h1]
 refine ⟨L.zip nvs, List.map_fst_zip (by omega), by unfold AttsRow; rw [hl]; exact h2, fun q hq => ?_⟩
 obtain ⟨i, hi, rfl⟩ := List.getElem_of_mem hq
 have hi' : i < L.length := by omega
 have := h3 i L[i] nvs[i] (List.getElem?_eq_getElem hi') (List.getElem?_eq_getElem (by omega))
 simpa using ownsRow_low this (Nat.zero_le _)
theorem own_one {w : World} {base e size n : Nat} {v : Value} {xs : List Value} (h : w.ownsRow base e size v n xs) : v.oneCell' = true := by
 rcases h.2 with ⟨rfl, _⟩ | ⟨g, cap, cur, rfl, _⟩ <;> rfl
theorem av_one {w : World} {AN : List (AttD × Value)} (h : NotesOf w AN) : ∀ u ∈ AN.flatMap avCells, u.oneCell' = true := fun u hu => by
 obtain ⟨q, hq, hu⟩ := List.mem_flatMap.1 hu
 simp [avCells, attCells] at hu
 rcases hu with rfl | rfl | rfl | rfl | rfl | rfl | rfl | rfl
 all_goals first
  | rfl
  | exact own_one (h q hq)
theorem av_len (AN : List (AttD × Value)) : (AN.flatMap avCells).length = AN.length * 8 := flat_len (f := avCells) (n := 8) (fun _ => rfl) AN
theorem AttsRow.cells {w : World} {base : Nat} {a : Option Addr} {c : Nat} {AN : List (AttD × Value)} (h : AttsRow w base a c AN) (hn : 0 < AN.length) :
  ∃ b, a = some ⟨b, 0, none⟩ ∧ base ≤ b ∧ b < w.heap.size ∧ ∀ j u, (AN.flatMap avCells)[j]? = some u → w.cell? ⟨b, j, none⟩ = some u := by
 obtain ⟨g, cap, cur, hv, hb, hg, h1, h2, h3, h4⟩ := own_block h hn
 injection hv with ha
 refine ⟨g, ha, hb, lt_of_heap hg, fun j u hj => ?_⟩
 have hl := av_len AN
 have hjl : j < AN.length * 8 := by
  rw [← hl]
  exact (List.getElem?_eq_some_iff.1 hj).1
 rw [Blk.cell hg, ← hj, ← h4, List.getElem?_take_of_lt hjl]
 simp
theorem AttsRow.at {w : World} {base : Nat} {a : Option Addr} {c : Nat} {AN : List (AttD × Value)} (h : AttsRow w base a c AN) (k : Nat) (q : AttD × Value) (hk : AN[k]? = some q) :
  ∃ b, a = some ⟨b, 0, none⟩ ∧ b < w.heap.size ∧ w.cell? ⟨b, k * 8, none⟩ = some (.int .i64 q.1.thread) ∧ w.cell? ⟨b, k * 8 + 1, none⟩ = some (.int .i64 q.1.job) ∧ w.cell? ⟨b, k * 8 + 2, none⟩ = some (.int .i64 q.1.start) ∧ w.cell? ⟨b, k * 8 + 3, none⟩ = some (.int .i64 q.1.fin) ∧
   w.cell? ⟨b, k * 8 + 4, none⟩ = some (.int .i64 q.1.valid) ∧ w.cell? ⟨b, k * 8 + 5, none⟩ = some (.int .i64 q.1.stamp) ∧ w.cell? ⟨b, k * 8 + 6, none⟩ = some (.int .i64 q.1.fate) ∧ w.cell? ⟨b, k * 8 + 7, none⟩ = some q.2 := by
 have hkl := (List.getElem?_eq_some_iff.1 hk).1
 obtain ⟨b, ha, _, hb, hc⟩ := h.cells (by omega)
 have e : ∀ j, j < 8 → w.cell? ⟨b, k * 8 + j, none⟩ = (avCells q)[j]? := fun j hj => by
  have h0 := flat_at (f := avCells) (n := 8) (fun _ => rfl) AN k j hj
  rw [hk] at h0
  have h1 : (AN.flatMap avCells)[k * 8 + j]? = (avCells q)[j]? := by rw [h0]; rfl
  have h2 : (avCells q)[j]? = some ((avCells q)[j]'(by simpa [avCells, attCells] using hj)) := List.getElem?_eq_getElem _
  rw [h2] at h1 ⊢
  exact hc _ _ h1
 exact ⟨b, ha, hb, e 0 (by omega), e 1 (by omega), e 2 (by omega), e 3 (by omega), e 4 (by omega), e 5 (by omega), e 6 (by omega), e 7 (by omega)⟩
def histP (AN : List (AttD × Value)) (n : Nat) : List (AttD × Value) := (List.range n).flatMap fun i : Nat => AN.filter fun q => decide (q.1.start = (i : Int) + 1)
def outP (AN : List (AttD × Value)) (i j : Nat) : List (AttD × Value) := histP AN i ++ (AN.take j).filter fun q => decide (q.1.start = (i : Int) + 1)
theorem histP_next (AN : List (AttD × Value)) (n : Nat) : histP AN (n + 1) = histP AN n ++ AN.filter fun q => decide (q.1.start = (n : Int) + 1) := by
 unfold histP
 rw [List.range_succ, List.flatMap_append]
 simp
theorem outP_end (AN : List (AttD × Value)) (i : Nat) : outP AN i AN.length = outP AN (i + 1) 0 := by
 unfold outP
 rw [histP_next]
 simp
theorem outP_zero (AN : List (AttD × Value)) (i : Nat) : outP AN i 0 = histP AN i := by simp [outP]
theorem outP_yes {AN : List (AttD × Value)} {i j : Nat} {q : AttD × Value} (hj : AN[j]? = some q) (h : q.1.start = (i : Int) + 1) : outP AN i (j + 1) = outP AN i j ++ [q] := by
 unfold outP
 rw [List.take_add_one, hj, List.filter_append]
 simp [h]
theorem outP_no {AN : List (AttD × Value)} {i j : Nat} {q : AttD × Value} (hj : AN[j]? = some q) (h : q.1.start ≠ (i : Int) + 1) : outP AN i (j + 1) = outP AN i j := by
 unfold outP
 rw [List.take_add_one, hj, List.filter_append]
 simp [h]
theorem histP_fst (AN : List (AttD × Value)) (n : Nat) : (histP AN n).map (·.1) = (List.range n).flatMap fun i : Nat => (AN.map (·.1)).filter fun a => decide (a.start = (i : Int) + 1) := by
 unfold histP
 rw [List.map_flatMap]
 congr 1
 funext i
 rw [List.filter_map]
 rfl
theorem histP_mem {AN : List (AttD × Value)} {n : Nat} {q : AttD × Value} (h : q ∈ histP AN n) : q ∈ AN := by
 unfold histP at h
 obtain ⟨i, _, hq⟩ := List.mem_flatMap.1 h
 exact (List.mem_filter.1 hq).1
theorem filter_two {α : Type} (p q r : α → Bool) (h1 : ∀ a, p a = true → r a = true ∧ q a = false) (h2 : ∀ a, q a = true → r a = true) : ∀ l : List α, (l.filter p).length + (l.filter q).length ≤ (l.filter r).length
 | [] => by simp
 | a :: l => by
  have ih := filter_two p q r h1 h2 l
  have g1 := h1 a
  have g2 := h2 a
  cases hp : p a <;> cases hq : q a <;> cases hr : r a <;> simp_all <;> omega
theorem histP_len (AN : List (AttD × Value)) : ∀ n : Nat, (histP AN n).length + (AN.filter fun q => decide ((n : Int) < q.1.start)).length ≤ AN.length
 | 0 => by
  simp [histP]
  exact List.length_filter_le _ _
 | n + 1 => by
  have ih := histP_len AN n
  have h := filter_two (fun q : AttD × Value => decide (q.1.start = (n : Int) + 1)) (fun q => decide (((n + 1 : Nat) : Int) < q.1.start)) (fun q => decide ((n : Int) < q.1.start))
   (fun a ha => by simp at ha ⊢; omega) (fun a ha => by simp at ha ⊢; omega) AN
  rw [histP_next, List.length_append]
  omega
theorem outP_len (AN : List (AttD × Value)) (i j : Nat) : (outP AN i j).length ≤ AN.length := by
 have h := histP_len AN (i + 1)
 rw [histP_next, List.length_append] at h
 have h2 : ((AN.take j).filter fun q => decide (q.1.start = (i : Int) + 1)).length ≤ (AN.filter fun q => decide (q.1.start = (i : Int) + 1)).length := (List.Sublist.filter _ (List.take_sublist _ _)).length_le
 unfold outP
 rw [List.length_append]
 omega
theorem starts_len : ∀ (l : List Int) (lo hi : Int), l.Pairwise (· < ·) → (∀ a ∈ l, lo < a ∧ a ≤ hi) → lo ≤ hi → (l.length : Int) ≤ hi - lo
 | [], lo, hi, _, _, h => by simp; omega
 | a :: l, lo, hi, hp, hb, h => by
  have h1 := hb a (by simp)
  have h2 := starts_len l a hi (List.pairwise_cons.1 hp).2 (fun b hb' => ⟨(List.pairwise_cons.1 hp).1 b hb', (hb b (by simp [hb'])).2⟩) h1.2
  simp
  omega
theorem list_len {R : Rn} (O : R.Ok) (k : Nat) (t : Int) (t0 : 0 ≤ t) (t1 : t < R.c.t) : ((R.g k).th t).list.length ≤ k := by
 have T := la_at R t t0 t1 k
 have h := starts_len (((R.g k).th t).list.map (·.start)) 0 k (by
     rw [List.pairwise_map]
     exact T.2) (fun a ha => by
      obtain ⟨b, hb, rfl⟩ := List.mem_map.1 ha
      have A := T.1 b hb
      exact ⟨by have := A.s1; omega, A.s2⟩) (by omega)
 simp at h
 omega
def allTo (R : Rn) (T : Nat) : List AttD := (List.range T).flatMap fun t : Nat => ((R.g R.ps.length).th (t : Int)).list
theorem allTo_next (R : Rn) (T : Nat) : allTo R (T + 1) = allTo R T ++ ((R.g R.ps.length).th (T : Int)).list := by
 unfold allTo
 rw [List.range_succ, List.flatMap_append]
 simp
theorem allTo_len {R : Rn} (O : R.Ok) : ∀ T : Nat, (T : Int) ≤ R.c.t → (allTo R T).length ≤ T * R.ps.length
 | 0, _ => by simp [allTo]
 | T + 1, h => by
  have ih := allTo_len O T (by omega)
  have := list_len O R.ps.length (T : Int) (by omega) (by omega)
  rw [allTo_next, List.length_append, Nat.add_mul]
  omega
def histA (c : Cfg) (mem : List Int) (jobs : List (Int × List InsD)) (ps : List PickD) : List AttD := if errS c mem jobs = 0 then (⟨c, mem, jobs, ps⟩ : Rn).hist else []
theorem hist_allTo {R : Rn} {T : Nat} (h : R.c.t = (T : Int)) (AN : List (AttD × Value)) (hA : AN.map (·.1) = allTo R T) : (histP AN R.ps.length).map (·.1) = R.hist := by
 rw [histP_fst, hA]
 unfold Rn.hist Rn.all allTo
 rw [h]
 rfl
def HistIs (w : World) (l : List AttD) (ER : Int) (e : Ending) (w' : World) : Prop :=
 ∃ (la : Option Addr) (lc : Nat) (AN : List (AttD × Value)), AN.map (·.1) = l ∧ e = .returned (.tuple #[.slice la AN.length lc, .int .i64 ER]) ∧ AttsRow w' w.heap.size la lc AN ∧ NotesOf w' AN ∧ Below w.heap.size w w'
end Go.Proofs.YtejadojilncbjaaGreat
namespace Go.Proofs.YtejadojilncbjaaGreat
open Go.RowKit
set_option linter.unusedVariables false
attribute [local go_sem ↓] Go.wp_at_zero Go.wp_at_succ
theorem append_empty {P : Program} {w : World} {ops : Array Oper} {rest : List Oper} {o : Oper} {a : Act} {Q : Exit → Act → World → Prop} (hgd : o.guard = none) (s x : Operand) (t : TypeId)
  (ho : o.op = .call { callee := .builtin .append, args := #[s, x], argTypes := #[t, t] }) (e : TypeId) (i : TypeInfo) (ht : P.underlying t = some (.slice e)) (hi : P.info? e = some i)
  (base : Option Addr) (n cap : Nat) (hle : n ≤ cap) (hs : a.eval s = .slice base n cap) (xa : Option Addr) (xc : Nat) (hx : a.eval x = .slice xa 0 xc)
  (h : wpList P ops Q rest (a.put o.dst (.slice base n cap)) w) : wpList P ops Q (o :: rest) a w := by
 refine wpList_plain hgd fun K hK => ?_
 have hsrc : Src P i.size t (.slice xa 0 xc) 0 [] w := by
  cases xa with
  | none => exact Src.ofNil w ht xc
  | some ad => exact Src.ofSlice w ht ad 0 xc [] (by simp) (fun j u hj => by simp at hj) (fun u hu => by cases hu)
 have hrun := run_append_nothing (P := P) w t t o.type e i ht hi base n cap hle _ hsrc
 unfold Oper.wp
 simp [execOp, ho, resolve, invoke, builtin, hs, hx, hrun, Result.andThen]
 exact hK _ _ h
theorem own_cap {w : World} {base e size n c : Nat} {a : Option Addr} {xs : List Value} (h : w.ownsRow base e size (.slice a n c) n xs) : n ≤ c := by
 rcases h.2 with ⟨h0, h1⟩ | ⟨g, cap, cur, h0, _, _, h1, _⟩
 ·cases h0; exact Nat.le_refl _
 ·cases h0; exact h1
theorem NotesOf.keep {chg : List TypeId} {B p eb : Nat} {w w' : World} {AN : List (AttD × Value)} (h : NotesOf w AN) (hk : Kp chg B p eb w w') (ht : 95 ∉ chg) : NotesOf w' AN := fun q hq => ownsRow_keep (h q hq) hk ht
theorem NotesOf.below {w w' : World} {AN : List (AttD × Value)} (h : NotesOf w AN) (hb : Below w.heap.size w w') : NotesOf w' AN := fun q hq => ownsRow_below (h q hq) hb
end Go.Proofs.YtejadojilncbjaaGreat
