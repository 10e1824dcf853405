import Derived.Test.YtejadojilncbjabGreatK15
import Derived.Test.YtejadojilncbjabGreatK39
import Derived.Test.YtejadojilncbjabGreatK35
import Derived.Deep.Upon
import Derived.Test.YtejadojilncbjabGreatK27
import Derived.Test.YtejadojilncbjabGreatK22
import Derived.Test.YtejadojilncbjabGreatK29
import Derived.Test.YtejadojilncbjabGreatK08
import Derived.Test.YtejadojilncbjabGreatK34
namespace Go.Proofs.YtejadojilncbjabGreat
open Go.RowKit
set_option linter.unusedVariables false
def avCells (q : AttD × Value) : List Value := attCells q.1 q.2
def NotesOf (w : World) (AN : List (AttD × Value)) : Prop := ∀ q ∈ AN, w.ownsRow 0 93 3 q.2 q.1.notes.length (q.1.notes.flatMap noteCells)
def AttsRow (w : World) (base : Nat) (a : Option Addr) (c : Nat) (AN : List (AttD × Value)) : Prop := w.ownsRow base 82 8 (.slice a AN.length c) AN.length (AN.flatMap avCells)
theorem av_len (AN : List (AttD × Value)) : (AN.flatMap avCells).length = AN.length * 8 := flat_len (f := avCells) (n := 8) (fun _ => rfl) AN
theorem AttsRow.cells {w : World} {base : Nat} {a : Option Addr} {c : Nat} {AN : List (AttD × Value)} (h : AttsRow w base a c AN) (hn : 0 < AN.length) :
  ∃ b, a = some ⟨b, 0, none⟩ ∧ base ≤ b ∧ b < w.heap.size ∧ ∀ j u, (AN.flatMap avCells)[j]? = some u → w.cell? ⟨b, j, none⟩ = some u := by
 obtain ⟨g, cap, cur, hv, hb, hg, h1, h2, h3, h4⟩ := own_block h hn
 injection hv with ha
 refine ⟨g, ha, hb, lt_of_heap hg, fun j u hj => ?_⟩
 have hl := av_len AN
 have hjl : j < AN.length * 8 := by
  rw [← hl]
  exact (List.getElem?_eq_some_iff.1 hj).1
 rw [Blk.cell hg, ← hj, ← h4, List.getElem?_take_of_lt hjl]
 simp
theorem AttsRow.at {w : World} {base : Nat} {a : Option Addr} {c : Nat} {AN : List (AttD × Value)} (h : AttsRow w base a c AN) (k : Nat) (q : AttD × Value) (hk : AN[k]? = some q) :
  ∃ b, a = some ⟨b, 0, none⟩ ∧ b < w.heap.size ∧ w.cell? ⟨b, k * 8, none⟩ = some (.int .i64 q.1.thread) ∧ w.cell? ⟨b, k * 8 + 1, none⟩ = some (.int .i64 q.1.job) ∧ w.cell? ⟨b, k * 8 + 2, none⟩ = some (.int .i64 q.1.start) ∧ w.cell? ⟨b, k * 8 + 3, none⟩ = some (.int .i64 q.1.fin) ∧
   w.cell? ⟨b, k * 8 + 4, none⟩ = some (.int .i64 q.1.valid) ∧ w.cell? ⟨b, k * 8 + 5, none⟩ = some (.int .i64 q.1.stamp) ∧ w.cell? ⟨b, k * 8 + 6, none⟩ = some (.int .i64 q.1.fate) ∧ w.cell? ⟨b, k * 8 + 7, none⟩ = some q.2 := by
 have hkl := (List.getElem?_eq_some_iff.1 hk).1
 obtain ⟨b, ha, _, hb, hc⟩ := h.cells (by omega)
 have e : ∀ j, j < 8 → w.cell? ⟨b, k * 8 + j, none⟩ = (avCells q)[j]? := fun j hj => by
  have h0 := flat_at (f := avCells) (n := 8) (fun _ => rfl) AN k j hj
  rw [hk] at h0
  have h1 : (AN.flatMap avCells)[k * 8 + j]? = (avCells q)[j]? := by rw [h0]; rfl
  have h2 : (avCells q)[j]? = some ((avCells q)[j]'(by simpa [avCells, attCells] using hj)) := List.getElem?_eq_getElem _
  rw [h2] at h1 ⊢
  exact hc _ _ h1
 exact ⟨b, ha, hb, e 0 (by omega), e 1 (by omega), e 2 (by omega), e 3 (by omega), e 4 (by omega), e 5 (by omega), e 6 (by omega), e 7 (by omega)⟩
theorem starts_len : ∀ (l : List Int) (lo hi : Int), l.Pairwise (· < ·) → (∀ a ∈ l, lo < a ∧ a ≤ hi) → lo ≤ hi → (l.length : Int) ≤ hi - lo
 | [], lo, hi, _, _, h => by simp; omega
 | a :: l, lo, hi, hp, hb, h => by
  have h1 := hb a (by simp)
  have h2 := starts_len l a hi (List.pairwise_cons.1 hp).2 (fun b hb' => ⟨(List.pairwise_cons.1 hp).1 b hb', (hb b (by simp [hb'])).2⟩) h1.2
  simp
  omega
def histA (c : Cfg) (mem : List Int) (jobs : List (Int × List InsD)) (ps : List PickD) : List AttD := if errS c mem jobs = 0 then (⟨c, mem, jobs, ps⟩ : Rn).hist else []
def HistIs (w : World) (l : List AttD) (ER : Int) (e : Ending) (w' : World) : Prop :=
 ∃ (la : Option Addr) (lc : Nat) (AN : List (AttD × Value)), AN.map (·.1) = l ∧ e = .returned (.tuple #[.slice la AN.length lc, .int .i64 ER]) ∧ AttsRow w' w.heap.size la lc AN ∧ NotesOf w' AN ∧ Below w.heap.size w w'
end Go.Proofs.YtejadojilncbjabGreat
namespace Go.Proofs.YtejadojilncbjabGreat
open Go.RowKit
set_option linter.unusedVariables false
attribute [local go_sem ↓] Go.wp_at_zero Go.wp_at_succ
theorem NotesOf.keep {chg : List TypeId} {B p eb : Nat} {w w' : World} {AN : List (AttD × Value)} (h : NotesOf w AN) (hk : Kp chg B p eb w w') (ht : 93 ∉ chg) : NotesOf w' AN := fun q hq => ownsRow_keep (h q hq) hk ht
theorem NotesOf.below {w w' : World} {AN : List (AttD × Value)} (h : NotesOf w AN) (hb : Below w.heap.size w w') : NotesOf w' AN := fun q hq => ownsRow_below (h q hq) hb
end Go.Proofs.YtejadojilncbjabGreat
namespace Go.Proofs.YtejadojilncbjabGreat
set_option linter.unusedVariables false
theorem overN_at {a : Int} : ∀ (l : List NoteD) (f g : Int → Int), f a = g a → overN l f a = overN l g a
 | [], f, g, h => h
 | n :: r, f, g, h => by
  unfold overN
  refine overN_at r _ _ ?_
  split
  ·exact h
  ·unfold upd
   split
   ·rfl
   ·exact h
theorem AttOk.st {K : Cx} {G : Gh} {b : Int} {x : AttD} (A : AttOk K G b x) : 0 ≤ x.stamp ∧ x.stamp ≤ b ∧ x.valid ≤ b ∧ (0 < x.stamp → x.valid < x.stamp) := by
 have := A.va
 rcases A.snd with ⟨p, q, r⟩ | ⟨p, q, r⟩
 ·omega
 ·omega
theorem stamp_un {R : Rn} (O : R.Ok) {x y : AttD} (hx : x ∈ R.hist) (hy : y ∈ R.hist) (h : x.stamp ≠ 0) (e : x.stamp = y.stamp) : x.start = y.start := by
 obtain ⟨t, t0, t1, hx'⟩ := (hist_mem O).1 hx
 obtain ⟨u, u0, u1, hy'⟩ := (hist_mem O).1 hy
 exact ((sti_at O R.ps.length).un t u t0 t1 u0 u1 (er x) (List.mem_map.2 ⟨x, hx', rfl⟩) (er y) (List.mem_map.2 ⟨y, hy', rfl⟩) h e).2
theorem stamp_ex {R : Rn} (O : R.Ok) {v : Int} (v1 : 1 ≤ v) (v2 : v ≤ R.clk R.ps.length) : ∃ x ∈ R.hist, x.stamp = v := by
 obtain ⟨t, t0, t1, a, ha, e⟩ := (sti_at O R.ps.length).ex v v1 v2
 obtain ⟨b, hb, e2⟩ := er_mem ha
 refine ⟨b, (hist_mem O).2 ⟨t, t0, t1, hb⟩, ?_⟩
 rw [← e, e2]
 rfl
theorem hist_ok {R : Rn} (O : R.Ok) {x : AttD} (hx : x ∈ R.hist) : AttOk (R.K 0) (R.gh R.ps.length) (R.clk R.ps.length) x := by
 obtain ⟨t, t0, t1, hx'⟩ := (hist_mem O).1 hx
 have A : AttOk (R.K t) (R.gh R.ps.length) (R.clk R.ps.length) x := att_at O.c O.w O.m R.jobs R.ps _ t t0 t1 x hx'
 exact ⟨A.inn, A.va, A.snd⟩
theorem ends_step {R : Rn} (O : R.Ok) (k : Nat) (t : Int) (t0 : 0 ≤ t) (t1 : t < R.c.t) (j : Nat) (h : (endOf ((R.g k).th t) j).fate ≠ 0) : endOf ((R.g (k + 1)).th t) j = endOf ((R.g k).th t) j := by
 obtain ⟨_, _, ⟨s1, s2⟩, _, _, _, ⟨f1, f2⟩⟩ := cfgB_true O.c
 by_cases hp : (R.pk k).thread = t
 ·have T := ti_at O t t0 t1 k
  have L := leff_next (K := R.K t) (by show 0 ≤ R.c.f; omega) (Rn.okT O k t t0 t1) ⟨(accBy (R.g k).m (R.out k t)).seen, (R.pk k).draw, (k : Int) + 1⟩
  rw [R.at k hp t0 t1]
  generalize (R.g k).th t = y at *
  generalize (⟨(accBy (R.g k).m (R.out k t)).seen, (R.pk k).draw, (k : Int) + 1⟩ : AnsD) = v at *
  generalize hNext (R.K t) y v = y' at *
  cases L with
  | note E O' J N P Z => unfold endOf; rw [N]
  | new e E O' J N P => unfold endOf; rw [N]
  | valid c e E O' J N P => unfold endOf; rw [N]
  | stamp c e E O' J N P => unfold endOf; rw [N]
  | failed e E O' J N Z => unfold endOf; rw [N]
  | fin f e E =>
   have ni : y.st ≠ .idle := fun q => by rw [e] at q; cases q
   have En : y'.ends = y.ends.set y.job ⟨f, regOf y.x 0, regOf y.x 1, regOf y.x 2, regOf y.x 3⟩ := by
    rw [E]; unfold hTo; split <;> rfl
   have hj : j ≠ y.job := fun q => by
    obtain ⟨a, ha, x1, x2, x3, x4⟩ := T.ee j h
    have := (T.ja ni a ha).2 (by omega) (by omega)
    omega
   unfold endOf
   rw [En]
   simp only [List.getD]
   rw [List.getElem?_set_ne (fun q => hj q.symm)]
 ·rw [R.off k hp]
def Rn.res (R : Rn) (k j : Nat) : ResD := endOf ((R.g k).th (R.jobs.getD j (0, [])).1) j
def NfSt (K : Cx) (m : Int → Int) (h : Th) : Prop := match h.st with
 | .idle => True
 | .start => True
 | .rHeld _ _ => h.x.valid = m 0
 | .rVer _ _ => h.x.valid = m 0
 | .rWord _ a one => h.x.valid = m 0 ∧ m (3 + a.tmod K.c.s) = one
 | .rAgain _ a one _ => h.x.valid = m 0 ∧ m (3 + a.tmod K.c.s) = one
 | .gStat _ _ => h.x.valid = m 0
 | .gOwn _ _ => h.x.valid = m 0
 | .gVer _ _ => h.x.valid = m 0
 | .tTake => h.x.valid = m 0 ∧ m (hSta K K.me) = 0
 | .tShow => h.x.valid = m 0 ∧ m (hSta K K.me) = 0
 | .cStat => h.x.valid = m 0
 | .cGate => h.x.valid = m 0
 | .cClock => h.x.valid = m 0
 | .cShut _ _ => True
 | .cStamp _ => True
 | .cLeave _ => True
 | .cWord _ _ => True
 | .cOpen _ _ => True
 | .cOwn _ _ => True
 | .free _ _ => True
 | .fin _ => True
 | _ => False
structure Nf (K : Cx) (m : Int → Int) (h : Th) : Prop where
 rk : h.rank = 0 → m (hSta K K.me) = 0
 mr : (m (hSta K K.me)).tmod 8 = 0
 st : NfSt K m h
theorem Nf.same {K : Cx} {m m' : Int → Int} {h : Th} (e0 : m' 0 = m 0) (es : m' (hSta K K.me) = m (hSta K K.me)) (ev : ∀ s, 0 ≤ s → s < K.c.s → m' (3 + s) = m (3 + s)) (s1 : 1 ≤ K.c.s) {k : Int} (A : StepOk K k h) (N : Nf K m h) : Nf K m' h := by
 refine ⟨by rw [es]; exact N.rk, by rw [es]; exact N.mr, ?_⟩
 have S := N.st
 unfold NfSt at S ⊢
 unfold StepOk at A
 cases hst : h.st with
 | rWord i a one =>
  rw [hst] at S A
  have b := tmodP s1 A.1.1
  exact ⟨by rw [e0]; exact S.1, by rw [ev _ b.1 b.2]; exact S.2⟩
 | rAgain i a one w =>
  rw [hst] at S A
  have b := tmodP s1 A.1.1
  exact ⟨by rw [e0]; exact S.1, by rw [ev _ b.1 b.2]; exact S.2⟩
 | tTake => rw [hst] at S; exact ⟨by rw [e0]; exact S.1, by rw [es]; exact S.2⟩
 | tShow => rw [hst] at S; exact ⟨by rw [e0]; exact S.1, by rw [es]; exact S.2⟩
 | rHeld i a => rw [hst] at S; exact S.trans e0.symm
 | rVer i a => rw [hst] at S; exact S.trans e0.symm
 | gStat i a => rw [hst] at S; exact S.trans e0.symm
 | gOwn i a => rw [hst] at S; exact S.trans e0.symm
 | gVer i a => rw [hst] at S; exact S.trans e0.symm
 | cStat => rw [hst] at S; exact S.trans e0.symm
 | cGate => rw [hst] at S; exact S.trans e0.symm
 | cClock => rw [hst] at S; exact S.trans e0.symm
 | _ => rw [hst] at S; exact S
def Rn.One (R : Rn) (u : Int) : Prop := ∀ j, j < R.jobs.length → (R.jobs.getD j (0, [])).1 = u
end Go.Proofs.YtejadojilncbjabGreat
namespace Go.Proofs.YtejadojilncbjabGreat
open Go.RowKit
set_option linter.unusedVariables false
def jobsOf (c : Cfg) (mem : List Int) (jobs : List (Int × List InsD)) (ps : List PickD) : List ResD :=
 (List.range jobs.length).map fun j => ((gAt c mem jobs ps ps.length).th (jobs.getD j (0, [])).1).ends.getD j noRes
def resPad (rs : List ResD) (k : Nat) : List ResD := rs.take k ++ List.replicate (rs.length - k) noRes
theorem resPad_len (rs : List ResD) (k : Nat) (hk : k ≤ rs.length) : (resPad rs k).length = rs.length := by unfold resPad; simp; omega
theorem resPad_next (rs : List ResD) (k : Nat) (hk : k < rs.length) : resPad rs (k + 1) = (resPad rs k).set k (rs.getD k noRes) := by
 unfold resPad
 apply List.ext_getElem?
 intro i
 rw [List.getElem?_set]
 by_cases hi : k = i
 ·subst hi
  rw [if_pos rfl, if_pos (by simp; omega), List.getElem?_append_left (by simp; omega), List.getElem?_take_of_lt (by omega), List.getElem?_eq_getElem hk]
  simp [List.getD, List.getElem?_eq_getElem hk]
 ·rw [if_neg hi]
  rcases Nat.lt_or_ge i k with h | h
  ·rw [List.getElem?_append_left (by simp; omega), List.getElem?_append_left (by simp; omega), List.getElem?_take_of_lt (by omega), List.getElem?_take_of_lt (by omega)]
  ·rw [List.getElem?_append_right (by simp; omega), List.getElem?_append_right (by simp; omega)]
   simp only [List.length_take, List.getElem?_replicate]
   rw [Nat.min_eq_left (by omega), Nat.min_eq_left (by omega)]
   by_cases h2 : i < rs.length
   ·rw [if_pos (by omega), if_pos (by omega)]
   ·rw [if_neg (by omega), if_neg (by omega)]
theorem resPad_zero (rs : List ResD) : resPad rs 0 = List.replicate rs.length ⟨0, 0, 0, 0, 0⟩ := by simp [resPad, noRes]
theorem resPad_all (rs : List ResD) : resPad rs rs.length = rs := by simp [resPad]
theorem res_set (l : List ResD) (k : Nat) (hk : k < l.length) (r : ResD) : (l.set k r).flatMap resCells = (((((l.flatMap resCells).set (k * 5) (.int .i64 r.fate)).set (k * 5 + 1) (.int .i64 r.r0)).set (k * 5 + 2) (.int .i64 r.r1)).set (k * 5 + 3) (.int .i64 r.r2)).set (k * 5 + 4) (.int .i64 r.r3) := by
 have hl : (l.flatMap resCells).length = l.length * 5 := flat_len (f := resCells) (n := 5) (fun _ => rfl) l
 apply List.ext_getElem?
 intro j
 obtain ⟨i, s, hs, rfl⟩ : ∃ i s, s < 5 ∧ j = i * 5 + s := ⟨j / 5, j % 5, by omega, by omega⟩
 rw [flat_at (n := 5) (fun _ => rfl) _ i s hs]
 by_cases hi : i = k
 ·subst hi
  rw [List.getElem?_set_self hk]
  have : s = 0 ∨ s = 1 ∨ s = 2 ∨ s = 3 ∨ s = 4 := by omega
  rcases this with rfl | rfl | rfl | rfl | rfl
  ·rw [List.getElem?_set_ne (by omega), List.getElem?_set_ne (by omega), List.getElem?_set_ne (by omega), List.getElem?_set_ne (by omega), Nat.add_zero, List.getElem?_set_self (by omega)]; rfl
  ·rw [List.getElem?_set_ne (by omega), List.getElem?_set_ne (by omega), List.getElem?_set_ne (by omega), List.getElem?_set_self (by simp only [List.length_set]; omega)]; rfl
  ·rw [List.getElem?_set_ne (by omega), List.getElem?_set_ne (by omega), List.getElem?_set_self (by simp only [List.length_set]; omega)]; rfl
  ·rw [List.getElem?_set_ne (by omega), List.getElem?_set_self (by simp only [List.length_set]; omega)]; rfl
  ·rw [List.getElem?_set_self (by simp only [List.length_set]; omega)]; rfl
 ·rw [List.getElem?_set_ne (fun q => hi q.symm), List.getElem?_set_ne (by omega), List.getElem?_set_ne (by omega), List.getElem?_set_ne (by omega), List.getElem?_set_ne (by omega), List.getElem?_set_ne (by omega), flat_at (n := 5) (fun _ => rfl) _ i s hs]
def ResIs (w : World) (l : List ResD) (e : Ending) (w' : World) : Prop :=
 ∃ (la : Option Addr) (lc : Nat), e = .returned (.slice la l.length lc) ∧ w'.ownsRow w.heap.size 47 5 (.slice la l.length lc) l.length (l.flatMap resCells) ∧ Below w.heap.size w w'
theorem row_of_blk {w : World} {base g n size : Nat} {e : TypeId} {xs : List Value} (h : Blk w g e xs.toArray) (hb : base ≤ g) (hx : xs.length = n * size) (hn : n ≤ maxLen) : w.ownsRow base e size (.slice (some ⟨g, 0, none⟩) n n) n xs :=
 ⟨hx, .inr ⟨g, n, xs.toArray, rfl, hb, h, Nat.le_refl _, hn, by simp [hx], by simp [← hx]⟩⟩
def jobsA (c : Cfg) (mem : List Int) (jobs : List (Int × List InsD)) (ps : List PickD) : List ResD := if errS c mem jobs = 0 then jobsOf c mem jobs ps else []
def JobsIs (w : World) (l : List ResD) (ER : Int) (e : Ending) (w' : World) : Prop :=
 ∃ (la : Option Addr) (lc : Nat), e = .returned (.tuple #[.slice la l.length lc, .int .i64 ER]) ∧ w'.ownsRow w.heap.size 47 5 (.slice la l.length lc) l.length (l.flatMap resCells) ∧ Below w.heap.size w w'
def JobsGood : Prop := ∀ (c : Cfg) (mem : List Int) (jobs : List (Int × List InsD)) (ps : List PickD) (ma ja pa : Option Addr) (mc jc pc : Nat) (w : World), ps.length ≤ 2 ^ 23 → mem.length ≤ maxLen → jobs.length ≤ maxLen →
  Ints w w.heap.size ma mem → JobsRep w w.heap.size ja jobs → PicksIn w w.heap.size pa ps →
  Calls Tryz.prog 9 #[.agg #[.int .i64 c.t, .int .i64 c.wd, .int .i64 c.s, .int .i64 c.g, .int .i64 c.r, .int .i64 c.cp, .int .i64 c.f, .slice ma mem.length mc, .slice ja jobs.length jc], .slice pa ps.length pc] w (JobsIs w (jobsA c mem jobs ps) (errS c mem jobs))
theorem jobsOf_get (c : Cfg) (mem : List Int) (jobs : List (Int × List InsD)) (ps : List PickD) (j : Nat) (hj : j < jobs.length) : (jobsOf c mem jobs ps).getD j noRes = endOf ((gAt c mem jobs ps ps.length).th (jobs.getD j (0, [])).1) j := by
 unfold jobsOf endOf
 simp only [List.getD, List.getElem?_map, List.getElem?_range hj, Option.map_some, Option.getD_some]
 rfl
theorem PicksIn.take {w : World} {B : Nat} {a : Option Addr} {ps : List PickD} (h : PicksIn w B a ps) (n : Nat) : PicksIn w B a (ps.take n) := fun i hi => by
 have h1 : i < ps.length := by simp at hi; omega
 have h2 : i < n := by simp at hi; omega
 have e : pickAt (ps.take n) i = pickAt ps i := by
  unfold pickAt
  simp [List.getD, List.getElem?_take_of_lt h2]
 have := h i h1
 rw [e]
 exact this
end Go.Proofs.YtejadojilncbjabGreat
namespace Go.Proofs.YtejadojilncbjabGreat
open Go.RowKit
set_option linter.unusedVariables false
attribute [local go_sem ↓] Go.wp_at_zero Go.wp_at_succ
theorem ress_at {w : World} {base : Nat} {a : Option Addr} {c : Nat} {rs : List ResD} (h : w.ownsRow base 47 5 (.slice a rs.length c) rs.length (rs.flatMap resCells)) (k : Nat) (hk : k < rs.length) :
  ∃ b, a = some ⟨b, 0, none⟩ ∧ w.cell? ⟨b, k * 5, none⟩ = some (.int .i64 (rs.getD k noRes).fate) ∧ w.cell? ⟨b, k * 5 + 1, none⟩ = some (.int .i64 (rs.getD k noRes).r0) ∧ w.cell? ⟨b, k * 5 + 2, none⟩ = some (.int .i64 (rs.getD k noRes).r1) ∧ w.cell? ⟨b, k * 5 + 3, none⟩ = some (.int .i64 (rs.getD k noRes).r2) ∧ w.cell? ⟨b, k * 5 + 4, none⟩ = some (.int .i64 (rs.getD k noRes).r3) := by
 obtain ⟨g, cap, cur, hv, hb, hg, h1, h2, h3, h4⟩ := own_block h (by omega)
 injection hv with ha
 have hl : (rs.flatMap resCells).length = rs.length * 5 := flat_len (f := resCells) (n := 5) (fun _ => rfl) rs
 have e : ∀ j, j < 5 → w.cell? ⟨g, k * 5 + j, none⟩ = (resCells (rs.getD k noRes))[j]? := fun j hj => by
  rw [Blk.cell hg]
  have h5 : cur[k * 5 + j]? = (cur.toList.take (rs.length * 5))[k * 5 + j]? := by
   rw [List.getElem?_take_of_lt (by omega)]
   simp
  rw [h5, h4, flat_at (n := 5) (fun _ => rfl) _ k j hj, List.getElem?_eq_getElem hk]
  simp [List.getD, List.getElem?_eq_getElem hk]
 exact ⟨g, ha, e 0 (by omega), e 1 (by omega), e 2 (by omega), e 3 (by omega), e 4 (by omega)⟩
section
variable (base p z : Nat) (A B : List Value) (t : PT) (L : Ls) (w : World)
set_option maxRecDepth 100000 in
set_option maxHeartbeats 4000000 in
theorem t_result (R : TR base p z A B w t L) (hrl : t.res.length ≤ 200) (hrm : t.res.length ≤ t.mine.length) (j : Int) (r : ResD)
  (hr : ∀ k, k < t.res.length → t.mine.getD k 0 = j → t.res.getD k noRes = r) (hn : (∀ k, k < t.res.length → t.mine.getD k 0 ≠ j) → r = noRes) :
  Calls Tryz.prog 78 #[.pointer (some ⟨p, z, none⟩), .int .i64 j] w fun e w' => e = .returned (.agg #[.int .i64 r.fate, .int .i64 r.r0, .int .i64 r.r1, .int .i64 r.r2, .int .i64 r.r3]) ∧ Below w.heap.size w w' := by
 obtain ⟨sa, hsa⟩ : ∃ sa, sa = L.sa := ⟨_, rfl⟩
 obtain ⟨sl, hsl⟩ : ∃ sl, sl = t.res.length := ⟨_, rfl⟩
 obtain ⟨ml, hml⟩ : ∃ ml, ml = t.mine.length := ⟨_, rfl⟩
 have HC : Hid (w.cell? ⟨p, z + 10, none⟩ = some (.slice sa sl L.sc)) := by rw [hsl, hsa]; exact R.tt.cRes
 have HM : Hid (w.cell? ⟨p, z + 8, none⟩ = some (.slice L.ma ml L.mc)) := by rw [hml]; exact R.tt.cMine
 have HP : Hid (p < w.heap.size) := R.tt.lt
 have HRs : Hid (∀ k, k < sl → ∃ b, sa = some ⟨b, 0, none⟩ ∧ w.cell? ⟨b, k * 5, none⟩ = some (.int .i64 (t.res.getD k noRes).fate) ∧ w.cell? ⟨b, k * 5 + 1, none⟩ = some (.int .i64 (t.res.getD k noRes).r0) ∧ w.cell? ⟨b, k * 5 + 2, none⟩ = some (.int .i64 (t.res.getD k noRes).r1) ∧ w.cell? ⟨b, k * 5 + 3, none⟩ = some (.int .i64 (t.res.getD k noRes).r2) ∧ w.cell? ⟨b, k * 5 + 4, none⟩ = some (.int .i64 (t.res.getD k noRes).r3)) := fun k hk => by rw [hsa]; exact ress_at R.sr k (by rw [← hsl]; exact hk)
 have HMi : Hid (∀ k, k < ml → ∃ b, L.ma = some ⟨b, 0, none⟩ ∧ w.cell? ⟨b, k, none⟩ = some (.int .i64 (t.mine.getD k 0))) := fun k hk => nums_at R.mi k (by rw [← hml]; exact hk)
 have HR : Hid ((∀ k, k < sl → t.mine.getD k 0 = j → t.res.getD k noRes = r) ∧ ((∀ k, k < sl → t.mine.getD k 0 ≠ j) → r = noRes)) := by rw [hsl]; exact ⟨hr, hn⟩
 rw [← hsl] at hrl hrm
 rw [← hml] at hrm
 have hc := HC.out
 have HRes : Hid (Blk (w.alloc (.cells #[.int .i64 0, .int .i64 0, .int .i64 0, .int .i64 0, .int .i64 0] 47)) w.heap.size 47 #[.int .i64 0, .int .i64 0, .int .i64 0, .int .i64 0, .int .i64 0]) := Blk.new w 47 _
 have hB0 : Below w.heap.size w (w.alloc (.cells #[.int .i64 0, .int .i64 0, .int .i64 0, .int .i64 0, .int .i64 0] 47)) := (Below.refl _ _).alloc (Nat.le_refl _) _
 have HB0 : Hid (Below w.heap.size w (w.alloc (.cells #[.int .i64 0, .int .i64 0, .int .i64 0, .int .i64 0, .int .i64 0] 47))) := hB0
 have hlt : p < w.heap.size := HP.out
 have hne : p ≠ w.heap.size := by omega
 have hs0 : (w.alloc (.cells #[.int .i64 0, .int .i64 0, .int .i64 0, .int .i64 0, .int .i64 0] 47)).heap.size = w.heap.size + 1 := by simp
 clear R hr hn hsl hml hB0 hsa
 go_enter Tryz.func78, Tryz.ntmps78
 go_wp2
 generalize w.alloc (.cells #[.int .i64 0, .int .i64 0, .int .i64 0, .int .i64 0, .int .i64 0] 47) = w0 at *
 obtain ⟨rb, hrb⟩ : ∃ rb, rb = w.heap.size := ⟨_, rfl⟩
 have HRb : Hid (rb = w.heap.size) := hrb
 rw [← hrb] at HRes ⊢
 clear hc hne hlt hrb
 go_loopg [12] (sl + 1) (fun m t12 wr => ∃ k : Nat, t12 = .int .i64 (k : Int) ∧ k ≤ sl ∧ m = sl + 1 - k ∧ Hid (Below w0.heap.size w0 wr) ∧ Hid (∀ i, i < k → t.mine.getD i 0 ≠ j))
 case atStart => exact ⟨0, rfl, by omega, by omega, Below.refl _ _, fun i hi => absurd hi (Nat.not_lt_zero _)⟩
 case round =>
  obtain ⟨k, rfl, hk, hgk, HB, HN⟩ := hrel
  have HBw : Hid (Below w.heap.size w wr) := (HB0.out).trans ((HB.out).mono (HB0.out).size)
  have hcm : wr.cell? ⟨p, z + 8, none⟩ = some (.slice L.ma ml L.mc) := (World.cell?_of_block ((HBw.out).block p HP.out)).trans HM.out
  have hrk : Blk wr rb 47 #[.int .i64 0, .int .i64 0, .int .i64 0, .int .i64 0, .int .i64 0] := (HRes.out).below HB.out (HRes.out).lt
  have HRk : Hid (Blk wr rb 47 #[.int .i64 0, .int .i64 0, .int .i64 0, .int .i64 0, .int .i64 0]) := hrk
  have r0 := hrk.cell
  have rf := hrk.frozen
  have hrl' : rb < wr.heap.size := hrk.lt
  have hpl : p < wr.heap.size := Nat.lt_of_lt_of_le HP.out (HBw.out).size
  have hpn : p ≠ wr.heap.size := by omega
  have hrn : rb ≠ wr.heap.size := by omega
  clear hrk
  by_cases hlt : k < sl
  ·obtain ⟨b, rfl, c0, c1, c2, c3, c4⟩ := HRs.out k hlt
   obtain ⟨g, hga, gc⟩ := HMi.out k (by omega)
   have hbl : b < w.heap.size := block_lt c0
   have hgl : g < w.heap.size := block_lt gc
   have bs : wr.heap[b]? = w.heap[b]? := (HBw.out).block b hbl
   have d0 : wr.cell? ⟨b, k * 5, none⟩ = some (.int .i64 (t.res.getD k noRes).fate) := (World.cell?_of_block bs).trans c0
   have d1 : wr.cell? ⟨b, k * 5 + 1, none⟩ = some (.int .i64 (t.res.getD k noRes).r0) := (World.cell?_of_block bs).trans c1
   have d2 : wr.cell? ⟨b, k * 5 + 2, none⟩ = some (.int .i64 (t.res.getD k noRes).r1) := (World.cell?_of_block bs).trans c2
   have d3 : wr.cell? ⟨b, k * 5 + 3, none⟩ = some (.int .i64 (t.res.getD k noRes).r2) := (World.cell?_of_block bs).trans c3
   have d4 : wr.cell? ⟨b, k * 5 + 4, none⟩ = some (.int .i64 (t.res.getD k noRes).r3) := (World.cell?_of_block bs).trans c4
   have dg : wr.cell? ⟨g, k, none⟩ = some (.int .i64 (t.mine.getD k 0)) := (World.cell?_of_block ((HBw.out).block g hgl)).trans gc
   have hgw : g < wr.heap.size := Nat.lt_of_lt_of_le hgl (HBw.out).size
   have hgn : g ≠ wr.heap.size := by omega
   have hk0 : (0 : Int) ≤ (k : Int) := by omega
   have hk1 : (k : Int) < (sl : Int) := by omega
   have hk2 : (k : Int) < (ml : Int) := by omega
   have hwk : IntKind.i64.wrap ((k : Int) + 1) = (k : Int) + 1 := wrapP _ (by omega) (by omega)
   rw [hga] at hcm
   obtain ⟨q, hq⟩ : ∃ q, q = t.res.getD k noRes := ⟨_, rfl⟩
   obtain ⟨mk, hmk⟩ : ∃ mk, mk = t.mine.getD k 0 := ⟨_, rfl⟩
   rw [← hq] at d0 d1 d2 d3 d4
   rw [← hmk] at dg
   have HQ : Hid (q = t.res.getD k noRes ∧ mk = t.mine.getD k 0) := ⟨hq, hmk⟩
   have HKl : Hid (k < sl) := hlt
   clear c0 c1 c2 c3 c4 gc bs hbl hgl hq hmk hga
   by_cases hin : mk = j
   ·have HF : Hid (q = r) := by
     show q = r
     rw [(HQ.out).1]
     exact (HR.out).1 k HKl.out (by rw [← (HQ.out).2]; exact hin)
    have hib : (mk == j) = true := by simp [hin]
    clear hin
    go_wp2
    have hr5 := ((((((HRk.out).set (i := 0) (v := .int .i64 q.fate)).set (i := 1) (v := .int .i64 q.r0)).set (i := 2) (v := .int .i64 q.r1)).set (i := 3) (v := .int .i64 q.r2)).set (i := 4) (v := .int .i64 q.r3)).congr (ds := #[.int .i64 q.fate, .int .i64 q.r0, .int .i64 q.r1, .int .i64 q.r2, .int .i64 q.r3]) (by simp)
    have ho5 : Only rb wr (((((wr.setCell ⟨rb, 0, none⟩ (.int .i64 q.fate)).setCell ⟨rb, 1, none⟩ (.int .i64 q.r0)).setCell ⟨rb, 2, none⟩ (.int .i64 q.r1)).setCell ⟨rb, 3, none⟩ (.int .i64 q.r2)).setCell ⟨rb, 4, none⟩ (.int .i64 q.r3)) := (((((Only.refl _ _).set).set).set).set).set
    have hBf : Below w.heap.size w (((((wr.setCell ⟨rb, 0, none⟩ (.int .i64 q.fate)).setCell ⟨rb, 1, none⟩ (.int .i64 q.r0)).setCell ⟨rb, 2, none⟩ (.int .i64 q.r1)).setCell ⟨rb, 3, none⟩ (.int .i64 q.r2)).setCell ⟨rb, 4, none⟩ (.int .i64 q.r3)) := by
     have h1 := HBw.out
     exact ⟨ho5.os.trans h1.os, ho5.tape.trans h1.tape, ho5.output.trans h1.output, Nat.le_trans h1.size ho5.size, fun b hb => (ho5.block b (by have := h1.size; omega) (by have := HRb.out; omega)).trans (h1.block b hb)⟩
    have h9 := (hr5.alloc (.cells #[.int .i64 q.fate, .int .i64 q.r0, .int .i64 q.r1, .int .i64 q.r2, .int .i64 q.r3] 47)).cell
    refine bodyPost_ret (v := .agg #[.int .i64 q.fate, .int .i64 q.r0, .int .i64 q.r1, .int .i64 q.r2, .int .i64 q.r3]) ?_ rfl ⟨by rw [HF.out], hBf.alloc hBf.size _⟩
    simp [results, Tryz.results78, go_sem, h9]
   ·have hib : (mk == j) = false := by rw [beq_eq_false_iff_ne]; exact hin
    have H1 : Hid (∀ i, i < k + 1 → t.mine.getD i 0 ≠ j) := fun i hi => by
     rcases Nat.lt_succ_iff_lt_or_eq.1 hi with h | rfl
     ·exact HN.out i h
     ·rw [← (HQ.out).2]; exact hin
    clear hin HN
    go_wp2
    go_roundg (gk - 1)
    case rel => exact ⟨k + 1, by simp, by omega, by omega, (HB.out).trans ((Below.refl _ _).alloc (HB.out).size _), H1⟩
    case measure => omega
  ·have hk2 : ¬ ((k : Int) < (sl : Int)) := by omega
   have HF : Hid (r = noRes) := (HR.out).2 (fun i hi => HN.out i (by omega))
   go_wp2
   have hr5 := ((((((HRk.out).set (i := 0) (v := .int .i64 0)).set (i := 1) (v := .int .i64 0)).set (i := 2) (v := .int .i64 0)).set (i := 3) (v := .int .i64 0)).set (i := 4) (v := .int .i64 0)).congr (ds := #[.int .i64 0, .int .i64 0, .int .i64 0, .int .i64 0, .int .i64 0]) (by simp)
   have ho5 : Only rb wr (((((wr.setCell ⟨rb, 0, none⟩ (.int .i64 0)).setCell ⟨rb, 1, none⟩ (.int .i64 0)).setCell ⟨rb, 2, none⟩ (.int .i64 0)).setCell ⟨rb, 3, none⟩ (.int .i64 0)).setCell ⟨rb, 4, none⟩ (.int .i64 0)) := (((((Only.refl _ _).set).set).set).set).set
   have hBf : Below w.heap.size w (((((wr.setCell ⟨rb, 0, none⟩ (.int .i64 0)).setCell ⟨rb, 1, none⟩ (.int .i64 0)).setCell ⟨rb, 2, none⟩ (.int .i64 0)).setCell ⟨rb, 3, none⟩ (.int .i64 0)).setCell ⟨rb, 4, none⟩ (.int .i64 0)) := by
    have h1 := HBw.out
    exact ⟨ho5.os.trans h1.os, ho5.tape.trans h1.tape, ho5.output.trans h1.output, Nat.le_trans h1.size ho5.size, fun b hb => (ho5.block b (by have := h1.size; omega) (by have := HRb.out; omega)).trans (h1.block b hb)⟩
   refine bodyPost_ret (v := .agg #[.int .i64 0, .int .i64 0, .int .i64 0, .int .i64 0, .int .i64 0]) ?_ rfl ⟨by rw [HF.out]; rfl, hBf⟩
   have h9 := hr5.cell
   simp [results, Tryz.results78, go_sem, h9]
end
theorem TolF.result {K : Cx} {mine : List Int} {cur : Nat} {res : List ResD} {told : AttD} {list : List AttD} {ends : List ResD} (T : TolF K mine cur res told list ends) (j : Nat) :
  (∀ k, k < res.length → mine.getD k 0 = (j : Int) → res.getD k noRes = ends.getD j noRes) ∧ ((∀ k, k < res.length → mine.getD k 0 ≠ (j : Int)) → ends.getD j noRes = noRes) := by
 have h0 : ∀ i, i < cur → 0 ≤ mine.getD i 0 := fun i hi => by
  have hm : mine.getD i 0 ∈ mineF K.me 0 K.jobs := by
   rw [← T.mi]
   simp only [List.getD, List.getElem?_eq_getElem (show i < mine.length by have := T.cu; omega), Option.getD_some]
   exact List.getElem_mem _
  have := mineF_ge _ _ _ _ hm
  omega
 refine ⟨fun k hk e => ?_, fun h => T.rz j (fun i hi e => h i (by rw [T.rl]; exact hi) (by have := h0 i hi; omega))⟩
 rw [T.rl] at hk
 rw [← T.rs k hk, e]
 simp
theorem Sim.tol {K : Cx} {t : PT} {h : Th} (S : Sim K t h) : Tol K t h := by
 rcases S with ⟨_, _, q⟩ | ⟨_, b, _⟩ | ⟨n, _, b, _⟩ | ⟨n, _, b, _⟩ | ⟨b, _⟩
 ·exact q
 ·exact b.tol
 ·exact b.tol
 ·exact b.tol
 ·exact b.1.tol
def ResIn (w : World) (B : Nat) (a : Option Addr) (l : List ResD) : Prop :=
 ∀ k, k < l.length → ∃ b, a = some ⟨b, 0, none⟩ ∧ b < B ∧ w.cell? ⟨b, k * 5, none⟩ = some (.int .i64 (l.getD k noRes).fate) ∧ w.cell? ⟨b, k * 5 + 1, none⟩ = some (.int .i64 (l.getD k noRes).r0) ∧ w.cell? ⟨b, k * 5 + 2, none⟩ = some (.int .i64 (l.getD k noRes).r1) ∧ w.cell? ⟨b, k * 5 + 3, none⟩ = some (.int .i64 (l.getD k noRes).r2) ∧ w.cell? ⟨b, k * 5 + 4, none⟩ = some (.int .i64 (l.getD k noRes).r3)
theorem resIn_row {w : World} {base : Nat} {a : Option Addr} {c : Nat} {rs : List ResD} (h : w.ownsRow base 47 5 (.slice a rs.length c) rs.length (rs.flatMap resCells)) : ResIn w w.heap.size a rs := fun k hk => by
 obtain ⟨b, ha, h0, h1, h2, h3, h4⟩ := ress_at h k hk
 subst ha
 exact ⟨b, rfl, (World.ownsRow.lt h b rfl).2, h0, h1, h2, h3, h4⟩
theorem ResIn.up {w w' : World} {a : Option Addr} {l : List ResD} (h : ResIn w w.heap.size a l) (hb : Below w.heap.size w w') : ResIn w' w'.heap.size a l := fun k hk => by
 obtain ⟨b, ha, hB, h0, h1, h2, h3, h4⟩ := h k hk
 have e := hb.block b hB
 have := hb.size
 exact ⟨b, ha, by omega, (World.cell?_of_block e).trans h0, (World.cell?_of_block e).trans h1, (World.cell?_of_block e).trans h2, (World.cell?_of_block e).trans h3, (World.cell?_of_block e).trans h4⟩
theorem fst_at {AN : List (AttD × Value)} {k : Nat} {x : AttD × Value} (h : AN[k]? = some x) : (AN.map (·.1))[k]? = some x.1 := by rw [List.getElem?_map, h]; rfl
end Go.Proofs.YtejadojilncbjabGreat
namespace Go.Proofs.YtejadojilncbjabGreat
open Go.ChangeShapes Go.WideShapes Go.ChangeAt Go.RowKit Go.Deep
set_option linter.unusedVariables false
attribute [local go_sem ↓] Go.wp_at_zero Go.wp_at_succ
def AnsF (w : World) (A : ResD) (O : List Int) (er : Int) (e : Ending) (w' : World) : Prop :=
 ∃ (oa : Option Addr) (oc : Nat), e = .returned (.tuple #[.agg #[.int .i64 A.fate, .int .i64 A.r0, .int .i64 A.r1, .int .i64 A.r2, .int .i64 A.r3], .slice oa O.length oc, .int .i64 er]) ∧ Ints w' w'.heap.size oa O ∧ Below w.heap.size w w' ∧ ∀ x, oa = some x → w.heap.size ≤ x.block
set_option maxRecDepth 100000 in
set_option maxHeartbeats 8000000 in
theorem alone_far (c : Cfg) (mem : List Int) (code : List InsD) (ma ca : Option Addr) (mc cc : Nat) (w : World) (hm : mem.length ≤ maxLen) (h : Ints w w.heap.size ma mem) (hcd : CodeIn w w.heap.size ca code) :
  Calls Tryz.prog 37 #[.agg #[.int .i64 c.t, .int .i64 c.wd, .int .i64 c.s, .int .i64 c.g, .int .i64 c.r, .int .i64 c.cp, .int .i64 c.f], .slice ma mem.length mc, .slice ca code.length cc] w (AnsF w (ansR c mem code) (ansO c mem code) (errN c mem code)) := by
 have HI : Hid (Ints w w.heap.size ma mem) := h
 have HCD : Hid (CodeIn w w.heap.size ca code) := hcd
 obtain ⟨A, HA⟩ : ∃ A, Hid (ansR c mem code = A) := ⟨_, rfl⟩
 obtain ⟨O, HO⟩ : ∃ O, Hid (ansO c mem code = O) := ⟨_, rfl⟩
 obtain ⟨ER, HER⟩ : ∃ ER, Hid (errN c mem code = ER) := ⟨_, rfl⟩
 rw [show ansR c mem code = A from HA.out, show ansO c mem code = O from HO.out, show errN c mem code = ER from HER.out]
 clear h hcd
 go_enter Tryz.func37, Tryz.ntmps37
 go_wp2_with fail
 obtain ⟨w0, hw0⟩ : ∃ w0, w0 = (w.alloc (.cells #[.int .i64 c.t, .int .i64 c.wd, .int .i64 c.s, .int .i64 c.g, .int .i64 c.r, .int .i64 c.cp, .int .i64 c.f] 23)).alloc (.cells #[.int .i64 0, .int .i64 0, .int .i64 0, .int .i64 0, .int .i64 0] 47) := ⟨_, rfl⟩
 have hbc0 : Blk w0 w.heap.size 23 #[.int .i64 c.t, .int .i64 c.wd, .int .i64 c.s, .int .i64 c.g, .int .i64 c.r, .int .i64 c.cp, .int .i64 c.f] := by rw [hw0]; exact (Blk.new w 23 _).alloc _
 have hbr0 : Blk w0 (w.heap.size + 1) 47 #[.int .i64 0, .int .i64 0, .int .i64 0, .int .i64 0, .int .i64 0] := by
  rw [hw0]
  have := Blk.new (w.alloc (.cells #[.int .i64 c.t, .int .i64 c.wd, .int .i64 c.s, .int .i64 c.g, .int .i64 c.r, .int .i64 c.cp, .int .i64 c.f] 23)) 47 #[.int .i64 0, .int .i64 0, .int .i64 0, .int .i64 0, .int .i64 0]
  simpa using this
 have hB0 : Below w.heap.size w w0 := by rw [hw0]; exact ((Below.refl w.heap.size w).alloc (Nat.le_refl _) _).alloc (by simp) _
 have hs0 : w0.heap.size = w.heap.size + 2 := by rw [hw0]; simp
 rw [← hw0]
 clear hw0
 refine (single_any c ma ca mc cc mem code w0 hm ((HI.out).up hB0)).mono ?_
 rintro e w1 ⟨rfl, hb1⟩
 have HB1 : Hid (Below w.heap.size w w1) := hB0.trans (hb1.mono (by omega))
 have HBc : Hid (Blk w1 w.heap.size 23 #[.int .i64 c.t, .int .i64 c.wd, .int .i64 c.s, .int .i64 c.g, .int .i64 c.r, .int .i64 c.cp, .int .i64 c.f]) := hbc0.below hb1 (by omega)
 have HBr : Hid (Blk w1 (w.heap.size + 1) 47 #[.int .i64 0, .int .i64 0, .int .i64 0, .int .i64 0, .int .i64 0]) := hbr0.below hb1 (by omega)
 have hs1 : w.heap.size + 2 ≤ w1.heap.size := by have := hb1.size; omega
 clear hb1 hB0 hbc0 hbr0 hs0
 rw [show errN c mem code = ER from HER.out]
 by_cases he : ER = 0
 ·subst he
  have hcc := (HBc.out).cell
  go_wp2_with fail
  refine (run_any c mem code ma ca mc cc w1 HER.out ((HI.out).up (HB1.out)) (((HCD.out).up HB1.out).mono (HB1.out).size)).mono ?_
  rintro e w2 ⟨oa, oc, rfl, hO2, hb2, hfar⟩
  have HFar : Hid (∀ x, oa = some x → w1.heap.size ≤ x.block) := hfar
  clear hfar
  rw [show ansR c mem code = A from HA.out, show ansO c mem code = O from HO.out] at *
  have HO2 : Hid (Ints w2 w2.heap.size oa O) := hO2
  have HR2 : Hid (Blk w2 (w.heap.size + 1) 47 #[.int .i64 0, .int .i64 0, .int .i64 0, .int .i64 0, .int .i64 0]) := (HBr.out).below hb2 (by omega)
  have HB2 : Hid (Below w.heap.size w w2) := (HB1.out).trans (hb2.mono (by omega))
  have HFo : Hid (Below w1.heap.size w1 w2) := hb2
  clear hO2 hb2 hcc
  have hrc := (HR2.out).cell
  have hrf := (HR2.out).frozen
  have hrl := (HR2.out).lt
  go_wp2
  have hX : Blk (((((w2.setCell ⟨w.heap.size + 1, 0, none⟩ (.int .i64 A.fate)).setCell ⟨w.heap.size + 1, 1, none⟩ (.int .i64 A.r0)).setCell ⟨w.heap.size + 1, 2, none⟩ (.int .i64 A.r1)).setCell ⟨w.heap.size + 1, 3, none⟩ (.int .i64 A.r2)).setCell ⟨w.heap.size + 1, 4, none⟩ (.int .i64 A.r3)) (w.heap.size + 1) 47 #[.int .i64 A.fate, .int .i64 A.r0, .int .i64 A.r1, .int .i64 A.r2, .int .i64 A.r3] := ((HR2.out).set.set.set.set.set).congr (by simp)
  obtain ⟨_, _, _, _, _, hfin, honly⟩ := res_end HR2.out rfl HB2.out (by omega) (.int .i64 A.fate) (.int .i64 A.r0) (.int .i64 A.r1) (.int .i64 A.r2) (.int .i64 A.r3)
  have hXa := hX.alloc (.cells #[.int .i64 A.fate, .int .i64 A.r0, .int .i64 A.r1, .int .i64 A.r2, .int .i64 A.r3] 47)
  have e0 := hXa.cell 0
  have e1 := hXa.cell 1
  have e2 := hXa.cell 2
  have e3 := hXa.cell 3
  have e4 := hXa.cell 4
  have hIo : Ints (((((w2.setCell ⟨w.heap.size + 1, 0, none⟩ (.int .i64 A.fate)).setCell ⟨w.heap.size + 1, 1, none⟩ (.int .i64 A.r0)).setCell ⟨w.heap.size + 1, 2, none⟩ (.int .i64 A.r1)).setCell ⟨w.heap.size + 1, 3, none⟩ (.int .i64 A.r2)).setCell ⟨w.heap.size + 1, 4, none⟩ (.int .i64 A.r3)) _ oa O := ((HO2.out).only honly (fun b off hb _ => by have := HFar.out _ hb; simp only at this; omega)).mono honly.size
  exact bodyPost_ret (v := .tuple #[.agg #[.int .i64 A.fate, .int .i64 A.r0, .int .i64 A.r1, .int .i64 A.r2, .int .i64 A.r3], .slice oa O.length oc, .int .i64 0]) (by simp at e0 e1 e2 e3 e4; simp [results, Tryz.results37, go_sem, e0, e1, e2, e3, e4]) rfl ⟨oa, oc, rfl, hIo.up ((Below.refl _ _).alloc (Nat.le_refl _) _), hfin.alloc hfin.size _, fun x hx => by have := HFar.out x hx; omega⟩
 ·have hbn : (ER != 0) = true := by simpa using he
  have hA : A = ⟨0, 0, 0, 0, 0⟩ := by rw [← HA.out]; exact if_neg (by rw [HER.out]; exact he)
  have hO : O = [] := by rw [← HO.out]; exact if_neg (by rw [HER.out]; exact he)
  subst hA hO
  have hrc := (HBr.out).cell
  have hrf := (HBr.out).frozen
  clear HA HO HER he
  go_wp2
  obtain ⟨e0, e1', e2, e3, e4, hfin, _⟩ := res_end HBr.out rfl HB1.out (by omega) (.int .i64 0) (.int .i64 0) (.int .i64 0) (.int .i64 0) (.int .i64 0)
  exact bodyPost_ret (v := .tuple #[.agg #[.int .i64 0, .int .i64 0, .int .i64 0, .int .i64 0, .int .i64 0], .slice none 0 0, .int .i64 ER]) (by simp [results, Tryz.results37, go_sem, e0, e1', e2, e3, e4]) rfl ⟨none, 0, rfl, fun i hi => absurd hi (by simp), hfin, fun x hx => by cases hx⟩
end Go.Proofs.YtejadojilncbjabGreat
