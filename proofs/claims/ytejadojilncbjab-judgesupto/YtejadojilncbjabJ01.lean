import Derived.Test.YtejadojilncbjabJ00
import Derived.Deep.RegionHeld3
import Derived.Deep.AppendLies
import Derived.Deep.DrawnRows
import Derived.WalkSmall
namespace Go.Proofs.Ytejadojilncbjab
set_option linter.unusedVariables false

/-- The time of an attempt's place. -/
def pT (a : AttD) : Int := if 0 < a.stamp then a.stamp else a.valid
/-- 1 if its place is behind the attempt of that stamp. -/
def pA (a : AttD) : Int := if 0 < a.stamp then 0 else 1

/-- The place of a is less than that of b. -/
def BefJ (a b : AttD) : Prop := pT a < pT b ∨ (pT a = pT b ∧ pA a < pA b)

/-- Attempt i is ahead of attempt j. -/
def Kl (f : Nat → AttD) (i j : Nat) : Prop := pT (f i) < pT (f j) ∨ (pT (f i) = pT (f j) ∧ (pA (f i) < pA (f j) ∨ (pA (f i) = pA (f j) ∧ i < j)))

instance (a b : AttD) : Decidable (BefJ a b) := by unfold BefJ; infer_instance
instance (f : Nat → AttD) (i j : Nat) : Decidable (Kl f i j) := by unfold Kl; infer_instance

theorem bef_iff (a b : AttD) : BefJ a b ↔ (if 0 < a.stamp ∧ 0 < b.stamp then a.stamp < b.stamp else if 0 < a.stamp then a.stamp ≤ b.valid else if 0 < b.stamp then a.valid < b.stamp else a.valid < b.valid) := by
  unfold BefJ pT pA
  by_cases ha : 0 < a.stamp <;> by_cases hb : 0 < b.stamp <;> simp [ha, hb] <;> omega

theorem kl_iff (f : Nat → AttD) (i j : Nat) : Kl f i j ↔ (BefJ (f i) (f j) ∨ (¬ BefJ (f j) (f i) ∧ i < j)) := by
  unfold Kl BefJ
  omega

theorem kl_irr {f : Nat → AttD} {i : Nat} : ¬ Kl f i i := by unfold Kl; omega
theorem kl_trans {f : Nat → AttD} {i j k : Nat} (h1 : Kl f i j) (h2 : Kl f j k) : Kl f i k := by unfold Kl at *; omega
theorem kl_asym {f : Nat → AttD} {i j : Nat} (h : Kl f i j) : ¬ Kl f j i := by unfold Kl at *; omega
theorem kl_tri {f : Nat → AttD} {i j : Nat} (h : i ≠ j) : Kl f i j ∨ Kl f j i := by unfold Kl; omega

/-- Two lists in order with the same members are one. -/
theorem pw_eq {f : Nat → AttD} : ∀ {l l' : List Nat}, l.Pairwise (Kl f) → l'.Pairwise (Kl f) → (∀ x, x ∈ l ↔ x ∈ l') → l = l'
  | [], [], _, _, _ => rfl
  | [], b :: r', _, _, h => absurd ((h b).2 List.mem_cons_self) (by simp)
  | a :: r, [], _, _, h => absurd ((h a).1 List.mem_cons_self) (by simp)
  | a :: r, b :: r', h1, h2, h => by
    obtain ⟨g1, k1⟩ := List.pairwise_cons.1 h1
    obtain ⟨g2, k2⟩ := List.pairwise_cons.1 h2
    have hab : a = b := by
      rcases List.mem_cons.1 ((h a).1 List.mem_cons_self) with e | ha
      · exact e
      · rcases List.mem_cons.1 ((h b).2 List.mem_cons_self) with e | hb
        · exact e.symm
        · exact absurd (g1 b hb) (kl_asym (g2 a ha))
    subst hab
    rw [pw_eq k1 k2 fun x => ⟨fun hx => ?_, fun hx => ?_⟩]
    · rcases List.mem_cons.1 ((h x).1 (List.mem_cons_of_mem _ hx)) with e | h3
      · subst e
        exact absurd (g1 _ hx) kl_irr
      · exact h3
    · rcases List.mem_cons.1 ((h x).2 (List.mem_cons_of_mem _ hx)) with e | h3
      · subst e
        exact absurd (g2 _ hx) kl_irr
      · exact h3

/-- What a note leaves of the words. -/
def nStep (n : NoteD) (v : List Int) : List Int := if n.op = 8 ∧ 0 ≤ n.addr ∧ n.addr < (v.length : Int) then v.set n.addr.toNat n.val else v

/-- Is what a note says it read what stands there? -/
def nRead (n : NoteD) (v : List Int) : Bool := if n.op = 7 then decide (0 ≤ n.addr ∧ n.addr < (v.length : Int) ∧ v.getD n.addr.toNat 0 = n.val) else true

def wrN : List NoteD → List Int → List Int
  | [], v => v
  | n :: r, v => wrN r (nStep n v)

def rdN : List NoteD → List Int → Bool
  | [], _ => true
  | n :: r, v => nRead n v && rdN r (nStep n v)

theorem nStep_len (n : NoteD) (v : List Int) : (nStep n v).length = v.length := by unfold nStep; split <;> simp

theorem wrN_len : ∀ (l : List NoteD) (v : List Int), (wrN l v).length = v.length
  | [], _ => rfl
  | n :: r, v => (wrN_len r (nStep n v)).trans (nStep_len n v)

theorem wrN_snoc (n : NoteD) : ∀ (l : List NoteD) (v : List Int), wrN (l ++ [n]) v = nStep n (wrN l v)
  | [], _ => rfl
  | m :: r, v => wrN_snoc n r (nStep m v)

theorem rdN_snoc (n : NoteD) : ∀ (l : List NoteD) (v : List Int), rdN (l ++ [n]) v = (rdN l v && nRead n (wrN l v))
  | [], v => by simp [rdN, wrN]
  | m :: r, v => by
    show (nRead m v && rdN (r ++ [n]) (nStep m v)) = (nRead m v && rdN r (nStep m v) && nRead n (wrN r (nStep m v)))
    rw [rdN_snoc n r, Bool.and_assoc]

theorem rdN_app : ∀ (l r : List NoteD) (v : List Int), rdN (l ++ r) v = (rdN l v && rdN r (wrN l v))
  | [], r, v => by simp [rdN, wrN]
  | m :: l, r, v => by
    show (nRead m v && rdN (l ++ r) (nStep m v)) = (nRead m v && rdN l (nStep m v) && rdN r (wrN l (nStep m v)))
    rw [rdN_app l r, Bool.and_assoc]

/-- The words behind the attempts of a list, one behind the other. -/
def wrL (f : Nat → AttD) : List Nat → List Int → List Int
  | [], v => v
  | i :: r, v => wrL f r (wrN (f i).notes v)

/-- The same, of those that have a stamp. -/
def wrP (f : Nat → AttD) : List Nat → List Int → List Int
  | [], v => v
  | i :: r, v => wrP f r (if 0 < (f i).stamp then wrN (f i).notes v else v)

theorem wrL_len (f : Nat → AttD) : ∀ (l : List Nat) (v : List Int), (wrL f l v).length = v.length
  | [], _ => rfl
  | i :: r, v => (wrL_len f r _).trans (wrN_len _ _)

theorem wrP_len (f : Nat → AttD) : ∀ (l : List Nat) (v : List Int), (wrP f l v).length = v.length
  | [], _ => rfl
  | i :: r, v => (wrP_len f r _).trans (by split; exact wrN_len _ _; rfl)

theorem wrP_eq (f : Nat → AttD) : ∀ (l : List Nat) (v : List Int), wrP f l v = wrL f (l.filter fun i => decide (0 < (f i).stamp)) v
  | [], _ => rfl
  | i :: r, v => by
    show wrP f r _ = _
    rw [wrP_eq f r]
    by_cases h : 0 < (f i).stamp
    · rw [if_pos h, List.filter_cons_of_pos (by simpa using h)]; rfl
    · rw [if_neg h, List.filter_cons_of_neg (by simpa using h)]

theorem wrP_snoc (f : Nat → AttD) (i : Nat) : ∀ (l : List Nat) (v : List Int), wrP f (l ++ [i]) v = (if 0 < (f i).stamp then wrN (f i).notes (wrP f l v) else wrP f l v)
  | [], _ => rfl
  | m :: r, v => wrP_snoc f i r _

theorem wrL_snoc (f : Nat → AttD) (i : Nat) : ∀ (l : List Nat) (v : List Int), wrL f (l ++ [i]) v = wrN (f i).notes (wrL f l v)
  | [], _ => rfl
  | m :: r, v => wrL_snoc f i r _

/-- The least number of a kind, or n. -/
def Lst (P : Nat → Prop) (n x : Nat) : Prop := x ≤ n ∧ (x = n ∨ P x) ∧ ∀ j, P j → x ≤ j

theorem Lst.uniq {P : Nat → Prop} {n x y : Nat} (h : Lst P n x) (k : Lst P n y) : x = y := by
  obtain ⟨h1, h2, h3⟩ := h
  obtain ⟨k1, k2, k3⟩ := k
  rcases h2 with e | h2
  · rcases k2 with e' | k2
    · omega
    · have := h3 y k2; omega
  · rcases k2 with e' | k2
    · have := k3 x h2; omega
    · have := h3 y k2; have := k3 x h2; omega

theorem Lst.none (n : Nat) : Lst (fun _ => False) n n := ⟨Nat.le_refl _, Or.inl rfl, fun _ h => h.elim⟩

theorem Lst.congr {P Q : Nat → Prop} {n x : Nat} (h : Lst P n x) (e : ∀ j, P j ↔ Q j) : Lst Q n x := ⟨h.1, h.2.1.imp id (e x).1, fun j hj => h.2.2 j ((e j).2 hj)⟩

theorem Lst.or {P Q : Nat → Prop} {n x y : Nat} (h : Lst P n x) (k : Lst Q n y) : Lst (fun j => P j ∨ Q j) n (if x < y then x else y) := by
  obtain ⟨h1, h2, h3⟩ := h
  obtain ⟨k1, k2, k3⟩ := k
  split
  · refine ⟨h1, h2.imp id Or.inl, fun j hj => ?_⟩
    rcases hj with hj | hj
    · exact h3 j hj
    · have := k3 j hj; omega
  · refine ⟨k1, k2.imp id Or.inr, fun j hj => ?_⟩
    rcases hj with hj | hj
    · have := h3 j hj; omega
    · exact k3 j hj

theorem Lst.one (n m : Nat) (h : m ≤ n) : Lst (fun j => j = m) n m := ⟨h, Or.inr rfl, fun j hj => Nat.le_of_eq hj.symm⟩

/-- The numbers below n, in order. -/
structure IsOrd (f : Nat → AttD) (n : Nat) (o : List Nat) : Prop where
  mem : ∀ i, i ∈ o ↔ i < n
  pw : o.Pairwise (Kl f)

theorem IsOrd.split {f : Nat → AttD} {n : Nat} {o A B : List Nat} {j : Nat} (O : IsOrd f n o) (e : o = A ++ j :: B) :
    (∀ i, i ∈ A ↔ (i < n ∧ Kl f i j)) ∧ (∀ i, i ∈ B ↔ (i < n ∧ Kl f j i)) := by
  have hp := O.pw
  rw [e] at hp
  obtain ⟨p1, p2, p3⟩ := List.pairwise_append.1 hp
  obtain ⟨p4, p5⟩ := List.pairwise_cons.1 p2
  have hm : ∀ i, (i ∈ A ∨ i = j ∨ i ∈ B) ↔ i < n := fun i => by rw [← O.mem, e]; simp
  refine ⟨fun i => ⟨fun h => ⟨(hm i).1 (Or.inl h), p3 i h j List.mem_cons_self⟩, fun h => ?_⟩, fun i => ⟨fun h => ⟨(hm i).1 (Or.inr (Or.inr h)), p4 i h⟩, fun h => ?_⟩⟩
  · rcases (hm i).2 h.1 with q | q | q
    · exact q
    · exact absurd (q ▸ h.2) kl_irr
    · exact absurd (p4 i q) (kl_asym h.2)
  · rcases (hm i).2 h.1 with q | q | q
    · exact absurd (p3 i q j List.mem_cons_self) (kl_asym h.2)
    · exact absurd (q ▸ h.2) kl_irr
    · exact q

/-- An earlier attempt has its stamp. -/
def Dbl (f : Nat → AttD) (j : Nat) : Prop := ∃ i, i < j ∧ 0 < (f j).stamp ∧ (f i).stamp = (f j).stamp

/-- One that is not ahead had ended when it began. -/
def Late (f : Nat → AttD) (n j : Nat) : Prop := ∃ i, i < n ∧ i ≠ j ∧ 0 < (f i).fin ∧ (f i).fin < (f j).start ∧ ¬ Kl f i j

/-- It read something else than stands there behind those ahead. -/
def Misled (f : Nat → AttD) (n : Nat) (mem : List Int) (j : Nat) : Prop := ∀ l : List Nat, l.Pairwise (Kl f) → (∀ i, i ∈ l ↔ (i < n ∧ Kl f i j ∧ 0 < (f i).stamp)) → rdN (f j).notes (wrL f l mem) = false

/-- The document's verdict. -/
def Bad (f : Nat → AttD) (n : Nat) (mem : List Int) (j : Nat) : Prop := j < n ∧ (Dbl f j ∨ Late f n j ∨ Misled f n mem j)

theorem stamp_pl {f : Nat → AttD} {i j : Nat} (h : 0 < (f j).stamp) : (pT (f i) = pT (f j) ∧ pA (f i) = pA (f j)) ↔ (f i).stamp = (f j).stamp := by
  unfold pT pA
  rw [if_pos h, if_pos h]
  by_cases hi : 0 < (f i).stamp
  · simp [hi]
  · simp only [if_neg hi]; omega

/-- A double stamp is that of the neighbour. -/
theorem dbl_iff {f : Nat → AttD} {n : Nat} {o A B : List Nat} {j : Nat} (O : IsOrd f n o) (e : o = A ++ j :: B) : Dbl f j ↔ ∃ A' i, A = A' ++ [i] ∧ 0 < (f j).stamp ∧ (f j).stamp = (f i).stamp := by
  obtain ⟨hA, hB⟩ := O.split e
  have hjn : j < n := (O.mem j).1 (by rw [e]; simp)
  constructor
  · rintro ⟨i, hi, hj, hs⟩
    have hp := (stamp_pl hj).2 hs
    have hiA : i ∈ A := (hA i).2 ⟨by omega, by unfold Kl; omega⟩
    rcases List.eq_nil_or_concat A with h0 | ⟨A', m, hm⟩
    · rw [h0] at hiA; simp at hiA
    · rw [List.concat_eq_append] at hm
      refine ⟨A', m, hm, hj, ?_⟩
      have hmj := (hA m).1 (by rw [hm]; simp)
      have him : i = m ∨ Kl f i m := by
        have hp2 := O.pw
        rw [e, hm] at hp2
        have hp3 := (List.pairwise_append.1 hp2).1
        rw [hm] at hiA
        rcases List.mem_append.1 hiA with q | q
        · exact Or.inr ((List.pairwise_append.1 hp3).2.2 i q m (by simp))
        · exact Or.inl (by simpa using q)
      refine (((stamp_pl hj).1 ?_)).symm
      rcases him with rfl | him
      · exact hp
      · have h2 := hmj.2
        unfold Kl at him h2
        omega
  · rintro ⟨A', i, hm, hj, hs⟩
    have h1 := ((hA i).1 (by rw [hm]; simp)).2
    have hp := (stamp_pl hj).2 hs.symm
    refine ⟨i, ?_, hj, hs.symm⟩
    unfold Kl at h1
    omega

/-- Who is late. -/
theorem late_iff {f : Nat → AttD} {n : Nat} {o A B : List Nat} {j : Nat} (O : IsOrd f n o) (e : o = A ++ j :: B) : Late f n j ↔ ∃ i ∈ B, 0 < (f i).fin ∧ (f i).fin < (f j).start := by
  obtain ⟨hA, hB⟩ := O.split e
  constructor
  · rintro ⟨i, hi, hne, h1, h2, h3⟩
    exact ⟨i, (hB i).2 ⟨hi, (kl_tri hne).resolve_left h3⟩, h1, h2⟩
  · rintro ⟨i, hi, h1, h2⟩
    obtain ⟨h3, h4⟩ := (hB i).1 hi
    exact ⟨i, h3, fun q => kl_irr (q ▸ h4), h1, h2, kl_asym h4⟩

/-- Who is misled. -/
theorem misled_iff {f : Nat → AttD} {n : Nat} {mem : List Int} {o A B : List Nat} {j : Nat} (O : IsOrd f n o) (e : o = A ++ j :: B) : Misled f n mem j ↔ rdN (f j).notes (wrP f A mem) = false := by
  obtain ⟨hA, hB⟩ := O.split e
  have hp := O.pw
  rw [e] at hp
  have hpA := (List.pairwise_append.1 hp).1
  have hF : (A.filter fun i => decide (0 < (f i).stamp)).Pairwise (Kl f) := hpA.filter _
  have hM : ∀ i, i ∈ (A.filter fun i => decide (0 < (f i).stamp)) ↔ (i < n ∧ Kl f i j ∧ 0 < (f i).stamp) := fun i => by
    rw [List.mem_filter, hA, decide_eq_true_iff, and_assoc]
  constructor
  · intro h
    rw [wrP_eq]
    exact h _ hF hM
  · intro h l h1 h2
    rw [pw_eq h1 hF fun x => (h2 x).trans (hM x).symm, ← wrP_eq]
    exact h

/-- The least End above 0 of a list, or 0. -/
def Soon (f : Nat → AttD) (l : List Nat) (s : Int) : Prop := (s = 0 ∧ ∀ i ∈ l, (f i).fin ≤ 0) ∨ (0 < s ∧ (∃ i ∈ l, (f i).fin = s) ∧ ∀ i ∈ l, 0 < (f i).fin → s ≤ (f i).fin)

theorem Soon.nil (f : Nat → AttD) : Soon f [] 0 := Or.inl ⟨rfl, fun i h => absurd h (by simp)⟩

theorem Soon.cons {f : Nat → AttD} {l : List Nat} {s : Int} (h : Soon f l s) (i : Nat) : Soon f (i :: l) (if 0 < (f i).fin ∧ (s = 0 ∨ (f i).fin < s) then (f i).fin else s) := by
  rcases h with ⟨rfl, h⟩ | ⟨h0, ⟨k, hk, hks⟩, h⟩
  · by_cases hi : 0 < (f i).fin
    · rw [if_pos ⟨hi, Or.inl rfl⟩]
      refine Or.inr ⟨hi, ⟨i, by simp, rfl⟩, fun m hm hm0 => ?_⟩
      rcases List.mem_cons.1 hm with rfl | hm
      · omega
      · have := h m hm; omega
    · rw [if_neg (fun q => hi q.1)]
      refine Or.inl ⟨rfl, fun m hm => ?_⟩
      rcases List.mem_cons.1 hm with rfl | hm
      · omega
      · exact h m hm
  · by_cases hi : 0 < (f i).fin ∧ (s = 0 ∨ (f i).fin < s)
    · rw [if_pos hi]
      refine Or.inr ⟨hi.1, ⟨i, by simp, rfl⟩, fun m hm hm0 => ?_⟩
      rcases List.mem_cons.1 hm with rfl | hm
      · omega
      · have := h m hm hm0; omega
    · rw [if_neg hi]
      refine Or.inr ⟨h0, ⟨k, List.mem_cons_of_mem _ hk, hks⟩, fun m hm hm0 => ?_⟩
      rcases List.mem_cons.1 hm with rfl | hm
      · omega
      · exact h m hm hm0

theorem Soon.hit {f : Nat → AttD} {l : List Nat} {s : Int} (h : Soon f l s) (t : Int) : (0 < s ∧ s < t) ↔ ∃ i ∈ l, 0 < (f i).fin ∧ (f i).fin < t := by
  rcases h with ⟨rfl, h⟩ | ⟨h0, ⟨k, hk, hks⟩, h⟩
  · constructor
    · intro q; omega
    · rintro ⟨i, hi, h1, h2⟩; have := h i hi; omega
  · constructor
    · intro q; exact ⟨k, hk, by omega, by omega⟩
    · rintro ⟨i, hi, h1, h2⟩; have := h i hi h1; omega

end Go.Proofs.Ytejadojilncbjab

namespace Go.Proofs.Ytejadojilncbjab
open Go.RowKit
set_option linter.unusedVariables false

/-- Where the slices of a life lie that stay as they are. -/
structure Hd where
  ma : Option Addr
  ml : Nat
  mc : Nat
  ja : Option Addr
  jc : Nat
  sa : Option Addr
  sc : Nat
  da : Option Addr
  dc : Nat
  wa : Option Addr
  wc : Nat
  ea : Option Addr
  ec : Nat

/-- A life's cells. -/
def lifeArr (E : Env) (H : Hd) (la : Option Addr) (lc : Nat) (s : LS) : Array Value :=
  #[.int .i64 E.c.t, .int .i64 E.c.wd, .int .i64 E.c.s, .int .i64 E.c.g, .int .i64 E.c.r, .int .i64 E.c.cp, .int .i64 E.c.f, .slice H.ma H.ml H.mc, .slice H.ja E.jobs.length H.jc,
    .int .i64 E.me, .slice H.sa E.seen.length H.sc, .slice H.da E.draws.length H.dc, .slice H.wa E.whens.length H.wc, .int .i64 s.pos, .bool s.over,
    .int .i64 s.next.kind, .int .i64 s.next.cell, .int .i64 s.next.frm, .int .i64 s.next.to, .int .i64 s.rank, .int .i64 s.fails, .slice la s.list.length lc, .slice H.ea s.ends.length H.ec]

/-- Block p holds the cells cs. -/
def Blk (w : World) (p : Nat) (t : TypeId) (cs : Array Value) : Prop := w.heap[p]? = some (.cells cs t (0, 0))

theorem Blk.cell {w : World} {p : Nat} {t : TypeId} {cs : Array Value} (h : Blk w p t cs) : ∀ i, w.cell? ⟨p, i, none⟩ = cs[i]? := fun i => by
  simp [World.cell?, show w.heap[p]? = some (.cells cs t (0, 0)) from h]
theorem Blk.frozen {w : World} {p : Nat} {t : TypeId} {cs : Array Value} (h : Blk w p t cs) : ∀ i, w.frozen? ⟨p, i, none⟩ = false := fun i => by
  simp [World.frozen?, show w.heap[p]? = some (.cells cs t (0, 0)) from h]
theorem Blk.lt {w : World} {p : Nat} {t : TypeId} {cs : Array Value} (h : Blk w p t cs) : p < w.heap.size := by
  rcases Nat.lt_or_ge p w.heap.size with h' | h'
  · exact h'
  · have : w.heap[p]? = some (.cells cs t (0, 0)) := h
    rw [Array.getElem?_eq_none h'] at this; cases this
theorem Blk.ne {w : World} {p q : Nat} {t u : TypeId} {cs ds : Array Value} (h : Blk w p t cs) (k : Blk w q u ds) (hne : t ≠ u) : p ≠ q := fun e => by
  subst e
  have h1 : w.heap[p]? = some (.cells cs t (0, 0)) := h
  have h2 : w.heap[p]? = some (.cells ds u (0, 0)) := k
  rw [h1] at h2
  simp at h2
  exact hne h2.2
theorem Blk.below {w w' : World} {p B : Nat} {t : TypeId} {cs : Array Value} (h : Blk w p t cs) (hb : Below B w w') (hp : p < B) : Blk w' p t cs := (hb.block p hp).trans h
theorem Blk.drewN {w : World} {p : Nat} {t : TypeId} {cs : Array Value} (h : Blk w p t cs) (n : Nat) : Blk (w.drewN n) p t cs := h
theorem Blk.alloc {w : World} {p : Nat} {t : TypeId} {cs : Array Value} (h : Blk w p t cs) (o : Obj) : Blk (w.alloc o) p t cs := h.below ((Below.refl _ _).alloc (Nat.le_refl _) o) h.lt
theorem Blk.new (w : World) (t : TypeId) (cs : Array Value) : Blk (w.alloc (.cells cs t)) w.heap.size t cs := heap_alloc_new w _

/-- Of all blocks that were there, p alone may have turned; new ones may have come. -/
structure Only (p : Nat) (w w' : World) : Prop where
  os : w'.os = w.os
  tape : w'.tape = w.tape
  output : w'.output = w.output
  size : w.heap.size ≤ w'.heap.size
  block : ∀ k, k < w.heap.size → k ≠ p → w'.heap[k]? = w.heap[k]?

theorem Only.refl (p : Nat) (w : World) : Only p w w := ⟨rfl, rfl, rfl, Nat.le_refl _, fun _ _ _ => rfl⟩
theorem Only.trans {p : Nat} {a b c : World} (h : Only p a b) (k : Only p b c) : Only p a c :=
  ⟨k.os.trans h.os, k.tape.trans h.tape, k.output.trans h.output, Nat.le_trans h.size k.size, fun i hi hp => (k.block i (Nat.lt_of_lt_of_le hi h.size) hp).trans (h.block i hi hp)⟩
theorem Only.below {p : Nat} {w w' : World} (h : Below w.heap.size w w') : Only p w w' := ⟨h.os, h.tape, h.output, h.size, fun k hk _ => h.block k hk⟩
theorem Only.drewN {p : Nat} {w w' : World} (h : Only p w w') (n : Nat) : Only p w (w'.drewN n) := ⟨h.os, h.tape, h.output, h.size, h.block⟩
theorem Only.drew {p : Nat} {w w' : World} (h : Only p w w') : Only p w w'.drew := ⟨h.os, h.tape, h.output, h.size, h.block⟩
theorem Only.set {p i : Nat} {w w' : World} {v : Value} (h : Only p w w') : Only p w (w'.setCell ⟨p, i, none⟩ v) :=
  h.trans ⟨rfl, rfl, rfl, by simp [World.setCell], fun k _ hk => Below.heap_setCell _ _ _ _ (by simpa using hk)⟩
theorem Blk.only {w w' : World} {p q : Nat} {t : TypeId} {cs : Array Value} (h : Blk w q t cs) (ho : Only p w w') (hne : q ≠ p) : Blk w' q t cs := (ho.block q h.lt hne).trans h
theorem Blk.set {w : World} {p i : Nat} {t : TypeId} {cs : Array Value} {v : Value} (h : Blk w p t cs) : Blk (w.setCell ⟨p, i, none⟩ v) p t (cs.setIfInBounds i v) := by
  show (w.setCell ⟨p, i, none⟩ v).heap[p]? = _
  rw [setCell_eq_setRow w p i cs t (0, 0) v h]
  exact setRow_heap w p _ _ t _ h
theorem Blk.congr {w : World} {p : Nat} {t : TypeId} {cs ds : Array Value} (h : Blk w p t cs) (e : cs = ds) : Blk w p t ds := e ▸ h

theorem Ints.only {p : Nat} {w w' : World} {B : Nat} {a : Option Addr} {zs : List Int} (h : Ints w B a zs) (ho : Only p w w') (hne : ∀ b off, a = some ⟨b, off, none⟩ → zs ≠ [] → b ≠ p) : Ints w' B a zs := by
  intro i hi
  obtain ⟨b, off, ha, hlt, hc⟩ := h i hi
  refine ⟨b, off, ha, hlt, ?_⟩
  have hz : zs ≠ [] := fun e => by simp [e] at hi
  rw [World.cell?_of_block (w := w) (ho.block b (block_lt hc) (hne b off ha hz))]
  exact hc

end Go.Proofs.Ytejadojilncbjab
