import Derived.Test.YtejadojilncbjabGreatD39
import Derived.Test.YtejadojilncbjabGreatD45
import Derived.Test.YtejadojilncbjabGreatD35
namespace Go.Proofs.YtejadojilncbjabGreat
set_option linter.unusedVariables false
def rdc : List NoteD → Nat
 | [] => 0
 | n :: r => (if n.op = 7 then 1 else 0) + rdc r
def rdsL : List AttD → Nat
 | [] => 0
 | a :: r => rdc a.notes + rdsL r
theorem rdc_app : ∀ (l r : List NoteD), rdc (l ++ r) = rdc l + rdc r
 | [], r => by simp [rdc]
 | n :: l, r => by
  have := rdc_app l r
  simp only [List.cons_append, rdc]
  omega
theorem rdsL_app : ∀ (l r : List AttD), rdsL (l ++ r) = rdsL l + rdsL r
 | [], r => by simp [rdsL]
 | n :: l, r => by
  have := rdsL_app l r
  simp only [List.cons_append, rdsL]
  omega
theorem rdc_len : ∀ l : List NoteD, rdc l ≤ l.length
 | [] => by simp [rdc]
 | n :: r => by
  have := rdc_len r
  simp only [rdc, List.length_cons]
  split <;> omega
theorem rdc_take {l : List NoteD} {k : Nat} : rdc (l.take k) ≤ rdc l := by
 have := rdc_app (l.take k) (l.drop k)
 rw [List.take_append_drop] at this
 omega
theorem rdsL_take {l : List AttD} {k : Nat} : rdsL (l.take k) ≤ rdsL l := by
 have := rdsL_app (l.take k) (l.drop k)
 rw [List.take_append_drop] at this
 omega
theorem att_snoc {L : List AttD} {i : Nat} (h : i < L.length) : L.take (i + 1) = L.take i ++ [atL L i] := by
 unfold atL
 rw [List.getD_eq_getElem?_getD, List.getElem?_eq_getElem h, List.take_add_one, List.getElem?_eq_getElem h]
 rfl
theorem note_snoc {ns : List NoteD} {i : Nat} (h : i < ns.length) : ns.take (i + 1) = ns.take i ++ [ns.getD i noNt] := by
 rw [List.getD_eq_getElem?_getD, List.getElem?_eq_getElem h, List.take_add_one, List.getElem?_eq_getElem h]
 rfl
theorem rdsL_bound {L : List AttD} {M : Nat} (h : ∀ k, k < L.length → (atL L k).notes.length ≤ M) : ∀ i, i ≤ L.length → rdsL (L.take i) ≤ i * M
 | 0, _ => by simp [rdsL]
 | i + 1, hi => by
  have ih := rdsL_bound h i (by omega)
  have h1 := h i (by omega)
  have h2 := rdc_len (atL L i).notes
  rw [att_snoc (by omega), rdsL_app, Nat.add_mul, Nat.one_mul]
  simp only [rdsL]
  omega
def tnV (v : Int) : Int := IntKind.i64.wrap (v + 1)
theorem tnV_ne (v : Int) : tnV v ≠ v := by
 unfold tnV
 rw [IntKind.wrap_i64]
 omega
def tnN : Int → List NoteD → List NoteD
 | _, [] => []
 | m, n :: r => (if n.op = 7 ∧ m = 0 then ⟨n.op, n.addr, tnV n.val⟩ else n) :: tnN (if n.op = 7 then m - 1 else m) r
theorem tnN_len : ∀ (l : List NoteD) (m : Int), (tnN m l).length = l.length
 | [], _ => rfl
 | n :: r, m => by simp only [tnN, List.length_cons, tnN_len r]
theorem tnN_snoc (n : NoteD) : ∀ (l : List NoteD) (m : Int), tnN m (l ++ [n]) = tnN m l ++ [if n.op = 7 ∧ m - (rdc l : Int) = 0 then ⟨n.op, n.addr, tnV n.val⟩ else n]
 | [], m => by simp [tnN, rdc]
 | k :: r, m => by
  have hx : (if k.op = 7 then m - 1 else m) - (rdc r : Int) = m - (rdc (k :: r) : Int) := by
   simp only [rdc]
   by_cases h : k.op = 7
   ·simp only [if_pos h]; omega
   ·simp only [if_neg h]; omega
  simp only [List.cons_append, tnN]
  rw [tnN_snoc n r, hx]
theorem tnN_off : ∀ (l : List NoteD) (m : Int), m < 0 ∨ (rdc l : Int) ≤ m → tnN m l = l
 | [], _, _ => rfl
 | n :: r, m, h => by
  simp only [tnN]
  simp only [rdc] at h
  by_cases q : n.op = 7
  ·rw [if_pos q] at h
   rw [if_pos q, if_neg (fun k => by omega), tnN_off r (m - 1) (by omega)]
  ·rw [if_neg q] at h
   rw [if_neg q, if_neg (fun k => q k.1), tnN_off r m (by omega)]
theorem tnN_wr : ∀ (l : List NoteD) (m : Int) (v : List Int), wrN (tnN m l) v = wrN l v
 | [], _, _ => rfl
 | n :: r, m, v => by
  simp only [tnN]
  show wrN (tnN _ r) (nStep _ v) = wrN r (nStep n v)
  rw [tnN_wr r]
  congr 1
  by_cases q : n.op = 7 ∧ m = 0
  ·rw [if_pos q]
   unfold nStep
   rw [if_neg (fun k => by have := k.1; simp only at this; omega), if_neg (fun k => by omega)]
  ·rw [if_neg q]
theorem tnN_bad : ∀ (l : List NoteD) (m : Int) (v : List Int), 0 ≤ m → m < (rdc l : Int) → rdN l v = true → rdN (tnN m l) v = false
 | [], m, v, h0, h1, _ => by simp [rdc] at h1; omega
 | n :: r, m, v, h0, h1, h => by
  simp only [tnN]
  have h' : (nRead n v && rdN r (nStep n v)) = true := h
  rw [Bool.and_eq_true] at h'
  by_cases q : n.op = 7
  ·by_cases q0 : m = 0
   ·rw [if_pos ⟨q, q0⟩]
    show (nRead _ v && _) = false
    have e1 : nRead ⟨n.op, n.addr, tnV n.val⟩ v = false := by
     have h2 := h'.1
     unfold nRead at h2 ⊢
     rw [if_pos q] at h2
     rw [if_pos q]
     have h3 := of_decide_eq_true h2
     simp only [decide_eq_false_iff_not]
     intro h4
     exact tnV_ne n.val (h4.2.2.symm.trans h3.2.2)
    rw [e1]
    rfl
   ·rw [if_neg (fun k => q0 k.2), if_pos q]
    show (nRead n v && rdN (tnN (m - 1) r) (nStep n v)) = false
    simp only [rdc, if_pos q] at h1
    rw [tnN_bad r (m - 1) _ (by omega) (by omega) h'.2, Bool.and_false]
  ·rw [if_neg (fun k => q k.1), if_neg q]
   show (nRead n v && rdN (tnN m r) (nStep n v)) = false
   simp only [rdc, if_neg q] at h1
   rw [tnN_bad r m _ h0 (by omega) h'.2, Bool.and_false]
def tnA (L : List AttD) (m : Int) (k : Nat) : AttD := { atL L k with notes := tnN (m - (rdsL (L.take k) : Int)) (atL L k).notes }
def tnL (L : List AttD) (m : Int) (i : Nat) : List AttD := (List.range i).map (tnA L m)
theorem tnL_succ (L : List AttD) (m : Int) (i : Nat) : tnL L m (i + 1) = tnL L m i ++ [tnA L m i] := by unfold tnL; rw [List.range_succ, List.map_append]; rfl
theorem tnL_len (L : List AttD) (m : Int) (i : Nat) : (tnL L m i).length = i := by simp [tnL]
theorem tnL_at {L : List AttD} {m : Int} {i k : Nat} (h : k < i) : atL (tnL L m i) k = tnA L m k := by simp [atL, tnL, List.getD, h]
theorem whr_ex : ∀ (L : List AttD) (m : Nat), m < rdsL L → ∃ p, p < L.length ∧ rdsL (L.take p) ≤ m ∧ m < rdsL (L.take p) + rdc (atL L p).notes
 | [], m, h => by simp [rdsL] at h
 | a :: r, m, h => by
  simp only [rdsL] at h
  by_cases q : m < rdc a.notes
  ·exact ⟨0, by simp, by simp [rdsL], by simpa [rdsL, atL, List.getD] using q⟩
  ·obtain ⟨p, h1, h2, h3⟩ := whr_ex r (m - rdc a.notes) (by omega)
   refine ⟨p + 1, by simpa using h1, ?_, ?_⟩
   ·simp only [List.take_succ_cons, rdsL]; omega
   ·simp only [List.take_succ_cons, rdsL]
    have : atL (a :: r) (p + 1) = atL r p := by simp [atL, List.getD]
    rw [this]
    omega
theorem tak_mono (L : List AttD) {i j : Nat} (h : i ≤ j) : rdsL (L.take i) ≤ rdsL (L.take j) := by
 have : L.take i = (L.take j).take i := by rw [List.take_take, Nat.min_eq_left h]
 rw [this]
 exact rdsL_take
theorem whr_un {L : List AttD} {m p i : Nat} (hp : p < L.length) (hi : i < L.length) (h2 : rdsL (L.take p) ≤ m) (h3 : m < rdsL (L.take p) + rdc (atL L p).notes) (k2 : rdsL (L.take i) ≤ m) (k3 : m < rdsL (L.take i) + rdc (atL L i).notes) : i = p := by
 have e1 : rdsL (L.take (p + 1)) = rdsL (L.take p) + rdc (atL L p).notes := by rw [att_snoc hp, rdsL_app]; simp [rdsL]
 have e2 : rdsL (L.take (i + 1)) = rdsL (L.take i) + rdc (atL L i).notes := by rw [att_snoc hi, rdsL_app]; simp [rdsL]
 rcases Nat.lt_trichotomy i p with q | q | q
 ·have := tak_mono L (show i + 1 ≤ p from q); omega
 ·exact q
 ·have := tak_mono L (show p + 1 ≤ i from q); omega
theorem turned_judged {L : List AttD} {mem : List Int} {m p x : Nat} (hg : ∀ j, ¬ Bad (atL L) L.length mem j) (hp : p < L.length) (h2 : rdsL (L.take p) ≤ m) (h3 : m < rdsL (L.take p) + rdc (atL L p).notes)
  (hr : ∀ l : List Nat, l.Pairwise (Kl (atL L)) → (∀ i, i ∈ l ↔ (i < L.length ∧ Kl (atL L) i p ∧ 0 < (atL L i).stamp)) → rdN (atL L p).notes (wrL (atL L) l mem) = true)
  (hx : Lst (Bad (atL (tnL L m L.length)) L.length mem) L.length x) : x = p := by
 obtain ⟨g, hge⟩ : ∃ g, g = atL (tnL L m L.length) := ⟨_, rfl⟩
 have at_ : ∀ k, k < L.length → g k = tnA L m k := fun k hk => by rw [hge]; exact tnL_at hk
 have fs : ∀ k, k < L.length → (g k).stamp = (atL L k).stamp ∧ (g k).start = (atL L k).start ∧ (g k).fin = (atL L k).fin ∧ (g k).valid = (atL L k).valid := fun k hk => by rw [at_ k hk]; exact ⟨rfl, rfl, rfl, rfl⟩
 have hkl : ∀ i j, i < L.length → j < L.length → (Kl g i j ↔ Kl (atL L) i j) := fun i j hi hj => by
  unfold Kl pT pA
  rw [(fs i hi).1, (fs j hj).1, (fs i hi).2.2.2, (fs j hj).2.2.2]
 have hw : ∀ (l : List Nat) (v : List Int), (∀ i ∈ l, i < L.length) → wrL g l v = wrL (atL L) l v := by
  intro l
  induction l with
  | nil => intro v _; rfl
  | cons i r ih =>
   intro v hl
   show wrL g r (wrN (g i).notes v) = wrL (atL L) r (wrN (atL L i).notes v)
   rw [at_ i (hl i List.mem_cons_self)]
   show wrL g r (wrN (tnN _ _) v) = _
   rw [tnN_wr, ih _ fun j hj => hl j (List.mem_cons_of_mem _ hj)]
 have conv : ∀ (j : Nat) (l : List Nat), j < L.length → (l.Pairwise (Kl (atL L)) → (∀ i, i ∈ l ↔ (i < L.length ∧ Kl (atL L) i j ∧ 0 < (atL L i).stamp)) → l.Pairwise (Kl g) ∧ (∀ i, i ∈ l ↔ (i < L.length ∧ Kl g i j ∧ 0 < (g i).stamp))) ∧ (l.Pairwise (Kl g) → (∀ i, i ∈ l ↔ (i < L.length ∧ Kl g i j ∧ 0 < (g i).stamp)) → l.Pairwise (Kl (atL L)) ∧ (∀ i, i ∈ l ↔ (i < L.length ∧ Kl (atL L) i j ∧ 0 < (atL L i).stamp))) := fun j l hj => by
  have em : ∀ i, (i < L.length ∧ Kl (atL L) i j ∧ 0 < (atL L i).stamp) ↔ (i < L.length ∧ Kl g i j ∧ 0 < (g i).stamp) := fun i => by
   constructor
   ·rintro ⟨a, b, c⟩; exact ⟨a, (hkl i j a hj).2 b, by rw [(fs i a).1]; exact c⟩
   ·rintro ⟨a, b, c⟩; exact ⟨a, (hkl i j a hj).1 b, by rw [← (fs i a).1]; exact c⟩
  constructor
  ·intro a b
   refine ⟨a.imp_of_mem fun {u v} mu mv k => (hkl u v ((b u).1 mu).1 ((b v).1 mv).1).2 k, fun i => (b i).trans (em i)⟩
  ·intro a b
   refine ⟨a.imp_of_mem fun {u v} mu mv k => (hkl u v ((b u).1 mu).1 ((b v).1 mv).1).1 k, fun i => (b i).trans (em i).symm⟩
 rw [← hge] at hx
 have hbp : Bad g L.length mem p := by
  refine ⟨hp, Or.inr (Or.inr fun l k1 k2 => ?_)⟩
  obtain ⟨c1, c2⟩ := (conv p l hp).2 k1 k2
  have hrd := hr l c1 c2
  rw [hw l mem fun i hi => ((k2 i).1 hi).1, at_ p hp]
  exact tnN_bad _ _ _ (by omega) (by omega) hrd
 have hno : ∀ j, Bad g L.length mem j → j = p := by
  rintro j ⟨hj, h | h | h⟩
  ·obtain ⟨i, q1, q2, q3⟩ := h
   refine absurd ⟨hj, Or.inl ⟨i, q1, ?_, ?_⟩⟩ (hg j)
   ·rw [← (fs j hj).1]; exact q2
   ·rw [← (fs j hj).1, ← (fs i (by omega)).1]; exact q3
  ·obtain ⟨i, q0, q1, q2, q3, q4⟩ := h
   refine absurd ⟨hj, Or.inr (Or.inl ⟨i, q0, q1, ?_, ?_, fun k => q4 ((hkl i j q0 hj).2 k)⟩)⟩ (hg j)
   ·rw [← (fs i q0).2.2.1]; exact q2
   ·rw [← (fs i q0).2.2.1, ← (fs j hj).2.1]; exact q3
  ·by_cases hjp : j = p
   ·exact hjp
   ·refine absurd ⟨hj, Or.inr (Or.inr fun l k1 k2 => ?_)⟩ (hg j)
    obtain ⟨c1, c2⟩ := (conv j l hj).1 k1 k2
    have := h l c1 c2
    rw [hw l mem fun i hi => ((k2 i).1 hi).1, at_ j hj] at this
    have hoff : tnN ((m : Int) - (rdsL (L.take j) : Int)) (atL L j).notes = (atL L j).notes := by
     refine tnN_off _ _ ?_
     rcases Nat.lt_or_ge m (rdsL (L.take j)) with q | q
     ·exact Or.inl (by omega)
     ·rcases Nat.lt_or_ge m (rdsL (L.take j) + rdc (atL L j).notes) with q2 | q2
      ·exact absurd (whr_un hp hj h2 h3 q q2) hjp
      ·exact Or.inr (by omega)
    have e : (tnA L (m : Int) j).notes = (atL L j).notes := hoff
    rw [e] at this
    exact this
 obtain ⟨_, x2, x3⟩ := hx
 rcases x2 with q | q
 ·have := x3 p hbp; omega
 ·exact hno x q
end Go.Proofs.YtejadojilncbjabGreat
namespace Go.Proofs.YtejadojilncbjabGreat
open Go.RowKit
set_option linter.unusedVariables false
attribute [local go_sem ↓] Go.wp_at_zero Go.wp_at_succ
set_option maxRecDepth 100000 in
set_option maxHeartbeats 4000000 in
theorem reads_any (L : List AttD) (N : Nat) (hN : L.length = N) (hL : N ≤ 2097152) (hnt : ∀ k, k < N → (atL L k).notes.length ≤ 1073741824) (a : Option Addr) (cp : Nat) (w : World) (h : HistIn w w.heap.size a L) :
  Calls Tryz.prog 20 #[.slice a N cp] w fun e w' => e = .returned (.int .i64 (rdsL L : Int)) ∧ w' = w := by
 have HAt : Hid (∀ k, k < N → ∃ b off na nc, a = some ⟨b, off, none⟩ ∧ w.cell? ⟨b, off + k * 8 + 7, none⟩ = some (.slice na (atL L k).notes.length nc) ∧ NotesIn w w.heap.size na (atL L k).notes) := fun k hk => by
  obtain ⟨b, off, na, nc, ha, hl, ⟨_, _, _, _, _, _, _, c7⟩, hn⟩ := h.att (k := k) (by omega)
  exact ⟨b, off, na, nc, ha, c7, hn⟩
 have HBd : Hid (∀ i, i ≤ N → rdsL (L.take i) ≤ i * 1073741824) := fun i hi => rdsL_bound (M := 1073741824) (fun k hk => hnt k (by omega)) i (by omega)
 have HNt : Hid (∀ k, k < N → (atL L k).notes.length ≤ 1073741824) := hnt
 have HNl : Hid (L.length = N) := hN
 clear h hnt hN
 go_enter Tryz.func20, Tryz.ntmps20
 go_wp2_with fail
 go_loopg [3, 4] (N + 1) (fun m t3 t4 wr => ∃ n i : Nat, t3 = .int .i64 (n : Int) ∧ t4 = .int .i64 (i : Int) ∧ i ≤ N ∧ m = N + 1 - i ∧ Hid (n = rdsL (L.take i)) ∧ Hid (wr = w))
 case atStart => exact ⟨0, 0, rfl, rfl, by omega, by omega, rfl, rfl⟩
 case round =>
  obtain ⟨n, i, rfl, rfl, hi, hgi, HQ, HW⟩ := hrel
  obtain rfl : wr = w := HW.out
  by_cases hiN : i < N
  ·obtain ⟨b, off, na, nc, ha, c7, hn⟩ := HAt.out i hiN
   have hns := HNt.out i hiN
   have hb1 := HBd.out i hi
   have hsn := att_snoc (L := L) (i := i) (by rw [HNl.out]; exact hiN)
   have hsum : rdsL (L.take (i + 1)) = rdsL (L.take i) + rdc (atL L i).notes := by rw [hsn, rdsL_app]; simp [rdsL]
   obtain ⟨ns, hnse⟩ : ∃ ns, ns = (atL L i).notes := ⟨_, rfl⟩
   rw [← hnse] at c7 hn hns hsum
   have HNn : Hid (NotesIn wr wr.heap.size na ns) := hn
   have HS : Hid (rdsL (L.take (i + 1)) = n + rdc ns ∧ n ≤ i * 1073741824) := ⟨by rw [hsum, HQ.out], by rw [HQ.out]; exact hb1⟩
   have i0 : (0 : Int) ≤ (i : Int) := by omega
   have i1 : (i : Int) < (N : Int) := by omega
   have hwi : IntKind.i64.wrap ((i : Int) + 1) = (i : Int) + 1 := wrapJ9 _ (by omega) (by omega)
   subst ha
   clear hn hb1 hsn hsum hnse HQ
   go_wp2_with fail
   go_loopg [3, 5] (ns.length + 1) (fun m t3 t5 wx => ∃ q k : Nat, t3 = .int .i64 (q : Int) ∧ t5 = .int .i64 (k : Int) ∧ k ≤ ns.length ∧ m = ns.length + 1 - k ∧ Hid (q = n + rdc (ns.take k)) ∧ Hid (wx = wr))
   case atStart => exact ⟨n, 0, rfl, rfl, by omega, by omega, rfl, rfl⟩
   case round =>
    obtain ⟨q, k, rfl, rfl, hk, hgk, HK, HW2⟩ := hrel
    obtain ⟨wk, hwk⟩ : ∃ wk, wk = wr := ⟨_, rfl⟩
    have hw2 := HW2.out
    rw [hw2]
    clear hw2 HW2 hwk
    by_cases hkn : k < ns.length
    ·obtain ⟨nb, noff, hna, hnl, n0, _, _⟩ := HNn.out k hkn
     have hsn := note_snoc hkn
     have hrc : rdc (ns.take (k + 1)) = rdc (ns.take k) + (if (ns.getD k noNt).op = 7 then 1 else 0) := by rw [hsn, rdc_app]; simp [rdc]
     have hq1 := HK.out
     have hq2 := rdc_len (ns.take k)
     have hq3 : (ns.take k).length ≤ k := by simp; omega
     have hq4 := (HS.out).2
     have hqb : q ≤ 4503599627370496 := by
      have : i * 1073741824 ≤ 2097152 * 1073741824 := Nat.mul_le_mul_right _ (by omega)
      omega
     have hwq : IntKind.i64.wrap ((q : Int) + 1) = (q : Int) + 1 := wrapJ9 _ (by omega) (by omega)
     have k0 : (0 : Int) ≤ (k : Int) := by omega
     have k1 : (k : Int) < (ns.length : Int) := by omega
     have hwk1 : IntKind.i64.wrap ((k : Int) + 1) = (k : Int) + 1 := wrapJ9 _ (by omega) (by omega)
     obtain ⟨op, hop⟩ : ∃ op, op = (ns.getD k noNt).op := ⟨_, rfl⟩
     rw [← hop] at n0 hrc
     subst hna
     by_cases h7 : op = 7
     ·rw [if_pos h7] at hrc
      have HKn : Hid (q + 1 = n + rdc (ns.take (k + 1))) := by show _ = _; omega
      subst h7
      clear hrc hsn hq1 hq2 hq3 hq4 HK hop
      go_wp2_with fail
      go_roundg (ns.length + 1 - (k + 1))
      case rel => exact ⟨q + 1, k + 1, by simp, by simp, by omega, rfl, HKn, rfl⟩
      case measure => omega
     ·rw [if_neg h7] at hrc
      have HKn : Hid (q = n + rdc (ns.take (k + 1))) := by show _ = _; omega
      have h7' : (op == 7) = false := by simp [h7]
      clear hrc hsn hq1 hq2 hq3 hq4 HK hop h7
      go_wp2_with fail
      go_roundg (ns.length + 1 - (k + 1))
      case rel => exact ⟨q, k + 1, rfl, by simp, by omega, rfl, HKn, rfl⟩
      case measure => omega
    ·have hkI : ¬ (k : Int) < (ns.length : Int) := by omega
     have HQn : Hid (q = rdsL (L.take (i + 1))) := by
      have h1 := HK.out
      rw [List.take_of_length_le (by omega)] at h1
      rw [(HS.out).1]
      exact h1
     clear HK
     go_wp2_with fail
     go_roundg (N + 1 - (i + 1))
     case rel => exact ⟨q, i + 1, rfl, by simp, by omega, rfl, HQn, rfl⟩
     case measure => omega
  ·have hiI : ¬ (i : Int) < (N : Int) := by omega
   have HE : Hid (n = rdsL L) := by
    have h1 := HQ.out
    rw [List.take_of_length_le (by rw [HNl.out]; omega)] at h1
    exact h1
   clear HQ
   go_wp2_with fail
   go_ret
   exact ⟨by rw [HE.out]; rfl, rfl⟩
theorem note_get : ∀ (ns : List NoteD) (i : Nat), i < ns.length → (ns.flatMap noteCells)[i * 3]? = some (.int .i64 (ns.getD i noNt).op) ∧ (ns.flatMap noteCells)[i * 3 + 1]? = some (.int .i64 (ns.getD i noNt).addr) ∧ (ns.flatMap noteCells)[i * 3 + 2]? = some (.int .i64 (ns.getD i noNt).val)
 | [], i, h => by simp at h
 | c :: U, 0, h => ⟨rfl, rfl, rfl⟩
 | c :: U, i + 1, h => by
  have := note_get U i (by simpa using h)
  rw [show (i + 1) * 3 = i * 3 + 3 by omega]
  exact this
theorem notesIn_row {w : World} {base : Nat} {a : Option Addr} {n c : Nat} {ns : List NoteD} (h : w.ownsRow base 93 3 (.slice a n c) n (ns.flatMap noteCells)) : NotesIn w w.heap.size a ns := fun i hi => by
 obtain ⟨g0, g1, g2⟩ := note_get ns i hi
 obtain ⟨b, ha, _, hl, c0⟩ := own_cell h g0
 obtain ⟨b1, ha1, _, _, c1⟩ := own_cell h g1
 obtain ⟨b2, ha2, _, _, c2⟩ := own_cell h g2
 rw [ha] at ha1 ha2
 cases ha1
 cases ha2
 exact ⟨b, 0, ha, hl, by simpa using c0, by simpa using c1, by simpa using c2⟩
theorem histIn_row {w : World} {base : Nat} {a : Option Addr} {c : Nat} {AN : List (AttD × Value)} (h : AttsRow w base a c AN) (hn : ∀ q ∈ AN, w.ownsRow 0 93 3 q.2 q.1.notes.length (q.1.notes.flatMap noteCells)) (hs : ∀ q ∈ AN, ∃ na nc, q.2 = Value.slice na q.1.notes.length nc) : HistIn w w.heap.size a (AN.map (·.1)) := fun k hk => by
 rw [List.length_map] at hk
 obtain ⟨q, hq⟩ : ∃ q, AN[k]? = some q := ⟨_, List.getElem?_eq_getElem hk⟩
 obtain ⟨b, ha, hl, c0, c1, c2, c3, c4, c5, c6, c7⟩ := AttsRow.at h k q hq
 have hm := List.mem_of_getElem? hq
 obtain ⟨na, nc, he⟩ := hs q hm
 have h1 := hn q hm
 rw [he] at h1 c7
 have hat : atL (AN.map (·.1)) k = q.1 := by
  unfold atL
  rw [List.getD_eq_getElem?_getD, List.getElem?_map, hq]
  rfl
 rw [hat]
 exact ⟨b, 0, na, nc, ha, hl, by simpa using c0, by simpa using c1, by simpa using c2, by simpa using c3, by simpa using c4, by simpa using c5, by simpa using c6, by simpa using c7, notesIn_row h1⟩
theorem own_grown {w w' : World} {base base2 e e2 s s2 n n2 : Nat} {v v2 : Value} {xs xs2 : List Value} (h : w.ownsRow base e s v n xs) (h2 : w.ownsRow base2 e2 s2 v2 n2 xs2) (hne : e ≠ e2) {w0 : World} (h0 : Below w.heap.size w w0) (hg : w0.grownBy w' v2.ownBlock) : w'.ownsRow base e s v n xs := by
 refine ⟨h.1, ?_⟩
 rcases h.2 with q | ⟨g, cap, cur, h1, h3, h4, h5⟩
 ·exact Or.inl q
 ·refine Or.inr ⟨g, cap, cur, h1, h3, ?_, h5⟩
  have hb : Blk w g e cur := h4
  have hb0 : Blk w0 g e cur := hb.below h0 hb.lt
  refine (hg.block g hb0.lt fun q => ?_).trans hb0
  rcases h2.2 with ⟨k1, _⟩ | ⟨g2, cap2, cur2, k1, _, k4, _⟩
  ·rw [k1] at q; cases q
  ·rw [k1] at q
   cases q
   have hb2 : Blk w g2 e2 cur2 := k4
   exact hb.ne hb2 hne rfl
end Go.Proofs.YtejadojilncbjabGreat
