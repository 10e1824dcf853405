import Derived.Test.YtejadojilncbjabJ06
namespace Go.Proofs.Ytejadojilncbjab
open Go.RowKit
set_option linter.unusedVariables false
attribute [local go_sem ↓] Go.wp_at_zero Go.wp_at_succ

/-- What stands at some of the places of the order and is of a kind. -/
def PosIn (R : Nat → Prop) (o : List Nat) (Q : Nat → Prop) (j : Nat) : Prop := ∃ p, R p ∧ p < o.length ∧ o.getD p 0 = j ∧ Q j

theorem posT {R R2 : Nat → Prop} {o : List Nat} {Q : Nat → Prop} {n x i : Nat} (h : Lst (PosIn R o Q) n x) (hR : ∀ p, R2 p ↔ (R p ∨ p = i)) (hi : i < o.length) (hq : Q (o.getD i 0)) (hn : o.getD i 0 ≤ n) : Lst (PosIn R2 o Q) n (if x < o.getD i 0 then x else o.getD i 0) :=
  (h.or (Lst.one n _ hn)).congr fun j => by
    constructor
    · rintro (⟨p, h1, h2⟩ | rfl)
      · exact ⟨p, (hR p).2 (Or.inl h1), h2⟩
      · exact ⟨i, (hR i).2 (Or.inr rfl), hi, rfl, hq⟩
    · rintro ⟨p, h1, h2, h3, h4⟩
      rcases (hR p).1 h1 with h5 | rfl
      · exact Or.inl ⟨p, h5, h2, h3, h4⟩
      · exact Or.inr h3.symm

theorem posF {R R2 : Nat → Prop} {o : List Nat} {Q : Nat → Prop} {n x i : Nat} (h : Lst (PosIn R o Q) n x) (hR : ∀ p, R2 p ↔ (R p ∨ p = i)) (hq : ¬ Q (o.getD i 0)) : Lst (PosIn R2 o Q) n x :=
  h.congr fun j => by
    constructor
    · rintro ⟨p, h1, h2⟩
      exact ⟨p, (hR p).2 (Or.inl h1), h2⟩
    · rintro ⟨p, h1, h2, h3, h4⟩
      rcases (hR p).1 h1 with h5 | rfl
      · exact ⟨p, h5, h2, h3, h4⟩
      · exact absurd (h3 ▸ h4) hq

theorem posN {R : Nat → Prop} {o : List Nat} {Q : Nat → Prop} {n : Nat} (h : ∀ p, p < o.length → ¬ R p) : Lst (PosIn R o Q) n n :=
  (Lst.none n).congr fun j => ⟨fun q => q.elim, fun ⟨p, h1, h2, _⟩ => h p h2 h1⟩

theorem posE {R : Nat → Prop} {f : Nat → AttD} {o : List Nat} {Q : Nat → Prop} {n x : Nat} (h : Lst (PosIn R o Q) n x) (O : IsOrd f n o) (hR : ∀ p, p < o.length → R p) : Lst (fun j => j < n ∧ Q j) n x :=
  h.congr fun j => by
    constructor
    · rintro ⟨p, h1, h2, rfl, h4⟩
      refine ⟨(O.mem _).1 ?_, h4⟩
      rw [List.getD_eq_getElem?_getD, List.getElem?_eq_getElem h2]
      exact List.getElem_mem h2
    · rintro ⟨h1, h2⟩
      obtain ⟨p, hp, he⟩ := List.mem_iff_getElem.1 ((O.mem j).2 h1)
      exact ⟨p, hR p hp, hp, by rw [List.getD_eq_getElem?_getD, List.getElem?_eq_getElem hp]; exact he, h2⟩

theorem ord_at {o : List Nat} {i : Nat} (h : i < o.length) : o = o.take i ++ o.getD i 0 :: o.drop (i + 1) := by
  rw [List.getD_eq_getElem?_getD, List.getElem?_eq_getElem h]
  simp

theorem takSn {o : List Nat} {i : Nat} (h : i < o.length) : o.take (i + 1) = o.take i ++ [o.getD i 0] := by
  rw [List.getD_eq_getElem?_getD, List.getElem?_eq_getElem h, List.take_add_one, List.getElem?_eq_getElem h]
  rfl

theorem ord_lt {f : Nat → AttD} {n : Nat} {o : List Nat} (O : IsOrd f n o) {i : Nat} (h : i < o.length) : o.getD i 0 < n := by
  refine (O.mem _).1 ?_
  rw [List.getD_eq_getElem?_getD, List.getElem?_eq_getElem h]
  exact List.getElem_mem h

theorem dbl_at {f : Nat → AttD} {n : Nat} {o : List Nat} (O : IsOrd f n o) {i : Nat} (h : i + 1 < o.length) : Dbl f (o.getD (i + 1) 0) ↔ (0 < (f (o.getD (i + 1) 0)).stamp ∧ (f (o.getD (i + 1) 0)).stamp = (f (o.getD i 0)).stamp) := by
  rw [dbl_iff O (ord_at h)]
  constructor
  · rintro ⟨A, m, h1, h2⟩
    rw [takSn (by omega)] at h1
    have h3 := List.append_inj_right' h1 rfl
    simp only [List.cons.injEq, and_true] at h3
    rw [h3]
    exact h2
  · intro h2
    exact ⟨o.take i, _, takSn (by omega), h2⟩

theorem dbl_zero {f : Nat → AttD} {n : Nat} {o : List Nat} (O : IsOrd f n o) (h : 0 < o.length) : ¬ Dbl f (o.getD 0 0) := by
  rw [dbl_iff O (ord_at h)]
  rintro ⟨A, m, h1, _⟩
  simp at h1

theorem late_at {f : Nat → AttD} {n : Nat} {o : List Nat} (O : IsOrd f n o) {i : Nat} (h : i < o.length) {s : Int} (hs : Soon f (o.drop (i + 1)) s) : Late f n (o.getD i 0) ↔ (0 < s ∧ s < (f (o.getD i 0)).start) := by
  rw [late_iff O (ord_at h), hs.hit]

theorem drop_at {o : List Nat} {i : Nat} (h : i < o.length) : o.drop i = o.getD i 0 :: o.drop (i + 1) := by
  rw [List.getD_eq_getElem?_getD, List.getElem?_eq_getElem h, List.drop_eq_getElem_cons h]
  rfl

/-- What the three functions tell. -/
def LstIs (w : World) (P : Nat → Prop) (n : Nat) (e : Ending) (w' : World) : Prop := ∃ x : Nat, e = .returned (.int .i64 (x : Int)) ∧ Lst P n x ∧ Below w.heap.size w w'

set_option maxRecDepth 100000 in
set_option maxHeartbeats 4000000 in
/-- firstDouble. -/
theorem double_any (L : List AttD) (N : Nat) (hN : L.length = N) (hL : N ≤ 2097152) (o : List Nat) (O : IsOrd (atL L) N o) (ho : o.length = N) (a oa : Option Addr) (cp oc : Nat) (w : World) (h : HistIn w w.heap.size a L) (hoi : NatsIn w w.heap.size oa o) :
    Calls Try.prog 25 #[.slice a N cp, .slice oa N oc] w (LstIs w (fun j => j < N ∧ Dbl (atL L) j) N) := by
  obtain ⟨f, hf⟩ : ∃ f, f = atL L := ⟨_, rfl⟩
  rw [← hf] at O ⊢
  have HH : Hid (∀ k, k < N → ∃ b off, a = some ⟨b, off, none⟩ ∧ w.cell? ⟨b, off + k * 8 + 5, none⟩ = some (.int .i64 (f k).stamp)) := fun k hk => by
    obtain ⟨b, off, na, nc, ha, hl, c0, c1, c2, c3, c4, c5, _⟩ := h k (by omega)
    exact ⟨b, off, ha, by rw [hf]; exact c5⟩
  have HO : Hid (IsOrd f N o) := O
  have HOl : Hid (o.length = N) := ho
  have HI : Hid (NatsIn w w.heap.size oa o) := hoi
  clear h hoi O ho hf hN
  go_enter Try.func25, Try.ntmps25
  go_wp2_with fail
  go_loopg [5, 6] (N + 1) (fun m t5 t6 wr => ∃ x i : Nat, t5 = .int .i64 (x : Int) ∧ t6 = .int .i64 (i : Int) ∧ 1 ≤ i ∧ i ≤ N + 1 ∧ m = N + 2 - i ∧ Hid (Lst (PosIn (fun p => p < i) o (Dbl f)) N x) ∧ Hid (wr = w))
  case atStart =>
    refine ⟨N, 1, rfl, rfl, by omega, by omega, by omega, ?_, rfl⟩
    show Lst _ _ _
    by_cases hz : 0 < o.length
    · exact posF (R := fun p => False) (i := 0) (posN fun p _ q => q) (fun p => ⟨fun q => Or.inr (by omega), fun q => q.elim False.elim fun q => by omega⟩) (dbl_zero HO.out hz)
    · exact posN fun p hp => by omega
  case round =>
    obtain ⟨x, i, rfl, rfl, hi1, hi2, hgi, HL, HW⟩ := hrel
    obtain rfl : wr = w := HW.out
    by_cases hiN : i < N
    · obtain ⟨m, hm⟩ : ∃ m, i = m + 1 := ⟨i - 1, by omega⟩
      have hol := HOl.out
      obtain ⟨ob, hoa, hobl, hc⟩ := HI.out i (by omega)
      obtain ⟨ob', hoa', _, hc'⟩ := HI.out m (by omega)
      rw [hoa] at hoa'
      cases hoa'
      have hxl := ord_lt HO.out (i := i) (by omega)
      have hyl := ord_lt HO.out (i := m) (by omega)
      have hdb := dbl_at HO.out (i := m) (by omega)
      rw [← hm] at hdb
      have HT := fun hq => posT (R2 := fun p => p < i + 1) (i := i) HL.out (fun p => by omega) (by omega) hq (Nat.le_of_lt hxl)
      have HFf := fun hq => posF (R2 := fun p => p < i + 1) (i := i) HL.out (fun p => by omega) hq
      rw [hdb] at HT HFf
      obtain ⟨X, hX⟩ : ∃ X, X = o.getD i 0 := ⟨_, rfl⟩
      obtain ⟨Y, hY⟩ : ∃ Y, Y = o.getD m 0 := ⟨_, rfl⟩
      rw [← hX] at hc hxl HT HFf
      rw [← hY] at hc' hyl HT HFf
      obtain ⟨hb, hoff, ha, hs⟩ := HH.out X hxl
      obtain ⟨hb', hoff', ha', hs'⟩ := HH.out Y hyl
      rw [ha] at ha'
      cases ha'
      obtain ⟨S, hS⟩ : ∃ S, S = (f X).stamp := ⟨_, rfl⟩
      obtain ⟨T, hTt⟩ : ∃ T, T = (f Y).stamp := ⟨_, rfl⟩
      rw [← hS] at hs HT HFf
      rw [← hTt] at hs' HT HFf
      have i0 : (0 : Int) ≤ (i : Int) := by omega
      have i1 : (i : Int) < (N : Int) := by omega
      have m0 : (0 : Int) ≤ (m : Int) := by omega
      have m1 : (m : Int) < (N : Int) := by omega
      have x0 : (0 : Int) ≤ (X : Int) := by omega
      have x1 : (X : Int) < (N : Int) := by omega
      have y0 : (0 : Int) ≤ (Y : Int) := by omega
      have y1 : (Y : Int) < (N : Int) := by omega
      have hwi : IntKind.i64.wrap ((i : Int) + 1) = (i : Int) + 1 := wrapJ9 _ (by omega) (by omega)
      have hws : IntKind.i64.wrap ((i : Int) - 1) = (m : Int) := by rw [show (i : Int) - 1 = (m : Int) by omega]; exact wrapJ9 _ (by omega) (by omega)
      subst hoa ha
      have HLe : Hid (∀ wx, Calls Try.prog 26 #[.int .i64 (x : Int), .int .i64 (X : Int)] wx fun e w' => e = .returned (.int .i64 ((if x < X then x else X : Nat) : Int)) ∧ w' = wx) := least_any x X
      by_cases h1 : S > 0
      · by_cases h2 : S = T
        · have HN : Hid (Lst (PosIn (fun p => p < i + 1) o (Dbl f)) N (if x < X then x else X)) := HT ⟨h1, h2⟩
          subst h2
          obtain ⟨xn, hxn⟩ : ∃ xn, xn = (if x < X then x else X) := ⟨_, rfl⟩
          rw [← hxn] at HN HLe
          clear HT HFf hX hY hdb hS hTt hol hm hxn
          go_wp2_with fail
          refine (HLe.out _).mono ?_
          rintro e w1 ⟨rfl, rfl⟩
          go_wp2_with fail
          go_roundg (N + 2 - (i + 1))
          case rel => exact ⟨xn, i + 1, rfl, by simp, by omega, by omega, rfl, HN, rfl⟩
          case measure => omega
        · have HN : Hid (Lst (PosIn (fun p => p < i + 1) o (Dbl f)) N x) := HFf fun q => h2 q.2
          have h2' : (S == T) = false := by simp [h2]
          clear HT HFf hX hY hdb hS hTt hol hm HLe
          go_wp2_with fail
          go_roundg (N + 2 - (i + 1))
          case rel => exact ⟨x, i + 1, rfl, by simp, by omega, by omega, rfl, HN, rfl⟩
          case measure => omega
      · have HN : Hid (Lst (PosIn (fun p => p < i + 1) o (Dbl f)) N x) := HFf fun q => h1 q.1
        clear HT HFf hX hY hdb hS hTt hol hm HLe
        go_wp2_with fail
        go_roundg (N + 2 - (i + 1))
        case rel => exact ⟨x, i + 1, rfl, by simp, by omega, by omega, rfl, HN, rfl⟩
        case measure => omega
    · have hiI : ¬ (i : Int) < (N : Int) := by omega
      have HE : Hid (Lst (fun j => j < N ∧ Dbl f j) N x) := posE HL.out HO.out fun p hp => by have := HOl.out; omega
      clear HL
      go_wp2_with fail
      go_ret
      exact ⟨x, rfl, HE.out, Below.refl _ _⟩

end Go.Proofs.Ytejadojilncbjab

namespace Go.Proofs.Ytejadojilncbjab
open Go.RowKit
set_option linter.unusedVariables false
attribute [local go_sem ↓] Go.wp_at_zero Go.wp_at_succ

set_option maxRecDepth 100000 in
set_option maxHeartbeats 4000000 in
/-- firstLate. -/
theorem late_any (L : List AttD) (N : Nat) (hN : L.length = N) (hL : N ≤ 2097152) (o : List Nat) (O : IsOrd (atL L) N o) (ho : o.length = N) (a oa : Option Addr) (cp oc : Nat) (w : World) (h : HistIn w w.heap.size a L) (hoi : NatsIn w w.heap.size oa o) :
    Calls Try.prog 27 #[.slice a N cp, .slice oa N oc] w (LstIs w (fun j => j < N ∧ Late (atL L) N j) N) := by
  obtain ⟨f, hf⟩ : ∃ f, f = atL L := ⟨_, rfl⟩
  rw [← hf] at O ⊢
  have HH : Hid (∀ k, k < N → ∃ b off na nn nc, a = some ⟨b, off, none⟩ ∧ b < w.heap.size ∧ AttS b (off + k * 8) (f k) na nn nc w) := fun k hk => by
    obtain ⟨b, off, na, nc, ha, hl, hx, _⟩ := h.att (k := k) (by omega)
    exact ⟨b, off, na, _, nc, ha, hl, by rw [hf]; exact hx⟩
  have HO : Hid (IsOrd f N o) := O
  have HOl : Hid (o.length = N) := ho
  have HI : Hid (NatsIn w w.heap.size oa o) := hoi
  have hwN : IntKind.i64.wrap ((N : Int) - 1) = (N : Int) - 1 := wrapJ9 _ (by omega) (by omega)
  clear h hoi O ho hf hN
  go_enter Try.func27, Try.ntmps27
  go_wp2_with fail
  clear hwN
  go_loopg [5, 6, 7] (N + 1) (fun m t5 t6 t7 wr => ∃ (x k : Nat) (s z : Int), t5 = .int .i64 (x : Int) ∧ t6 = .int .i64 s ∧ t7 = .int .i64 z ∧ z = (k : Int) - 1 ∧ k ≤ N ∧ m = k + 1 ∧ Hid (Soon f (o.drop k) s) ∧ Hid (Lst (PosIn (fun p => k ≤ p) o (Late f N)) N x) ∧ Hid (Below w.heap.size w wr))
  case atStart => exact ⟨N, N, 0, _, rfl, rfl, rfl, rfl, by omega, rfl, by rw [List.drop_eq_nil_of_le (by rw [HOl.out]; exact Nat.le_refl _)]; exact Soon.nil f, posN fun p hp q => by have := HOl.out; omega, Below.refl _ _⟩
  case round =>
    obtain ⟨x, k, s, z, rfl, rfl, rfl, hz, hk, hgk, HSo, HLs, HB⟩ := hrel
    obtain ⟨wi, hwi⟩ : ∃ wi, wi = wr := ⟨_, rfl⟩
    subst hwi
    have hszi := (HB.out).size
    by_cases hk0 : k = 0
    · subst hk0
      have hzz : ¬ z ≥ 0 := by omega
      have hzd : decide (z ≥ 0) = false := by simpa using hzz
      have HE : Hid (Lst (fun j => j < N ∧ Late f N j) N x) := posE HLs.out HO.out fun p hp => by omega
      clear HLs HSo hz
      go_wp2_with fail
      go_ret
      exact ⟨x, rfl, HE.out, HB.out⟩
    · obtain ⟨i, hi⟩ : ∃ i, k = i + 1 := ⟨k - 1, by omega⟩
      have hzi : z = (i : Int) := by omega
      subst hi
      clear hz hk0
      subst hzi
      have hol := HOl.out
      obtain ⟨ob, hoa, hobl, hc⟩ := HI.out i (by omega)
      have hxl := ord_lt HO.out (i := i) (by omega)
      have hla := late_at HO.out (i := i) (by omega) HSo.out
      have hds := drop_at (o := o) (i := i) (by omega)
      have HT := fun hq => posT (R2 := fun p => i ≤ p) (i := i) HLs.out (fun p => by omega) (by omega) hq (Nat.le_of_lt hxl)
      have HFf := fun hq => posF (R2 := fun p => i ≤ p) (i := i) HLs.out (fun p => by omega) hq
      rw [hla] at HT HFf
      have HS1 := (HSo.out).cons (o.getD i 0)
      rw [← hds] at HS1
      obtain ⟨X, hX⟩ : ∃ X, X = o.getD i 0 := ⟨_, rfl⟩
      rw [← hX] at hc hxl HT HFf HS1
      obtain ⟨hb, hoff, na, nn, nc, ha, hbl, hat⟩ := HH.out X hxl
      have hat2 := AttS.up hat HB.out hbl
      obtain ⟨c0, c1, c2, c3, c4, c5, c6, c7⟩ := hat2
      have hc2 : wi.cell? ⟨ob, i, none⟩ = some (.int .i64 (X : Int)) := (World.cell?_of_block ((HB.out).block ob hobl)).trans hc
      obtain ⟨Y, hY⟩ : ∃ Y, Y = f X := ⟨_, rfl⟩
      rw [← hY] at c0 c1 c2 c3 c4 c5 c6 HT HFf HS1
      obtain ⟨w1, hw1⟩ : ∃ w1, w1 = wi.alloc (.cells #[.int .i64 Y.thread, .int .i64 Y.job, .int .i64 Y.start, .int .i64 Y.fin, .int .i64 Y.valid, .int .i64 Y.stamp, .int .i64 Y.fate, .slice na nn nc] 66) := ⟨_, rfl⟩
      have HX1 : Hid (Blk w1 wi.heap.size 66 #[.int .i64 Y.thread, .int .i64 Y.job, .int .i64 Y.start, .int .i64 Y.fin, .int .i64 Y.valid, .int .i64 Y.stamp, .int .i64 Y.fate, .slice na nn nc]) := by rw [hw1]; exact Blk.new wi _ _
      have HB1 : Hid (Below w.heap.size w w1) := by rw [hw1]; exact (HB.out).alloc (HB.out).size _
      have i0 : (0 : Int) ≤ (i : Int) := by omega
      have i0' : (i : Int) ≥ 0 := by omega
      have i1 : (i : Int) < (N : Int) := by omega
      have x0 : (0 : Int) ≤ (X : Int) := by omega
      have x1 : (X : Int) < (N : Int) := by omega
      have hwi1 : IntKind.i64.wrap ((i : Int) - 1) = (i : Int) - 1 := wrapJ9 _ (by omega) (by omega)
      have hc3 : w1.cell? ⟨ob, i, none⟩ = some (.int .i64 (X : Int)) := (World.cell?_of_block ((HB1.out).block ob hobl)).trans hc
      have HLe : Hid (∀ wx, Calls Try.prog 26 #[.int .i64 (x : Int), .int .i64 (X : Int)] wx fun e w' => e = .returned (.int .i64 ((if x < X then x else X : Nat) : Int)) ∧ w' = wx) := least_any x X
      subst hoa ha
      have hs0 : s = 0 ∨ 0 < s := (HSo.out).elim (fun q => Or.inl q.1) (fun q => Or.inr q.1)
      clear hX hY hla hds HLs HSo hc hol
      go_upto_region 7 with fail
      rw [← hw1]
      obtain ⟨xb, hxb⟩ : ∃ xb, xb = wi.heap.size := ⟨_, rfl⟩
      rw [← hxb] at HX1 ⊢
      clear hw1 hxb c0 c1 c2 c3 c4 c5 c6 c7 hc2 HB hszi
      have hxc := (HX1.out).cell
      obtain ⟨st, hst⟩ : ∃ st, st = Y.start := ⟨_, rfl⟩
      obtain ⟨fi, hfi⟩ : ∃ fi, fi = Y.fin := ⟨_, rfl⟩
      rw [← hst] at hxc HT HFf
      rw [← hfi] at hxc HS1
      clear hst hfi
      have key : ∃ xn : Nat, Hid (Lst (PosIn (fun p => i ≤ p) o (Late f N)) N xn) ∧ ((s > 0 ∧ s < st ∧ xn = (if x < X then x else X)) ∨ (s > 0 ∧ ¬ s < st ∧ xn = x) ∨ (s = 0 ∧ xn = x)) := by
        by_cases h1 : s > 0
        · by_cases h2 : s < st
          · exact ⟨_, HT ⟨h1, h2⟩, Or.inl ⟨h1, h2, rfl⟩⟩
          · exact ⟨x, HFf (fun q => h2 q.2), Or.inr (Or.inl ⟨h1, h2, rfl⟩)⟩
        · exact ⟨x, HFf (fun q => h1 q.1), Or.inr (Or.inr ⟨by omega, rfl⟩)⟩
      obtain ⟨xn, HN, hkey⟩ := key
      have key2 : ∃ sn : Int, Hid (Soon f (o.drop i) sn) ∧ ((fi > 0 ∧ s = 0 ∧ sn = fi) ∨ (fi > 0 ∧ ¬ s = 0 ∧ fi < s ∧ sn = fi) ∨ (fi > 0 ∧ ¬ s = 0 ∧ ¬ fi < s ∧ sn = s) ∨ (¬ fi > 0 ∧ sn = s)) := by
        by_cases h1 : fi > 0
        · by_cases h2 : s = 0
          · rw [if_pos ⟨h1, Or.inl h2⟩] at HS1
            exact ⟨fi, HS1, Or.inl ⟨h1, h2, rfl⟩⟩
          · by_cases h3 : fi < s
            · rw [if_pos ⟨h1, Or.inr h3⟩] at HS1
              exact ⟨fi, HS1, Or.inr (Or.inl ⟨h1, h2, h3, rfl⟩)⟩
            · rw [if_neg (fun q => q.2.elim h2 h3)] at HS1
              exact ⟨s, HS1, Or.inr (Or.inr (Or.inl ⟨h1, h2, h3, rfl⟩))⟩
        · rw [if_neg (fun q => h1 q.1)] at HS1
          exact ⟨s, HS1, Or.inr (Or.inr (Or.inr ⟨h1, rfl⟩))⟩
      obtain ⟨sn, HSn, hkey2⟩ := key2
      clear HT HFf HS1 hs0
      have HK2 : Hid ((fi > 0 ∧ s = 0 ∧ sn = fi) ∨ (fi > 0 ∧ ¬ s = 0 ∧ fi < s ∧ sn = fi) ∨ (fi > 0 ∧ ¬ s = 0 ∧ ¬ fi < s ∧ sn = s) ∨ (¬ fi > 0 ∧ sn = s)) := hkey2
      clear hkey2
      rcases hkey with ⟨h1, h2, h3⟩ | ⟨h1, h2, h3⟩ | ⟨h1, h3⟩
      · rw [← h3] at HLe
        clear h3
        go_wp2_with fail
        refine (HLe.out _).mono ?_
        rintro e w2 ⟨rfl, rfl⟩
        rcases HK2.out with ⟨g1, g2, g4⟩ | ⟨g1, g2, g3, g4⟩ | ⟨g1, g2, g3, g4⟩ | ⟨g1, g4⟩
        · exact absurd g2 (by omega)
        · have g2' : (s == 0) = false := by simp [g2]
          rw [g4] at HSn
          clear HK2 g4
          go_wp2_with fail
          go_roundg (i + 1)
          case rel => exact ⟨xn, i, _, _, rfl, rfl, rfl, rfl, by omega, rfl, HSn, HN, HB1⟩
          case measure => omega
        · have g2' : (s == 0) = false := by simp [g2]
          rw [g4] at HSn
          clear HK2 g4
          go_wp2_with fail
          go_roundg (i + 1)
          case rel => exact ⟨xn, i, _, _, rfl, rfl, rfl, rfl, by omega, rfl, HSn, HN, HB1⟩
          case measure => omega
        · rw [g4] at HSn
          clear HK2 g4
          go_wp2_with fail
          go_roundg (i + 1)
          case rel => exact ⟨xn, i, _, _, rfl, rfl, rfl, rfl, by omega, rfl, HSn, HN, HB1⟩
          case measure => omega
      · subst h3
        rcases HK2.out with ⟨g1, g2, g4⟩ | ⟨g1, g2, g3, g4⟩ | ⟨g1, g2, g3, g4⟩ | ⟨g1, g4⟩
        · exact absurd g2 (by omega)
        · have g2' : (s == 0) = false := by simp [g2]
          rw [g4] at HSn
          clear HK2 g4
          go_wp2_with fail
          go_roundg (i + 1)
          case rel => exact ⟨_, i, _, _, rfl, rfl, rfl, rfl, by omega, rfl, HSn, HN, HB1⟩
          case measure => omega
        · have g2' : (s == 0) = false := by simp [g2]
          rw [g4] at HSn
          clear HK2 g4
          go_wp2_with fail
          go_roundg (i + 1)
          case rel => exact ⟨_, i, _, _, rfl, rfl, rfl, rfl, by omega, rfl, HSn, HN, HB1⟩
          case measure => omega
        · rw [g4] at HSn
          clear HK2 g4
          go_wp2_with fail
          go_roundg (i + 1)
          case rel => exact ⟨_, i, _, _, rfl, rfl, rfl, rfl, by omega, rfl, HSn, HN, HB1⟩
          case measure => omega
      · subst h1
        subst h3
        rcases HK2.out with ⟨g1, g2, g4⟩ | ⟨g1, g2, g3, g4⟩ | ⟨g1, g2, g3, g4⟩ | ⟨g1, g4⟩
        · rw [g4] at HSn
          clear HK2 g4
          go_wp2_with fail
          go_roundg (i + 1)
          case rel => exact ⟨_, i, _, _, rfl, rfl, rfl, rfl, by omega, rfl, HSn, HN, HB1⟩
          case measure => omega
        · exact absurd rfl g2
        · exact absurd rfl g2
        · rw [g4] at HSn
          clear HK2 g4
          go_wp2_with fail
          go_roundg (i + 1)
          case rel => exact ⟨_, i, _, _, rfl, rfl, rfl, rfl, by omega, rfl, HSn, HN, HB1⟩
          case measure => omega

end Go.Proofs.Ytejadojilncbjab
