import Derived.Test.YtejadojilncbjabGreatD42
namespace Go.Proofs.YtejadojilncbjabGreat
open Go.RowKit
set_option linter.unusedVariables false
attribute [local go_sem ↓] Go.wp_at_zero Go.wp_at_succ
theorem run_makeM (n : Nat) (hn : n ≤ 2097152) (w : World) : (Instr.makeSlice 24 (Value.int .i64 (n : Int)) (Value.int .i64 (n : Int))).run Tryz.prog w =
  .ok (.slice (some ⟨w.heap.size, 0, none⟩) n n) (w.alloc (.cells (List.replicate n (.int .i64 0)).toArray 3)) := by
 obtain ⟨i0, h1, h2, h3, h4⟩ := info_parts Tryz.info3
 have := run_make (P := Tryz.prog) w 24 3 i0 _ Tryz.underlying24 h1 h2 .i64 .i64 n n (by omega) (by omega) (by rw [h4]; omega) (by omega)
 rw [h3] at this
 simp only [Int.toNat_natCast, Nat.mul_one] at this
 have e : madeCells (Value.int .i64 0).cells n = (List.replicate n (Value.int .i64 0)).toArray := by
  apply Array.ext'
  rw [show (Value.int .i64 0).cells = #[.int .i64 0] from rfl, toList_madeCells_one]
 rw [e] at this
 exact this
def upN (n k : Nat) : List Value := nvs (List.range k) ++ List.replicate (n - k) (.int .i64 0)
theorem upN_zero (n : Nat) : upN n 0 = List.replicate n (.int .i64 0) := by simp [upN, nvs]
theorem upN_all (n : Nat) : upN n n = nvs (List.range n) := by simp [upN]
theorem upN_len {n k : Nat} (h : k ≤ n) : (upN n k).length = n := by simp [upN, nvs]; omega
theorem upN_set {n k : Nat} (h : k < n) : (upN n k).set k (.int .i64 (k : Int)) = upN n (k + 1) := by
 unfold upN
 rw [show n - k = (n - (k + 1)) + 1 by omega, List.replicate_succ, List.set_append_right _ _ (by simp [nvs])]
 rw [show k - (nvs (List.range k)).length = 0 by simp [nvs], List.set_cons_zero, List.range_succ, nvs_snoc, List.append_assoc]
 rfl
def InOrd (w : World) (n : Nat) (f : Nat → AttD) (e : Ending) (w' : World) : Prop := ∃ (o : List Nat) (oa : Option Addr) (oc : Nat), e = .returned (.slice oa n oc) ∧ o.length = n ∧ IsOrd f n o ∧ NatsIn w' w'.heap.size oa o ∧ Below w.heap.size w w'
theorem natsIn_blk {w : World} {b : Nat} {o : List Nat} (h : Blk w b 3 (nvs o).toArray) : NatsIn w w.heap.size (some ⟨b, 0, none⟩) o := fun i hi => by
 refine ⟨b, rfl, h.lt, ?_⟩
 rw [h.cell i]
 simp [nvs, List.getElem?_eq_getElem hi, List.getD]
set_option maxRecDepth 100000 in
set_option maxHeartbeats 8000000 in
theorem inOrder_any (L : List AttD) (hL : L.length ≤ 2097152) (a : Option Addr) (cp : Nat) (w : World) (h : HistIn w w.heap.size a L) :
  Calls Tryz.prog 84 #[.slice a L.length cp] w (InOrd w L.length (atL L)) := by
 have HH : Hid (HistIn w w.heap.size a L) := h
 have hmk := run_makeM L.length hL
 rw [← upN_zero] at hmk
 obtain ⟨N, hN⟩ : ∃ N, N = L.length := ⟨_, rfl⟩
 have HN : Hid (N = L.length) := hN
 rw [← hN] at hL hmk ⊢
 obtain ⟨f, hf⟩ : ∃ f, f = atL L := ⟨_, rfl⟩
 have HF : Hid (f = atL L) := hf
 rw [← hf]
 obtain ⟨Z, hZ⟩ : ∃ Z, Z = upN N 0 := ⟨_, rfl⟩
 rw [← hZ] at hmk
 have HZ : Hid (Z = upN N 0) := hZ
 clear h hN hf hZ
 go_enter Tryz.func84, Tryz.ntmps84
 go_wp2_with fail
 obtain ⟨w0, hw0⟩ : ∃ w0, w0 = w.alloc (.cells Z.toArray 3) := ⟨_, rfl⟩
 have HB0 : Hid (Below w.heap.size w w0) := by rw [hw0]; exact (Below.refl w.heap.size w).alloc (Nat.le_refl _) _
 have HR0 : Hid (Blk w0 w.heap.size 3 (upN N 0).toArray) := by rw [hw0, ← show Z = _ from HZ.out]; exact Blk.new w 3 _
 rw [← hw0]
 clear hw0 hmk
 go_loopg [11] (N + 1) (fun m t11 wr => ∃ k : Nat, t11 = .int .i64 (k : Int) ∧ k ≤ N ∧ m = N + 1 - k ∧ Hid (Blk wr w.heap.size 3 (upN N k).toArray) ∧ Hid (Below w.heap.size w wr))
 case atStart => exact ⟨0, rfl, by omega, by omega, HR0, HB0⟩
 case round =>
  obtain ⟨k, rfl, hk, hgk, HR, HB⟩ := hrel
  clear HR0 HB0
  by_cases hkN : k < N
  ·have k0 : (0 : Int) ≤ (k : Int) := by omega
   have k1 : (k : Int) < (N : Int) := by omega
   have hwk : IntKind.i64.wrap ((k : Int) + 1) = (k : Int) + 1 := wrapJ9 _ (by omega) (by omega)
   obtain ⟨cs, hcs⟩ : ∃ cs, cs = (upN N k).toArray := ⟨_, rfl⟩
   have hcz : cs.size = N := by rw [hcs]; simp [upN_len hk]
   have hR : Blk wr w.heap.size 3 cs := by rw [hcs]; exact HR.out
   have hc := hR.cell k
   have hfz := hR.frozen k
   rw [Array.getElem?_eq_getElem (by omega)] at hc
   have hlt := hR.lt
   have HRn : Hid (Blk (wr.setCell ⟨w.heap.size, k, none⟩ (.int .i64 (k : Int))) w.heap.size 3 (upN N (k + 1)).toArray) := by
    refine (hR.set).congr ?_
    rw [hcs, List.setIfInBounds_toArray, upN_set hkN]
   have HBn : Hid (Below w.heap.size w (wr.setCell ⟨w.heap.size, k, none⟩ (.int .i64 (k : Int)))) := (HB.out).setCell (Nat.le_refl _) _
   obtain ⟨cv, hcv⟩ : ∃ cv, cv = cs[k]'(by omega) := ⟨_, rfl⟩
   rw [← hcv] at hc
   clear hcs hR hcv HR HB
   go_wp2_with fail
   go_roundg (gk - 1)
   case rel => exact ⟨k + 1, by simp, by omega, by omega, HRn, HBn⟩
   case measure => omega
  ·obtain rfl : k = N := by omega
   have hkI : ¬ (k : Int) < (k : Int) := by omega
   have HR1 : Hid (NatsIn wr wr.heap.size (some ⟨w.heap.size, 0, none⟩) (List.range k)) := natsIn_blk (by rw [← upN_all]; exact HR.out)
   clear HR
   go_wp2_with fail
   go_loopg [3, 5] (2 * k + 1) (fun m t3 t5 wx => ∃ (o : List Nat) (oa : Option Addr) (oc W : Nat), t3 = .slice oa k oc ∧ t5 = .int .i64 (W : Int) ∧ 1 ≤ W ∧ W ≤ 2 * k + 1 ∧ m = 2 * k + 2 - W ∧ Hid (o.length = k ∧ RunsJ f W o ∧ o.Perm (List.range k)) ∧ Hid (NatsIn wx wx.heap.size oa o) ∧ Hid (Below w.heap.size w wx))
   case atStart => exact ⟨List.range k, _, _, 1, rfl, rfl, by omega, by omega, by omega, ⟨by simp, runs_one _ _, List.Perm.refl _⟩, HR1, HB⟩
   case round =>
    obtain ⟨o, oa, oc, W, rfl, rfl, hW1, hW2, hgm, HO, HI, HBx⟩ := hrel
    obtain ⟨wi, hwi⟩ : ∃ wi, wi = wr := ⟨_, rfl⟩
    subst hwi
    clear HR1 HB
    by_cases hWk : W < k
    ·have hWI : (W : Int) < (k : Int) := by omega
     have hww : IntKind.i64.wrap ((W : Int) * 2) = (W : Int) * 2 := wrapJ9 _ (by omega) (by omega)
     have HMg : Hid (Calls Tryz.prog 115 #[.slice a k cp, .slice oa k oc, .int .i64 (W : Int)] wi (MrgIs wi k fun o' => ∃ q, k ≤ q * (2 * W) ∧ o' = pass f W o q)) := by
      have hl := (HO.out).1
      have h := merge_any L o W hW1 (by omega) (by omega) (fun i hi => by
          have h1 : o.getD i 0 ∈ o := by
           rw [List.getD_eq_getElem?_getD, List.getElem?_eq_getElem hi]
           exact List.getElem_mem hi
          have h2 := (HO.out).2.2.mem_iff.1 h1
          rw [← HN.out]
          simpa using h2) (by rw [← HN.out]; exact hL) a oa cp oc wi (((HH.out).up HBx.out).mono (HBx.out).size) HI.out
      rw [hl, ← HN.out, ← show f = _ from HF.out] at h
      exact h
     go_wp2_with fail
     refine (HMg.out).mono ?_
     rintro e w2 ⟨o2, ra, rc, rfl, hl2, ⟨q, hq1, hq2⟩, hr2, hb2⟩
     have HO2 : Hid (o2.length = k ∧ RunsJ f (2 * W) o2 ∧ o2.Perm (List.range k)) := by
      have hp : o2.Perm (List.range k) := by
       rw [hq2]
       refine (pass_perm f W o q).trans ?_
       rw [List.take_of_length_le (by rw [(HO.out).1]; exact hq1)]
       exact (HO.out).2.2
      refine ⟨hl2, ?_, hp⟩
      rw [hq2]
      exact pass_runs hW1 (HO.out).2.1 ((HO.out).2.2.nodup_iff.2 List.nodup_range) q
     have HI2 : Hid (NatsIn w2 w2.heap.size ra o2) := natsIn_row hr2
     have HB2 : Hid (Below w.heap.size w w2) := (HBx.out).trans (hb2.mono (HBx.out).size)
     clear hq1 hq2 hr2 hb2 HMg HO HI hl2
     go_wp2_with fail
     go_roundg (2 * k + 2 - 2 * W)
     case rel => exact ⟨o2, ra, rc, 2 * W, rfl, by rw [show ((2 * W : Nat) : Int) = (W : Int) * 2 by omega], by omega, by omega, rfl, HO2, HI2, HB2⟩
     case measure => omega
    ·have hWI : ¬ (W : Int) < (k : Int) := by omega
     have HE : Hid (o.length = k ∧ IsOrd f k o) := by
      refine ⟨(HO.out).1, fun i => ?_, runs_all (HO.out).2.1 (by rw [(HO.out).1]; omega)⟩
      rw [(HO.out).2.2.mem_iff]
      simp
     clear HO
     go_wp2_with fail
     go_ret
     exact ⟨o, oa, oc, rfl, (HE.out).1, (HE.out).2, HI.out, HBx.out⟩
def PosIn (R : Nat → Prop) (o : List Nat) (Q : Nat → Prop) (j : Nat) : Prop := ∃ p, R p ∧ p < o.length ∧ o.getD p 0 = j ∧ Q j
theorem posT {R R2 : Nat → Prop} {o : List Nat} {Q : Nat → Prop} {n x i : Nat} (h : Lst (PosIn R o Q) n x) (hR : ∀ p, R2 p ↔ (R p ∨ p = i)) (hi : i < o.length) (hq : Q (o.getD i 0)) (hn : o.getD i 0 ≤ n) : Lst (PosIn R2 o Q) n (if x < o.getD i 0 then x else o.getD i 0) :=
 (h.or (Lst.one n _ hn)).congr fun j => by
  constructor
  ·rintro (⟨p, h1, h2⟩ | rfl)
   ·exact ⟨p, (hR p).2 (Or.inl h1), h2⟩
   ·exact ⟨i, (hR i).2 (Or.inr rfl), hi, rfl, hq⟩
  ·rintro ⟨p, h1, h2, h3, h4⟩
   rcases (hR p).1 h1 with h5 | rfl
   ·exact Or.inl ⟨p, h5, h2, h3, h4⟩
   ·exact Or.inr h3.symm
theorem posF {R R2 : Nat → Prop} {o : List Nat} {Q : Nat → Prop} {n x i : Nat} (h : Lst (PosIn R o Q) n x) (hR : ∀ p, R2 p ↔ (R p ∨ p = i)) (hq : ¬ Q (o.getD i 0)) : Lst (PosIn R2 o Q) n x :=
 h.congr fun j => by
  constructor
  ·rintro ⟨p, h1, h2⟩
   exact ⟨p, (hR p).2 (Or.inl h1), h2⟩
  ·rintro ⟨p, h1, h2, h3, h4⟩
   rcases (hR p).1 h1 with h5 | rfl
   ·exact ⟨p, h5, h2, h3, h4⟩
   ·exact absurd (h3 ▸ h4) hq
theorem posN {R : Nat → Prop} {o : List Nat} {Q : Nat → Prop} {n : Nat} (h : ∀ p, p < o.length → ¬ R p) : Lst (PosIn R o Q) n n :=
 (Lst.none n).congr fun j => ⟨fun q => q.elim, fun ⟨p, h1, h2, _⟩ => h p h2 h1⟩
theorem posE {R : Nat → Prop} {f : Nat → AttD} {o : List Nat} {Q : Nat → Prop} {n x : Nat} (h : Lst (PosIn R o Q) n x) (O : IsOrd f n o) (hR : ∀ p, p < o.length → R p) : Lst (fun j => j < n ∧ Q j) n x :=
 h.congr fun j => by
  constructor
  ·rintro ⟨p, h1, h2, rfl, h4⟩
   refine ⟨(O.mem _).1 ?_, h4⟩
   rw [List.getD_eq_getElem?_getD, List.getElem?_eq_getElem h2]
   exact List.getElem_mem h2
  ·rintro ⟨h1, h2⟩
   obtain ⟨p, hp, he⟩ := List.mem_iff_getElem.1 ((O.mem j).2 h1)
   exact ⟨p, hR p hp, hp, by rw [List.getD_eq_getElem?_getD, List.getElem?_eq_getElem hp]; exact he, h2⟩
theorem ord_at {o : List Nat} {i : Nat} (h : i < o.length) : o = o.take i ++ o.getD i 0 :: o.drop (i + 1) := by
 rw [List.getD_eq_getElem?_getD, List.getElem?_eq_getElem h]
 simp
theorem takSn {o : List Nat} {i : Nat} (h : i < o.length) : o.take (i + 1) = o.take i ++ [o.getD i 0] := by
 rw [List.getD_eq_getElem?_getD, List.getElem?_eq_getElem h, List.take_add_one, List.getElem?_eq_getElem h]
 rfl
theorem ord_lt {f : Nat → AttD} {n : Nat} {o : List Nat} (O : IsOrd f n o) {i : Nat} (h : i < o.length) : o.getD i 0 < n := by
 refine (O.mem _).1 ?_
 rw [List.getD_eq_getElem?_getD, List.getElem?_eq_getElem h]
 exact List.getElem_mem h
theorem dbl_at {f : Nat → AttD} {n : Nat} {o : List Nat} (O : IsOrd f n o) {i : Nat} (h : i + 1 < o.length) : Dbl f (o.getD (i + 1) 0) ↔ (0 < (f (o.getD (i + 1) 0)).stamp ∧ (f (o.getD (i + 1) 0)).stamp = (f (o.getD i 0)).stamp) := by
 rw [dbl_iff O (ord_at h)]
 constructor
 ·rintro ⟨A, m, h1, h2⟩
  rw [takSn (by omega)] at h1
  have h3 := List.append_inj_right' h1 rfl
  simp only [List.cons.injEq, and_true] at h3
  rw [h3]
  exact h2
 ·intro h2
  exact ⟨o.take i, _, takSn (by omega), h2⟩
theorem dbl_zero {f : Nat → AttD} {n : Nat} {o : List Nat} (O : IsOrd f n o) (h : 0 < o.length) : ¬ Dbl f (o.getD 0 0) := by
 rw [dbl_iff O (ord_at h)]
 rintro ⟨A, m, h1, _⟩
 simp at h1
theorem late_at {f : Nat → AttD} {n : Nat} {o : List Nat} (O : IsOrd f n o) {i : Nat} (h : i < o.length) {s : Int} (hs : Soon f (o.drop (i + 1)) s) : Late f n (o.getD i 0) ↔ (0 < s ∧ s < (f (o.getD i 0)).start) := by
 rw [late_iff O (ord_at h), hs.hit]
theorem drop_at {o : List Nat} {i : Nat} (h : i < o.length) : o.drop i = o.getD i 0 :: o.drop (i + 1) := by
 rw [List.getD_eq_getElem?_getD, List.getElem?_eq_getElem h, List.drop_eq_getElem_cons h]
 rfl
def LstIs (w : World) (P : Nat → Prop) (n : Nat) (e : Ending) (w' : World) : Prop := ∃ x : Nat, e = .returned (.int .i64 (x : Int)) ∧ Lst P n x ∧ Below w.heap.size w w'
set_option maxRecDepth 100000 in
set_option maxHeartbeats 4000000 in
theorem double_any (L : List AttD) (N : Nat) (hN : L.length = N) (hL : N ≤ 2097152) (o : List Nat) (O : IsOrd (atL L) N o) (ho : o.length = N) (a oa : Option Addr) (cp oc : Nat) (w : World) (h : HistIn w w.heap.size a L) (hoi : NatsIn w w.heap.size oa o) :
  Calls Tryz.prog 85 #[.slice a N cp, .slice oa N oc] w (LstIs w (fun j => j < N ∧ Dbl (atL L) j) N) := by
 obtain ⟨f, hf⟩ : ∃ f, f = atL L := ⟨_, rfl⟩
 rw [← hf] at O ⊢
 have HH : Hid (∀ k, k < N → ∃ b off, a = some ⟨b, off, none⟩ ∧ w.cell? ⟨b, off + k * 8 + 5, none⟩ = some (.int .i64 (f k).stamp)) := fun k hk => by
  obtain ⟨b, off, na, nc, ha, hl, c0, c1, c2, c3, c4, c5, _⟩ := h k (by omega)
  exact ⟨b, off, ha, by rw [hf]; exact c5⟩
 have HO : Hid (IsOrd f N o) := O
 have HOl : Hid (o.length = N) := ho
 have HI : Hid (NatsIn w w.heap.size oa o) := hoi
 clear h hoi O ho hf hN
 go_enter Tryz.func85, Tryz.ntmps85
 go_wp2_with fail
 go_loopg [5, 6] (N + 1) (fun m t5 t6 wr => ∃ x i : Nat, t5 = .int .i64 (x : Int) ∧ t6 = .int .i64 (i : Int) ∧ 1 ≤ i ∧ i ≤ N + 1 ∧ m = N + 2 - i ∧ Hid (Lst (PosIn (fun p => p < i) o (Dbl f)) N x) ∧ Hid (wr = w))
 case atStart =>
  refine ⟨N, 1, rfl, rfl, by omega, by omega, by omega, ?_, rfl⟩
  show Lst _ _ _
  by_cases hz : 0 < o.length
  ·exact posF (R := fun p => False) (i := 0) (posN fun p _ q => q) (fun p => ⟨fun q => Or.inr (by omega), fun q => q.elim False.elim fun q => by omega⟩) (dbl_zero HO.out hz)
  ·exact posN fun p hp => by omega
 case round =>
  obtain ⟨x, i, rfl, rfl, hi1, hi2, hgi, HL, HW⟩ := hrel
  obtain rfl : wr = w := HW.out
  by_cases hiN : i < N
  ·obtain ⟨m, hm⟩ : ∃ m, i = m + 1 := ⟨i - 1, by omega⟩
   have hol := HOl.out
   obtain ⟨ob, hoa, hobl, hc⟩ := HI.out i (by omega)
   obtain ⟨ob', hoa', _, hc'⟩ := HI.out m (by omega)
   rw [hoa] at hoa'
   cases hoa'
   have hxl := ord_lt HO.out (i := i) (by omega)
   have hyl := ord_lt HO.out (i := m) (by omega)
   have hdb := dbl_at HO.out (i := m) (by omega)
   rw [← hm] at hdb
   have HT := fun hq => posT (R2 := fun p => p < i + 1) (i := i) HL.out (fun p => by omega) (by omega) hq (Nat.le_of_lt hxl)
   have HFf := fun hq => posF (R2 := fun p => p < i + 1) (i := i) HL.out (fun p => by omega) hq
   rw [hdb] at HT HFf
   obtain ⟨X, hX⟩ : ∃ X, X = o.getD i 0 := ⟨_, rfl⟩
   obtain ⟨Y, hY⟩ : ∃ Y, Y = o.getD m 0 := ⟨_, rfl⟩
   rw [← hX] at hc hxl HT HFf
   rw [← hY] at hc' hyl HT HFf
   obtain ⟨hb, hoff, ha, hs⟩ := HH.out X hxl
   obtain ⟨hb', hoff', ha', hs'⟩ := HH.out Y hyl
   rw [ha] at ha'
   cases ha'
   obtain ⟨S, hS⟩ : ∃ S, S = (f X).stamp := ⟨_, rfl⟩
   obtain ⟨T, hTt⟩ : ∃ T, T = (f Y).stamp := ⟨_, rfl⟩
   rw [← hS] at hs HT HFf
   rw [← hTt] at hs' HT HFf
   have i0 : (0 : Int) ≤ (i : Int) := by omega
   have i1 : (i : Int) < (N : Int) := by omega
   have m0 : (0 : Int) ≤ (m : Int) := by omega
   have m1 : (m : Int) < (N : Int) := by omega
   have x0 : (0 : Int) ≤ (X : Int) := by omega
   have x1 : (X : Int) < (N : Int) := by omega
   have y0 : (0 : Int) ≤ (Y : Int) := by omega
   have y1 : (Y : Int) < (N : Int) := by omega
   have hwi : IntKind.i64.wrap ((i : Int) + 1) = (i : Int) + 1 := wrapJ9 _ (by omega) (by omega)
   have hws : IntKind.i64.wrap ((i : Int) - 1) = (m : Int) := by rw [show (i : Int) - 1 = (m : Int) by omega]; exact wrapJ9 _ (by omega) (by omega)
   subst hoa ha
   have HLe : Hid (∀ wx, Calls Tryz.prog 86 #[.int .i64 (x : Int), .int .i64 (X : Int)] wx fun e w' => e = .returned (.int .i64 ((if x < X then x else X : Nat) : Int)) ∧ w' = wx) := least_any x X
   by_cases h1 : S > 0
   ·by_cases h2 : S = T
    ·have HN : Hid (Lst (PosIn (fun p => p < i + 1) o (Dbl f)) N (if x < X then x else X)) := HT ⟨h1, h2⟩
     subst h2
     obtain ⟨xn, hxn⟩ : ∃ xn, xn = (if x < X then x else X) := ⟨_, rfl⟩
     rw [← hxn] at HN HLe
     clear HT HFf hX hY hdb hS hTt hol hm hxn
     go_wp2_with fail
     refine (HLe.out _).mono ?_
     rintro e w1 ⟨rfl, rfl⟩
     go_wp2_with fail
     go_roundg (N + 2 - (i + 1))
     case rel => exact ⟨xn, i + 1, rfl, by simp, by omega, by omega, rfl, HN, rfl⟩
     case measure => omega
    ·have HN : Hid (Lst (PosIn (fun p => p < i + 1) o (Dbl f)) N x) := HFf fun q => h2 q.2
     have h2' : (S == T) = false := by simp [h2]
     clear HT HFf hX hY hdb hS hTt hol hm HLe
     go_wp2_with fail
     go_roundg (N + 2 - (i + 1))
     case rel => exact ⟨x, i + 1, rfl, by simp, by omega, by omega, rfl, HN, rfl⟩
     case measure => omega
   ·have HN : Hid (Lst (PosIn (fun p => p < i + 1) o (Dbl f)) N x) := HFf fun q => h1 q.1
    clear HT HFf hX hY hdb hS hTt hol hm HLe
    go_wp2_with fail
    go_roundg (N + 2 - (i + 1))
    case rel => exact ⟨x, i + 1, rfl, by simp, by omega, by omega, rfl, HN, rfl⟩
    case measure => omega
  ·have hiI : ¬ (i : Int) < (N : Int) := by omega
   have HE : Hid (Lst (fun j => j < N ∧ Dbl f j) N x) := posE HL.out HO.out fun p hp => by have := HOl.out; omega
   clear HL
   go_wp2_with fail
   go_ret
   exact ⟨x, rfl, HE.out, Below.refl _ _⟩
set_option maxRecDepth 100000 in
set_option maxHeartbeats 4000000 in
theorem late_any (L : List AttD) (N : Nat) (hN : L.length = N) (hL : N ≤ 2097152) (o : List Nat) (O : IsOrd (atL L) N o) (ho : o.length = N) (a oa : Option Addr) (cp oc : Nat) (w : World) (h : HistIn w w.heap.size a L) (hoi : NatsIn w w.heap.size oa o) :
  Calls Tryz.prog 87 #[.slice a N cp, .slice oa N oc] w (LstIs w (fun j => j < N ∧ Late (atL L) N j) N) := by
 obtain ⟨f, hf⟩ : ∃ f, f = atL L := ⟨_, rfl⟩
 rw [← hf] at O ⊢
 have HH : Hid (∀ k, k < N → ∃ b off na nn nc, a = some ⟨b, off, none⟩ ∧ b < w.heap.size ∧ AttS b (off + k * 8) (f k) na nn nc w) := fun k hk => by
  obtain ⟨b, off, na, nc, ha, hl, hx, _⟩ := h.att (k := k) (by omega)
  exact ⟨b, off, na, _, nc, ha, hl, by rw [hf]; exact hx⟩
 have HO : Hid (IsOrd f N o) := O
 have HOl : Hid (o.length = N) := ho
 have HI : Hid (NatsIn w w.heap.size oa o) := hoi
 have hwN : IntKind.i64.wrap ((N : Int) - 1) = (N : Int) - 1 := wrapJ9 _ (by omega) (by omega)
 clear h hoi O ho hf hN
 go_enter Tryz.func87, Tryz.ntmps87
 go_wp2_with fail
 clear hwN
 go_loopg [5, 6, 7] (N + 1) (fun m t5 t6 t7 wr => ∃ (x k : Nat) (s z : Int), t5 = .int .i64 (x : Int) ∧ t6 = .int .i64 s ∧ t7 = .int .i64 z ∧ z = (k : Int) - 1 ∧ k ≤ N ∧ m = k + 1 ∧ Hid (Soon f (o.drop k) s) ∧ Hid (Lst (PosIn (fun p => k ≤ p) o (Late f N)) N x) ∧ Hid (Below w.heap.size w wr))
 case atStart => exact ⟨N, N, 0, _, rfl, rfl, rfl, rfl, by omega, rfl, by rw [List.drop_eq_nil_of_le (by rw [HOl.out]; exact Nat.le_refl _)]; exact Soon.nil f, posN fun p hp q => by have := HOl.out; omega, Below.refl _ _⟩
 case round =>
  obtain ⟨x, k, s, z, rfl, rfl, rfl, hz, hk, hgk, HSo, HLs, HB⟩ := hrel
  obtain ⟨wi, hwi⟩ : ∃ wi, wi = wr := ⟨_, rfl⟩
  subst hwi
  have hszi := (HB.out).size
  by_cases hk0 : k = 0
  ·subst hk0
   have hzz : ¬ z ≥ 0 := by omega
   have hzd : decide (z ≥ 0) = false := by simpa using hzz
   have HE : Hid (Lst (fun j => j < N ∧ Late f N j) N x) := posE HLs.out HO.out fun p hp => by omega
   clear HLs HSo hz
   go_wp2_with fail
   go_ret
   exact ⟨x, rfl, HE.out, HB.out⟩
  ·obtain ⟨i, hi⟩ : ∃ i, k = i + 1 := ⟨k - 1, by omega⟩
   have hzi : z = (i : Int) := by omega
   subst hi
   clear hz hk0
   subst hzi
   have hol := HOl.out
   obtain ⟨ob, hoa, hobl, hc⟩ := HI.out i (by omega)
   have hxl := ord_lt HO.out (i := i) (by omega)
   have hla := late_at HO.out (i := i) (by omega) HSo.out
   have hds := drop_at (o := o) (i := i) (by omega)
   have HT := fun hq => posT (R2 := fun p => i ≤ p) (i := i) HLs.out (fun p => by omega) (by omega) hq (Nat.le_of_lt hxl)
   have HFf := fun hq => posF (R2 := fun p => i ≤ p) (i := i) HLs.out (fun p => by omega) hq
   rw [hla] at HT HFf
   have HS1 := (HSo.out).cons (o.getD i 0)
   rw [← hds] at HS1
   obtain ⟨X, hX⟩ : ∃ X, X = o.getD i 0 := ⟨_, rfl⟩
   rw [← hX] at hc hxl HT HFf HS1
   obtain ⟨hb, hoff, na, nn, nc, ha, hbl, hat⟩ := HH.out X hxl
   have hat2 := AttS.up hat HB.out hbl
   obtain ⟨c0, c1, c2, c3, c4, c5, c6, c7⟩ := hat2
   have hc2 : wi.cell? ⟨ob, i, none⟩ = some (.int .i64 (X : Int)) := (World.cell?_of_block ((HB.out).block ob hobl)).trans hc
   obtain ⟨Y, hY⟩ : ∃ Y, Y = f X := ⟨_, rfl⟩
   rw [← hY] at c0 c1 c2 c3 c4 c5 c6 HT HFf HS1
   obtain ⟨w1, hw1⟩ : ∃ w1, w1 = wi.alloc (.cells #[.int .i64 Y.thread, .int .i64 Y.job, .int .i64 Y.start, .int .i64 Y.fin, .int .i64 Y.valid, .int .i64 Y.stamp, .int .i64 Y.fate, .slice na nn nc] 82) := ⟨_, rfl⟩
   have HX1 : Hid (Blk w1 wi.heap.size 82 #[.int .i64 Y.thread, .int .i64 Y.job, .int .i64 Y.start, .int .i64 Y.fin, .int .i64 Y.valid, .int .i64 Y.stamp, .int .i64 Y.fate, .slice na nn nc]) := by rw [hw1]; exact Blk.new wi _ _
   have HB1 : Hid (Below w.heap.size w w1) := by rw [hw1]; exact (HB.out).alloc (HB.out).size _
   have i0 : (0 : Int) ≤ (i : Int) := by omega
   have i0' : (i : Int) ≥ 0 := by omega
   have i1 : (i : Int) < (N : Int) := by omega
   have x0 : (0 : Int) ≤ (X : Int) := by omega
   have x1 : (X : Int) < (N : Int) := by omega
   have hwi1 : IntKind.i64.wrap ((i : Int) - 1) = (i : Int) - 1 := wrapJ9 _ (by omega) (by omega)
   have hc3 : w1.cell? ⟨ob, i, none⟩ = some (.int .i64 (X : Int)) := (World.cell?_of_block ((HB1.out).block ob hobl)).trans hc
   have HLe : Hid (∀ wx, Calls Tryz.prog 86 #[.int .i64 (x : Int), .int .i64 (X : Int)] wx fun e w' => e = .returned (.int .i64 ((if x < X then x else X : Nat) : Int)) ∧ w' = wx) := least_any x X
   subst hoa ha
   have hs0 : s = 0 ∨ 0 < s := (HSo.out).elim (fun q => Or.inl q.1) (fun q => Or.inr q.1)
   clear hX hY hla hds HLs HSo hc hol
   go_upto_region 7 with fail
   rw [← hw1]
   obtain ⟨xb, hxb⟩ : ∃ xb, xb = wi.heap.size := ⟨_, rfl⟩
   rw [← hxb] at HX1 ⊢
   clear hw1 hxb c0 c1 c2 c3 c4 c5 c6 c7 hc2 HB hszi
   have hxc := (HX1.out).cell
   obtain ⟨st, hst⟩ : ∃ st, st = Y.start := ⟨_, rfl⟩
   obtain ⟨fi, hfi⟩ : ∃ fi, fi = Y.fin := ⟨_, rfl⟩
   rw [← hst] at hxc HT HFf
   rw [← hfi] at hxc HS1
   clear hst hfi
   have key : ∃ xn : Nat, Hid (Lst (PosIn (fun p => i ≤ p) o (Late f N)) N xn) ∧ ((s > 0 ∧ s < st ∧ xn = (if x < X then x else X)) ∨ (s > 0 ∧ ¬ s < st ∧ xn = x) ∨ (s = 0 ∧ xn = x)) := by
    by_cases h1 : s > 0
    ·by_cases h2 : s < st
     ·exact ⟨_, HT ⟨h1, h2⟩, Or.inl ⟨h1, h2, rfl⟩⟩
     ·exact ⟨x, HFf (fun q => h2 q.2), Or.inr (Or.inl ⟨h1, h2, rfl⟩)⟩
    ·exact ⟨x, HFf (fun q => h1 q.1), Or.inr (Or.inr ⟨by omega, rfl⟩)⟩
   obtain ⟨xn, HN, hkey⟩ := key
   have key2 : ∃ sn : Int, Hid (Soon f (o.drop i) sn) ∧ ((fi > 0 ∧ s = 0 ∧ sn = fi) ∨ (fi > 0 ∧ ¬ s = 0 ∧ fi < s ∧ sn = fi) ∨ (fi > 0 ∧ ¬ s = 0 ∧ ¬ fi < s ∧ sn = s) ∨ (¬ fi > 0 ∧ sn = s)) := by
    by_cases h1 : fi > 0
    ·by_cases h2 : s = 0
     ·rw [if_pos ⟨h1, Or.inl h2⟩] at HS1
      exact ⟨fi, HS1, Or.inl ⟨h1, h2, rfl⟩⟩
     ·by_cases h3 : fi < s
      ·rw [if_pos ⟨h1, Or.inr h3⟩] at HS1
       exact ⟨fi, HS1, Or.inr (Or.inl ⟨h1, h2, h3, rfl⟩)⟩
      ·rw [if_neg (fun q => q.2.elim h2 h3)] at HS1
       exact ⟨s, HS1, Or.inr (Or.inr (Or.inl ⟨h1, h2, h3, rfl⟩))⟩
    ·rw [if_neg (fun q => h1 q.1)] at HS1
     exact ⟨s, HS1, Or.inr (Or.inr (Or.inr ⟨h1, rfl⟩))⟩
   obtain ⟨sn, HSn, hkey2⟩ := key2
   clear HT HFf HS1 hs0
   have HK2 : Hid ((fi > 0 ∧ s = 0 ∧ sn = fi) ∨ (fi > 0 ∧ ¬ s = 0 ∧ fi < s ∧ sn = fi) ∨ (fi > 0 ∧ ¬ s = 0 ∧ ¬ fi < s ∧ sn = s) ∨ (¬ fi > 0 ∧ sn = s)) := hkey2
   clear hkey2
   rcases hkey with ⟨h1, h2, h3⟩ | ⟨h1, h2, h3⟩ | ⟨h1, h3⟩
   ·rw [← h3] at HLe
    clear h3
    go_wp2_with fail
    refine (HLe.out _).mono ?_
    rintro e w2 ⟨rfl, rfl⟩
    rcases HK2.out with ⟨g1, g2, g4⟩ | ⟨g1, g2, g3, g4⟩ | ⟨g1, g2, g3, g4⟩ | ⟨g1, g4⟩
    ·exact absurd g2 (by omega)
    ·have g2' : (s == 0) = false := by simp [g2]
     rw [g4] at HSn
     clear HK2 g4
     go_wp2_with fail
     go_roundg (i + 1)
     case rel => exact ⟨xn, i, _, _, rfl, rfl, rfl, rfl, by omega, rfl, HSn, HN, HB1⟩
     case measure => omega
    ·have g2' : (s == 0) = false := by simp [g2]
     rw [g4] at HSn
     clear HK2 g4
     go_wp2_with fail
     go_roundg (i + 1)
     case rel => exact ⟨xn, i, _, _, rfl, rfl, rfl, rfl, by omega, rfl, HSn, HN, HB1⟩
     case measure => omega
    ·rw [g4] at HSn
     clear HK2 g4
     go_wp2_with fail
     go_roundg (i + 1)
     case rel => exact ⟨xn, i, _, _, rfl, rfl, rfl, rfl, by omega, rfl, HSn, HN, HB1⟩
     case measure => omega
   ·subst h3
    rcases HK2.out with ⟨g1, g2, g4⟩ | ⟨g1, g2, g3, g4⟩ | ⟨g1, g2, g3, g4⟩ | ⟨g1, g4⟩
    ·exact absurd g2 (by omega)
    ·have g2' : (s == 0) = false := by simp [g2]
     rw [g4] at HSn
     clear HK2 g4
     go_wp2_with fail
     go_roundg (i + 1)
     case rel => exact ⟨_, i, _, _, rfl, rfl, rfl, rfl, by omega, rfl, HSn, HN, HB1⟩
     case measure => omega
    ·have g2' : (s == 0) = false := by simp [g2]
     rw [g4] at HSn
     clear HK2 g4
     go_wp2_with fail
     go_roundg (i + 1)
     case rel => exact ⟨_, i, _, _, rfl, rfl, rfl, rfl, by omega, rfl, HSn, HN, HB1⟩
     case measure => omega
    ·rw [g4] at HSn
     clear HK2 g4
     go_wp2_with fail
     go_roundg (i + 1)
     case rel => exact ⟨_, i, _, _, rfl, rfl, rfl, rfl, by omega, rfl, HSn, HN, HB1⟩
     case measure => omega
   ·subst h1
    subst h3
    rcases HK2.out with ⟨g1, g2, g4⟩ | ⟨g1, g2, g3, g4⟩ | ⟨g1, g2, g3, g4⟩ | ⟨g1, g4⟩
    ·rw [g4] at HSn
     clear HK2 g4
     go_wp2_with fail
     go_roundg (i + 1)
     case rel => exact ⟨_, i, _, _, rfl, rfl, rfl, rfl, by omega, rfl, HSn, HN, HB1⟩
     case measure => omega
    ·exact absurd rfl g2
    ·exact absurd rfl g2
    ·rw [g4] at HSn
     clear HK2 g4
     go_wp2_with fail
     go_roundg (i + 1)
     case rel => exact ⟨_, i, _, _, rfl, rfl, rfl, rfl, by omega, rfl, HSn, HN, HB1⟩
     case measure => omega
def ivs (v : List Int) : List Value := v.map (Value.int .i64 ·)
def chs (U : List (Nat × Int)) : List Value := U.flatMap fun c => [.int .i64 (c.1 : Int), .int .i64 c.2]
def tb (U : List (Nat × Int)) (v : List Int) : List Int := U.foldr (fun c v => v.set c.1 c.2) v
theorem tb_snoc (U : List (Nat × Int)) (c : Nat × Int) (v : List Int) : tb (U ++ [c]) v = tb U (v.set c.1 c.2) := by simp [tb]
theorem chs_snoc (U : List (Nat × Int)) (c : Nat × Int) : chs (U ++ [c]) = chs U ++ [.int .i64 (c.1 : Int), .int .i64 c.2] := by simp [chs]
theorem chs_get : ∀ (U : List (Nat × Int)) (i : Nat), i < U.length → (chs U)[i * 2]? = some (.int .i64 ((U.getD i (0, 0)).1 : Int)) ∧ (chs U)[i * 2 + 1]? = some (.int .i64 (U.getD i (0, 0)).2)
 | [], i, h => by simp at h
 | c :: U, 0, h => ⟨rfl, rfl⟩
 | c :: U, i + 1, h => by
  have := chs_get U i (by simpa using h)
  rw [show (i + 1) * 2 = i * 2 + 2 by omega]
  exact this
theorem own_cell {w : World} {base e s n c j : Nat} {a : Option Addr} {xs : List Value} {u : Value} (h : w.ownsRow base e s (.slice a n c) n xs) (hj : xs[j]? = some u) : ∃ g, a = some ⟨g, 0, none⟩ ∧ base ≤ g ∧ g < w.heap.size ∧ w.cell? ⟨g, j, none⟩ = some u := by
 rcases h.2 with ⟨h1, h2⟩ | ⟨g, cap, cur, h1, h2, h3, h4, h5, h6, h7⟩
 ·have h8 := h.1
  rw [h2, Nat.zero_mul] at h8
  rw [List.length_eq_zero_iff.1 h8] at hj
  cases hj
 ·cases h1
  refine ⟨g, rfl, h2, (Array.getElem?_eq_some_iff.1 h3).1, ?_⟩
  have hb : Blk w g e cur := h3
  rw [hb.cell j]
  rw [← h7, List.getElem?_take] at hj
  split at hj
  ·rw [← hj]; simp
  ·cases hj
structure WdR (w : World) (B p vb : Nat) (v : List Int) (ua : Option Addr) (uc : Nat) (U : List (Nat × Int)) : Prop where
 pb : Blk w p 177 #[.slice (some ⟨vb, 0, none⟩) v.length v.length, .slice ua U.length uc]
 vals : Blk w vb 3 (ivs v).toArray
 undo : w.ownsRow B 204 2 (.slice ua U.length uc) U.length (chs U)
 lp : B ≤ p
 lv : B ≤ vb
theorem WdR.ne {w : World} {B p vb : Nat} {v : List Int} {ua : Option Addr} {uc : Nat} {U : List (Nat × Int)} (h : WdR w B p vb v ua uc U) : p ≠ vb := h.pb.ne h.vals (by decide)
theorem WdR.undoNe {w : World} {B p vb : Nat} {v : List Int} {ua : Option Addr} {uc : Nat} {U : List (Nat × Int)} (h : WdR w B p vb v ua uc U) {g : Nat} (hg : ua = some ⟨g, 0, none⟩) : g ≠ p ∧ g ≠ vb := by
 rcases h.undo.2 with ⟨h1, _⟩ | ⟨g2, cap, cur, h1, h2, h3, _⟩
 ·rw [hg] at h1; cases h1
 ·rw [hg] at h1
  cases h1
  have hb : Blk w g 204 cur := h3
  exact ⟨hb.ne h.pb (by decide), hb.ne h.vals (by decide)⟩
theorem own_only {w w' : World} {base e s n p : Nat} {v : Value} {xs : List Value} (h : w.ownsRow base e s v n xs) (ho : Only p w w') (hne : v.ownBlock ≠ some p) : w'.ownsRow base e s v n xs := by
 refine ⟨h.1, ?_⟩
 rcases h.2 with q | ⟨g, cap, cur, h1, h2, h3, h4⟩
 ·exact Or.inl q
 ·refine Or.inr ⟨g, cap, cur, h1, h2, ?_, h4⟩
  have hb : Blk w g e cur := h3
  exact hb.only ho fun q => hne (by rw [h1, ← q]; rfl)
theorem WdR.put {w : World} {B p vb : Nat} {v : List Int} {ua : Option Addr} {uc : Nat} {U : List (Nat × Int)} (h : WdR w B p vb v ua uc U) (a : Nat) (x : Int) : WdR (w.setCell ⟨vb, a, none⟩ (.int .i64 x)) B p vb (v.set a x) ua uc U := by
 have ho : Only vb w (w.setCell ⟨vb, a, none⟩ (.int .i64 x)) := (Only.refl _ _).set
 refine ⟨?_, ?_, own_only h.undo ho ?_, h.lp, h.lv⟩
 ·rw [List.length_set]
  exact h.pb.only ho h.ne
 ·refine (h.vals.set).congr ?_
  rw [List.setIfInBounds_toArray]
  unfold ivs
  rw [List.map_set]
 ·intro q
  have hu := h.undo
  generalize hs : Value.slice ua U.length uc = sv at q
  cases ua with
  | none => rw [← hs] at q; cases q
  | some g =>
   rcases hu.2 with ⟨h1, _⟩ | ⟨g2, cap, cur, h1, h2, h3, _⟩
   ·cases h1
   ·cases h1
    rw [← hs] at q
    cases q
    exact (h.undoNe rfl).2 rfl
theorem WdR.drew {w : World} {B p vb : Nat} {v : List Int} {ua : Option Addr} {uc : Nat} {U : List (Nat × Int)} (h : WdR w B p vb v ua uc U) : WdR w.drew B p vb v ua uc U := ⟨h.pb, h.vals, h.undo, h.lp, h.lv⟩
theorem WdR.getV {w : World} {B p vb : Nat} {v : List Int} {ua : Option Addr} {uc : Nat} {U : List (Nat × Int)} (h : WdR w B p vb v ua uc U) {a : Nat} (ha : a < v.length) : w.cell? ⟨vb, a, none⟩ = some (.int .i64 (v.getD a 0)) := by
 rw [h.vals.cell a]
 simp [ivs, List.getElem?_eq_getElem ha, List.getD]
def KpA (w w' : World) : Prop := ∀ k cs, Blk w k 82 cs → Blk w' k 82 cs
theorem KpA.refl (w : World) : KpA w w := fun _ _ h => h
theorem KpA.trans {a b c : World} (h : KpA a b) (k : KpA b c) : KpA a c := fun x cs q => k x cs (h x cs q)
theorem KpA.only {p : Nat} {t : TypeId} {w w' : World} {cs : Array Value} (hb : Blk w p t cs) (ht : 82 ≠ t) (ho : Only p w w') : KpA w w' := fun k ds h => h.only ho (h.ne hb ht)
theorem KpA.below {w w' : World} (h : Below w.heap.size w w') : KpA w w' := fun k ds q => q.below h q.lt
def WdIs (w : World) (B p vb : Nat) (v : List Int) (U : List (Nat × Int)) (e : Ending) (w' : World) : Prop := e = .returned (.tuple #[]) ∧ ∃ ua uc, WdR w' B p vb v ua uc U ∧ Below B w w' ∧ KpA w w'
abbrev BackS (p vb ub i : Nat) (n : Nat) (ua : Option Addr) (k uc : Nat) (A : Int) (x : Int) (w : World) : Prop :=
 w.cell? ⟨p, 0, none⟩ = some (.slice (some ⟨vb, 0, none⟩) n n) ∧ w.cell? ⟨p, 1, none⟩ = some (.slice (some ⟨ub, 0, none⟩) k uc) ∧ w.cell? ⟨ub, i * 2, none⟩ = some (.int .i64 A) ∧ w.cell? ⟨ub, i * 2 + 1, none⟩ = some (.int .i64 x)
set_option maxRecDepth 100000 in
set_option maxHeartbeats 4000000 in
theorem back_any (B p vb : Nat) (v : List Int) (ua : Option Addr) (uc : Nat) (U : List (Nat × Int)) (hU : ∀ c ∈ U, c.1 < v.length) (hv : v.length ≤ 2097152) (hUl : U.length ≤ 2147483648) (w : World) (h : WdR w B p vb v ua uc U) :
  Calls Tryz.prog 128 #[.pointer (some ⟨p, 0, none⟩)] w (WdIs w B p vb (tb U v) U) := by
 have HH : Hid (WdR w B p vb v ua uc U) := h
 have HU : Hid (∀ c ∈ U, c.1 < v.length) := hU
 have hpc := h.pb.cell
 have hwN : IntKind.i64.wrap ((U.length : Int) - 1) = (U.length : Int) - 1 := wrapJ9 _ (by omega) (by omega)
 clear h hU
 go_enter Tryz.func128, Tryz.ntmps128
 go_wp2_with fail
 clear hwN hpc
 go_loopg [2] (U.length + 1) (fun m t2 wr => ∃ (k : Nat) (z : Int) (y : List Int), t2 = .int .i64 z ∧ z = (k : Int) - 1 ∧ k ≤ U.length ∧ m = k + 1 ∧ y.length = v.length ∧ Hid (tb (U.take k) y = tb U v) ∧ Hid (WdR wr B p vb y ua uc U) ∧ Hid (Below B w wr) ∧ Hid (KpA w wr))
 case atStart => exact ⟨U.length, _, v, rfl, rfl, by omega, rfl, rfl, by rw [List.take_length]; rfl, HH, Below.refl _ _, KpA.refl _⟩
 case round =>
  obtain ⟨k, z, y, rfl, hz, hk, hgk, hyl, HT, HR, HB, HKA⟩ := hrel
  obtain ⟨wi, hwi⟩ : ∃ wi, wi = wr := ⟨_, rfl⟩
  subst hwi
  by_cases hk0 : k = 0
  ·subst hk0
   have hzz : ¬ z ≥ 0 := by omega
   have hzd : decide (z ≥ 0) = false := by simpa using hzz
   have HE : Hid (y = tb U v) := HT.out
   clear HT hz
   go_wp2_with fail
   go_end0
   exact ⟨rfl, ua, uc, by rw [← HE.out]; exact HR.out, HB.out, HKA.out⟩
  ·obtain ⟨i, hi⟩ : ∃ i, k = i + 1 := ⟨k - 1, by omega⟩
   have hzi : z = (i : Int) := by omega
   subst hi
   clear hz hk0
   subst hzi
   obtain ⟨g1, g2⟩ := chs_get U i (by omega)
   obtain ⟨ub, hub, _, hul, u1⟩ := own_cell (HR.out).undo g1
   obtain ⟨ub', hub', _, _, u2⟩ := own_cell (HR.out).undo g2
   rw [hub] at hub'
   cases hub'
   have hcl : (U.getD i (0, 0)).1 < y.length := by
    rw [hyl]
    refine HU.out _ ?_
    rw [List.getD_eq_getElem?_getD, List.getElem?_eq_getElem (show i < U.length by omega)]
    exact List.getElem_mem _
   have htk : U.take (i + 1) = U.take i ++ [U.getD i (0, 0)] := by
    rw [List.getD_eq_getElem?_getD, List.getElem?_eq_getElem (show i < U.length by omega), List.take_add_one, List.getElem?_eq_getElem (show i < U.length by omega)]
    rfl
   have hT := HT.out
   rw [htk, tb_snoc] at hT
   obtain ⟨⟨A, X⟩, hAX⟩ : ∃ c : Nat × Int, c = U.getD i (0, 0) := ⟨_, rfl⟩
   rw [← hAX] at u1 u2 hcl hT
   simp only at u1 u2 hcl hT
   have HTn : Hid (tb (U.take i) (y.set A X) = tb U v) := hT
   have HRn : Hid (WdR (wi.drew.setCell ⟨vb, A, none⟩ (.int .i64 X)) B p vb (y.set A X) ua uc U) := (HR.out).drew.put A X
   have HBn : Hid (Below B w (wi.drew.setCell ⟨vb, A, none⟩ (.int .i64 X))) := ((HB.out).drew).setCell (HR.out).lv _
   have HKn : Hid (KpA w (wi.drew.setCell ⟨vb, A, none⟩ (.int .i64 X))) := (HKA.out).trans ((KpA.below (jbDrew wi)).trans (KpA.only (HR.out).drew.vals (by decide) ((Only.refl _ _).set)))
   have hpc := (HR.out).pb.cell
   have hvc := (HR.out).getV hcl
   have hvf := (HR.out).vals.frozen A
   have A0 : (0 : Int) ≤ (A : Int) := by omega
   have A1 : (A : Int) < (v.length : Int) := by omega
   have i0 : (0 : Int) ≤ (i : Int) := by omega
   have i0' : (i : Int) ≥ 0 := by omega
   have i1 : (i : Int) < (U.length : Int) := by omega
   have hwi1 : IntKind.i64.wrap ((i : Int) - 1) = (i : Int) - 1 := wrapJ9 _ (by omega) (by omega)
   have hyl2 : (y.set A X).length = v.length := by rw [List.length_set]; exact hyl
   rw [hyl] at hpc
   subst hub
   clear hT htk hAX HT g1 g2
   have HS0 : Hid (BackS p vb ub i v.length (some ⟨ub, 0, none⟩) U.length uc (A : Int) X wi.drew) := ⟨hpc 0, hpc 1, u1, u2⟩
   have HS1 : Hid (BackS p vb ub i v.length (some ⟨ub, 0, none⟩) U.length uc (A : Int) X (wi.drew.setCell ⟨vb, A, none⟩ (.int .i64 X))) := by
    have h1 := (HRn.out).pb.cell
    rw [hyl2] at h1
    have hne := ((HR.out).undoNe rfl).2
    have ho : Only vb wi.drew (wi.drew.setCell ⟨vb, A, none⟩ (.int .i64 X)) := (Only.refl _ _).set
    have up : ∀ o, (wi.drew.setCell ⟨vb, A, none⟩ (.int .i64 X)).cell? ⟨ub, o, none⟩ = wi.cell? ⟨ub, o, none⟩ := fun o => World.cell?_of_block (ho.block ub hul hne)
    exact ⟨h1 0, h1 1, (up _).trans u1, (up _).trans u2⟩
   go_wp2_with fail
   clear hpc u1 u2
   go_region_held3 (fun w' => BackS p vb ub i v.length (some ⟨ub, 0, none⟩) U.length uc (A : Int) X w')
    (first | exact HS0.out | exact HS1.out | fail)
    (fail)
   all_goals
    go_wp2
    go_roundg (i + 1)
    case rel => exact ⟨i, _, y.set A X, rfl, rfl, by omega, rfl, hyl2, HTn, HRn, HBn, HKn⟩
    case measure => omega
end Go.Proofs.YtejadojilncbjabGreat
