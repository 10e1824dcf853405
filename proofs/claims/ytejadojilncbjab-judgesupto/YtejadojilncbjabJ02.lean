import Derived.Test.YtejadojilncbjabJ01
import Derived.Test.YtejadojilncbjabJ00
import Derived.Deep.RegionHeld3
import Derived.Deep.DeepCutAuto
namespace Go.Proofs.Ytejadojilncbjab
open Go.RowKit
set_option linter.unusedVariables false
attribute [local go_sem ↓] Go.wp_at_zero Go.wp_at_succ

theorem jbDrew (w : World) : Below w.heap.size w w.drew := ⟨rfl, rfl, rfl, Nat.le_refl _, fun _ _ => rfl⟩
theorem jbOf {w w' : World} (h : Below w.drew.heap.size w.drew w') : Below w.heap.size w w' := ⟨h.os, h.tape, h.output, h.size, h.block⟩

def noNt : NoteD := ⟨0, 0, 0⟩
def noAtt : AttD := ⟨0, 0, 0, 0, 0, 0, 0, []⟩
def atL (L : List AttD) (k : Nat) : AttD := L.getD k noAtt

/-- Notes in memory. -/
def NotesIn (w : World) (B : Nat) (a : Option Addr) (ns : List NoteD) : Prop :=
  ∀ i, i < ns.length → ∃ b off, a = some ⟨b, off, none⟩ ∧ b < B ∧ w.cell? ⟨b, off + i * 3, none⟩ = some (.int .i64 (ns.getD i noNt).op) ∧ w.cell? ⟨b, off + i * 3 + 1, none⟩ = some (.int .i64 (ns.getD i noNt).addr) ∧ w.cell? ⟨b, off + i * 3 + 2, none⟩ = some (.int .i64 (ns.getD i noNt).val)

/-- A history in memory. -/
def HistIn (w : World) (B : Nat) (a : Option Addr) (L : List AttD) : Prop :=
  ∀ k, k < L.length → ∃ b off na nc, a = some ⟨b, off, none⟩ ∧ b < B ∧ w.cell? ⟨b, off + k * 8, none⟩ = some (.int .i64 (atL L k).thread) ∧ w.cell? ⟨b, off + k * 8 + 1, none⟩ = some (.int .i64 (atL L k).job) ∧ w.cell? ⟨b, off + k * 8 + 2, none⟩ = some (.int .i64 (atL L k).start) ∧ w.cell? ⟨b, off + k * 8 + 3, none⟩ = some (.int .i64 (atL L k).fin) ∧ w.cell? ⟨b, off + k * 8 + 4, none⟩ = some (.int .i64 (atL L k).valid) ∧ w.cell? ⟨b, off + k * 8 + 5, none⟩ = some (.int .i64 (atL L k).stamp) ∧ w.cell? ⟨b, off + k * 8 + 6, none⟩ = some (.int .i64 (atL L k).fate) ∧ w.cell? ⟨b, off + k * 8 + 7, none⟩ = some (.slice na (atL L k).notes.length nc) ∧ NotesIn w B na (atL L k).notes

theorem NotesIn.up {w w' : World} {B : Nat} {a : Option Addr} {ns : List NoteD} (h : NotesIn w B a ns) (hb : Below B w w') : NotesIn w' B a ns := fun i hi => by
  obtain ⟨b, off, ha, hl, c0, c1, c2⟩ := h i hi
  have up : ∀ o, w'.cell? ⟨b, o, none⟩ = w.cell? ⟨b, o, none⟩ := fun o => World.cell?_of_block (hb.block b hl)
  exact ⟨b, off, ha, hl, (up _).trans c0, (up _).trans c1, (up _).trans c2⟩

theorem HistIn.up {w w' : World} {B : Nat} {a : Option Addr} {L : List AttD} (h : HistIn w B a L) (hb : Below B w w') : HistIn w' B a L := fun i hi => by
  obtain ⟨b, off, na, nc, ha, hl, c0, c1, c2, c3, c4, c5, c6, c7, hn⟩ := h i hi
  have up : ∀ o, w'.cell? ⟨b, o, none⟩ = w.cell? ⟨b, o, none⟩ := fun o => World.cell?_of_block (hb.block b hl)
  exact ⟨b, off, na, nc, ha, hl, (up _).trans c0, (up _).trans c1, (up _).trans c2, (up _).trans c3, (up _).trans c4, (up _).trans c5, (up _).trans c6, (up _).trans c7, hn.up hb⟩

/-- least. -/
theorem least_any (a b : Nat) (w : World) : Calls Try.prog 26 #[.int .i64 (a : Int), .int .i64 (b : Int)] w fun e w' => e = .returned (.int .i64 ((if a < b then a else b : Nat) : Int)) ∧ w' = w := by
  by_cases h : a < b
  · have h1 : (a : Int) < (b : Int) := by omega
    rw [if_pos h]
    go_enter Try.func26, Try.ntmps26
    go_wp2_with fail
    go_ret
    exact ⟨rfl, rfl⟩
  · have h1 : ¬ (a : Int) < (b : Int) := by omega
    rw [if_neg h]
    go_enter Try.func26, Try.ntmps26
    go_wp2_with fail
    go_ret
    exact ⟨rfl, rfl⟩

/-- placeOf. -/
theorem place_any (x0 x1 x2 x3 x4 x5 x6 : Int) (ns : List NoteD) (na : Option Addr) (nn nc : Nat) (w : World) : Calls Try.prog 53 #[.agg #[.int .i64 x0, .int .i64 x1, .int .i64 x2, .int .i64 x3, .int .i64 x4, .int .i64 x5, .int .i64 x6, .slice na nn nc]] w fun e w' => e = .returned (.agg #[.int .i64 (pT ⟨x0, x1, x2, x3, x4, x5, x6, ns⟩), .int .i64 (pA ⟨x0, x1, x2, x3, x4, x5, x6, ns⟩)]) ∧ Below w.heap.size w w' := by
  unfold pT pA
  simp only
  by_cases h : 0 < x5
  · rw [if_pos h, if_pos h]
    have hd : decide (x5 > 0) = true := by simpa using h
    have hd2 : x5 > 0 := h
    go_enter Try.func53, Try.ntmps53
    go_wp2_with fail
    have e0 : ((w.alloc (.cells #[.int .i64 x0, .int .i64 x1, .int .i64 x2, .int .i64 x3, .int .i64 x4, .int .i64 x5, .int .i64 x6, .slice na nn nc] 66)).alloc (.cells #[.int .i64 x5, .int .i64 0] 112)).cell? ⟨w.heap.size + 1, 0, none⟩ = some (.int .i64 x5) := by
      simp
    have e1 : ((w.alloc (.cells #[.int .i64 x0, .int .i64 x1, .int .i64 x2, .int .i64 x3, .int .i64 x4, .int .i64 x5, .int .i64 x6, .slice na nn nc] 66)).alloc (.cells #[.int .i64 x5, .int .i64 0] 112)).cell? ⟨w.heap.size + 1, 1, none⟩ = some (.int .i64 0) := by
      simp
    exact bodyPost_ret (v := .agg #[.int .i64 x5, .int .i64 0]) (by simp [results, Try.results53, go_sem, e0, e1]) rfl ⟨rfl, ((Below.refl w.heap.size w).alloc (Nat.le_refl _) _).alloc (by simp) _⟩
  · rw [if_neg h, if_neg h]
    have hd : decide (x5 > 0) = false := by simpa using h
    have hd2 : ¬ x5 > 0 := h
    go_enter Try.func53, Try.ntmps53
    go_wp2_with fail
    have e0 : ((w.alloc (.cells #[.int .i64 x0, .int .i64 x1, .int .i64 x2, .int .i64 x3, .int .i64 x4, .int .i64 x5, .int .i64 x6, .slice na nn nc] 66)).alloc (.cells #[.int .i64 x4, .int .i64 1] 112)).cell? ⟨w.heap.size + 1, 0, none⟩ = some (.int .i64 x4) := by
      simp
    have e1 : ((w.alloc (.cells #[.int .i64 x0, .int .i64 x1, .int .i64 x2, .int .i64 x3, .int .i64 x4, .int .i64 x5, .int .i64 x6, .slice na nn nc] 66)).alloc (.cells #[.int .i64 x4, .int .i64 1] 112)).cell? ⟨w.heap.size + 1, 1, none⟩ = some (.int .i64 1) := by
      simp
    exact bodyPost_ret (v := .agg #[.int .i64 x4, .int .i64 1]) (by simp [results, Try.results53, go_sem, e0, e1]) rfl ⟨rfl, ((Below.refl w.heap.size w).alloc (Nat.le_refl _) _).alloc (by simp) _⟩

theorem placeX (x : AttD) (na : Option Addr) (nn nc : Nat) (w : World) : Calls Try.prog 53 #[.agg #[.int .i64 x.thread, .int .i64 x.job, .int .i64 x.start, .int .i64 x.fin, .int .i64 x.valid, .int .i64 x.stamp, .int .i64 x.fate, .slice na nn nc]] w fun e w' => e = .returned (.agg #[.int .i64 (pT x), .int .i64 (pA x)]) ∧ Below w.heap.size w w' :=
  place_any x.thread x.job x.start x.fin x.valid x.stamp x.fate x.notes na nn nc w

/-- An attempt in memory is loaded whole. -/
abbrev AttS (b o : Nat) (x : AttD) (na : Option Addr) (nn nc : Nat) (w : World) : Prop :=
  w.cell? ⟨b, o, none⟩ = some (.int .i64 x.thread) ∧ w.cell? ⟨b, o + 1, none⟩ = some (.int .i64 x.job) ∧ w.cell? ⟨b, o + 2, none⟩ = some (.int .i64 x.start) ∧ w.cell? ⟨b, o + 3, none⟩ = some (.int .i64 x.fin) ∧ w.cell? ⟨b, o + 4, none⟩ = some (.int .i64 x.valid) ∧ w.cell? ⟨b, o + 5, none⟩ = some (.int .i64 x.stamp) ∧ w.cell? ⟨b, o + 6, none⟩ = some (.int .i64 x.fate) ∧ w.cell? ⟨b, o + 7, none⟩ = some (.slice na nn nc)

theorem HistIn.att {w : World} {B : Nat} {a : Option Addr} {L : List AttD} (h : HistIn w B a L) {k : Nat} (hk : k < L.length) : ∃ b off na nc, a = some ⟨b, off, none⟩ ∧ b < B ∧ AttS b (off + k * 8) (atL L k) na (atL L k).notes.length nc w ∧ NotesIn w B na (atL L k).notes := by
  obtain ⟨b, off, na, nc, ha, hl, c0, c1, c2, c3, c4, c5, c6, c7, hn⟩ := h k hk
  exact ⟨b, off, na, nc, ha, hl, ⟨c0, c1, c2, c3, c4, c5, c6, c7⟩, hn⟩

theorem AttS.up {b o : Nat} {x : AttD} {na : Option Addr} {nn nc : Nat} {B : Nat} {w w' : World} (h : AttS b o x na nn nc w) (hb : Below B w w') (hl : b < B) : AttS b o x na nn nc w' := by
  have up : ∀ o, w'.cell? ⟨b, o, none⟩ = w.cell? ⟨b, o, none⟩ := fun o => World.cell?_of_block (hb.block b hl)
  obtain ⟨c0, c1, c2, c3, c4, c5, c6, c7⟩ := h
  exact ⟨(up _).trans c0, (up _).trans c1, (up _).trans c2, (up _).trans c3, (up _).trans c4, (up _).trans c5, (up _).trans c6, (up _).trans c7⟩

set_option maxRecDepth 100000 in
set_option maxHeartbeats 2000000 in
/-- ahead. -/
theorem jahead_any (L : List AttD) (i j : Nat) (hi : i < L.length) (hj : j < L.length) (hn : L.length ≤ 2 ^ 40) (a : Option Addr) (cp : Nat) (w : World) (h : HistIn w w.heap.size a L) :
    Calls Try.prog 45 #[.slice a L.length cp, .int .i64 (i : Int), .int .i64 (j : Int)] w fun e w' => e = .returned (.bool (decide (Kl (atL L) i j))) ∧ Below w.heap.size w w' := by
  obtain ⟨b, off, na, nc, ha, hbl, hx, _⟩ := h.att hi
  obtain ⟨b', off', na', nc', ha', hbl', hy, _⟩ := h.att hj
  rw [ha] at ha'
  cases ha'
  subst ha
  obtain ⟨D, hD⟩ : ∃ D, D = decide (Kl (atL L) i j) := ⟨_, rfl⟩
  rw [← hD]
  unfold Kl at hD
  have HD : Hid (D = decide (pT (atL L i) < pT (atL L j) ∨ (pT (atL L i) = pT (atL L j) ∧ (pA (atL L i) < pA (atL L j) ∨ (pA (atL L i) = pA (atL L j) ∧ i < j))))) := hD
  obtain ⟨x, hxx⟩ : ∃ x, x = atL L i := ⟨_, rfl⟩
  obtain ⟨y, hyy⟩ : ∃ y, y = atL L j := ⟨_, rfl⟩
  rw [← hxx] at hx HD
  rw [← hyy] at hy HD
  obtain ⟨c0, c1, c2, c3, c4, c5, c6, c7⟩ := hx
  have HY : Hid (AttS b (off + j * 8) y na' y.notes.length nc' w) := hy
  have i0 : (0 : Int) ≤ (i : Int) := by omega
  have i1 : (i : Int) < (L.length : Int) := by omega
  have j0 : (0 : Int) ≤ (j : Int) := by omega
  have j1 : (j : Int) < (L.length : Int) := by omega
  clear hD hxx hyy hy h
  go_enter Try.func45, Try.ntmps45
  go_wp2_with fail
  refine (placeX x na _ nc _).mono ?_
  rintro e w1 ⟨rfl, hb1⟩
  obtain ⟨px, hpx⟩ : ∃ px, px = pT x := ⟨_, rfl⟩
  obtain ⟨qx, hqx⟩ : ∃ qx, qx = pA x := ⟨_, rfl⟩
  rw [← hpx, ← hqx]
  obtain ⟨w2, hw2⟩ : ∃ w2, w2 = w1.alloc (.cells #[.int .i64 px, .int .i64 qx] 112) := ⟨_, rfl⟩
  have HP2 : Hid (Blk w2 w1.heap.size 112 #[.int .i64 px, .int .i64 qx]) := by rw [hw2]; exact Blk.new w1 _ _
  have HB2 : Hid (Below w.heap.size w w2) := by rw [hw2]; exact hb1.alloc hb1.size _
  rw [← hpx, ← hqx] at HD
  clear c0 c1 c2 c3 c4 c5 c6 c7 hpx hqx hb1
  go_upto_region 2 with fail
  rw [← hw2]
  obtain ⟨pb, hpb⟩ : ∃ pb, pb = w1.heap.size := ⟨_, rfl⟩
  rw [← hpb] at HP2 ⊢
  clear hw2 hpb
  obtain ⟨c0, c1, c2, c3, c4, c5, c6, c7⟩ := AttS.up HY.out HB2.out hbl
  go_wp2_with fail
  refine (placeX y na' _ nc' _).mono ?_
  rintro e w3 ⟨rfl, hb3⟩
  obtain ⟨py, hpy⟩ : ∃ py, py = pT y := ⟨_, rfl⟩
  obtain ⟨qy, hqy⟩ : ∃ qy, qy = pA y := ⟨_, rfl⟩
  rw [← hpy, ← hqy]
  obtain ⟨w4, hw4⟩ : ∃ w4, w4 = w3.alloc (.cells #[.int .i64 py, .int .i64 qy] 112) := ⟨_, rfl⟩
  have HQ4 : Hid (Blk w4 w3.heap.size 112 #[.int .i64 py, .int .i64 qy]) := by rw [hw4]; exact Blk.new w3 _ _
  have hB24 : Below w2.heap.size w2 w4 := by rw [hw4]; exact hb3.alloc hb3.size _
  have HP4 : Hid (Blk w4 pb 112 #[.int .i64 px, .int .i64 qx]) := (HP2.out).below hB24 (HP2.out).lt
  have HB4 : Hid (Below w.heap.size w w4) := (HB2.out).trans (hB24.mono (HB2.out).size)
  rw [← hpy, ← hqy] at HD
  clear c0 c1 c2 c3 c4 c5 c6 c7 hpy hqy hb3 hB24 HP2 HB2 HY
  go_upto_region 3 with fail
  rw [← hw4]
  obtain ⟨qb, hqb⟩ : ∃ qb, qb = w3.heap.size := ⟨_, rfl⟩
  rw [← hqb] at HQ4 ⊢
  clear hw4 hqb
  have hp := (HP4.out).cell
  have hq := (HQ4.out).cell
  by_cases h1 : px = py
  · subst h1
    by_cases h2 : qx = qy
    · subst h2
      by_cases h3 : i < j
      · obtain rfl : D = true := (HD.out).trans (by simp [h3])
        have h3' : (i : Int) < (j : Int) := by omega
        go_wp2_with fail
        go_ret
        exact ⟨by first | rfl | simp, HB4.out⟩
      · obtain rfl : D = false := (HD.out).trans (by simp [h3])
        have h3' : ¬ (i : Int) < (j : Int) := by omega
        go_wp2_with fail
        go_ret
        exact ⟨by first | rfl | simp, HB4.out⟩
    · have hb2 : (qx != qy) = true := by simp [h2]
      obtain rfl : D = decide (qx < qy) := (HD.out).trans (by simp [h2])
      clear HD
      go_wp2_with fail
      go_ret
      exact ⟨by first | rfl | simp, HB4.out⟩
  · have hb2 : (px != py) = true := by simp [h1]
    obtain rfl : D = decide (px < py) := (HD.out).trans (by simp [h1])
    clear HD
    go_wp2_with fail
    go_ret
    exact ⟨by first | rfl | simp, HB4.out⟩

end Go.Proofs.Ytejadojilncbjab

namespace Go.Proofs.Ytejadojilncbjab
set_option linter.unusedVariables false

/-- Two lists in order become one. -/
def mrg (f : Nat → AttD) : List Nat → List Nat → List Nat
  | [], r => r
  | a :: l, [] => a :: l
  | a :: l, b :: r => if Kl f a b then a :: mrg f l (b :: r) else b :: mrg f (a :: l) r
termination_by l r => l.length + r.length

theorem mrg_nil (f : Nat → AttD) (r : List Nat) : mrg f [] r = r := by rw [mrg]
theorem mrg_nil' (f : Nat → AttD) : ∀ l : List Nat, mrg f l [] = l
  | [] => by rw [mrg]
  | a :: l => by rw [mrg]
theorem mrg_pos {f : Nat → AttD} {a b : Nat} {l r : List Nat} (h : Kl f a b) : mrg f (a :: l) (b :: r) = a :: mrg f l (b :: r) := by rw [mrg, if_pos h]
theorem mrg_neg {f : Nat → AttD} {a b : Nat} {l r : List Nat} (h : ¬ Kl f a b) : mrg f (a :: l) (b :: r) = b :: mrg f (a :: l) r := by rw [mrg, if_neg h]

theorem mrg_perm (f : Nat → AttD) : ∀ (n : Nat) (l r : List Nat), l.length + r.length ≤ n → (mrg f l r).Perm (l ++ r)
  | n, [], r, _ => by rw [mrg_nil]; exact List.Perm.refl _
  | n, a :: l, [], _ => by rw [mrg_nil', List.append_nil]
  | 0, a :: l, b :: r, h => by simp at h
  | n + 1, a :: l, b :: r, h => by
    by_cases hk : Kl f a b
    · rw [mrg_pos hk]
      exact (mrg_perm f n l (b :: r) (by simp at h ⊢; omega)).cons a
    · rw [mrg_neg hk]
      have h1 := (mrg_perm f n (a :: l) r (by simp at h ⊢; omega)).cons b
      exact h1.trans (List.perm_middle (l₁ := a :: l) (l₂ := r) (a := b)).symm

theorem mrg_len (f : Nat → AttD) (l r : List Nat) : (mrg f l r).length = l.length + r.length := by
  rw [(mrg_perm f _ l r (Nat.le_refl _)).length_eq, List.length_append]

theorem mrg_pw (f : Nat → AttD) : ∀ (n : Nat) (l r : List Nat), l.length + r.length ≤ n → l.Pairwise (Kl f) → r.Pairwise (Kl f) → (∀ x ∈ l, ∀ y ∈ r, x ≠ y) → (mrg f l r).Pairwise (Kl f)
  | n, [], r, _, _, hr, _ => by rw [mrg_nil]; exact hr
  | n, a :: l, [], _, hl, _, _ => by rw [mrg_nil']; exact hl
  | 0, a :: l, b :: r, h, _, _, _ => by simp at h
  | n + 1, a :: l, b :: r, h, hl, hr, hd => by
    obtain ⟨g1, k1⟩ := List.pairwise_cons.1 hl
    obtain ⟨g2, k2⟩ := List.pairwise_cons.1 hr
    by_cases hk : Kl f a b
    · rw [mrg_pos hk]
      refine List.pairwise_cons.2 ⟨fun x hx => ?_, mrg_pw f n l (b :: r) (by simp at h ⊢; omega) k1 hr fun x hx y hy => hd x (List.mem_cons_of_mem _ hx) y hy⟩
      have hx' := (mrg_perm f _ l (b :: r) (Nat.le_refl _)).mem_iff.1 hx
      rcases List.mem_append.1 hx' with q | q
      · exact g1 x q
      · rcases List.mem_cons.1 q with rfl | q
        · exact hk
        · exact kl_trans hk (g2 x q)
    · rw [mrg_neg hk]
      have hba : Kl f b a := (kl_tri (hd a List.mem_cons_self b List.mem_cons_self)).resolve_left hk
      refine List.pairwise_cons.2 ⟨fun x hx => ?_, mrg_pw f n (a :: l) r (by simp at h ⊢; omega) hl k2 fun x hx y hy => hd x hx y (List.mem_cons_of_mem _ hy)⟩
      have hx' := (mrg_perm f _ (a :: l) r (Nat.le_refl _)).mem_iff.1 hx
      rcases List.mem_append.1 hx' with q | q
      · rcases List.mem_cons.1 q with rfl | q
        · exact hba
        · exact kl_trans hba (g1 x q)
      · exact g2 x q

/-- The runs of a width are in order. -/
def RunsJ (f : Nat → AttD) (w : Nat) (o : List Nat) : Prop := ∀ q, ((o.drop (q * w)).take w).Pairwise (Kl f)

theorem runs_one (f : Nat → AttD) (o : List Nat) : RunsJ f 1 o := fun q => by
  rcases h : (o.drop (q * 1)) with _ | ⟨a, r⟩
  · simp
  · simp

theorem runs_all {f : Nat → AttD} {w : Nat} {o : List Nat} (h : RunsJ f w o) (hw : o.length ≤ w) : o.Pairwise (Kl f) := by
  have := h 0
  rw [Nat.zero_mul, List.drop_zero, List.take_of_length_le hw] at this
  exact this

/-- One pass over the runs. -/
def pass (f : Nat → AttD) (w : Nat) (o : List Nat) : Nat → List Nat
  | 0 => []
  | q + 1 => pass f w o q ++ mrg f ((o.drop (q * (2 * w))).take w) ((o.drop (q * (2 * w) + w)).take w)

theorem blk_len {w : Nat} {o : List Nat} {p : Nat} : ((o.drop p).take w).length + ((o.drop (p + w)).take w).length = min (2 * w) (o.length - p) := by
  simp only [List.length_take, List.length_drop]
  omega

theorem pass_len (f : Nat → AttD) (w : Nat) (o : List Nat) : ∀ q, (pass f w o q).length = min (q * (2 * w)) o.length
  | 0 => by simp [pass]
  | q + 1 => by
    rw [pass, List.length_append, mrg_len, blk_len, pass_len f w o q, Nat.add_mul, Nat.one_mul]
    omega

theorem take_two {w : Nat} (o : List Nat) (p : Nat) : o.take (p + 2 * w) = o.take p ++ ((o.drop p).take w ++ (o.drop (p + w)).take w) := by
  rw [List.take_add, Nat.two_mul, List.take_add, List.drop_drop]

theorem pass_perm (f : Nat → AttD) (w : Nat) (o : List Nat) : ∀ q, (pass f w o q).Perm (o.take (q * (2 * w)))
  | 0 => by simp [pass]
  | q + 1 => by
    rw [pass, Nat.add_mul, Nat.one_mul, take_two]
    exact (pass_perm f w o q).append (mrg_perm f _ _ _ (Nat.le_refl _))

theorem pass_runs {f : Nat → AttD} {w : Nat} {o : List Nat} (hw : 1 ≤ w) (h : RunsJ f w o) (hn : o.Nodup) : ∀ q, RunsJ f (2 * w) (pass f w o q)
  | 0 => fun k => by simp [pass]
  | q + 1 => fun k => by
    have ih := pass_runs hw h hn q
    have hl := pass_len f w o q
    obtain ⟨A, hA⟩ : ∃ A, A = (o.drop (q * (2 * w))).take w := ⟨_, rfl⟩
    obtain ⟨B, hB⟩ : ∃ B, B = (o.drop (q * (2 * w) + w)).take w := ⟨_, rfl⟩
    have hlen : A.length + B.length = min (2 * w) (o.length - q * (2 * w)) := by rw [hA, hB]; exact blk_len
    have hpA : A.Pairwise (Kl f) := by
      have := h (2 * q)
      rw [show 2 * q * w = q * (2 * w) by rw [Nat.mul_comm 2 q, Nat.mul_assoc]] at this
      rw [hA]; exact this
    have hpB : B.Pairwise (Kl f) := by
      have := h (2 * q + 1)
      rw [show (2 * q + 1) * w = q * (2 * w) + w by rw [Nat.add_mul, Nat.one_mul, Nat.mul_comm 2 q, Nat.mul_assoc]] at this
      rw [hB]; exact this
    have hd : ∀ x ∈ A, ∀ y ∈ B, x ≠ y := by
      have h1 : (o.drop (q * (2 * w))).Nodup := hn.sublist (List.drop_sublist _ _)
      rw [← List.take_append_drop w (o.drop (q * (2 * w))), List.drop_drop] at h1
      have h2 := (List.nodup_append.1 h1).2.2
      intro x hx y hy
      rw [hA] at hx
      rw [hB] at hy
      exact h2 x hx y (List.mem_of_mem_take hy)
    have hX := mrg_pw f _ A B (Nat.le_refl _) hpA hpB hd
    rw [pass, ← hA, ← hB]
    have hXl := mrg_len f A B
    generalize mrg f A B = X at *
    by_cases hk : k < q
    · have hkq : k * (2 * w) + 2 * w ≤ q * (2 * w) := by
        have := Nat.mul_le_mul_right (2 * w) (show k + 1 ≤ q from hk)
        rw [Nat.add_mul, Nat.one_mul] at this
        exact this
      by_cases hq : q * (2 * w) ≤ o.length
      · rw [Nat.min_eq_left hq] at hl
        rw [List.drop_append_of_le_length (by omega), List.take_append_of_le_length (by rw [List.length_drop]; omega)]
        exact ih k
      · have hX0 : X = [] := List.length_eq_zero_iff.1 (by omega)
        rw [hX0, List.append_nil]
        exact ih k
    · have hkq : q * (2 * w) ≤ k * (2 * w) := Nat.mul_le_mul_right _ (by omega)
      rw [List.drop_append, List.drop_eq_nil_of_le (by rw [hl]; omega), List.nil_append]
      exact (hX.sublist (List.drop_sublist _ _)).sublist (List.take_sublist _ _)

end Go.Proofs.Ytejadojilncbjab
