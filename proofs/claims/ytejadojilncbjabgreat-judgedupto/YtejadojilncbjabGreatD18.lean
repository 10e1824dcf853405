import Derived.Test.YtejadojilncbjabGreatD17
import Derived.Test.YtejadojilncbjabGreatD01
import Derived.Test.YtejadojilncbjabGreatD02
import Derived.Test.YtejadojilncbjabGreatD16
namespace Go.Proofs.YtejadojilncbjabGreat
open Go.RowKit
set_option linter.unusedVariables false
attribute [local go_sem ↓] Go.wp_at_zero Go.wp_at_succ
def MAt (w : World) (p z : Nat) (T : TypeId) (A B : List Value) (m : MS) : Prop := A.length = z ∧ Blk w p T (A ++ ((mArr m).toList ++ B)).toArray
theorem mArr_size (m : MS) : (mArr m).toList.length = 7 := rfl
theorem MAt.cellAt {w : World} {p z : Nat} {T : TypeId} {A B : List Value} {m : MS} (h : MAt w p z T A B m) (i : Nat) (hi : i < 7) : w.cell? ⟨p, z + i, none⟩ = (mArr m)[i]? := by
 rw [h.2.cell, List.getElem?_toArray, ← h.1, List.getElem?_append_right (by omega), Nat.add_sub_cancel_left, List.getElem?_append_left (by rw [mArr_size]; exact hi)]
 simp
theorem MAt.c4 {w : World} {p z : Nat} {T : TypeId} {A B : List Value} {m : MS} (h : MAt w p z T A B m) : w.cell? ⟨p, z + 4, none⟩ = some (.int .i64 m.place) := h.cellAt 4 (by omega)
theorem MAt.c5 {w : World} {p z : Nat} {T : TypeId} {A B : List Value} {m : MS} (h : MAt w p z T A B m) : w.cell? ⟨p, z + 5, none⟩ = some (.int .i64 m.begun) := h.cellAt 5 (by omega)
theorem MAt.c6 {w : World} {p z : Nat} {T : TypeId} {A B : List Value} {m : MS} (h : MAt w p z T A B m) : w.cell? ⟨p, z + 6, none⟩ = some (.int .i64 m.into) := h.cellAt 6 (by omega)
theorem MAt.frozen {w : World} {p z : Nat} {T : TypeId} {A B : List Value} {m : MS} (h : MAt w p z T A B m) : ∀ i, w.frozen? ⟨p, i, none⟩ = false := h.2.frozen
theorem MAt.lt {w : World} {p z : Nat} {T : TypeId} {A B : List Value} {m : MS} (h : MAt w p z T A B m) : p < w.heap.size := h.2.lt
theorem MAt.alloc {w : World} {p z : Nat} {T : TypeId} {A B : List Value} {m : MS} (h : MAt w p z T A B m) (o : Obj) : MAt (w.alloc o) p z T A B m := ⟨h.1, h.2.alloc o⟩
theorem MAt.below {w w' : World} {p z n : Nat} {T : TypeId} {A B : List Value} {m : MS} (h : MAt w p z T A B m) (hb : Below n w w') (hp : p < n) : MAt w' p z T A B m := ⟨h.1, h.2.below hb hp⟩
theorem MAt.only {w w' : World} {p z q : Nat} {T : TypeId} {A B : List Value} {m : MS} (h : MAt w p z T A B m) (hb : Only q w w') (hp : p ≠ q) : MAt w' p z T A B m := ⟨h.1, h.2.only hb hp⟩
theorem MAt.drewN {w : World} {p z : Nat} {T : TypeId} {A B : List Value} {m : MS} (h : MAt w p z T A B m) (n : Nat) : MAt (w.drewN n) p z T A B m := h
theorem MAt.setAt {w : World} {p z : Nat} {T : TypeId} {A B : List Value} {m m' : MS} (h : MAt w p z T A B m) (i : Nat) (hi : i < 7) (v : Value) (e : (mArr m).toList.set i v = (mArr m').toList) : MAt (w.setCell ⟨p, z + i, none⟩ v) p z T A B m' := by
 refine ⟨h.1, h.2.set.congr ?_⟩
 rw [List.setIfInBounds_toArray, ← h.1, List.set_append_right _ _ (by omega), Nat.add_sub_cancel_left, List.set_append_left _ _ (by rw [mArr_size]; exact hi), e]
theorem MAt.place {w : World} {p z : Nat} {T : TypeId} {A B : List Value} {m : MS} (h : MAt w p z T A B m) (k : Nat) : MAt (w.setCell ⟨p, z + 4, none⟩ (.int .i64 (k : Int))) p z T A B { m with place := k } := h.setAt 4 (by omega) _ rfl
theorem MAt.begun {w : World} {p z : Nat} {T : TypeId} {A B : List Value} {m : MS} (h : MAt w p z T A B m) (k : Nat) : MAt (w.setCell ⟨p, z + 5, none⟩ (.int .i64 (k : Int))) p z T A B { m with begun := k } := h.setAt 5 (by omega) _ rfl
theorem MAt.into {w : World} {p z : Nat} {T : TypeId} {A B : List Value} {m : MS} (h : MAt w p z T A B m) (k : Int) : MAt (w.setCell ⟨p, z + 6, none⟩ (.int .i64 k)) p z T A B { m with into := k } := h.setAt 6 (by omega) _ rfl
theorem z_mArr_reg {w : World} {p z : Nat} {T : TypeId} {A B : List Value} {m : MS} (h : MAt w p z T A B m) (k : Nat) (hk : k < 4) : w.cell? ⟨p, z + k, none⟩ = some (.int .i64 (m.regs.getD k 0)) := by
 rw [h.cellAt k (by omega)]
 have : k = 0 ∨ k = 1 ∨ k = 2 ∨ k = 3 := by omega
 rcases this with rfl | rfl | rfl | rfl <;> rfl
theorem z_mArr_set {w : World} {p z : Nat} {T : TypeId} {A B : List Value} {m : MS} (h : MAt w p z T A B m) (hl : m.regs.length = 4) (k : Nat) (hk : k < 4) (v : Int) : MAt (w.setCell ⟨p, z + k, none⟩ (.int .i64 v)) p z T A B { m with regs := m.regs.set k v } := by
 refine h.setAt k (by omega) _ ?_
 obtain ⟨regs, place, begun, into⟩ := m
 simp only at hl
 obtain ⟨a, b, c, d, rfl⟩ := list4 hl
 have : k = 0 ∨ k = 1 ∨ k = 2 ∨ k = 3 := by omega
 rcases this with rfl | rfl | rfl | rfl <;> rfl
set_option maxHeartbeats 2000000 in
theorem z_give_any (z : Nat) (T : TypeId) (A B : List Value) (p ki : Nat) (m : MS) (v : Int) (w : World) (hb : MAt w p z T A B m) (hl : m.regs.length = 4) (hi : m.into = (ki : Int)) (hk : ki < 4) :
  Calls Tryz.prog 114 #[.pointer (some ⟨p, z, none⟩), .int .i64 v] w fun e w' => e = .returned (.tuple #[]) ∧ MAt w' p z T A B { m with regs := m.regs.set ki v } ∧ Only p w w' := by
 have HB : Hid (MAt w p z T A B m) := hb
 have h6 : w.cell? ⟨p, z + 6, none⟩ = some (.int .i64 (ki : Int)) := by rw [← hi]; exact hb.c6
 have hr := z_mArr_reg hb ki hk
 have hf := hb.frozen (z + ki)
 have hk0 : (0 : Int) ≤ (ki : Int) := by omega
 have hk1 : (ki : Int) < 4 := by omega
 clear hb hi
 go_enter Tryz.func114, Tryz.ntmps114
 go_wp2
 go_region
 all_goals
  go_wp2
  go_end0
  refine ⟨rfl, ?_, ?_⟩
  ·exact z_mArr_set (show MAt w.drew p z T A B m from HB.out) hl ki hk v
  ·exact (Only.refl _ _).drew.set
set_option maxHeartbeats 4000000 in
theorem z_compute_set (z : Nat) (T : TypeId) (A B : List Value) (p ka : Nat) (m : MS) (b c : Int) (w : World) (hb : MAt w p z T A B m) (hl : m.regs.length = 4) (hk : ka < 4) :
  Calls Tryz.prog 125 #[.pointer (some ⟨p, z, none⟩), .agg #[.int .i64 2, .int .i64 (ka : Int), .int .i64 b, .int .i64 c]] w fun e w' => e = .returned (.tuple #[]) ∧ MAt w' p z T A B { m with regs := m.regs.set ka b } ∧ Only p w w' := by
 have HB : Hid (MAt w p z T A B m) := hb
 have hr := z_mArr_reg hb ka hk
 have hf := hb.frozen (z + ka)
 have hlt := hb.lt
 have hk0 : (0 : Int) ≤ (ka : Int) := by omega
 have hk1 : (ka : Int) < 4 := by omega
 clear hb
 go_enter Tryz.func125, Tryz.ntmps125
 go_wp2_with fail
 go_region
 all_goals
  go_wp2
  go_end0
  refine ⟨rfl, ?_, ?_⟩
  ·exact (z_mArr_set HB.out hl ka hk b).alloc _
  ·exact (((Only.refl _ _).set).trans (Only.below ((Below.refl _ _).alloc (Nat.le_refl _) _))).drew
set_option maxHeartbeats 4000000 in
theorem z_compute_jump (z : Nat) (T : TypeId) (A B : List Value) (p kc : Nat) (m : MS) (a b : Int) (w : World) (hb : MAt w p z T A B m) :
  Calls Tryz.prog 125 #[.pointer (some ⟨p, z, none⟩), .agg #[.int .i64 5, .int .i64 a, .int .i64 b, .int .i64 (kc : Int)]] w fun e w' => e = .returned (.tuple #[]) ∧ MAt w' p z T A B { m with place := kc } ∧ Only p w w' := by
 have HB : Hid (MAt w p z T A B m) := hb
 have h4 : w.cell? ⟨p, z + 4, none⟩ = some (.int .i64 m.place) := hb.c4
 have hf := hb.frozen (z + 4)
 have hlt := hb.lt
 clear hb
 go_enter Tryz.func125, Tryz.ntmps125
 go_wp2
 go_end0
 refine ⟨rfl, ?_, ?_⟩
 ·exact ((HB.out).place kc).alloc _
 ·exact ((Only.refl _ _).set).trans (Only.below ((Below.refl _ _).alloc (Nat.le_refl _) _))
set_option maxHeartbeats 4000000 in
theorem z_compute_less (z : Nat) (T : TypeId) (A B : List Value) (p ka kb kc : Nat) (m : MS) (w : World) (hb : MAt w p z T A B m) (hka : ka < 4) (hkb : kb < 4) :
  Calls Tryz.prog 125 #[.pointer (some ⟨p, z, none⟩), .agg #[.int .i64 6, .int .i64 (ka : Int), .int .i64 (kb : Int), .int .i64 (kc : Int)]] w fun e w' => e = .returned (.tuple #[]) ∧ MAt w' p z T A B (if m.regs.getD ka 0 < m.regs.getD kb 0 then { m with place := kc } else m) ∧ Only p w w' := by
 have HB : Hid (MAt w p z T A B m) := hb
 have h4 : w.cell? ⟨p, z + 4, none⟩ = some (.int .i64 m.place) := hb.c4
 have hf := hb.frozen (z + 4)
 have hlt := hb.lt
 have hra := z_mArr_reg hb ka hka
 have hrb := z_mArr_reg hb kb hkb
 have hk0 : (0 : Int) ≤ (ka : Int) := by omega
 have hk1 : (ka : Int) < 4 := by omega
 have hk2 : (0 : Int) ≤ (kb : Int) := by omega
 have hk3 : (kb : Int) < 4 := by omega
 clear hb
 by_cases hlt2 : m.regs.getD ka 0 < m.regs.getD kb 0
 ·rw [if_pos hlt2]
  generalize m.regs.getD ka 0 = va at *
  generalize m.regs.getD kb 0 = vb at *
  go_enter Tryz.func125, Tryz.ntmps125
  go_wp2_with fail
  go_quiet (fail)
  go_wp2
  go_end0
  refine ⟨rfl, ?_, ?_⟩
  ·exact (((HB.out).alloc _).drewN nq).place kc
  ·exact ((Only.below ((Below.refl _ _).alloc (Nat.le_refl _) _)).drewN nq).set
 ·rw [if_neg hlt2]
  generalize m.regs.getD ka 0 = va at *
  generalize m.regs.getD kb 0 = vb at *
  go_enter Tryz.func125, Tryz.ntmps125
  go_wp2_with fail
  go_quiet (fail)
  go_wp2
  go_end0
  refine ⟨rfl, ?_, ?_⟩
  ·exact ((HB.out).alloc _).drewN nq
  ·exact (Only.below ((Below.refl _ _).alloc (Nat.le_refl _) _)).drewN nq
end Go.Proofs.YtejadojilncbjabGreat
namespace Go.Proofs.YtejadojilncbjabGreat
open Go.RowKit
set_option linter.unusedVariables false
def Seg (w : World) (p z : Nat) (T : TypeId) (A B L : List Value) : Prop := A.length = z ∧ Blk w p T (A ++ (L ++ B)).toArray
theorem Seg.cell {w : World} {p z : Nat} {T : TypeId} {A B L : List Value} (h : Seg w p z T A B L) (i : Nat) (hi : i < L.length) : w.cell? ⟨p, z + i, none⟩ = L[i]? := by
 rw [h.2.cell, List.getElem?_toArray, ← h.1, List.getElem?_append_right (by omega), Nat.add_sub_cancel_left, List.getElem?_append_left hi]
theorem Seg.at0 {w : World} {p z : Nat} {T : TypeId} {A B L : List Value} (h : Seg w p z T A B L) (hi : 0 < L.length) : w.cell? ⟨p, z, none⟩ = L[0]? := h.cell 0 hi
theorem Seg.frozen {w : World} {p z : Nat} {T : TypeId} {A B L : List Value} (h : Seg w p z T A B L) : ∀ i, w.frozen? ⟨p, i, none⟩ = false := h.2.frozen
theorem Seg.lt {w : World} {p z : Nat} {T : TypeId} {A B L : List Value} (h : Seg w p z T A B L) : p < w.heap.size := h.2.lt
theorem Seg.alloc {w : World} {p z : Nat} {T : TypeId} {A B L : List Value} (h : Seg w p z T A B L) (o : Obj) : Seg (w.alloc o) p z T A B L := ⟨h.1, h.2.alloc o⟩
theorem Seg.below {w w' : World} {p z : Nat} {T : TypeId} {A B L : List Value} {n : Nat} (h : Seg w p z T A B L) (hb : Below n w w') (hp : p < n) : Seg w' p z T A B L := ⟨h.1, h.2.below hb hp⟩
theorem Seg.only {w w' : World} {p z : Nat} {T : TypeId} {A B L : List Value} {q : Nat} (h : Seg w p z T A B L) (hb : Only q w w') (hp : p ≠ q) : Seg w' p z T A B L := ⟨h.1, h.2.only hb hp⟩
theorem Seg.drewN {w : World} {p z : Nat} {T : TypeId} {A B L : List Value} (h : Seg w p z T A B L) (n : Nat) : Seg (w.drewN n) p z T A B L := h
theorem Seg.set {w : World} {p z : Nat} {T : TypeId} {A B L : List Value} (h : Seg w p z T A B L) (i : Nat) (hi : i < L.length) (v : Value) : Seg (w.setCell ⟨p, z + i, none⟩ v) p z T A B (L.set i v) := by
 refine ⟨h.1, h.2.set.congr ?_⟩
 rw [List.setIfInBounds_toArray, ← h.1, List.set_append_right _ _ (by omega), Nat.add_sub_cancel_left, List.set_append_left _ _ hi]
theorem Seg.congr {w : World} {p z : Nat} {T : TypeId} {A B L : List Value} {L' : List Value} (h : Seg w p z T A B L) (e : L = L') : Seg w p z T A B L' := e ▸ h
theorem Seg.part {w : World} {p z : Nat} {T : TypeId} {A B L : List Value} {L1 L2 L3 : List Value} (h : Seg w p z T A B (L1 ++ (L2 ++ L3))) (k : Nat) (hk : L1.length = k) : Seg w p (z + k) T (A ++ L1) (L3 ++ B) L2 :=
 ⟨by rw [List.length_append, h.1, hk], h.2.congr (by simp)⟩
theorem Seg.whole {w : World} {p z : Nat} {T : TypeId} {A B L : List Value} {L1 L2 L3 : List Value} {k : Nat} (h : Seg w p (z + k) T (A ++ L1) (L3 ++ B) L2) (hz : A.length = z) : Seg w p z T A B (L1 ++ (L2 ++ L3)) :=
 ⟨hz, h.2.congr (by simp)⟩
theorem Seg.mach {w : World} {p z : Nat} {T : TypeId} {A B L : List Value} {m : MS} (h : Seg w p z T A B (mArr m).toList) : MAt w p z T A B m := h
theorem MAt.seg {w : World} {p z : Nat} {T : TypeId} {A B L : List Value} {m : MS} (h : MAt w p z T A B m) : Seg w p z T A B (mArr m).toList := h
theorem Blk.seg {w : World} {p z : Nat} {T : TypeId} {A B L : List Value} {cs : List Value} (h : Blk w p T cs.toArray) : Seg w p 0 T [] [] cs := ⟨rfl, h.congr (by simp)⟩
theorem Seg.blk {w : World} {p z : Nat} {T : TypeId} {A B L : List Value} (h : Seg w p 0 T [] [] L) : Blk w p T L.toArray := h.2.congr (by simp)
theorem rows_len {n : Nat} : ∀ {R : List (List Value)}, (∀ L ∈ R, L.length = n) → R.flatten.length = R.length * n
 | [], _ => by simp
 | L :: R, h => by
  rw [List.flatten_cons, List.length_append, h L (List.mem_cons_self ..), rows_len (fun L' hL => h L' (List.mem_cons_of_mem _ hL)), List.length_cons, Nat.succ_mul]
  omega
theorem rows_split {R : List (List Value)} {i : Nat} (hi : i < R.length) : R.flatten = (R.take i).flatten ++ (R[i] ++ (R.drop (i + 1)).flatten) := by
 have h : R = R.take i ++ (R[i] :: R.drop (i + 1)) := by
  rw [← List.drop_eq_getElem_cons hi, List.take_append_drop]
 have e : R.flatten = (R.take i ++ (R[i] :: R.drop (i + 1))).flatten := congrArg List.flatten h
 rw [e, List.flatten_append, List.flatten_cons]
theorem Blk.row {w : World} {p n i : Nat} {T : TypeId} {R : List (List Value)} (h : Blk w p T R.flatten.toArray) (hn : ∀ L ∈ R, L.length = n) (hi : i < R.length) : Seg w p (i * n) T (R.take i).flatten (R.drop (i + 1)).flatten R[i] := by
 refine ⟨?_, h.congr (by rw [rows_split hi])⟩
 rw [rows_len (n := n) (fun L hL => hn L (List.mem_of_mem_take hL)), List.length_take, Nat.min_eq_left (by omega)]
theorem Seg.rows {w : World} {p z i : Nat} {T : TypeId} {R : List (List Value)} {L : List Value} (h : Seg w p z T (R.take i).flatten (R.drop (i + 1)).flatten L) (hi : i < R.length) : Blk w p T (R.set i L).flatten.toArray := by
 refine h.2.congr ?_
 have hi2 : i < (R.set i L).length := by simpa using hi
 have e1 : (R.set i L).take i = R.take i := by
  apply List.ext_getElem?
  intro j
  by_cases hj : j < i
  ·rw [List.getElem?_take_of_lt hj, List.getElem?_take_of_lt hj, List.getElem?_set_ne (by omega)]
  ·rw [List.getElem?_eq_none (by simp; omega), List.getElem?_eq_none (by simp; omega)]
 have e2 : (R.set i L).drop (i + 1) = R.drop (i + 1) := by
  apply List.ext_getElem?
  intro j
  rw [List.getElem?_drop, List.getElem?_drop, List.getElem?_set_ne (by omega)]
 rw [rows_split hi2, e1, e2]
 simp
end Go.Proofs.YtejadojilncbjabGreat
namespace Go.Proofs.YtejadojilncbjabGreat
open Go.RowKit
set_option linter.unusedVariables false
attribute [local go_sem ↓] Go.wp_at_zero Go.wp_at_succ
theorem version_any (s : Int) (w : World) (h1 : 0 ≤ s) (h2 : s ≤ 1000) : Calls Tryz.prog 178 #[.int .i64 s] w fun e w' => e = .returned (.int .i64 (hVer s)) ∧ w' = w := by
 have e1 : IntKind.i64.wrap (3 + s) = 3 + s := wrapP _ (by omega) (by omega)
 go_enter Tryz.func178, Tryz.ntmps178
 go_wp2
 go_ret
 exact ⟨rfl, rfl⟩
set_option maxHeartbeats 1000000 in
theorem owner_any (c : Cfg) (K : Cx) (hK : K.c = c) (s : Int) (w : World) (h1 : 0 ≤ s) (h2 : s ≤ 1000) (g1 : 0 ≤ c.s) (g2 : c.s ≤ 1000) :
  Calls Tryz.prog 184 #[.agg #[.int .i64 c.t, .int .i64 c.wd, .int .i64 c.s, .int .i64 c.g, .int .i64 c.r, .int .i64 c.cp, .int .i64 c.f], .int .i64 s] w fun e w' => e = .returned (.int .i64 (hOwn K s)) ∧ Below w.heap.size w w' := by
 have e1 : IntKind.i64.wrap (3 + c.s) = 3 + c.s := wrapP _ (by omega) (by omega)
 have e2 : IntKind.i64.wrap (3 + c.s + s) = 3 + c.s + s := wrapP _ (by omega) (by omega)
 unfold hOwn
 rw [hK]
 clear hK
 go_enter Tryz.func184, Tryz.ntmps184
 go_wp2
 go_ret
 exact ⟨rfl, (Below.refl _ _).alloc (Nat.le_refl _) _⟩
set_option maxHeartbeats 1000000 in
theorem status_any (c : Cfg) (K : Cx) (hK : K.c = c) (s : Int) (w : World) (h1 : -1 ≤ s) (h2 : s ≤ 1000) (g1 : 0 ≤ c.s) (g2 : c.s ≤ 1000) :
  Calls Tryz.prog 220 #[.agg #[.int .i64 c.t, .int .i64 c.wd, .int .i64 c.s, .int .i64 c.g, .int .i64 c.r, .int .i64 c.cp, .int .i64 c.f], .int .i64 s] w fun e w' => e = .returned (.int .i64 (hSta K s)) ∧ Below w.heap.size w w' := by
 have e0 : IntKind.i64.wrap (2 * c.s) = 2 * c.s := wrapP _ (by omega) (by omega)
 have e1 : IntKind.i64.wrap (3 + 2 * c.s) = 3 + 2 * c.s := wrapP _ (by omega) (by omega)
 have e2 : IntKind.i64.wrap (3 + 2 * c.s + s) = 3 + 2 * c.s + s := wrapP _ (by omega) (by omega)
 unfold hSta
 rw [hK]
 clear hK
 go_enter Tryz.func220, Tryz.ntmps220
 go_wp2
 go_ret
 exact ⟨rfl, (Below.refl _ _).alloc (Nat.le_refl _) _⟩
set_option maxHeartbeats 1000000 in
theorem wordCell_any (c : Cfg) (K : Cx) (hK : K.c = c) (s : Int) (w : World) (h1 : 0 ≤ s) (h2 : s ≤ 1000) (g1 : 0 ≤ c.s) (g2 : c.s ≤ 1000) (t1 : 0 ≤ c.t) (t2 : c.t ≤ 1000) :
  Calls Tryz.prog 133 #[.agg #[.int .i64 c.t, .int .i64 c.wd, .int .i64 c.s, .int .i64 c.g, .int .i64 c.r, .int .i64 c.cp, .int .i64 c.f], .int .i64 s] w fun e w' => e = .returned (.int .i64 (hWrd K s)) ∧ Below w.heap.size w w' := by
 have e0 : IntKind.i64.wrap (2 * c.s) = 2 * c.s := wrapP _ (by omega) (by omega)
 have e1 : IntKind.i64.wrap (3 + 2 * c.s) = 3 + 2 * c.s := wrapP _ (by omega) (by omega)
 have e2 : IntKind.i64.wrap (3 + 2 * c.s + c.t) = 3 + 2 * c.s + c.t := wrapP _ (by omega) (by omega)
 have e3 : IntKind.i64.wrap (3 + 2 * c.s + c.t + s) = 3 + 2 * c.s + c.t + s := wrapP _ (by omega) (by omega)
 unfold hWrd
 rw [hK]
 clear hK
 go_enter Tryz.func133, Tryz.ntmps133
 go_wp2
 go_ret
 exact ⟨rfl, (Below.refl _ _).alloc (Nat.le_refl _) _⟩
structure Ls where
 ma : Option Addr
 mc : Nat
 ra : Option Addr
 rc : Nat
 wa : Option Addr
 wc : Nat
 ha : Option Addr
 hc : Nat
 na : Option Addr
 nc : Nat
 sa : Option Addr
 sc : Nat
def tArr (t : PT) (L : Ls) : List Value :=
 [.int .i64 t.c.t, .int .i64 t.c.wd, .int .i64 t.c.s, .int .i64 t.c.g, .int .i64 t.c.r, .int .i64 t.c.cp, .int .i64 t.c.f,
     .int .i64 t.num, .slice L.ma t.mine.length L.mc, .int .i64 t.cur, .slice L.sa t.res.length L.sc, .int .i64 t.rank, .int .i64 t.fails, .int .i64 t.rest, .int .i64 t.step,
     .int .i64 t.order.kind, .int .i64 t.order.cell, .int .i64 t.order.frm, .int .i64 t.order.to,
     .int .i64 t.aTh, .int .i64 t.aJob, .int .i64 t.aStart, .int .i64 t.aEnd, .int .i64 t.valid, .int .i64 t.aStamp, .int .i64 t.aFate, .slice L.na t.notes.length L.nc,
     .int .i64 (t.m.regs.getD 0 0), .int .i64 (t.m.regs.getD 1 0), .int .i64 (t.m.regs.getD 2 0), .int .i64 (t.m.regs.getD 3 0), .int .i64 t.m.place, .int .i64 t.m.begun, .int .i64 t.m.into,
     .int .i64 t.turn.fate, .int .i64 t.turn.op, .int .i64 t.turn.addr, .int .i64 t.turn.val,
     .slice L.ra t.reads.length L.rc, .slice L.wa t.writes.length L.wc, .slice L.ha t.held.length L.hc,
     .int .i64 t.version, .int .i64 t.value, .int .i64 t.rival, .int .i64 t.wayTo, .int .i64 t.clock, .int .i64 t.at_]
def TAt (w : World) (p z : Nat) (A B : List Value) (t : PT) (L : Ls) : Prop := Seg w p z 138 A B (tArr t L)
theorem TAt.cell {w : World} {p z : Nat} {A B : List Value} {t : PT} {L : Ls} (h : TAt w p z A B t L) (i : Nat) (hi : i < 47) : w.cell? ⟨p, z + i, none⟩ = (tArr t L)[i]? := Seg.cell h i hi
theorem TAt.set {w : World} {p z : Nat} {A B : List Value} {t t' : PT} {L L' : Ls} (h : TAt w p z A B t L) (i : Nat) (hi : i < 47) (v : Value) (e : (tArr t L).set i v = tArr t' L') : TAt (w.setCell ⟨p, z + i, none⟩ v) p z A B t' L' :=
 (Seg.set h i hi v).congr e
theorem TAt.froz {w : World} {p z : Nat} {A B : List Value} {t : PT} {L : Ls} (h : TAt w p z A B t L) (i : Nat) : w.frozen? ⟨p, i, none⟩ = false := Seg.frozen h i
theorem TAt.lt {w : World} {p z : Nat} {A B : List Value} {t : PT} {L : Ls} (h : TAt w p z A B t L) : p < w.heap.size := Seg.lt h
theorem TAt.below {w w' : World} {p z : Nat} {A B : List Value} {t : PT} {L : Ls} (h : TAt w p z A B t L) (hb : Below w.heap.size w w') : TAt w' p z A B t L := Seg.below h hb (Seg.lt h)
theorem TAt.drewN {w : World} {p z : Nat} {A B : List Value} {t : PT} {L : Ls} (h : TAt w p z A B t L) (n : Nat) : TAt (w.drewN n) p z A B t L := Seg.drewN h n
section
variable {w : World} {p z : Nat} {A B : List Value} {t : PT} {L : Ls}
theorem TAt.cT (h : TAt w p z A B t L) : w.cell? ⟨p, z, none⟩ = some (.int .i64 t.c.t) := Seg.cell h 0 (show 0 < 47 by decide)
theorem TAt.cWd (h : TAt w p z A B t L) : w.cell? ⟨p, z + 1, none⟩ = some (.int .i64 t.c.wd) := h.cell 1 (by decide)
theorem TAt.cS (h : TAt w p z A B t L) : w.cell? ⟨p, z + 2, none⟩ = some (.int .i64 t.c.s) := h.cell 2 (by decide)
theorem TAt.cG (h : TAt w p z A B t L) : w.cell? ⟨p, z + 3, none⟩ = some (.int .i64 t.c.g) := h.cell 3 (by decide)
theorem TAt.cR (h : TAt w p z A B t L) : w.cell? ⟨p, z + 4, none⟩ = some (.int .i64 t.c.r) := h.cell 4 (by decide)
theorem TAt.cCp (h : TAt w p z A B t L) : w.cell? ⟨p, z + 5, none⟩ = some (.int .i64 t.c.cp) := h.cell 5 (by decide)
theorem TAt.cF (h : TAt w p z A B t L) : w.cell? ⟨p, z + 6, none⟩ = some (.int .i64 t.c.f) := h.cell 6 (by decide)
theorem TAt.cNum (h : TAt w p z A B t L) : w.cell? ⟨p, z + 7, none⟩ = some (.int .i64 t.num) := h.cell 7 (by decide)
theorem TAt.cCur (h : TAt w p z A B t L) : w.cell? ⟨p, z + 9, none⟩ = some (.int .i64 t.cur) := h.cell 9 (by decide)
theorem TAt.cRank (h : TAt w p z A B t L) : w.cell? ⟨p, z + 11, none⟩ = some (.int .i64 t.rank) := h.cell 11 (by decide)
theorem TAt.cFails (h : TAt w p z A B t L) : w.cell? ⟨p, z + 12, none⟩ = some (.int .i64 t.fails) := h.cell 12 (by decide)
theorem TAt.cRest (h : TAt w p z A B t L) : w.cell? ⟨p, z + 13, none⟩ = some (.int .i64 t.rest) := h.cell 13 (by decide)
theorem TAt.cStep (h : TAt w p z A B t L) : w.cell? ⟨p, z + 14, none⟩ = some (.int .i64 t.step) := h.cell 14 (by decide)
theorem TAt.cKind (h : TAt w p z A B t L) : w.cell? ⟨p, z + 15, none⟩ = some (.int .i64 t.order.kind) := h.cell 15 (by decide)
theorem TAt.cCell (h : TAt w p z A B t L) : w.cell? ⟨p, z + 15 + 1, none⟩ = some (.int .i64 t.order.cell) := h.cell 16 (by decide)
theorem TAt.cFrm (h : TAt w p z A B t L) : w.cell? ⟨p, z + 15 + 2, none⟩ = some (.int .i64 t.order.frm) := h.cell 17 (by decide)
theorem TAt.cTo (h : TAt w p z A B t L) : w.cell? ⟨p, z + 15 + 3, none⟩ = some (.int .i64 t.order.to) := h.cell 18 (by decide)
theorem TAt.cFate (h : TAt w p z A B t L) : w.cell? ⟨p, z + 19 + 15, none⟩ = some (.int .i64 t.turn.fate) := h.cell 34 (by decide)
theorem TAt.cOp (h : TAt w p z A B t L) : w.cell? ⟨p, z + 19 + 15 + 1, none⟩ = some (.int .i64 t.turn.op) := h.cell 35 (by decide)
theorem TAt.cAddr (h : TAt w p z A B t L) : w.cell? ⟨p, z + 19 + 15 + 2, none⟩ = some (.int .i64 t.turn.addr) := h.cell 36 (by decide)
theorem TAt.cVal (h : TAt w p z A B t L) : w.cell? ⟨p, z + 19 + 15 + 3, none⟩ = some (.int .i64 t.turn.val) := h.cell 37 (by decide)
theorem TAt.cValid (h : TAt w p z A B t L) : w.cell? ⟨p, z + 19 + 4, none⟩ = some (.int .i64 t.valid) := h.cell 23 (by decide)
theorem TAt.cVersion (h : TAt w p z A B t L) : w.cell? ⟨p, z + 19 + 22, none⟩ = some (.int .i64 t.version) := h.cell 41 (by decide)
theorem TAt.cValue (h : TAt w p z A B t L) : w.cell? ⟨p, z + 19 + 23, none⟩ = some (.int .i64 t.value) := h.cell 42 (by decide)
theorem TAt.cRival (h : TAt w p z A B t L) : w.cell? ⟨p, z + 19 + 24, none⟩ = some (.int .i64 t.rival) := h.cell 43 (by decide)
theorem TAt.cWay (h : TAt w p z A B t L) : w.cell? ⟨p, z + 19 + 25, none⟩ = some (.int .i64 t.wayTo) := h.cell 44 (by decide)
theorem TAt.cClock (h : TAt w p z A B t L) : w.cell? ⟨p, z + 19 + 26, none⟩ = some (.int .i64 t.clock) := h.cell 45 (by decide)
theorem TAt.cAt (h : TAt w p z A B t L) : w.cell? ⟨p, z + 19 + 27, none⟩ = some (.int .i64 t.at_) := h.cell 46 (by decide)
theorem TAt.cEnd (h : TAt w p z A B t L) : w.cell? ⟨p, z + 19 + 3, none⟩ = some (.int .i64 t.aEnd) := h.cell 22 (by decide)
theorem TAt.cStamp (h : TAt w p z A B t L) : w.cell? ⟨p, z + 19 + 5, none⟩ = some (.int .i64 t.aStamp) := h.cell 24 (by decide)
theorem TAt.cAFate (h : TAt w p z A B t L) : w.cell? ⟨p, z + 19 + 6, none⟩ = some (.int .i64 t.aFate) := h.cell 25 (by decide)
theorem TAt.cNotes (h : TAt w p z A B t L) : w.cell? ⟨p, z + 19 + 7, none⟩ = some (.slice L.na t.notes.length L.nc) := h.cell 26 (by decide)
theorem TAt.cRes (h : TAt w p z A B t L) : w.cell? ⟨p, z + 10, none⟩ = some (.slice L.sa t.res.length L.sc) := h.cell 10 (by decide)
theorem TAt.cMine (h : TAt w p z A B t L) : w.cell? ⟨p, z + 8, none⟩ = some (.slice L.ma t.mine.length L.mc) := h.cell 8 (by decide)
theorem TAt.cReads (h : TAt w p z A B t L) : w.cell? ⟨p, z + 19 + 19, none⟩ = some (.slice L.ra t.reads.length L.rc) := h.cell 38 (by decide)
theorem TAt.cWrites (h : TAt w p z A B t L) : w.cell? ⟨p, z + 19 + 20, none⟩ = some (.slice L.wa t.writes.length L.wc) := h.cell 39 (by decide)
theorem TAt.cHeld (h : TAt w p z A B t L) : w.cell? ⟨p, z + 19 + 21, none⟩ = some (.slice L.ha t.held.length L.hc) := h.cell 40 (by decide)
end
def DidT (p z : Nat) (A B : List Value) (t : PT) (L : Ls) (w : World) (e : Ending) (w' : World) : Prop := e = .returned (.tuple #[]) ∧ TAt w' p z A B t L ∧ Only p w w'
set_option maxHeartbeats 1000000 in
theorem t_load (p z : Nat) (A B : List Value) (t : PT) (L : Ls) (step cell : Int) (w : World) (hb : TAt w p z A B t L) :
  Calls Tryz.prog 153 #[.pointer (some ⟨p, z, none⟩), .int .i64 step, .int .i64 cell] w (DidT p z A B (yLoad step cell t) L w) := by
 have h13 := hb.cStep
 have h14 := hb.cKind
 have h15 := hb.cCell
 have h16 := hb.cFrm
 have h17 := hb.cTo
 have hf := hb.froz
 have HB : Hid (TAt w p z A B t L) := hb
 clear hb
 go_enter Tryz.func153, Tryz.ntmps153
 go_wp2
 go_end0
 exact ⟨rfl, ((((((HB.out).set (t' := { t with step := step }) 14 (by decide) _ rfl).set (t' := { t with step := step, order := ⟨1, t.order.cell, t.order.frm, t.order.to⟩ }) 15 (by decide) _ rfl).set (t' := { t with step := step, order := ⟨1, cell, t.order.frm, t.order.to⟩ }) 16 (by decide) _ rfl).set (t' := { t with step := step, order := ⟨1, cell, 0, t.order.to⟩ }) 17 (by decide) _ rfl).set (t' := { t with step := step, order := ⟨1, cell, 0, 0⟩ }) 18 (by decide) _ rfl), (((((Only.refl _ _).set).set).set).set).set⟩
set_option maxHeartbeats 1000000 in
theorem t_store (p z : Nat) (A B : List Value) (t : PT) (L : Ls) (step cell put : Int) (w : World) (hb : TAt w p z A B t L) :
  Calls Tryz.prog 197 #[.pointer (some ⟨p, z, none⟩), .int .i64 step, .int .i64 cell, .int .i64 put] w (DidT p z A B (yStore step cell put t) L w) := by
 have h13 := hb.cStep
 have h14 := hb.cKind
 have h15 := hb.cCell
 have h16 := hb.cFrm
 have h17 := hb.cTo
 have hf := hb.froz
 have HB : Hid (TAt w p z A B t L) := hb
 clear hb
 go_enter Tryz.func197, Tryz.ntmps197
 go_wp2
 go_end0
 exact ⟨rfl, ((((((HB.out).set (t' := { t with step := step }) 14 (by decide) _ rfl).set (t' := { t with step := step, order := ⟨2, t.order.cell, t.order.frm, t.order.to⟩ }) 15 (by decide) _ rfl).set (t' := { t with step := step, order := ⟨2, cell, t.order.frm, t.order.to⟩ }) 16 (by decide) _ rfl).set (t' := { t with step := step, order := ⟨2, cell, 0, t.order.to⟩ }) 17 (by decide) _ rfl).set (t' := { t with step := step, order := ⟨2, cell, 0, put⟩ }) 18 (by decide) _ rfl), (((((Only.refl _ _).set).set).set).set).set⟩
set_option maxHeartbeats 1000000 in
theorem t_swap (p z : Nat) (A B : List Value) (t : PT) (L : Ls) (step cell frm put : Int) (w : World) (hb : TAt w p z A B t L) :
  Calls Tryz.prog 183 #[.pointer (some ⟨p, z, none⟩), .int .i64 step, .int .i64 cell, .int .i64 frm, .int .i64 put] w (DidT p z A B (ySwap step cell frm put t) L w) := by
 have h13 := hb.cStep
 have h14 := hb.cKind
 have h15 := hb.cCell
 have h16 := hb.cFrm
 have h17 := hb.cTo
 have hf := hb.froz
 have HB : Hid (TAt w p z A B t L) := hb
 clear hb
 go_enter Tryz.func183, Tryz.ntmps183
 go_wp2
 go_end0
 exact ⟨rfl, ((((((HB.out).set (t' := { t with step := step }) 14 (by decide) _ rfl).set (t' := { t with step := step, order := ⟨3, t.order.cell, t.order.frm, t.order.to⟩ }) 15 (by decide) _ rfl).set (t' := { t with step := step, order := ⟨3, cell, t.order.frm, t.order.to⟩ }) 16 (by decide) _ rfl).set (t' := { t with step := step, order := ⟨3, cell, frm, t.order.to⟩ }) 17 (by decide) _ rfl).set (t' := { t with step := step, order := ⟨3, cell, frm, put⟩ }) 18 (by decide) _ rfl), (((((Only.refl _ _).set).set).set).set).set⟩
set_option maxHeartbeats 1000000 in
theorem t_take (p z : Nat) (A B : List Value) (t : PT) (L : Ls) (step cell : Int) (w : World) (hb : TAt w p z A B t L) :
  Calls Tryz.prog 218 #[.pointer (some ⟨p, z, none⟩), .int .i64 step, .int .i64 cell] w (DidT p z A B (yTake step cell t) L w) := by
 have h13 := hb.cStep
 have h14 := hb.cKind
 have h15 := hb.cCell
 have h16 := hb.cFrm
 have h17 := hb.cTo
 have hf := hb.froz
 have HB : Hid (TAt w p z A B t L) := hb
 clear hb
 go_enter Tryz.func218, Tryz.ntmps218
 go_wp2
 go_end0
 exact ⟨rfl, ((((((HB.out).set (t' := { t with step := step }) 14 (by decide) _ rfl).set (t' := { t with step := step, order := ⟨4, t.order.cell, t.order.frm, t.order.to⟩ }) 15 (by decide) _ rfl).set (t' := { t with step := step, order := ⟨4, cell, t.order.frm, t.order.to⟩ }) 16 (by decide) _ rfl).set (t' := { t with step := step, order := ⟨4, cell, 0, t.order.to⟩ }) 17 (by decide) _ rfl).set (t' := { t with step := step, order := ⟨4, cell, 0, 0⟩ }) 18 (by decide) _ rfl), (((((Only.refl _ _).set).set).set).set).set⟩
end Go.Proofs.YtejadojilncbjabGreat
