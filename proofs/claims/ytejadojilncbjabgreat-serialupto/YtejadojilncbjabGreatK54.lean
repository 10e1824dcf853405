import Derived.Test.YtejadojilncbjabGreatK15
import Derived.Test.YtejadojilncbjabGreatK16
import Derived.Test.YtejadojilncbjabGreatK17
namespace Go.Proofs.YtejadojilncbjabGreat
open Go.RowKit
set_option linter.unusedVariables false
attribute [local go_sem ↓] Go.wp_at_zero Go.wp_at_succ
set_option maxRecDepth 100000 in
set_option maxHeartbeats 8000000 in
theorem word_read (p ka kb : Nat) (m : MS) (c wd : Int) (w : World) (hb : Blk w p 130 (mArr m)) (hkb : kb < 4) (hw1 : 1 ≤ wd) (hw2 : wd ≤ 8) :
  Calls Tryz.prog 124 #[.pointer (some ⟨p, 0, none⟩), .agg #[.int .i64 7, .int .i64 (ka : Int), .int .i64 (kb : Int), .int .i64 c], .int .i64 wd] w fun e w' =>
   e = .returned (.agg (if inB (m.regs.getD kb 0) 0 (wd - 1) then #[.int .i64 0, .int .i64 7, .int .i64 (m.regs.getD kb 0), .int .i64 0] else #[.int .i64 3, .int .i64 0, .int .i64 0, .int .i64 0])) ∧
    Blk w' p 130 (mArr { m with into := ka }) ∧ Only p w w' := by
 have HB : Hid (Blk w p 130 (mArr m)) := hb
 have h6 : w.cell? ⟨p, 6, none⟩ = some (.int .i64 m.into) := by rw [hb.cell]; rfl
 have hf := hb.frozen 6
 have hrb := mArr_reg hb kb hkb
 have hlt := hb.lt
 have hlt1 : p < w.heap.size + 1 := by omega
 have hlt2 : p < w.heap.size + 1 + 1 := by omega
 have hlt3 : p < w.heap.size + 2 := by omega
 have hkb0 : (0 : Int) ≤ (kb : Int) := by omega
 have hkb1 : (kb : Int) < 4 := by omega
 have hww : IntKind.i64.wrap (wd - 1) = wd - 1 := wrapP _ (by omega) (by omega)
 clear hb
 generalize m.regs.getD kb 0 = rb at *
 cases hin : inB rb 0 (wd - 1) with
 | true =>
  go_enter Tryz.func124, Tryz.ntmps124
  go_wp2_with fail
  go_region
  all_goals
   go_wp2_with (go_at_call 110; refine (within_any _ _ _ _).mono ?_; rintro e w' ⟨rfl, hw'⟩; rw [hin]; subst hw')
   refine bodyPost_ret (v := .agg #[.int .i64 0, .int .i64 7, .int .i64 rb, .int .i64 0]) (by simp [results, Tryz.results124, go_sem]) rfl ⟨rfl, ?_, ?_⟩
   ·exact (((((HB.out).set (i := 6) (v := .int .i64 (ka : Int))).congr (show _ = mArr { m with into := ka } by simp [mArr])).alloc _).alloc _).alloc _
   ·exact ((((Only.refl _ _).set).trans (Only.below ((((Below.refl _ _).alloc (Nat.le_refl _) _).alloc (by simp) _).alloc (by simp; omega) _)))).drew
 | false =>
  go_enter Tryz.func124, Tryz.ntmps124
  go_wp2_with fail
  go_region
  all_goals
   go_wp2_with (go_at_call 110; refine (within_any _ _ _ _).mono ?_; rintro e w' ⟨rfl, hw'⟩; rw [hin]; subst hw')
   refine bodyPost_ret (v := .agg #[.int .i64 3, .int .i64 0, .int .i64 0, .int .i64 0]) (by simp [results, Tryz.results124, go_sem]) rfl ⟨rfl, ?_, ?_⟩
   ·exact (((((HB.out).set (i := 6) (v := .int .i64 (ka : Int))).congr (show _ = mArr { m with into := ka } by simp [mArr])).alloc _).alloc _).alloc _
   ·exact ((((Only.refl _ _).set).trans (Only.below ((((Below.refl _ _).alloc (Nat.le_refl _) _).alloc (by simp) _).alloc (by simp; omega) _)))).drew
set_option maxRecDepth 100000 in
set_option maxHeartbeats 8000000 in
theorem word_write (p ka kb : Nat) (m : MS) (c wd : Int) (w : World) (hb : Blk w p 130 (mArr m)) (hka : ka < 4) (hkb : kb < 4) (hw1 : 1 ≤ wd) (hw2 : wd ≤ 8) :
  Calls Tryz.prog 124 #[.pointer (some ⟨p, 0, none⟩), .agg #[.int .i64 8, .int .i64 (ka : Int), .int .i64 (kb : Int), .int .i64 c], .int .i64 wd] w fun e w' =>
   e = .returned (.agg (if inB (m.regs.getD ka 0) 0 (wd - 1) then #[.int .i64 0, .int .i64 8, .int .i64 (m.regs.getD ka 0), .int .i64 (m.regs.getD kb 0)] else #[.int .i64 3, .int .i64 0, .int .i64 0, .int .i64 0])) ∧
    Blk w' p 130 (mArr m) ∧ Only p w w' := by
 have HB : Hid (Blk w p 130 (mArr m)) := hb
 have hra := mArr_reg hb ka hka
 have hrb := mArr_reg hb kb hkb
 have hlt := hb.lt
 have hlt1 : p < w.heap.size + 1 := by omega
 have hlt2 : p < w.heap.size + 1 + 1 := by omega
 have hlt3 : p < w.heap.size + 2 := by omega
 have hka0 : (0 : Int) ≤ (ka : Int) := by omega
 have hka1 : (ka : Int) < 4 := by omega
 have hkb0 : (0 : Int) ≤ (kb : Int) := by omega
 have hkb1 : (kb : Int) < 4 := by omega
 have hww : IntKind.i64.wrap (wd - 1) = wd - 1 := wrapP _ (by omega) (by omega)
 clear hb
 generalize m.regs.getD ka 0 = ra at *
 generalize m.regs.getD kb 0 = rb at *
 cases hin : inB ra 0 (wd - 1) with
 | true =>
  go_enter Tryz.func124, Tryz.ntmps124
  go_wp2_with fail
  go_region
  all_goals
   go_wp2_with fail
   go_region
   all_goals
    go_wp2_with (go_at_call 110; refine (within_any _ _ _ _).mono ?_; rintro e w' ⟨rfl, hw'⟩; rw [hin]; subst hw')
    refine bodyPost_ret (v := .agg #[.int .i64 0, .int .i64 8, .int .i64 ra, .int .i64 rb]) (by simp [results, Tryz.results124, go_sem]) rfl ⟨rfl, ?_, ?_⟩
    ·exact ((((HB.out).alloc _).alloc _).alloc _)
    ·exact (((Only.below ((((Below.refl _ _).alloc (Nat.le_refl _) _).alloc (by simp) _).alloc (by simp; omega) _)))).drew.drew
 | false =>
  go_enter Tryz.func124, Tryz.ntmps124
  go_wp2_with fail
  go_region
  all_goals
   go_wp2_with fail
   go_region
   all_goals
    go_wp2_with (go_at_call 110; refine (within_any _ _ _ _).mono ?_; rintro e w' ⟨rfl, hw'⟩; rw [hin]; subst hw')
    refine bodyPost_ret (v := .agg #[.int .i64 3, .int .i64 0, .int .i64 0, .int .i64 0]) (by simp [results, Tryz.results124, go_sem]) rfl ⟨rfl, ?_, ?_⟩
    ·exact ((((HB.out).alloc _).alloc _).alloc _)
    ·exact (((Only.below ((((Below.refl _ _).alloc (Nat.le_refl _) _).alloc (by simp) _).alloc (by simp; omega) _)))).drew.drew
end Go.Proofs.YtejadojilncbjabGreat
namespace Go.Proofs.YtejadojilncbjabGreat
open Go.RowKit
set_option linter.unusedVariables false
def MOk (m : MS) : Prop := m.regs.length = 4 ∧ ∀ v ∈ m.regs, 0 ≤ v ∧ v ≤ 65535
def mReg (m : MS) (i : Int) : Int := m.regs.getD i.toNat 0
def pComp (m : MS) (i : InsD) : MS :=
 if i.op = 2 then { m with regs := m.regs.set i.a.toNat i.b }
 else if i.op = 3 then { m with regs := m.regs.set i.a.toNat ((mReg m i.b + mReg m i.c).tmod 65536) }
 else if i.op = 4 then { m with regs := m.regs.set i.a.toNat ((mReg m i.b + 65535 + 1 - mReg m i.c).tmod 65536) }
 else if i.op = 5 then { m with place := i.c.toNat }
 else if mReg m i.a < mReg m i.b then { m with place := i.c.toNat } else m
theorem formed2 {i : InsD} {n : Int} (h : formedB i n = true) (o : i.op = 2) : (0 ≤ i.a ∧ i.a ≤ 3) ∧ (0 ≤ i.b ∧ i.b ≤ 65535) := by
 simp [formedB, o, inB] at h
 omega
theorem formed34 {i : InsD} {n : Int} (h : formedB i n = true) (o : i.op = 3 ∨ i.op = 4) : (0 ≤ i.a ∧ i.a ≤ 3) ∧ (0 ≤ i.b ∧ i.b ≤ 3) ∧ (0 ≤ i.c ∧ i.c ≤ 3) := by
 unfold formedB at h
 rw [if_neg (by omega), if_neg (by omega), if_pos o] at h
 simp [inB] at h
 omega
theorem formed5 {i : InsD} {n : Int} (h : formedB i n = true) (o : i.op = 5) : 0 ≤ i.c ∧ i.c ≤ n := by
 simp [formedB, o, inB] at h
 omega
theorem formed6 {i : InsD} {n : Int} (h : formedB i n = true) (o : i.op = 6) : (0 ≤ i.a ∧ i.a ≤ 3) ∧ (0 ≤ i.b ∧ i.b ≤ 3) ∧ (0 ≤ i.c ∧ i.c ≤ n) := by
 simp [formedB, o, inB] at h
 omega
theorem formed78 {i : InsD} {n : Int} (h : formedB i n = true) (o : i.op = 7 ∨ i.op = 8) : (0 ≤ i.a ∧ i.a ≤ 3) ∧ (0 ≤ i.b ∧ i.b ≤ 3) := by
 unfold formedB at h
 rw [if_neg (by omega), if_neg (by omega), if_neg (by omega), if_neg (by omega), if_neg (by omega), if_pos o] at h
 simp [inB] at h
 omega
theorem formed_op {i : InsD} {n : Int} (h : formedB i n = true) : 0 ≤ i.op ∧ i.op ≤ 8 := by
 unfold formedB at h
 by_cases h1 : i.op = 0 ∨ i.op = 1
 ·omega
 rw [if_neg h1] at h
 by_cases h2 : i.op = 2
 ·omega
 rw [if_neg h2] at h
 by_cases h3 : i.op = 3 ∨ i.op = 4
 ·omega
 rw [if_neg h3] at h
 by_cases h5 : i.op = 5
 ·omega
 rw [if_neg h5] at h
 by_cases h6 : i.op = 6
 ·omega
 rw [if_neg h6] at h
 by_cases h7 : i.op = 7 ∨ i.op = 8
 ·omega
 rw [if_neg h7] at h
 cases h
theorem compute_any (p : Nat) (m : MS) (i : InsD) (n : Int) (w : World) (hb : Blk w p 130 (mArr m)) (hm : MOk m) (hf : formedB i n = true) (ho : 2 ≤ i.op ∧ i.op ≤ 6) :
  Calls Tryz.prog 125 #[.pointer (some ⟨p, 0, none⟩), .agg #[.int .i64 i.op, .int .i64 i.a, .int .i64 i.b, .int .i64 i.c]] w fun e w' => e = .returned (.tuple #[]) ∧ Blk w' p 130 (mArr (pComp m i)) ∧ Only p w w' := by
 obtain ⟨op, a, b, c⟩ := i
 simp only at ho
 by_cases o2 : op = 2
 ·subst o2
  obtain ⟨⟨a0, a1⟩, _⟩ := formed2 hf rfl
  obtain ⟨ka, rfl⟩ := Int.eq_ofNat_of_zero_le a0
  exact compute_set p ka m b c w hb hm.1 (by simp only at a1; omega)
 by_cases o3 : op = 3
 ·subst o3
  obtain ⟨⟨a0, a1⟩, ⟨b0, b1⟩, ⟨c0, c1⟩⟩ := formed34 hf (Or.inl rfl)
  obtain ⟨ka, rfl⟩ := Int.eq_ofNat_of_zero_le a0
  obtain ⟨kb, rfl⟩ := Int.eq_ofNat_of_zero_le b0
  obtain ⟨kc, rfl⟩ := Int.eq_ofNat_of_zero_le c0
  exact compute_add p ka kb kc m w hb hm.1 hm.2 (by simp only at a1; omega) (by simp only at b1; omega) (by simp only at c1; omega)
 by_cases o4 : op = 4
 ·subst o4
  obtain ⟨⟨a0, a1⟩, ⟨b0, b1⟩, ⟨c0, c1⟩⟩ := formed34 hf (Or.inr rfl)
  obtain ⟨ka, rfl⟩ := Int.eq_ofNat_of_zero_le a0
  obtain ⟨kb, rfl⟩ := Int.eq_ofNat_of_zero_le b0
  obtain ⟨kc, rfl⟩ := Int.eq_ofNat_of_zero_le c0
  exact compute_sub p ka kb kc m w hb hm.1 hm.2 (by simp only at a1; omega) (by simp only at b1; omega) (by simp only at c1; omega)
 by_cases o5 : op = 5
 ·subst o5
  obtain ⟨c0, c1⟩ := formed5 hf rfl
  obtain ⟨kc, rfl⟩ := Int.eq_ofNat_of_zero_le c0
  exact compute_jump p kc m a b w hb
 ·have o6 : op = 6 := by omega
  subst o6
  obtain ⟨⟨a0, a1⟩, ⟨b0, b1⟩, ⟨c0, c1⟩⟩ := formed6 hf rfl
  obtain ⟨ka, rfl⟩ := Int.eq_ofNat_of_zero_le a0
  obtain ⟨kb, rfl⟩ := Int.eq_ofNat_of_zero_le b0
  obtain ⟨kc, rfl⟩ := Int.eq_ofNat_of_zero_le c0
  exact compute_less p ka kb kc m w hb (by simp only at a1; omega) (by simp only at b1; omega)
structure TurnD where
 fate : Int
 op : Int
 addr : Int
 val : Int
def turnCells (t : TurnD) : Array Value := #[.int .i64 t.fate, .int .i64 t.op, .int .i64 t.addr, .int .i64 t.val]
def pWord (wd : Int) (m : MS) (i : InsD) : TurnD × MS :=
 if i.op = 7 then ((if inB (mReg m i.b) 0 (wd - 1) then ⟨0, 7, mReg m i.b, 0⟩ else ⟨3, 0, 0, 0⟩), { m with into := i.a })
 else ((if inB (mReg m i.a) 0 (wd - 1) then ⟨0, 8, mReg m i.a, mReg m i.b⟩ else ⟨3, 0, 0, 0⟩), m)
theorem word_any (p : Nat) (m : MS) (i : InsD) (n wd : Int) (w : World) (hb : Blk w p 130 (mArr m)) (hf : formedB i n = true) (ho : i.op = 7 ∨ i.op = 8) (hw1 : 1 ≤ wd) (hw2 : wd ≤ 8) :
  Calls Tryz.prog 124 #[.pointer (some ⟨p, 0, none⟩), .agg #[.int .i64 i.op, .int .i64 i.a, .int .i64 i.b, .int .i64 i.c], .int .i64 wd] w fun e w' => e = .returned (.agg (turnCells (pWord wd m i).1)) ∧ Blk w' p 130 (mArr (pWord wd m i).2) ∧ Only p w w' := by
 obtain ⟨op, a, b, c⟩ := i
 obtain ⟨⟨a0, a1⟩, ⟨b0, b1⟩⟩ := formed78 hf ho
 obtain ⟨ka, rfl⟩ := Int.eq_ofNat_of_zero_le a0
 obtain ⟨kb, rfl⟩ := Int.eq_ofNat_of_zero_le b0
 simp only at ho a1 b1
 rcases ho with rfl | rfl
 ·refine (word_read p ka kb m c wd w hb (by omega) hw1 hw2).mono ?_
  rintro e w' ⟨rfl, h1, h2⟩
  refine ⟨?_, h1, h2⟩
  unfold pWord turnCells mReg
  simp only [if_true, Int.toNat_natCast]
  split <;> rfl
 ·refine (word_write p ka kb m c wd w hb (by omega) (by omega) hw1 hw2).mono ?_
  rintro e w' ⟨rfl, h1, h2⟩
  have e : pWord wd m ⟨8, (ka : Int), (kb : Int), c⟩ = ((if inB (m.regs.getD ka 0) 0 (wd - 1) then ⟨0, 8, m.regs.getD ka 0, m.regs.getD kb 0⟩ else ⟨3, 0, 0, 0⟩), m) := if_neg (by simp)
  rw [e]
  refine ⟨?_, h1, h2⟩
  by_cases hin : inB (m.regs.getD ka 0) 0 (wd - 1) = true
  ·simp only [hin, if_true]
   rfl
  ·simp only [hin]
   rfl
def pNext (f wd : Int) (code : List InsD) : Nat → MS → TurnD × MS
 | 0, m => (⟨0, 0, 0, 0⟩, m)
 | n + 1, m =>
  if code.length ≤ m.place then (⟨1, 0, 0, 0⟩, m) else if f ≤ m.begun then (⟨4, 0, 0, 0⟩, m) else
   let i := insAt code m.place
   if formedB i code.length = false then (⟨3, 0, 0, 0⟩, { m with begun := m.begun + 1 }) else
    let m2 : MS := { m with begun := m.begun + 1, place := m.place + 1 }
    if i.op = 0 then (⟨1, 0, 0, 0⟩, m2) else if i.op = 1 then (⟨2, 0, 0, 0⟩, m2) else if i.op = 7 ∨ i.op = 8 then pWord wd m2 i else pNext f wd code n (pComp m2 i)
theorem MOk.comp {m : MS} {i : InsD} {n : Int} (h : MOk m) (hf : formedB i n = true) (ho : 2 ≤ i.op ∧ i.op ≤ 6) : MOk (pComp m i) := by
 have hreg : ∀ k : Int, 0 ≤ mReg m k ∧ mReg m k ≤ 65535 := fun k => by
  unfold mReg
  by_cases hk : k.toNat < m.regs.length
  ·rw [show m.regs.getD k.toNat 0 = m.regs[k.toNat] from by simp [List.getD, List.getElem?_eq_getElem hk]]
   exact h.2 _ (List.getElem_mem hk)
  ·rw [show m.regs.getD k.toNat 0 = 0 from by simp [List.getD, List.getElem?_eq_none (Nat.le_of_not_lt hk)]]
   omega
 have hset : ∀ (k : Nat) (v : Int), 0 ≤ v → v ≤ 65535 → MOk { m with regs := m.regs.set k v } := fun k v h0 h1 => by
  refine ⟨by simp [h.1], fun u hu => ?_⟩
  rcases List.mem_or_eq_of_mem_set hu with h2 | h2
  ·exact h.2 u h2
  ·omega
 have hmod : ∀ v : Int, 0 ≤ v → 0 ≤ v.tmod 65536 ∧ v.tmod 65536 ≤ 65535 := fun v hv => ⟨Int.tmod_nonneg _ hv, by have := Int.tmod_lt_of_pos v (b := 65536) (by omega); omega⟩
 unfold pComp
 split
 ·rename_i o
  obtain ⟨_, b0, b1⟩ := formed2 hf o
  exact hset _ _ b0 b1
 split
 ·have h1 := hreg i.b
  have h2 := hreg i.c
  have := hmod (mReg m i.b + mReg m i.c) (by omega)
  exact hset _ _ this.1 this.2
 split
 ·have h1 := hreg i.b
  have h2 := hreg i.c
  have := hmod (mReg m i.b + 65535 + 1 - mReg m i.c) (by omega)
  exact hset _ _ this.1 this.2
 split
 ·exact h
 split
 ·exact h
 ·exact h
end Go.Proofs.YtejadojilncbjabGreat
