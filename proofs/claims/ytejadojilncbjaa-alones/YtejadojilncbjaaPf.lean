import Derived.Test.YtejadojilncbjaaPc
import Derived.Test.YtejadojilncbjaaPd
import Derived.Test.YtejadojilncbjaaPe
namespace Go.Proofs.Ytejadojilncbjaa
open Go.RowKit
set_option linter.unusedVariables false

def MOk (m : MS) : Prop := m.regs.length = 4 ∧ ∀ v ∈ m.regs, 0 ≤ v ∧ v ≤ 65535
def mReg (m : MS) (i : Int) : Int := m.regs.getD i.toNat 0

/-- An instruction that needs nothing but the registers. -/
def pComp (m : MS) (i : InsD) : MS :=
  if i.op = 2 then { m with regs := m.regs.set i.a.toNat i.b }
  else if i.op = 3 then { m with regs := m.regs.set i.a.toNat ((mReg m i.b + mReg m i.c).tmod 65536) }
  else if i.op = 4 then { m with regs := m.regs.set i.a.toNat ((mReg m i.b + 65535 + 1 - mReg m i.c).tmod 65536) }
  else if i.op = 5 then { m with place := i.c.toNat }
  else if mReg m i.a < mReg m i.b then { m with place := i.c.toNat } else m

theorem formed2 {i : InsD} {n : Int} (h : formedB i n = true) (o : i.op = 2) : (0 ≤ i.a ∧ i.a ≤ 3) ∧ (0 ≤ i.b ∧ i.b ≤ 65535) := by
  simp [formedB, o, inB] at h
  omega
theorem formed34 {i : InsD} {n : Int} (h : formedB i n = true) (o : i.op = 3 ∨ i.op = 4) : (0 ≤ i.a ∧ i.a ≤ 3) ∧ (0 ≤ i.b ∧ i.b ≤ 3) ∧ (0 ≤ i.c ∧ i.c ≤ 3) := by
  unfold formedB at h
  rw [if_neg (by omega), if_neg (by omega), if_pos o] at h
  simp [inB] at h
  omega
theorem formed5 {i : InsD} {n : Int} (h : formedB i n = true) (o : i.op = 5) : 0 ≤ i.c ∧ i.c ≤ n := by
  simp [formedB, o, inB] at h
  omega
theorem formed6 {i : InsD} {n : Int} (h : formedB i n = true) (o : i.op = 6) : (0 ≤ i.a ∧ i.a ≤ 3) ∧ (0 ≤ i.b ∧ i.b ≤ 3) ∧ (0 ≤ i.c ∧ i.c ≤ n) := by
  simp [formedB, o, inB] at h
  omega
theorem formed78 {i : InsD} {n : Int} (h : formedB i n = true) (o : i.op = 7 ∨ i.op = 8) : (0 ≤ i.a ∧ i.a ≤ 3) ∧ (0 ≤ i.b ∧ i.b ≤ 3) := by
  unfold formedB at h
  rw [if_neg (by omega), if_neg (by omega), if_neg (by omega), if_neg (by omega), if_neg (by omega), if_pos o] at h
  simp [inB] at h
  omega
theorem formed_op {i : InsD} {n : Int} (h : formedB i n = true) : 0 ≤ i.op ∧ i.op ≤ 8 := by
  unfold formedB at h
  by_cases h1 : i.op = 0 ∨ i.op = 1
  · omega
  rw [if_neg h1] at h
  by_cases h2 : i.op = 2
  · omega
  rw [if_neg h2] at h
  by_cases h3 : i.op = 3 ∨ i.op = 4
  · omega
  rw [if_neg h3] at h
  by_cases h5 : i.op = 5
  · omega
  rw [if_neg h5] at h
  by_cases h6 : i.op = 6
  · omega
  rw [if_neg h6] at h
  by_cases h7 : i.op = 7 ∨ i.op = 8
  · omega
  rw [if_neg h7] at h
  cases h

theorem compute_any (p : Nat) (m : MS) (i : InsD) (n : Int) (w : World) (hb : Blk w p 92 (mArr m)) (hm : MOk m) (hf : formedB i n = true) (ho : 2 ≤ i.op ∧ i.op ≤ 6) :
    Calls Try.prog 57 #[.pointer (some ⟨p, 0, none⟩), .agg #[.int .i64 i.op, .int .i64 i.a, .int .i64 i.b, .int .i64 i.c]] w fun e w' => e = .returned (.tuple #[]) ∧ Blk w' p 92 (mArr (pComp m i)) ∧ Only p w w' := by
  obtain ⟨op, a, b, c⟩ := i
  simp only at ho
  by_cases o2 : op = 2
  · subst o2
    obtain ⟨⟨a0, a1⟩, _⟩ := formed2 hf rfl
    obtain ⟨ka, rfl⟩ := Int.eq_ofNat_of_zero_le a0
    exact compute_set p ka m b c w hb hm.1 (by simp only at a1; omega)
  by_cases o3 : op = 3
  · subst o3
    obtain ⟨⟨a0, a1⟩, ⟨b0, b1⟩, ⟨c0, c1⟩⟩ := formed34 hf (Or.inl rfl)
    obtain ⟨ka, rfl⟩ := Int.eq_ofNat_of_zero_le a0
    obtain ⟨kb, rfl⟩ := Int.eq_ofNat_of_zero_le b0
    obtain ⟨kc, rfl⟩ := Int.eq_ofNat_of_zero_le c0
    exact compute_add p ka kb kc m w hb hm.1 hm.2 (by simp only at a1; omega) (by simp only at b1; omega) (by simp only at c1; omega)
  by_cases o4 : op = 4
  · subst o4
    obtain ⟨⟨a0, a1⟩, ⟨b0, b1⟩, ⟨c0, c1⟩⟩ := formed34 hf (Or.inr rfl)
    obtain ⟨ka, rfl⟩ := Int.eq_ofNat_of_zero_le a0
    obtain ⟨kb, rfl⟩ := Int.eq_ofNat_of_zero_le b0
    obtain ⟨kc, rfl⟩ := Int.eq_ofNat_of_zero_le c0
    exact compute_sub p ka kb kc m w hb hm.1 hm.2 (by simp only at a1; omega) (by simp only at b1; omega) (by simp only at c1; omega)
  by_cases o5 : op = 5
  · subst o5
    obtain ⟨c0, c1⟩ := formed5 hf rfl
    obtain ⟨kc, rfl⟩ := Int.eq_ofNat_of_zero_le c0
    exact compute_jump p kc m a b w hb
  · have o6 : op = 6 := by omega
    subst o6
    obtain ⟨⟨a0, a1⟩, ⟨b0, b1⟩, ⟨c0, c1⟩⟩ := formed6 hf rfl
    obtain ⟨ka, rfl⟩ := Int.eq_ofNat_of_zero_le a0
    obtain ⟨kb, rfl⟩ := Int.eq_ofNat_of_zero_le b0
    obtain ⟨kc, rfl⟩ := Int.eq_ofNat_of_zero_le c0
    exact compute_less p ka kb kc m w hb (by simp only at a1; omega) (by simp only at b1; omega)

/-- What Next tells. -/
structure TurnD where
  fate : Int
  op : Int
  addr : Int
  val : Int

def turnCells (t : TurnD) : Array Value := #[.int .i64 t.fate, .int .i64 t.op, .int .i64 t.addr, .int .i64 t.val]

/-- A Read or Write comes up. -/
def pWord (wd : Int) (m : MS) (i : InsD) : TurnD × MS :=
  if i.op = 7 then ((if inB (mReg m i.b) 0 (wd - 1) then ⟨0, 7, mReg m i.b, 0⟩ else ⟨3, 0, 0, 0⟩), { m with into := i.a })
  else ((if inB (mReg m i.a) 0 (wd - 1) then ⟨0, 8, mReg m i.a, mReg m i.b⟩ else ⟨3, 0, 0, 0⟩), m)

theorem word_any (p : Nat) (m : MS) (i : InsD) (n wd : Int) (w : World) (hb : Blk w p 92 (mArr m)) (hf : formedB i n = true) (ho : i.op = 7 ∨ i.op = 8) (hw1 : 1 ≤ wd) (hw2 : wd ≤ 8) :
    Calls Try.prog 56 #[.pointer (some ⟨p, 0, none⟩), .agg #[.int .i64 i.op, .int .i64 i.a, .int .i64 i.b, .int .i64 i.c], .int .i64 wd] w fun e w' => e = .returned (.agg (turnCells (pWord wd m i).1)) ∧ Blk w' p 92 (mArr (pWord wd m i).2) ∧ Only p w w' := by
  obtain ⟨op, a, b, c⟩ := i
  obtain ⟨⟨a0, a1⟩, ⟨b0, b1⟩⟩ := formed78 hf ho
  obtain ⟨ka, rfl⟩ := Int.eq_ofNat_of_zero_le a0
  obtain ⟨kb, rfl⟩ := Int.eq_ofNat_of_zero_le b0
  simp only at ho a1 b1
  rcases ho with rfl | rfl
  · refine (word_read p ka kb m c wd w hb (by omega) hw1 hw2).mono ?_
    rintro e w' ⟨rfl, h1, h2⟩
    refine ⟨?_, h1, h2⟩
    unfold pWord turnCells mReg
    simp only [if_true, Int.toNat_natCast]
    split <;> rfl
  · refine (word_write p ka kb m c wd w hb (by omega) (by omega) hw1 hw2).mono ?_
    rintro e w' ⟨rfl, h1, h2⟩
    have e : pWord wd m ⟨8, (ka : Int), (kb : Int), c⟩ = ((if inB (m.regs.getD ka 0) 0 (wd - 1) then ⟨0, 8, m.regs.getD ka 0, m.regs.getD kb 0⟩ else ⟨3, 0, 0, 0⟩), m) := if_neg (by simp)
    rw [e]
    refine ⟨?_, h1, h2⟩
    by_cases hin : inB (m.regs.getD ka 0) 0 (wd - 1) = true
    · simp only [hin, if_true]
      rfl
    · simp only [hin]
      rfl

/-- Next. -/
def pNext (f wd : Int) (code : List InsD) : Nat → MS → TurnD × MS
  | 0, m => (⟨0, 0, 0, 0⟩, m)
  | n + 1, m =>
    if code.length ≤ m.place then (⟨1, 0, 0, 0⟩, m) else if f ≤ m.begun then (⟨4, 0, 0, 0⟩, m) else
      let i := insAt code m.place
      if formedB i code.length = false then (⟨3, 0, 0, 0⟩, { m with begun := m.begun + 1 }) else
        let m2 : MS := { m with begun := m.begun + 1, place := m.place + 1 }
        if i.op = 0 then (⟨1, 0, 0, 0⟩, m2) else if i.op = 1 then (⟨2, 0, 0, 0⟩, m2) else if i.op = 7 ∨ i.op = 8 then pWord wd m2 i else pNext f wd code n (pComp m2 i)

theorem MOk.comp {m : MS} {i : InsD} {n : Int} (h : MOk m) (hf : formedB i n = true) (ho : 2 ≤ i.op ∧ i.op ≤ 6) : MOk (pComp m i) := by
  have hreg : ∀ k : Int, 0 ≤ mReg m k ∧ mReg m k ≤ 65535 := fun k => by
    unfold mReg
    by_cases hk : k.toNat < m.regs.length
    · rw [show m.regs.getD k.toNat 0 = m.regs[k.toNat] from by simp [List.getD, List.getElem?_eq_getElem hk]]
      exact h.2 _ (List.getElem_mem hk)
    · rw [show m.regs.getD k.toNat 0 = 0 from by simp [List.getD, List.getElem?_eq_none (Nat.le_of_not_lt hk)]]
      omega
  have hset : ∀ (k : Nat) (v : Int), 0 ≤ v → v ≤ 65535 → MOk { m with regs := m.regs.set k v } := fun k v h0 h1 => by
    refine ⟨by simp [h.1], fun u hu => ?_⟩
    rcases List.mem_or_eq_of_mem_set hu with h2 | h2
    · exact h.2 u h2
    · omega
  have hmod : ∀ v : Int, 0 ≤ v → 0 ≤ v.tmod 65536 ∧ v.tmod 65536 ≤ 65535 := fun v hv => ⟨Int.tmod_nonneg _ hv, by have := Int.tmod_lt_of_pos v (b := 65536) (by omega); omega⟩
  unfold pComp
  split
  · rename_i o
    obtain ⟨_, b0, b1⟩ := formed2 hf o
    exact hset _ _ b0 b1
  split
  · have h1 := hreg i.b
    have h2 := hreg i.c
    have := hmod (mReg m i.b + mReg m i.c) (by omega)
    exact hset _ _ this.1 this.2
  split
  · have h1 := hreg i.b
    have h2 := hreg i.c
    have := hmod (mReg m i.b + 65535 + 1 - mReg m i.c) (by omega)
    exact hset _ _ this.1 this.2
  split
  · exact h
  split
  · exact h
  · exact h

end Go.Proofs.Ytejadojilncbjaa
