import Derived.Test.YtejadojilncbjaaPg
import Derived.Test.YtejadojilncbjaaSolo7
namespace Go.Proofs.Ytejadojilncbjaa
set_option linter.unusedVariables false

/-! The program's machine goes the ideal thread's steps. -/

theorem iSteps_zero (c : Cfg) (W : Int → Int) (n : Nat) (r : Int) (x : TS) (h : (iStep c W r x).1 = 0) :
    (iSteps c W (n + 1) r x).1 = (iSteps c W n (iStep c W r x).2.1 (iStep c W r x).2.2.1).1 ∧ (iSteps c W (n + 1) r x).2.2.1 = (iSteps c W n (iStep c W r x).2.1 (iStep c W r x).2.2.1).2.2.1 := by
  rw [iSteps]
  simp only [h, if_true]
  exact ⟨trivial, trivial⟩
theorem iSteps_one (c : Cfg) (W : Int → Int) (n : Nat) (r : Int) (x : TS) (h : (iStep c W r x).1 ≠ 0) : iSteps c W (n + 1) r x = iStep c W r x := by
  rw [iSteps]
  simp only [h, if_false]

/-- The machine stands where the thread stands. -/
structure Like (code : List InsD) (m : MS) (x : TS) : Prop where
  code : x.code = code
  regs : m.regs = x.regs
  place : m.place = x.place
  begun : m.begun = x.begun

def Told (c : Cfg) (W : Int → Int) (code : List InsD) (N : Nat) (r : Int) (x : TS) (u : TurnD × MS) : Prop :=
  MOk u.2 ∧
  ((u.1.fate ≠ 0 ∧ (iSteps c W N r x).1 = u.1.fate ∧ (iSteps c W N r x).2.2.1.regs = u.2.regs ∧ (iSteps c W N r x).2.2.1.writes = x.writes) ∨
   (u.1.fate = 0 ∧ ∃ (x1 : TS) (r1 : Int) (N1 : Nat), (iSteps c W N r x).1 = (iSteps c W N1 r1 x1).1 ∧ (iSteps c W N r x).2.2.1 = (iSteps c W N1 r1 x1).2.2.1 ∧ x1.code = code ∧ x1.place ≤ code.length ∧ (x1.begun : Int) ≤ c.f ∧ c.f < x1.begun + N1 ∧
      x.begun + 1 ≤ x1.begun ∧ u.2.place = x1.place ∧ u.2.begun = x1.begun ∧ 0 ≤ u.1.addr ∧ u.1.addr < c.wd ∧
      ((u.1.op = 7 ∧ ∃ ki : Nat, u.2.into = (ki : Int) ∧ ki < 4 ∧ x1.regs = u.2.regs.set ki (vRead W x u.1.addr) ∧ x1.writes = x.writes) ∨
       (u.1.op = 8 ∧ 0 ≤ u.1.val ∧ u.1.val ≤ 65535 ∧ x1.regs = u.2.regs ∧ x1.writes = putEnt x.writes u.1.addr u.1.val))))

theorem mReg_eq {m : MS} {x : TS} (h : m.regs = x.regs) (i : Int) : mReg m i = regOf x i := by unfold mReg regOf; rw [h]
theorem mReg_range {m : MS} (h : MOk m) (i : Int) : 0 ≤ mReg m i ∧ mReg m i ≤ 65535 := by
  unfold mReg
  by_cases hk : i.toNat < m.regs.length
  · rw [show m.regs.getD i.toNat 0 = m.regs[i.toNat] from by simp [List.getD, List.getElem?_eq_getElem hk]]
    exact h.2 _ (List.getElem_mem hk)
  · rw [show m.regs.getD i.toNat 0 = 0 from by simp [List.getD, List.getElem?_eq_none (Nat.le_of_not_lt hk)]]
    omega

theorem inB_wd {v wd : Int} (h : 0 ≤ v) : inB v 0 (wd - 1) = decide (¬ wd ≤ v) := by
  unfold inB
  by_cases h2 : wd ≤ v
  · simp [h2]; omega
  · simp [h2]; omega

/-- What iStep is, its looks apart. -/
theorem iStep_eq (c : Cfg) (W : Int → Int) (r : Int) (x : TS) (h1 : ¬ x.place = x.code.length) (h2 : ¬ (x.begun : Int) = c.f) (h3 : formedB (insAt x.code x.place) x.code.length = true) (x2 : TS) (hx2 : x2 = { x with begun := x.begun + 1, place := x.place + 1 }) (i : InsD) (hi : i = insAt x.code x.place) :
    iStep c W r x = if i.op = 0 then (1, r, x2, []) else if i.op = 1 then (2, r, x2, []) else if i.op = 2 then (0, r, setReg x2 i.a i.b, []) else if i.op = 3 then (0, r, setReg x2 i.a ((regOf x2 i.b + regOf x2 i.c).tmod 65536), [])
      else if i.op = 4 then (0, r, setReg x2 i.a ((regOf x2 i.b + 65535 + 1 - regOf x2 i.c).tmod 65536), []) else if i.op = 5 then (0, r, { x2 with place := i.c.toNat }, [])
      else if i.op = 6 then (0, r, if regOf x2 i.a < regOf x2 i.b then { x2 with place := i.c.toNat } else x2, []) else if i.op = 7 then iRead c W r x2 i else iWrite c r x2 i := by
  subst hx2 hi
  unfold iStep
  rw [if_neg h1, if_neg h2]
  simp only
  rw [if_neg (by rw [h3]; decide)]

theorem iWrite_x (c : Cfg) (r : Int) (x : TS) (i : InsD) (h : ¬ c.wd ≤ regOf x i.a) : (iWrite c r x i).1 = 0 ∧ (iWrite c r x i).2.2.1.regs = x.regs ∧ (iWrite c r x i).2.2.1.code = x.code ∧ (iWrite c r x i).2.2.1.place = x.place ∧ (iWrite c r x i).2.2.1.begun = x.begun ∧ (iWrite c r x i).2.2.1.writes = putEnt x.writes (regOf x i.a) (regOf x i.b) := by
  have hw : ∀ (y : TS) (had : Bool), (iWrote c r y i (regOf x i.a) had).2.1 = { y with writes := putEnt y.writes (regOf x i.a) (regOf y i.b) } := fun y had => by unfold iWrote; simp only; split <;> rfl
  unfold iWrite
  rw [if_neg h]
  simp only
  split
  · simp only
    rw [hw]
    exact ⟨trivial, rfl, rfl, rfl, rfl, rfl⟩
  · simp only
    rw [hw]
    exact ⟨trivial, rfl, rfl, rfl, rfl, rfl⟩

theorem next_sim (c : Cfg) (W : Int → Int) (code : List InsD) : ∀ (n : Nat) (m : MS) (x : TS) (r : Int) (N : Nat), Like code m x → MOk m → x.place ≤ code.length → (x.begun : Int) ≤ c.f → c.f < x.begun + n → c.f < x.begun + N →
    Told c W code N r x (pNext c.f c.wd code n m)
  | 0, m, x, r, N, hL, hM, hp, hb, hn, hN => by omega
  | n + 1, m, x, r, N, hL, hM, hp, hb, hn, hN => by
    obtain ⟨N', rfl⟩ : ∃ N', N = N' + 1 := ⟨N - 1, by omega⟩
    have e1 := hL.place
    have e2 := hL.begun
    rw [pNext]
    by_cases h1 : x.place = code.length
    · rw [if_pos (by omega)]
      have hs : iStep c W r x = (1, r, x, []) := by unfold iStep; rw [if_pos (by rw [hL.code]; exact h1)]
      refine ⟨hM, Or.inl ⟨by simp, ?_⟩⟩
      rw [iSteps_one _ _ _ _ _ (by rw [hs]; simp), hs]
      exact ⟨rfl, hL.regs.symm, rfl⟩
    rw [if_neg (by omega)]
    have h1' : ¬ x.place = x.code.length := by rw [hL.code]; exact h1
    by_cases h2 : (x.begun : Int) = c.f
    · rw [if_pos (by omega)]
      have hs : iStep c W r x = (4, r, x, []) := by unfold iStep; rw [if_neg h1', if_pos h2]
      refine ⟨hM, Or.inl ⟨by simp, ?_⟩⟩
      rw [iSteps_one _ _ _ _ _ (by rw [hs]; simp), hs]
      exact ⟨rfl, hL.regs.symm, rfl⟩
    rw [if_neg (by omega)]
    simp only
    rw [e1, e2]
    cases h3 : formedB (insAt code x.place) code.length with
    | false =>
      rw [if_pos rfl]
      have hs : iStep c W r x = (3, r, { x with begun := x.begun + 1 }, []) := by unfold iStep; rw [if_neg h1', if_neg h2]; simp only; rw [hL.code, if_pos h3]
      refine ⟨hM, Or.inl ⟨by simp, ?_⟩⟩
      rw [iSteps_one _ _ _ _ _ (by rw [hs]; simp), hs]
      exact ⟨rfl, hL.regs.symm, rfl⟩
    | true =>
      rw [if_neg (by decide)]
      obtain ⟨x2, hx2⟩ : ∃ x2 : TS, x2 = { x with begun := x.begun + 1, place := x.place + 1 } := ⟨_, rfl⟩
      obtain ⟨i, hi⟩ : ∃ i, i = insAt code x.place := ⟨_, rfl⟩
      have hse := iStep_eq c W r x h1' h2 (by rw [hL.code]; exact h3) x2 hx2 i (by rw [hL.code]; exact hi)
      rw [← hi] at h3 ⊢
      have hx2w : x2.writes = x.writes := by rw [hx2]
      have hx2r : m.regs = x2.regs := by rw [hx2]; exact hL.regs
      have hx2c : x2.code = code := by rw [hx2]; exact hL.code
      have hx2p : x2.place = x.place + 1 := by rw [hx2]
      have hx2b : x2.begun = x.begun + 1 := by rw [hx2]
      obtain ⟨m2, hm2⟩ : ∃ m2 : MS, m2 = { m with begun := x.begun + 1, place := x.place + 1 } := ⟨_, rfl⟩
      have hm2' : ({ regs := m.regs, place := x.place + 1, begun := x.begun + 1, into := m.into } : MS) = m2 := by rw [hm2]
      rw [hm2']
      have hM2 : MOk m2 := by rw [hm2]; exact hM
      have hm2r : m2.regs = x2.regs := by rw [hm2]; exact hx2r
      have hm2p : m2.place = x.place + 1 := by rw [hm2]
      have hm2b : m2.begun = x.begun + 1 := by rw [hm2]
      have hop := formed_op h3
      clear hx2 hm2 hm2' hi
      by_cases o0 : i.op = 0
      · rw [if_pos o0] at hse ⊢
        refine ⟨hM2, Or.inl ⟨by simp, ?_⟩⟩
        rw [iSteps_one _ _ _ _ _ (by rw [hse]; simp), hse]
        exact ⟨rfl, hm2r.symm, hx2w⟩
      rw [if_neg o0] at hse ⊢
      by_cases o1 : i.op = 1
      · rw [if_pos o1] at hse ⊢
        refine ⟨hM2, Or.inl ⟨by simp, ?_⟩⟩
        rw [iSteps_one _ _ _ _ _ (by rw [hse]; simp), hse]
        exact ⟨rfl, hm2r.symm, hx2w⟩
      rw [if_neg o1] at hse ⊢
      by_cases o7 : i.op = 7 ∨ i.op = 8
      · rw [if_pos o7]
        obtain ⟨⟨a0, a1⟩, ⟨b0, b1⟩⟩ := formed78 h3 o7
        rw [if_neg (by omega), if_neg (by omega), if_neg (by omega), if_neg (by omega), if_neg (by omega)] at hse
        unfold pWord
        by_cases p7 : i.op = 7
        · rw [if_pos p7] at hse ⊢
          have hrg := mReg_range hM2 i.b
          rw [mReg_eq hm2r] at hrg ⊢
          rw [inB_wd hrg.1]
          unfold iRead at hse
          by_cases hw : c.wd ≤ regOf x2 i.b
          · rw [if_pos hw] at hse
            simp only [hw, not_true_eq_false, decide_false, Bool.false_eq_true, if_false]
            refine ⟨hM2, Or.inl ⟨by simp, ?_⟩⟩
            rw [iSteps_one _ _ _ _ _ (by rw [hse]; simp), hse]
            exact ⟨rfl, hm2r.symm, hx2w⟩
          · rw [if_neg hw] at hse
            simp only [hw, not_false_eq_true, decide_true, if_true]
            obtain ⟨z1, z2⟩ := iSteps_zero c W N' r x (by rw [hse])
            rw [hse] at z1 z2
            obtain ⟨_, g2, g3, g4, _, g6, g7, _⟩ := xRead_same c x2 (regOf x2 i.b)
            obtain ⟨ki, hki⟩ := Int.eq_ofNat_of_zero_le a0
            have hvr : vRead W x2 (regOf x2 i.b) = vRead W x (regOf x2 i.b) := by unfold vRead; rw [hx2w]
            refine ⟨hM2, Or.inr ⟨rfl, _, _, N', z1, z2, ?_, ?_, ?_, ?_, ?_, ?_, ?_, hrg.1, by simp only; omega, Or.inl ⟨rfl, ki, hki, by omega, ?_, ?_⟩⟩⟩
            · exact g2.trans hx2c
            · show (xRead c x2 (regOf x2 i.b)).place ≤ _; rw [g6, hx2p]; omega
            · show ((xRead c x2 (regOf x2 i.b)).begun : Int) ≤ _; rw [g7, hx2b]; push_cast; omega
            · show c.f < ((xRead c x2 (regOf x2 i.b)).begun : Int) + _; rw [g7, hx2b]; push_cast; push_cast at hN; omega
            · show _ ≤ (xRead c x2 (regOf x2 i.b)).begun; rw [g7, hx2b]; omega
            · show m2.place = (xRead c x2 (regOf x2 i.b)).place; rw [g6, hx2p, hm2p]
            · show m2.begun = (xRead c x2 (regOf x2 i.b)).begun; rw [g7, hx2b, hm2b]
            · show (xRead c x2 (regOf x2 i.b)).regs.set i.a.toNat (vRead W x2 (regOf x2 i.b)) = _
              rw [g3, hvr, hki]
              simp only
              rw [hm2r]
              rfl
            · show (xRead c x2 (regOf x2 i.b)).writes = _; rw [g4, hx2w]
        · have p8 : i.op = 8 := by omega
          rw [if_neg p7] at hse ⊢
          have hrg := mReg_range hM2 i.a
          have hrv := mReg_range hM2 i.b
          rw [mReg_eq hm2r] at hrg hrv
          rw [mReg_eq hm2r, mReg_eq hm2r]
          rw [inB_wd hrg.1]
          by_cases hw : c.wd ≤ regOf x2 i.a
          · have hs2 : iWrite c r x2 i = (3, r, x2, []) := by unfold iWrite; rw [if_pos hw]
            rw [hs2] at hse
            simp only [hw, not_true_eq_false, decide_false, Bool.false_eq_true, if_false]
            refine ⟨hM2, Or.inl ⟨by simp, ?_⟩⟩
            rw [iSteps_one _ _ _ _ _ (by rw [hse]; simp), hse]
            exact ⟨rfl, hm2r.symm, hx2w⟩
          · obtain ⟨y1, y2, y3, y4, y5, y6⟩ := iWrite_x c r x2 i hw
            rw [← hse] at y1 y2 y3 y4 y5 y6
            simp only [hw, not_false_eq_true, decide_true, if_true]
            obtain ⟨z1, z2⟩ := iSteps_zero c W N' r x y1
            refine ⟨hM2, Or.inr ⟨rfl, _, _, N', z1, z2, ?_, ?_, ?_, ?_, ?_, ?_, ?_, hrg.1, by simp only; omega, Or.inr ⟨rfl, hrv.1, hrv.2, ?_, ?_⟩⟩⟩
            · exact y3.trans hx2c
            · rw [y4, hx2p]; omega
            · rw [y5, hx2b]; push_cast; omega
            · rw [y5, hx2b]; push_cast; push_cast at hN; omega
            · rw [y5, hx2b]; omega
            · rw [y4, hx2p, hm2p]
            · rw [y5, hx2b, hm2b]
            · rw [y2, hm2r]
            · rw [y6, hx2w]
      · rw [if_neg o7]
        have ho26 : 2 ≤ i.op ∧ i.op ≤ 6 := by omega
        have hMc := MOk.comp hM2 h3 ho26
        have hbc := pComp_begun m2 i
        -- the thread's step
        have hst : ∃ x3 : TS, iStep c W r x = (0, r, x3, []) ∧ x3.writes = x.writes ∧ x3.code = code ∧ x3.regs = (pComp m2 i).regs ∧ x3.place = (pComp m2 i).place ∧ x3.begun = x.begun + 1 ∧ x3.place ≤ code.length := by
          unfold pComp
          by_cases q2 : i.op = 2
          · rw [if_pos q2] at hse ⊢
            exact ⟨_, hse, hx2w, hx2c, by show _ = m2.regs.set _ _; rw [hm2r]; rfl, by show x2.place = m2.place; rw [hx2p, hm2p], hx2b, by show x2.place ≤ _; rw [hx2p]; omega⟩
          rw [if_neg q2] at hse ⊢
          by_cases q3 : i.op = 3
          · rw [if_pos q3] at hse ⊢
            rw [mReg_eq hm2r, mReg_eq hm2r]
            exact ⟨_, hse, hx2w, hx2c, by show _ = m2.regs.set _ _; rw [hm2r]; rfl, by show x2.place = m2.place; rw [hx2p, hm2p], hx2b, by show x2.place ≤ _; rw [hx2p]; omega⟩
          rw [if_neg q3] at hse ⊢
          by_cases q4 : i.op = 4
          · rw [if_pos q4] at hse ⊢
            rw [mReg_eq hm2r, mReg_eq hm2r]
            exact ⟨_, hse, hx2w, hx2c, by show _ = m2.regs.set _ _; rw [hm2r]; rfl, by show x2.place = m2.place; rw [hx2p, hm2p], hx2b, by show x2.place ≤ _; rw [hx2p]; omega⟩
          rw [if_neg q4] at hse ⊢
          by_cases q5 : i.op = 5
          · rw [if_pos q5] at hse ⊢
            have := formed5 h3 q5
            exact ⟨_, hse, hx2w, hx2c, hm2r.symm, rfl, hx2b, by show i.c.toNat ≤ _; omega⟩
          rw [if_neg q5] at hse ⊢
          have q6 : i.op = 6 := by omega
          rw [if_pos q6] at hse
          have hf6 := formed6 h3 q6
          rw [mReg_eq hm2r, mReg_eq hm2r]
          by_cases hlt : regOf x2 i.a < regOf x2 i.b
          · rw [if_pos hlt] at hse ⊢
            exact ⟨_, hse, hx2w, hx2c, hm2r.symm, rfl, hx2b, by show i.c.toNat ≤ _; omega⟩
          · rw [if_neg hlt] at hse ⊢
            exact ⟨_, hse, hx2w, hx2c, hm2r.symm, by rw [hx2p, hm2p], hx2b, by rw [hx2p]; omega⟩
        obtain ⟨x3, s1, s2, s3, s4, s5, s6, s7⟩ := hst
        obtain ⟨z1, z2⟩ := iSteps_zero c W N' r x (by rw [s1])
        rw [s1] at z1 z2
        have ih := next_sim c W code n (pComp m2 i) x3 r N' ⟨s3, s4.symm, s5.symm, by rw [hbc, hm2b, s6]⟩ hMc s7 (by rw [s6]; push_cast; omega) (by rw [s6]; push_cast; push_cast at hn; omega) (by rw [s6]; push_cast; push_cast at hN; omega)
        obtain ⟨i1, i2⟩ := ih
        refine ⟨i1, ?_⟩
        simp only at z1 z2
        rcases i2 with ⟨j1, j2, j3, j4⟩ | ⟨j1, x1, r1, N1, j2, j3, j4, j5, j6, j7, j8, j9, j10, j11, j12, j13⟩
        · exact Or.inl ⟨j1, z1.trans j2, by rw [z2]; exact j3, by rw [z2, j4, s2]⟩
        · refine Or.inr ⟨j1, x1, r1, N1, z1.trans j2, z2.trans j3, j4, j5, j6, j7, by omega, j9, j10, j11, j12, ?_⟩
          rw [s2] at j13
          have hv : vRead W x3 = vRead W x := by funext a; unfold vRead; rw [s2]
          rw [hv] at j13
          exact j13

/-- Where Run's loop stands: k rounds at most are left. -/
structure Head (c : Cfg) (W : Int → Int) (code : List InsD) (k : Nat) (t : TurnD) (m : MS) (D : List Int) : Prop where
  mok : MOk m
  dlen : (D.length : Int) = c.wd
  drng : ∀ v ∈ D, 0 ≤ v ∧ v ≤ 65535
  cs : (t.fate ≠ 0 ∧ (iRun c W code).1 = t.fate ∧ (iRun c W code).2.2.1.regs = m.regs ∧ ∀ a : Nat, a < D.length → D.getD a 0 = vRead W (iRun c W code).2.2.1 (a : Int)) ∨
    (t.fate = 0 ∧ ∃ (x1 : TS) (r1 : Int) (N1 : Nat), (iRun c W code).1 = (iSteps c W N1 r1 x1).1 ∧ (iRun c W code).2.2.1 = (iSteps c W N1 r1 x1).2.2.1 ∧ x1.code = code ∧ x1.place ≤ code.length ∧ (x1.begun : Int) ≤ c.f ∧ c.f < x1.begun + N1 ∧ c.f < x1.begun + k ∧
      m.place = x1.place ∧ m.begun = x1.begun ∧ 0 ≤ t.addr ∧ t.addr < c.wd ∧
      ((t.op = 7 ∧ ∃ ki : Nat, m.into = (ki : Int) ∧ ki < 4 ∧ x1.regs = m.regs.set ki (D.getD t.addr.toNat 0) ∧ ∀ a : Nat, a < D.length → D.getD a 0 = vRead W x1 (a : Int)) ∨
       (t.op = 8 ∧ 0 ≤ t.val ∧ t.val ≤ 65535 ∧ x1.regs = m.regs ∧ ∀ a : Nat, a < D.length → (D.set t.addr.toNat t.val).getD a 0 = vRead W x1 (a : Int))))

theorem vRead_put {W : Int → Int} {x y : TS} {a v b : Int} (hw : y.writes = putEnt x.writes a v) : vRead W y b = if b = a then v else vRead W x b := by
  unfold vRead
  rw [hw]
  unfold putEnt
  cases hk : entIdx x.writes a with
  | some k =>
    obtain ⟨e, he, hea⟩ := entIdx_some0 hk
    have hkl := (List.getElem?_eq_some_iff.1 he).1
    have hpres : ∀ d : Int, entIdx (x.writes.set k ⟨a, v⟩) d = entIdx x.writes d := fun d => by
      unfold entIdx
      have hmap : ∀ l : List EntD, l.findIdx? (fun e => e.what == d) = (l.map (·.what)).findIdx? (fun w => w == d) := fun l => by
        rw [List.findIdx?_map]
        rfl
      rw [hmap, hmap]
      congr 1
      rw [List.map_set]
      apply List.ext_getElem?
      intro j
      rw [List.getElem?_set]
      split
      · rename_i hj
        subst hj
        rw [List.getElem?_map, he]
        simp [hea, hkl]
      · rfl
    simp only
    rw [hpres]
    by_cases hb : b = a
    · rw [if_pos hb, hb, hk]
      simp [List.getD, hkl]
    · rw [if_neg hb]
      cases hj : entIdx x.writes b with
      | none => rfl
      | some j =>
        obtain ⟨d, hd, hdb⟩ := entIdx_some0 hj
        have hne : k ≠ j := fun h => by
          subst h
          rw [he] at hd
          cases hd
          exact hb (hdb.symm.trans hea)
        simp [List.getD, hne]
  | none =>
    have hnot := entIdx_none0 hk
    simp only
    by_cases hb : b = a
    · rw [if_pos hb, hb]
      have : entIdx (x.writes ++ [⟨a, v⟩]) a = some x.writes.length := by
        unfold entIdx at *
        rw [List.findIdx?_append, hk]
        simp [List.findIdx?_cons]
      rw [this]
      simp [List.getD]
    · rw [if_neg hb]
      have : entIdx (x.writes ++ [⟨a, v⟩]) b = entIdx x.writes b := by
        unfold entIdx
        rw [List.findIdx?_append]
        have : ([⟨a, v⟩] : List EntD).findIdx? (fun e => e.what == b) = none := by
          simp [List.findIdx?_cons]
          exact fun h => hb h.symm
        rw [this]
        simp
      rw [this]
      cases hj : entIdx x.writes b with
      | none => rfl
      | some j =>
        obtain ⟨d, hd, hdb⟩ := entIdx_some0 hj
        have hjl := (List.getElem?_eq_some_iff.1 hd).1
        simp [List.getD, List.getElem?_append_left hjl]

theorem set_get (D : List Int) (k a : Nat) (v : Int) (ha : a < D.length) : (D.set k v).getD a 0 = if a = k then v else D.getD a 0 := by
  simp only [List.getD, List.getElem?_set]
  by_cases h : k = a
  · subst h
    simp [ha]
  · simp [h, show ¬ a = k from fun e => h e.symm]

/-- From what next_sim tells to the loop's head. -/
theorem head_of {c : Cfg} {W : Int → Int} {code : List InsD} {k N : Nat} {r : Int} {x : TS} {u : TurnD × MS} {D : List Int} (h : Told c W code N r x u) (he : (iRun c W code).1 = (iSteps c W N r x).1) (hx : (iRun c W code).2.2.1 = (iSteps c W N r x).2.2.1)
    (hk : c.f < x.begun + 1 + k) (hd : (D.length : Int) = c.wd) (hr : ∀ v ∈ D, 0 ≤ v ∧ v ≤ 65535) (hD : ∀ a : Nat, a < D.length → D.getD a 0 = vRead W x (a : Int)) : Head c W code k u.1 u.2 D := by
  obtain ⟨h1, h2⟩ := h
  refine ⟨h1, hd, hr, ?_⟩
  rcases h2 with ⟨j1, j2, j3, j4⟩ | ⟨j1, x1, r1, N1, j2, j3, j4, j5, j6, j7, j8, j9, j10, j11, j12, j13⟩
  · refine Or.inl ⟨j1, he.trans j2, by rw [hx]; exact j3, fun a ha => ?_⟩
    rw [hD a ha, hx]
    unfold vRead
    rw [j4]
  · refine Or.inr ⟨j1, x1, r1, N1, he.trans j2, hx.trans j3, j4, j5, j6, j7, by omega, j9, j10, j11, j12, ?_⟩
    rcases j13 with ⟨o, ki, k1, k2, k3, k4⟩ | ⟨o, k1, k2, k3, k4⟩
    · refine Or.inl ⟨o, ki, k1, k2, ?_, fun a ha => ?_⟩
      · rw [k3, hD _ (by omega), Int.toNat_of_nonneg j11]
      · rw [hD a ha]
        unfold vRead
        rw [k4]
    · refine Or.inr ⟨o, k1, k2, k3, fun a ha => ?_⟩
      rw [set_get _ _ _ _ ha, vRead_put k4]
      by_cases h : a = u.1.addr.toNat
      · rw [if_pos h, if_pos (by omega)]
      · rw [if_neg h, if_neg (by omega), hD a ha]

/-- The first turn. -/
theorem head_first {c : Cfg} {mem : List Int} {code : List InsD} (hf0 : 0 ≤ c.f) (hd : (mem.length : Int) = c.wd) (hr : ∀ v ∈ mem, 0 ≤ v ∧ v ≤ 65535) :
    Head c (fun a => mem.getD a.toNat 0) code (c.f.toNat + 1) (pNext c.f c.wd code (c.f.toNat + 1) ⟨[0, 0, 0, 0], 0, 0, 0⟩).1 (pNext c.f c.wd code (c.f.toNat + 1) ⟨[0, 0, 0, 0], 0, 0, 0⟩).2 mem := by
  have h := next_sim c (fun a => mem.getD a.toNat 0) code (c.f.toNat + 1) ⟨[0, 0, 0, 0], 0, 0, 0⟩ (newTS code 0) 0 (c.f.toNat + 2) ⟨rfl, rfl, rfl, rfl⟩ ⟨rfl, by simp⟩ (by simp [newTS]) (by simp [newTS]; omega) (by simp [newTS]; omega) (by simp [newTS]; omega)
  exact head_of h rfl rfl (by simp [newTS]; omega) hd hr (fun a ha => by unfold vRead; simp [newTS, entIdx])

/-- What a Read or Write does. -/
def effM (t : TurnD) (m : MS) (D : List Int) : MS := if t.op = 7 then { m with regs := m.regs.set m.into.toNat (D.getD t.addr.toNat 0) } else m
def effD (t : TurnD) (D : List Int) : List Int := if t.op = 7 then D else D.set t.addr.toNat t.val

theorem head_next {c : Cfg} {W : Int → Int} {code : List InsD} {k : Nat} {t : TurnD} {m : MS} {D : List Int} (hf0 : 0 ≤ c.f) (h : Head c W code (k + 1) t m D) (ht : t.fate = 0) :
    (0 ≤ t.addr ∧ t.addr < D.length ∧ (t.op = 7 → ∃ ki : Nat, m.into = (ki : Int) ∧ ki < 4) ∧ (t.op = 7 ∨ t.op = 8) ∧ MOk (effM t m D) ∧ (((effM t m D).begun : Int) ≤ c.f)) ∧
      Head c W code k (pNext c.f c.wd code (c.f.toNat + 1) (effM t m D)).1 (pNext c.f c.wd code (c.f.toNat + 1) (effM t m D)).2 (effD t D) := by
  obtain ⟨hm, hd, hr, hc⟩ := h
  rcases hc with ⟨h0, _⟩ | ⟨_, x1, r1, N1, j2, j3, j4, j5, j6, j7, j8, j9, j10, j11, j12, j13⟩
  · exact absurd ht h0
  have hget : ∀ a : Nat, a < D.length → 0 ≤ D.getD a 0 ∧ D.getD a 0 ≤ 65535 := fun a ha => by
    rw [show D.getD a 0 = D[a] from by simp [List.getD, List.getElem?_eq_getElem ha]]
    exact hr _ (List.getElem_mem ha)
  rcases j13 with ⟨o, ki, k1, k2, k3, k4⟩ | ⟨o, k1, k2, k3, k4⟩
  · have eM : effM t m D = { m with regs := m.regs.set ki (D.getD t.addr.toNat 0) } := by unfold effM; rw [if_pos o, k1]; rfl
    have eD : effD t D = D := by unfold effD; rw [if_pos o]
    have hMe : MOk (effM t m D) := by
      rw [eM]
      refine ⟨by simp [hm.1], fun u hu => ?_⟩
      rcases List.mem_or_eq_of_mem_set hu with h2 | h2
      · exact hm.2 u h2
      · rw [h2]; exact hget _ (by omega)
    have hbe : (effM t m D).begun = x1.begun := by rw [eM]; exact j10
    have hL : Like code (effM t m D) x1 := ⟨j4, by rw [eM]; exact k3.symm, by rw [eM]; exact j9, hbe⟩
    refine ⟨⟨j11, by omega, fun _ => ⟨ki, k1, k2⟩, Or.inl o, hMe, by rw [hbe]; exact j6⟩, ?_⟩
    have hs := next_sim c W code (c.f.toNat + 1) (effM t m D) x1 r1 N1 hL hMe j5 j6 (by omega) j7
    rw [eD]
    exact head_of hs j2 j3 (by push_cast at j8; omega) hd hr k4
  · have eM : effM t m D = m := by unfold effM; rw [if_neg (by omega)]
    have eD : effD t D = D.set t.addr.toNat t.val := by unfold effD; rw [if_neg (by omega)]
    have hL : Like code m x1 := ⟨j4, k3.symm, j9, j10⟩
    rw [eM, eD]
    refine ⟨⟨j11, by omega, fun h => by omega, Or.inr o, hm, by rw [j10]; exact j6⟩, ?_⟩
    have hs := next_sim c W code (c.f.toNat + 1) m x1 r1 N1 hL hm j5 j6 (by omega) j7
    refine head_of hs j2 j3 (by push_cast at j8; omega) (by simpa using hd) (fun v hv => ?_) (fun a ha => k4 a (by simpa using ha))
    rcases List.mem_or_eq_of_mem_set hv with h2 | h2
    · exact hr v h2
    · omega

end Go.Proofs.Ytejadojilncbjaa
