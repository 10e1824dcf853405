import Derived.Test.YtejadojilncbjaaSolo
import Derived.Test.YtejadojilncbjaaTell
namespace Go.Proofs.Ytejadojilncbjaa
set_option linter.unusedVariables false

/-! How long it takes, that it ends, and the log of it. -/

theorem tRead_len (c : Cfg) (W : Int → Int) (x : TS) (a : Int) : (tRead c W x a).length ≤ 3 := by
  unfold tRead
  split
  · simp
  · split <;> simp
theorem putEnt_len (l : List EntD) (a v : Int) : (putEnt l a v).length ≤ l.length + 1 := by
  unfold putEnt
  split <;> simp
theorem iWrote_len (c : Cfg) (r : Int) (x : TS) (i : InsD) (a : Int) (had : Bool) : (iWrote c r x i a had).2.2.length ≤ 2 ∧ (iWrote c r x i a had).2.1.held = x.held ∧ (iWrote c r x i a had).2.1.writes.length ≤ x.writes.length + 1 ∧ (iWrote c r x i a had).2.1.begun = x.begun := by
  unfold iWrote
  simp only
  split
  · exact ⟨by simp, rfl, putEnt_len _ _ _, rfl⟩
  · exact ⟨by simp, rfl, putEnt_len _ _ _, rfl⟩
theorem iRead_len (c : Cfg) (W : Int → Int) (r : Int) (x : TS) (i : InsD) : (iRead c W r x i).2.2.2.length ≤ 5 ∧ (iRead c W r x i).2.2.1.held = x.held ∧ (iRead c W r x i).2.2.1.writes = x.writes ∧ (iRead c W r x i).2.2.1.begun = x.begun := by
  unfold iRead
  split
  · exact ⟨by simp, rfl, rfl, rfl⟩
  · obtain ⟨_, _, g3, g4, g5, _, g7, _⟩ := xRead_same c x (regOf x i.b)
    exact ⟨Nat.le_trans (tRead_len _ _ _ _) (by omega), g5, g4, g7⟩
theorem iWrite_len (c : Cfg) (r : Int) (x : TS) (i : InsD) : (iWrite c r x i).2.2.2.length ≤ 5 ∧ (iWrite c r x i).2.2.1.held.length ≤ x.held.length + 1 ∧ (iWrite c r x i).2.2.1.writes.length ≤ x.writes.length + 1 ∧ (iWrite c r x i).2.2.1.begun = x.begun := by
  unfold iWrite
  split
  · exact ⟨by simp, by simp, by simp, rfl⟩
  · simp only
    split
    · obtain ⟨a, b, d, e⟩ := iWrote_len c r x i (regOf x i.a) true
      exact ⟨Nat.le_trans a (by omega), by rw [b]; omega, d, e⟩
    · obtain ⟨a, b, d, e⟩ := iWrote_len c r { x with held := x.held ++ [(regOf x i.a).tmod c.s] } i (regOf x i.a) false
      refine ⟨?_, by rw [b]; simp, d, e⟩
      rw [List.length_append]
      have : (tGet c r ((regOf x i.a).tmod c.s)).length = 3 := rfl
      omega
theorem iStep_len (c : Cfg) (W : Int → Int) (r : Int) (x : TS) : (iStep c W r x).2.2.2.length ≤ 5 ∧ (iStep c W r x).2.2.1.held.length ≤ x.held.length + 1 ∧ (iStep c W r x).2.2.1.writes.length ≤ x.writes.length + 1 := by
  rcases iStep_cases c W r x with ⟨e, x', h, h0, h4, hs⟩ | h | h
  · rw [h]
    exact ⟨by simp, by rw [hs.held]; omega, by rw [hs.writes]; omega⟩
  · rw [h]
    obtain ⟨a, b, d, e⟩ := iRead_len c W r { x with begun := x.begun + 1, place := x.place + 1 } (insAt x.code x.place)
    exact ⟨a, by rw [b]; simp, by rw [d]; simp⟩
  · rw [h]
    obtain ⟨a, b, d, e⟩ := iWrite_len c r { x with begun := x.begun + 1, place := x.place + 1 } (insAt x.code x.place)
    exact ⟨a, b, d⟩
theorem iSteps_len (c : Cfg) (W : Int → Int) : ∀ (n : Nat) (r : Int) (x : TS), (iSteps c W n r x).2.2.2.length ≤ 5 * n ∧ (iSteps c W n r x).2.2.1.held.length ≤ x.held.length + n ∧ (iSteps c W n r x).2.2.1.writes.length ≤ x.writes.length + n
  | 0, r, x => ⟨by simp [iSteps], by simp [iSteps], by simp [iSteps]⟩
  | n + 1, r, x => by
    obtain ⟨a, b, d⟩ := iStep_len c W r x
    rw [iSteps]
    simp only
    split
    · obtain ⟨a2, b2, d2⟩ := iSteps_len c W n (iStep c W r x).2.1 (iStep c W r x).2.2.1
      refine ⟨?_, by simp only; omega, by simp only; omega⟩
      rw [List.length_append]
      omega
    · exact ⟨by omega, by omega, by omega⟩

theorem iStep_begun (c : Cfg) (W : Int → Int) (r : Int) (x : TS) (h : (iStep c W r x).1 = 0) : (x.begun : Int) ≠ c.f ∧ (iStep c W r x).2.2.1.begun = x.begun + 1 := by
  unfold iStep at *
  by_cases h1 : x.place = x.code.length
  · rw [if_pos h1] at h
    simp at h
  rw [if_neg h1] at h ⊢
  by_cases h2 : (x.begun : Int) = c.f
  · rw [if_pos h2] at h
    simp at h
  refine ⟨h2, ?_⟩
  rw [if_neg h2] at h ⊢
  simp only at h ⊢
  generalize insAt x.code x.place = i at *
  cases h3 : formedB i x.code.length with
  | false =>
    rw [h3, if_pos rfl] at h
    simp at h
  | true =>
    rw [h3, if_neg (by decide)] at h
    rw [if_neg (by decide)]
    by_cases o0 : i.op = 0
    · rw [if_pos o0] at h
      simp at h
    rw [if_neg o0] at h ⊢
    by_cases o1 : i.op = 1
    · rw [if_pos o1] at h
      simp at h
    rw [if_neg o1] at h ⊢
    by_cases o2 : i.op = 2
    · rw [if_pos o2]
      rfl
    rw [if_neg o2] at h ⊢
    by_cases o3 : i.op = 3
    · rw [if_pos o3]
      rfl
    rw [if_neg o3] at h ⊢
    by_cases o4 : i.op = 4
    · rw [if_pos o4]
      rfl
    rw [if_neg o4] at h ⊢
    by_cases o5 : i.op = 5
    · rw [if_pos o5]
    rw [if_neg o5] at h ⊢
    by_cases o6 : i.op = 6
    · rw [if_pos o6]
      simp only
      split <;> rfl
    rw [if_neg o6] at h ⊢
    by_cases o7 : i.op = 7
    · rw [if_pos o7]
      exact (iRead_len c W r _ i).2.2.2
    · rw [if_neg o7]
      exact (iWrite_len c r _ i).2.2.2
theorem iSteps_ends (c : Cfg) (W : Int → Int) : ∀ (n : Nat) (r : Int) (x : TS), (x.begun : Int) ≤ c.f → c.f + 1 ≤ x.begun + n → (iSteps c W n r x).1 ≠ 0
  | 0, r, x, h1, h2 => by omega
  | n + 1, r, x, h1, h2 => by
    rw [iSteps]
    simp only
    split
    · rename_i hz
      obtain ⟨k1, k2⟩ := iStep_begun c W r x hz
      exact iSteps_ends c W n _ _ (by rw [k2]; push_cast; omega) (by rw [k2]; push_cast; push_cast at h2; omega)
    · assumption

theorem iRun_fate (c : Cfg) (W : Int → Int) (code : List InsD) (hf : 0 ≤ c.f) : 1 ≤ (iRun c W code).1 ∧ (iRun c W code).1 ≤ 4 := by
  have h1 := (iSteps_same c W (c.f.toNat + 2) 0 (newTS code 0) (Or.inl rfl)).2.2.2
  have h2 := iSteps_ends c W (c.f.toNat + 2) 0 (newTS code 0) (by simp [newTS]; omega) (by simp [newTS]; omega)
  unfold iRun
  omega
theorem tClose_len (c : Cfg) (W : Int → Int) (e r : Int) (x : TS) : (tClose c W e r x).length ≤ 5 + 3 * x.held.length + x.writes.length := by
  have ho : ∀ l : List Int, (tOpen c l).length = 2 * l.length := fun l => by
    induction l with
    | nil => rfl
    | cons a l ih =>
      have : tOpen c (a :: l) = [(sto (3 + a) 1, -1), (sto (3 + c.s + a) 0, 1)] ++ tOpen c l := rfl
      rw [this, List.length_append, ih]
      simp
      omega
  unfold tClose
  split
  · unfold tCommit
    simp [tShut, tPut, ho]
    omega
  · simp [tFree]
    omega
theorem iJob_len (c : Cfg) (W : Int → Int) (code : List InsD) (hf : c.f ≤ 40) : (iJob c W code).length ≤ 400 := by
  obtain ⟨a, b, d⟩ := iSteps_len c W (c.f.toNat + 2) 0 (newTS code 0)
  have e := tClose_len c W (iRun c W code).1 (iRun c W code).2.1 (iRun c W code).2.2.1
  rw [show iSteps c W (c.f.toNat + 2) 0 (newTS code 0) = iRun c W code from rfl] at a b d
  have h1 : (newTS code 0).held.length = 0 := rfl
  have h2 : (newTS code 0).writes.length = 0 := rfl
  have : c.f.toNat ≤ 40 := by omega
  unfold iJob
  rw [List.length_append, List.length_append, List.length_append]
  simp only [List.length_singleton]
  omega

/-- The accesses of a trace. -/
def accOf (q : AskD × Int) : AccD := ⟨q.1.kind, q.1.cell, q.2, putV q.1 q.2⟩
def logOf (T : Tr) : List AccD := T.map accOf

theorem log_value (c : Cfg) (mem : List Int) : ∀ (T U : Tr) (m : Int → Int) (l : List AccD), (∀ x, mValue c mem l x = m x) → Sees c m T → ∀ x, mValue c mem (l ++ logOf T) x = after m T x
  | [], U, m, l, h, hs, x => by rw [show logOf [] = [] from rfl, List.append_nil]; exact h x
  | q :: T, U, m, l, h, hs, x => by
    have e : l ++ logOf (q :: T) = (l ++ [accOf q]) ++ logOf T := by simp [logOf]
    rw [e]
    refine log_value c mem T U (wr m q.1) (l ++ [accOf q]) (fun y => ?_) hs.2.2 x
    unfold mValue
    rw [lastPut_snoc]
    have hk : q.1.kind ≠ 0 := hs.2.1.1
    by_cases hy : y = q.1.cell
    · rw [if_pos (by simp [hits, accOf, hk, hy]), hy, wr_at, hs.1]
      rfl
    · rw [if_neg (by simp [hits, accOf]; intro _ e; exact hy e.symm), wr_off hy]
      exact h y

theorem made_of {c : Cfg} {mem : List Int} {T : Tr} {n : Nat} {m : Int → Int} (hm : ∀ x, mValue c mem [] x = m x) (hs : Sees c m T) (hn : n < T.length) :
    mMade c mem (logOf (T.take n)) (T.getD n nilAsk).1 = accOf (T.getD n nilAsk) ∧ Good c (T.getD n nilAsk) ∧ mValue c mem (logOf (T.take n)) (T.getD n nilAsk).1.cell = (T.getD n nilAsk).2 := by
  have hsp : T = T.take n ++ (T.getD n nilAsk :: T.drop (n + 1)) := by
    rw [show T.getD n nilAsk = T[n] from by simp [List.getD, List.getElem?_eq_getElem hn], ← List.drop_eq_getElem_cons hn, List.take_append_drop]
  have hs2 := hs
  rw [hsp] at hs2
  have h1 := hs2.left
  have h2 := hs2.right
  have hv := log_value c mem (T.take n) [] m [] hm h1 (T.getD n nilAsk).1.cell
  rw [List.nil_append, h2.1] at hv
  refine ⟨?_, h2.2.1, hv⟩
  generalize T.getD n nilAsk = q at *
  unfold mMade
  rw [if_neg h2.2.1.1]
  simp only
  rw [hv]
  rfl

theorem mu_start (c : Cfg) (mem : List Int) (hs1 : 1 ≤ c.s) (ht1 : 1 ≤ c.t) : Mu c (fun a => mem.getD a.toNat 0) [] 0 (fun x => mValue c mem [] x) := by
  have e : ∀ x, mValue c mem [] x = startVal c mem x := fun x => rfl
  have lo : ∀ x, x < wordBase c → mValue c mem [] x = 0 := fun x h => by rw [e]; unfold startVal; rw [if_neg (by omega)]
  unfold wordBase at lo
  refine ⟨lo 0 (by omega), lo 1 (by omega), lo 2 (by omega), fun s a b => lo _ (by omega), fun s a b => by rw [lo _ (by omega)]; simp, lo _ (by unfold kStat; omega), fun a a0 a1 => ?_⟩
  rw [e]
  unfold startVal
  rw [if_pos (by unfold wordBase kWord; omega)]
  rw [show kWord c a - wordBase c = a from by unfold wordBase kWord; omega]

/-- Picks of thread 0, as many as there are accesses. -/
def picks0 (n : Nat) : List PickD := List.replicate n ⟨0, 0⟩
def env0 (c : Cfg) (code : List InsD) (T : Tr) : Env := envOf c [(0, code)] 0 (picks0 T.length) (logOf T)

theorem seen0 : ∀ (T : Tr), seenOf 0 (picks0 T.length) (logOf T) = T.map (·.2)
  | [] => rfl
  | q :: T => by
    have := seen0 T
    unfold seenOf picks0 logOf at *
    rw [List.length_cons, List.replicate_succ, List.map_cons, List.zip_cons_cons, List.filter_cons]
    simp only [beq_self_eq_true, if_true, List.map_cons]
    rw [this]
    rfl

theorem env0_agrees (c : Cfg) (code : List InsD) (T : Tr) (n : Nat) (hn : n ≤ T.length) : (env0 c code (T.take n)).seen.length = n ∧ Agrees (env0 c code (T.take n)) 0 T := by
  have e : (env0 c code (T.take n)).seen = (T.take n).map (·.2) := seen0 (T.take n)
  have hl : (env0 c code (T.take n)).seen.length = n := by rw [e]; simp; omega
  refine ⟨hl, fun i hi h2 => ?_⟩
  rw [hl] at h2
  rw [e, Nat.zero_add]
  have h3 : i < n := by omega
  simp [List.getD, h3, List.getElem?_eq_getElem hi]

theorem told0 (c : Cfg) (code : List InsD) (W : Int → Int) (n : Nat) (hn : n ≤ (iJob c W code).length) :
    (n < (iJob c W code).length → (mTold (env0 c code ((iJob c W code).take n))).next = ((iJob c W code).getD n nilAsk).1 ∧ (mTold (env0 c code ((iJob c W code).take n))).ends = [⟨0, 0, 0, 0, 0⟩]) ∧
    (n = (iJob c W code).length → (mTold (env0 c code ((iJob c W code).take n))).ends = [resOf (iRun c W code).1 (iRun c W code).2.2.1]) := by
  obtain ⟨h1, h2⟩ := env0_agrees c code (iJob c W code) n hn
  have h := mTold_did (env0 c code ((iJob c W code).take n)) rfl code rfl W h2 (by rw [h1]; exact hn)
  rw [h1] at h
  exact h

end Go.Proofs.Ytejadojilncbjaa
