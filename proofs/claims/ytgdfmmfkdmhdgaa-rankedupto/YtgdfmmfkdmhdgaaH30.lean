import Derived.Test.YtgdfmmfkdmhdgaaH22
import Derived.Test.YtgdfmmfkdmhdgaaH29
import Derived.Test.YtgdfmmfkdmhdgaaH24
import Derived.Test.YtgdfmmfkdmhdgaaH06
namespace Go.Proofs.Ytgdfmmfkdmhdgaa
set_option linter.unusedVariables false

/-! What stays true of the cells and of the machines: part 4: behind any number of picks. -/

theorem VOk.bd {c : Cfg} {k x v : Int} (hc : cfgB c = true) (hk : 0 ≤ k) (h : VOk c k x v) (x0 : 0 ≤ x) (x1 : x < total c) : -1 ≤ v ∧ v ≤ 8 * k + 65535 := by
  obtain ⟨⟨t1, t2⟩, _⟩ := cfgB_true hc
  rw [total_eq] at x1
  by_cases h0 : x = 0 ∨ x = 1
  · have := h.cnt h0; omega
  by_cases h2 : x = 2
  · have := h.gate h2; omega
  by_cases h3 : x < 3 + c.s
  · have := h.ver (by omega) h3; omega
  by_cases h4 : x < 3 + 2 * c.s
  · have := h.own (by omega) h4; omega
  by_cases h5 : x < 3 + 2 * c.s + c.t
  · have := h.sta (by omega) h5
    obtain ⟨a, b, d⟩ := this
    omega
  · have := h.wrd (by omega) (by rw [total_eq]; omega)
    omega

structure GOk (c : Cfg) (jobs : List (Int × List InsD)) (k : Int) (g : Gs) : Prop where
  m : CellsOk c k g.m
  th : ∀ t, 0 ≤ t → t < c.t → ThOk (cxOf c jobs t) k (g.th t)

theorem gstart_ok {c : Cfg} (hc : cfgB c = true) {mem : List Int} (hmw : (mem.length : Int) = c.wd) (hmb : memB mem = true) (jobs : List (Int × List InsD)) : GOk c jobs 0 (gStart c mem jobs) := by
  obtain ⟨⟨t1, t2⟩, ⟨w1, w2⟩, ⟨s1, s2⟩, _, _, _, ⟨f1, f2⟩⟩ := cfgB_true hc
  refine ⟨fun x x0 x1 => ?_, fun t t0 t1' => ?_⟩
  · show VOk c 0 x (startVal c mem x)
    unfold startVal
    by_cases hx : wordBase c ≤ x
    · rw [if_pos hx]
      have := memB_get hmb (x - wordBase c).toNat
      unfold wordBase at hx
      exact ⟨(fun e => by omega), (fun e => by omega), (fun _ e => by omega), (fun _ e => by omega), (fun _ e => by omega), fun _ _ => this⟩
    · rw [if_neg hx]
      unfold wordBase at hx
      exact ⟨(fun e => by omega), (fun e => by omega), (fun _ e => by omega), (fun _ e => by omega), (fun _ e => ⟨by omega, by omega, by omega⟩), (fun e => by omega)⟩
  · show ThOk _ 0 (hInit (cxOf c jobs t))
    unfold hInit
    refine to_ok ?_ (Int.le_refl _) 0
    refine ⟨⟨Int.le_refl _, Int.le_refl _⟩, ?_⟩
    exact new_ok (by show 0 ≤ c.f; omega) t1 _ ⟨Int.le_refl _, Int.le_refl _⟩

theorem acc_none {m : Int → Int} {q : AskD} (h : q.kind = 0) : accBy m q = noAcc := if_pos h
theorem acc_some {m : Int → Int} {q : AskD} (h : q.kind ≠ 0) : accBy m q = ⟨q.kind, q.cell, m q.cell, putV q (m q.cell)⟩ := if_neg h

theorem gstep_ok {c : Cfg} (hc : cfgB c = true) {jobs : List (Int × List InsD)} {k : Int} (hk : 0 ≤ k) {g : Gs} (G : GOk c jobs k g) (n : Int) (pk : PickD) : GOk c jobs (k + 1) (gStep c jobs g n pk).1 := by
  unfold gStep
  by_cases ht : 0 ≤ pk.thread ∧ pk.thread < c.t
  · rw [if_pos ht]
    have A := G.th pk.thread ht.1 ht.2
    have hcK : cfgB (cxOf c jobs pk.thread).c = true := hc
    refine ⟨?_, fun t t0 t1 => ?_⟩
    · simp only
      by_cases h0 : (hOut (cxOf c jobs pk.thread) (g.th pk.thread)).kind = 0
      · rw [if_pos h0]
        exact fun x x0 x1 => (G.m x x0 x1).mono (by omega)
      · rw [if_neg h0]
        obtain ⟨hcell, hput⟩ := ask_ok hcK ht hk A h0
        intro x x0 x1
        by_cases hx : x = (hOut (cxOf c jobs pk.thread) (g.th pk.thread)).cell
        · rw [hx, wr_at]
          exact hput _ (G.m _ hcell.1 hcell.2)
        · rw [wr_off hx]
          exact (G.m x x0 x1).mono (by omega)
    · simp only
      by_cases htt : t = pk.thread
      · rw [if_pos htt, htt]
        refine next_ok hcK ht hk A _ (fun h0 => ?_)
        obtain ⟨hcell, _⟩ := ask_ok hcK ht hk A h0
        show VOk c k _ (gAcc c jobs g pk.thread).seen
        unfold gAcc
        rw [acc_some h0]
        exact G.m _ hcell.1 hcell.2
      · rw [if_neg htt]
        exact (G.th t t0 t1).mono (by omega)
  · rw [if_neg ht]
    exact ⟨fun x x0 x1 => (G.m x x0 x1).mono (by omega), fun t t0 t1 => (G.th t t0 t1).mono (by omega)⟩

theorem gat_ok {c : Cfg} (hc : cfgB c = true) {mem : List Int} (hmw : (mem.length : Int) = c.wd) (hmb : memB mem = true) (jobs : List (Int × List InsD)) (ps : List PickD) : ∀ k : Nat, GOk c jobs k (gAt c mem jobs ps k)
  | 0 => gstart_ok hc hmw hmb jobs
  | k + 1 => by
    have := gstep_ok hc (by omega) (gat_ok hc hmw hmb jobs ps k) ((k : Int) + 1) (pickAt ps k)
    exact this

/-- All accesses, all cells. -/
def accs (c : Cfg) (mem : List Int) (jobs : List (Int × List InsD)) (ps : List PickD) : List AccD := gLog c mem jobs ps ps.length
def cellsOf (c : Cfg) (mem : List Int) (jobs : List (Int × List InsD)) (ps : List PickD) : List Int := (List.range (total c).toNat).map fun i : Nat => (gAt c mem jobs ps ps.length).m (i : Int)

end Go.Proofs.Ytgdfmmfkdmhdgaa

namespace Go.Proofs.Ytgdfmmfkdmhdgaa
set_option linter.unusedVariables false

/-! What the walks ask, out of what the thread's machine keeps. -/

theorem nodup_len : ∀ (n : Nat) (l : List Int), l.Nodup → (∀ v ∈ l, 0 ≤ v ∧ v < (n : Int)) → l.length ≤ n
  | 0, l, hn, hb => by
    cases l with
    | nil => simp
    | cons a l => have := hb a (List.mem_cons_self ..); omega
  | n + 1, l, hn, hb => by
    have h1 : (l.erase (n : Int)).length ≤ n := by
      refine nodup_len n (l.erase (n : Int)) (hn.erase _) ?_
      intro v hv
      have hm := hn.mem_erase_iff.1 hv
      have := hb v hm.2
      have := hm.1
      omega
    have h2 : l.length ≤ (l.erase (n : Int)).length + 1 := by
      rw [List.length_erase]
      split <;> omega
    omega

theorem xlens {K : Cx} (hc : cfgB K.c = true) {k : Int} {x : TS} (X : XOk K k x) : x.reads.length ≤ 8 ∧ x.writes.length ≤ 8 ∧ x.held.length ≤ 8 := by
  obtain ⟨_, ⟨w1, w2⟩, ⟨s1, s2⟩, _⟩ := cfgB_true hc
  refine ⟨?_, ?_, ?_⟩
  · have := nodup_len 8 (x.reads.map (·.what)) X.rn (fun v hv => by
      obtain ⟨e, he, rfl⟩ := List.mem_map.1 hv
      have := X.rd e he
      omega)
    simpa using this
  · have := nodup_len 8 (x.writes.map (·.what)) X.wn (fun v hv => by
      obtain ⟨e, he, rfl⟩ := List.mem_map.1 hv
      have := X.wr e he
      omega)
    simpa using this
  · exact nodup_len 8 x.held X.hn (fun v hv => by have := X.hd v hv; omega)

structure Side (K : Cx) (k : Int) (t : PT) : Prop where
  kb : 0 ≤ k ∧ k ≤ 2 ^ 30
  me : 0 ≤ K.me ∧ K.me < K.c.t
  fails : 0 ≤ t.fails ∧ t.fails ≤ k
  mine : t.mine.length ≤ 100
  cur : t.cur ≤ t.mine.length

theorem tok_of {K : Cx} (hc : cfgB K.c = true) {k : Int} {t : PT} {h : Th} (b : Bax K t h) (A : Onn K k h) (D : Side K k t) : TOk t := by
  obtain ⟨l1, l2, l3⟩ := xlens hc A.x
  have X := A.x
  have hk := D.kb
  refine ⟨by rw [b.1.c]; exact hc, by rw [b.1.c, b.1.num]; exact D.me, by rw [b.1.rank]; have := A.rank; omega, by have := D.fails; omega, ?_, ?_, ?_, ?_, ?_, ?_, D.mine, by have := D.mine; have := D.cur; omega⟩
  · intro e he; rw [b.2.reads] at he; rw [b.1.c]; have := X.rd e he; exact ⟨this.1, this.2.1⟩
  · intro e he; rw [b.2.writes] at he; rw [b.1.c]; have := X.wr e he; exact ⟨this.1, this.2.1⟩
  · intro e he; rw [b.2.held] at he; rw [b.1.c]; exact X.hd e he
  · rw [b.2.reads]; omega
  · rw [b.2.writes]; omega
  · rw [b.2.held]; omega

/-- One turn of the machine. -/
theorem w_turn {K : Cx} (hc : cfgB K.c = true) {code : List InsD} {k : Int} {t : PT} {h : Th} (r : RunI K code k t h) (hs : t.step = 1) :
    (MOk t.m ∧ (t.m.begun : Int) ≤ t.c.f ∧ t.m.place ≤ code.length) ∧ ∃ u, pNext t.c.f t.c.wd code yRounds t.m = u ∧ u.2.regs.length = 4 ∧ (u.1.fate = 0 → (0 ≤ u.1.addr ∧ u.1.addr ≤ 100) ∧ (u.1.op = 7 → 0 ≤ u.2.into ∧ u.2.into ≤ 3)) ∧
      ((yTurn code t).step ≠ 1 ∨ ∃ h', RunI K code k (yTurn code t) h' ∧ h.x.begun + 1 ≤ h'.x.begun) ∧ (yTurn code t).fails = t.fails ∧ (yTurn code t).mine = t.mine ∧ (yTurn code t).cur = t.cur := by
  obtain ⟨b, hg, A, hcd⟩ := r
  obtain ⟨⟨t1, t2⟩, ⟨w1, w2⟩, ⟨s1, s2⟩, ⟨g1, g2⟩, _, _, ⟨f1, f2⟩⟩ := cfgB_true hc
  have hM : MOk t.m := ⟨by rw [b.2.regs]; exact A.x.four, by rw [b.2.regs]; exact A.x.rg⟩
  have hP : t.m.place ≤ code.length := by rw [b.2.place, ← hcd]; exact A.x.plc
  have hBg : (t.m.begun : Int) ≤ K.c.f := by rw [b.2.begun]; exact A.x.bg
  have V := adv_sim K code h hcd yRounds t.m (K.c.f.toNat + 1) hM hP hBg (by unfold yRounds; omega) (by omega)
  refine ⟨⟨hM, by rw [b.1.c]; exact hBg, hP⟩, pNext t.c.f t.c.wd code yRounds t.m, rfl, ?_⟩
  unfold yTurn
  rw [b.1.c]
  have V1 := V.cs
  have Vo := V.ok
  have Vp := V.place
  have Vb := V.begun
  clear V
  generalize pNext K.c.f K.c.wd code yRounds t.m = u at *
  have b1 := bax_m b u.2 u.1
  have A1 := onn_m A u.2 Vo (by rw [hcd]; exact Vp) Vb
  have hkeep : (yTurned u t).fails = t.fails ∧ (yTurned u t).mine = t.mine ∧ (yTurned u t).cur = t.cur := by
    unfold yTurned yTouch yRead yWrite yFinish yLetGo
    repeat' split
    all_goals exact ⟨rfl, rfl, rfl⟩
  refine ⟨Vo.1, ?_, ?_, hkeep⟩
  · intro h0
    rcases V1 with ⟨q, _⟩ | ⟨_, i, N1, q1, q2, qa, qb, a0, a1, hcs⟩
    · exact absurd h0 q
    · refine ⟨⟨a0, by omega⟩, fun o7 => ?_⟩
      rcases hcs with ⟨_, hi, _⟩ | ⟨o8, _⟩
      · rw [hi]; exact qa
      · omega
  · unfold yTurned
    rcases V1 with ⟨h0, h1⟩ | ⟨h0, i, N1, q1, q2, qa, qb, a0, a1, hcs⟩
    · rw [if_neg h0]
      exact Or.inl (sim_close (t := { t with m := u.2, turn := u.1 }) (h := thM h u.2) b1 hg _ h0).step_ne
    · rw [if_pos h0]
      rw [b.2.begun] at q1
      obtain ⟨th, hth⟩ : ∃ th, th = ({ t with m := u.2, turn := u.1 } : PT) := ⟨_, rfl⟩
      obtain ⟨hh, hhh⟩ : ∃ hh, hh = thM h u.2 := ⟨_, rfl⟩
      have e1 : th.turn = u.1 := by rw [hth]
      have e2 : th.m = u.2 := by rw [hth]
      have e3 : hh.x.begun = u.2.begun := by rw [hhh]; rfl
      have e4 : hh.x.inGate = false := by rw [hhh]; exact hg
      have e5 : hh.x.code = code := by rw [hhh]; exact hcd
      have e6 : ∀ r, mReg u.2 r = regOf hh.x r := fun r => by rw [hhh]; rfl
      rw [← hth, ← hhh] at b1
      rw [← hhh] at A1
      rw [← hth]
      clear hth
      rw [← e1] at hcs a0 a1
      rw [← e2] at hcs
      unfold yTouch
      rcases hcs with ⟨o7, hi, ha, _⟩ | ⟨o8, ha, hv, _⟩
      · rw [if_pos o7]
        rw [e2, e6] at ha
        rcases w_read b1 e4 i o7 hi ha.symm a1 with ⟨v, ⟨e, hem, hev⟩, r1, r2⟩ | ⟨h', r1, r2⟩
        · rw [r1]
          have hval := A1.x.wr _ hem
          rw [← hev] at hval
          exact Or.inr ⟨_, ⟨bax_give b1 i.a v hi 7 th.turn.addr, e4, (A1.setx _ (A1.x.setReg _ _ hval.2.2.1 hval.2.2.2)).noted _ _ _, e5⟩, by show h.x.begun + 1 ≤ hh.x.begun; rw [e3]; exact q1⟩
        · exact Or.inl r2.step_ne
      · rw [if_neg (by omega)]
        rw [e2, e6] at ha hv
        rcases w_write b1 e4 i o8 ha.symm hv a1 with ⟨r1, r2⟩ | ⟨h', r1, r2⟩
        · rw [r1]
          exact Or.inr ⟨_, ⟨bax_log b1 i _ rfl hv, e4, put_ok A1 a0 a1, e5⟩, by show h.x.begun + 1 ≤ hh.x.begun; rw [e3]; exact q1⟩
        · exact Or.inl r2.step_ne

end Go.Proofs.Ytgdfmmfkdmhdgaa
