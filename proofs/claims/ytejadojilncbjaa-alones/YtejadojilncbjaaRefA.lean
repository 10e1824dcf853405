import Derived.Test.YtejadojilncbjaaTold
import Derived.Test.YtejadojilncbjaaSolo7
import Derived.Test.YtejadojilncbjaaSame
namespace Go.Proofs.Ytejadojilncbjaa
open Go.RowKit
set_option linter.unusedVariables false
attribute [local go_sem ↓] Go.wp_at_zero Go.wp_at_succ

def memW (mem : List Int) : Int → Int := fun a => mem.getD a.toNat 0
/-- What Alone tells: the result, the words. -/
def ansR (c : Cfg) (mem : List Int) (code : List InsD) : ResD := if errN c mem code = 0 then resOf (iRun c (memW mem) code).1 (iRun c (memW mem) code).2.2.1 else ⟨0, 0, 0, 0, 0⟩
def endW (c : Cfg) (mem : List Int) (code : List InsD) (a : Int) : Int := if (iRun c (memW mem) code).1 = 1 then vRead (memW mem) (iRun c (memW mem) code).2.2.1 a else memW mem a
def ansO (c : Cfg) (mem : List Int) (code : List InsD) : List Int := if errN c mem code = 0 then (List.range mem.length).map (fun a : Nat => endW c mem code (Int.ofNat a)) else []

theorem errN_ok {c : Cfg} {mem : List Int} {code : List InsD} (h : errN c mem code = 0) : cfgB c = true ∧ (mem.length : Int) = c.wd ∧ memB mem = true ∧ code.length ≤ 20 := by
  unfold errN machN at h
  by_cases h1 : cfgB c = true
  · rw [if_pos h1] at h
    by_cases h2 : (mem.length : Int) = c.wd ∧ memB mem = true
    · rw [if_pos h2, if_neg (by simp)] at h
      by_cases h3 : (code.length : Int) ≤ 20
      · exact ⟨h1, h2.1, h2.2, by omega⟩
      · rw [if_neg h3] at h; cases h
    · rw [if_neg h2, if_pos (by decide)] at h; cases h
  · rw [if_neg h1, if_pos (by decide)] at h; cases h

theorem memB_get {mem : List Int} (h : memB mem = true) (i : Nat) : 0 ≤ mem.getD i 0 ∧ mem.getD i 0 ≤ 65535 := by
  by_cases hi : i < mem.length
  · unfold memB at h
    rw [List.all_eq_true] at h
    have := h mem[i] (List.getElem_mem hi)
    rw [show mem.getD i 0 = mem[i] from by simp [List.getD, List.getElem?_eq_getElem hi]]
    exact inB_true this
  · rw [show mem.getD i 0 = 0 from by simp [List.getD, List.getElem?_eq_none (Nat.le_of_not_lt hi)]]
    omega

theorem log_row {w : World} {base : Nat} {a : Option Addr} {c : Nat} {l : List AccD} (h : w.ownsRow base 51 4 (.slice a l.length c) l.length (l.flatMap accCells)) : LogIn w w.heap.size a l := by
  intro i hi
  obtain ⟨g, cap, cur, hv, hb, hg, h1, h2, h3, h4⟩ := own_block h (by omega)
  simp at hv
  obtain ⟨rfl, rfl⟩ := hv
  have hat : ∀ j, j < 4 → w.cell? ⟨g, i * 4 + j, none⟩ = (accCells (accAt l i))[j]? := by
    intro j hj
    rw [hg.cell]
    have e1 : (l.flatMap accCells)[i * 4 + j]? = (accCells (accAt l i))[j]? := by
      rw [flat_at (n := 4) (fun _ => rfl) l i j hj]
      simp [accAt, List.getElem?_eq_getElem hi]
    rw [← e1, ← h4, List.getElem?_take, if_pos (by omega), Array.getElem?_toList]
  refine ⟨g, 0, rfl, hg.lt, ?_, ?_, ?_, ?_⟩
  · have := hat 0 (by omega); simpa [accCells] using this
  · have := hat 1 (by omega); simpa [accCells] using this
  · have := hat 2 (by omega); simpa [accCells] using this
  · have := hat 3 (by omega); simpa [accCells] using this
theorem pick_row {w : World} {base : Nat} {a : Option Addr} {c : Nat} {l : List PickD} (h : w.ownsRow base 58 2 (.slice a l.length c) l.length (l.flatMap pickCells)) : PicksIn w w.heap.size a l := by
  intro i hi
  obtain ⟨g, cap, cur, hv, hb, hg, h1, h2, h3, h4⟩ := own_block h (by omega)
  simp at hv
  obtain ⟨rfl, rfl⟩ := hv
  have hat : ∀ j, j < 2 → w.cell? ⟨g, i * 2 + j, none⟩ = (pickCells (pickAt l i))[j]? := by
    intro j hj
    rw [hg.cell]
    have e1 : (l.flatMap pickCells)[i * 2 + j]? = (pickCells (pickAt l i))[j]? := by
      rw [flat_at (n := 2) (fun _ => rfl) l i j hj]
      simp [pickAt, List.getElem?_eq_getElem hi]
    rw [← e1, ← h4, List.getElem?_take, if_pos (by omega), Array.getElem?_toList]
  refine ⟨g, 0, rfl, hg.lt, ?_, ?_⟩
  · have := hat 0 (by omega); simpa [pickCells] using this
  · have := hat 1 (by omega); simpa [pickCells] using this

theorem Try.info51 : (Try.prog.info? 51).map (fun i => (i.zero, i.size, i.bytes)) = some (some (.agg #[.int .i64 0, .int .i64 0, .int .i64 0, .int .i64 0]), 4, 32) := by kernel_rfl
theorem Try.info58 : (Try.prog.info? 58).map (fun i => (i.zero, i.size, i.bytes)) = some (some (.agg #[.int .i64 0, .int .i64 0]), 2, 16) := by kernel_rfl

theorem sees_good {c : Cfg} : ∀ {T : Tr} {m : Int → Int}, Sees c m T → ∀ q ∈ T, Good c q
  | [], m, h, q, hq => by simp at hq
  | a :: T, m, h, q, hq => by
    rcases List.mem_cons.1 hq with e | e
    · rw [e]; exact h.2.1
    · exact sees_good h.2.2 q e

/-- What Alone looks at of a life. -/
def LifeAt (p eb : Nat) (r : ResD) (q : AskD) (w : World) : Prop :=
  w.cell? ⟨p, 22, none⟩ = some (.slice (some ⟨eb, 0, none⟩) 1 1) ∧ (∀ j, w.cell? ⟨eb, j, none⟩ = (#[.int .i64 r.fate, .int .i64 r.r0, .int .i64 r.r1, .int .i64 r.r2, .int .i64 r.r3] : Array Value)[j]?) ∧
    w.cell? ⟨p, 15, none⟩ = some (.int .i64 q.kind) ∧ w.cell? ⟨p, 16, none⟩ = some (.int .i64 q.cell) ∧ w.cell? ⟨p, 17, none⟩ = some (.int .i64 q.frm) ∧ w.cell? ⟨p, 18, none⟩ = some (.int .i64 q.to)

theorem LifeR.at {E : Env} {H : Hd} {B p eb : Nat} {w : World} {s : LS} {r : ResD} (h : LifeR E H B p eb w s) (he : s.ends = [r]) (hH : H.ea = some ⟨eb, 0, none⟩) (hc : H.ec = 1) : LifeAt p eb r s.next w := by
  obtain ⟨la, lc, hb, _⟩ := h.life
  rcases h.ends with h0 | ⟨_, h1⟩
  · rw [he] at h0; cases h0
  · rw [he] at h1
    refine ⟨?_, fun j => ?_, ?_, ?_, ?_, ?_⟩
    · rw [hb.cell]; simp [lifeArr, hH, hc, he]
    · rw [h1.cell]; rfl
    · rw [hb.cell]; rfl
    · rw [hb.cell]; rfl
    · rw [hb.cell]; rfl
    · rw [hb.cell]; rfl

theorem job_sees {c : Cfg} (hc : cfgB c = true) {mem : List Int} (hmb : memB mem = true) {code : List InsD} : Sees c (fun x => mValue c mem [] x) (iJob c (memW mem) code) ∧ ∀ a, 0 ≤ a → a < c.wd → after (fun x => mValue c mem [] x) (iJob c (memW mem) code) (kWord c a) = endW c mem code a := by
  obtain ⟨⟨t1, _⟩, ⟨w1, _⟩, ⟨s1, _⟩, _⟩ := cfgB_true hc
  exact job_mu s1 t1 (by omega) (fun a a0 a1 => memB_get hmb _) code (mu_start c mem s1 t1)

theorem told_k {c : Cfg} (hc : cfgB c = true) {mem : List Int} (hmb : memB mem = true) {code : List InsD} (hcl : code.length ≤ 20) (k : Nat) (hk : k ≤ (iJob c (memW mem) code).length) (ma ja pa la : Option Addr) (ml mc jc pc lc B1 B2 : Nat) (wr : World) (hj : JobsRep wr wr.heap.size ja [(0, code)])
    (hp : wr.ownsRow B1 58 2 (.slice pa k pc) k ((picks0 k).flatMap pickCells)) (hl : wr.ownsRow B2 51 4 (.slice la k lc) k ((logOf ((iJob c (memW mem) code).take k)).flatMap accCells)) :
    Calls Try.prog 32 #[.agg #[.int .i64 c.t, .int .i64 c.wd, .int .i64 c.s, .int .i64 c.g, .int .i64 c.r, .int .i64 c.cp, .int .i64 c.f, .slice ma ml mc, .slice ja 1 jc], .slice pa k pc, .slice la k lc, .int .i64 0] wr fun e w' =>
      e = .returned (.pointer (some ⟨wr.heap.size + 2, 0, none⟩)) ∧ (∃ r q, LifeAt (wr.heap.size + 2) (wr.heap.size + 1) r q w' ∧ (k < (iJob c (memW mem) code).length → r = ⟨0, 0, 0, 0, 0⟩ ∧ q = ((iJob c (memW mem) code).getD k nilAsk).1) ∧ (k = (iJob c (memW mem) code).length → r = resOf (iRun c (memW mem) code).1 (iRun c (memW mem) code).2.2.1)) ∧ Below wr.heap.size wr w' := by
  obtain ⟨hs, _⟩ := job_sees (code := code) hc hmb
  obtain ⟨_, _, _, _, _, _, ⟨f1, f2⟩⟩ := cfgB_true hc
  have hN := iJob_len c (memW mem) code f2
  obtain ⟨h1, h2⟩ := told0 c code (memW mem) k hk
  generalize iJob c (memW mem) code = T at *
  have hg := sees_good hs
  have hlen : (T.take k).length = k := by simp; omega
  have hpl : (picks0 k).length = k := by simp [picks0]
  have hll : (logOf (T.take k)).length = k := by simp [logOf]; omega
  have hp' : wr.ownsRow B1 58 2 (.slice pa (picks0 k).length pc) (picks0 k).length ((picks0 k).flatMap pickCells) := by rw [hpl]; exact hp
  have hl' : wr.ownsRow B2 51 4 (.slice la (logOf (T.take k)).length lc) (logOf (T.take k)).length ((logOf (T.take k)).flatMap accCells) := by rw [hll]; exact hl
  have hcall := told_any c hc 0 (by omega) (by omega) ma ja pa la ml mc jc pc lc [(0, code)] (picks0 k) (logOf (T.take k)) wr hj (pick_row hp') (log_row hl') (by rw [hpl, hll]; exact Nat.le_refl _) (by rw [hll]; omega) (by rw [hpl]; omega) (fun a ha => by
      obtain ⟨q, hq, rfl⟩ := List.mem_map.1 ha
      have := hg q (List.mem_of_mem_take hq)
      exact ⟨this.2.2.2.1, by have := this.2.2.2.2; show q.2 ≤ _; omega⟩) (by simp) (by intro j hj; simp at hj; subst hj; exact hcl)
  rw [hpl, hll] at hcall
  refine hcall.mono ?_
  rintro e w' ⟨rfl, ⟨H, B, hL, hH1, hH2⟩, hb⟩
  refine ⟨rfl, ?_, hb⟩
  have hE : envOf c [(0, code)] 0 (picks0 k) (logOf (T.take k)) = env0 c code (T.take k) := by unfold env0; rw [hlen]
  rw [hE] at hL
  by_cases hkn : k < T.length
  · obtain ⟨g1, g2⟩ := h1 hkn
    exact ⟨_, _, hL.at g2 hH1 hH2, fun _ => ⟨rfl, g1⟩, fun e => by omega⟩
  · have g2 := h2 (by omega)
    exact ⟨_, _, hL.at g2 hH1 hH2, fun e => absurd e hkn, fun _ => rfl⟩

theorem made_k {c : Cfg} (hc : cfgB c = true) {mem : List Int} (hmw : (mem.length : Int) = c.wd) (hmb : memB mem = true) {code : List InsD} (k : Nat) (hk : k < (iJob c (memW mem) code).length) (ma ja la : Option Addr) (mc jl jc lc B2 : Nat) (wr : World) (hm : Ints wr wr.heap.size ma mem)
    (hl : wr.ownsRow B2 51 4 (.slice la k lc) k ((logOf ((iJob c (memW mem) code).take k)).flatMap accCells)) :
    Calls Try.prog 33 #[.agg #[.int .i64 c.t, .int .i64 c.wd, .int .i64 c.s, .int .i64 c.g, .int .i64 c.r, .int .i64 c.cp, .int .i64 c.f, .slice ma mem.length mc, .slice ja jl jc], .slice la k lc,
        .agg #[.int .i64 ((iJob c (memW mem) code).getD k nilAsk).1.kind, .int .i64 ((iJob c (memW mem) code).getD k nilAsk).1.cell, .int .i64 ((iJob c (memW mem) code).getD k nilAsk).1.frm, .int .i64 ((iJob c (memW mem) code).getD k nilAsk).1.to]] wr fun e w' =>
      e = .returned (.agg #[.int .i64 (accOf ((iJob c (memW mem) code).getD k nilAsk)).kind, .int .i64 (accOf ((iJob c (memW mem) code).getD k nilAsk)).cell, .int .i64 (accOf ((iJob c (memW mem) code).getD k nilAsk)).seen, .int .i64 (accOf ((iJob c (memW mem) code).getD k nilAsk)).put]) ∧ Below wr.heap.size wr w' := by
  obtain ⟨hs, _⟩ := job_sees (code := code) hc hmb
  obtain ⟨⟨t1, t2⟩, ⟨wd1, wd2⟩, ⟨s1, s2⟩, _, _, _, ⟨f1, f2⟩⟩ := cfgB_true hc
  have hN := iJob_len c (memW mem) code f2
  generalize iJob c (memW mem) code = T at *
  obtain ⟨m1, m2, m3⟩ := made_of (mem := mem) (fun x => rfl) hs hk
  have hll : (logOf (T.take k)).length = k := by simp [logOf]; omega
  have hl' : wr.ownsRow B2 51 4 (.slice la (logOf (T.take k)).length lc) (logOf (T.take k)).length ((logOf (T.take k)).flatMap accCells) := by rw [hll]; exact hl
  have hcall := made_any c hc ma ja la mc jl jc lc mem (logOf (T.take k)) (T.getD k nilAsk).1 wr hm (log_row hl') (by rw [hll]; omega) (fun _ => by
    rw [m3]
    obtain ⟨g1, g2, g3, g4, g5⟩ := m2
    refine ⟨by omega, by omega, ?_, g4, by omega⟩
    unfold wordBase
    omega)
  rw [hll, m1] at hcall
  exact hcall

theorem value_k {c : Cfg} (hc : cfgB c = true) {mem : List Int} (hmw : (mem.length : Int) = c.wd) (hmb : memB mem = true) {code : List InsD} (j : Nat) (hj : j < mem.length) (ma ja la : Option Addr) (mc jl jc lc B2 : Nat) (wr : World) (hm : Ints wr wr.heap.size ma mem)
    (hl : wr.ownsRow B2 51 4 (.slice la (iJob c (memW mem) code).length lc) (iJob c (memW mem) code).length ((logOf (iJob c (memW mem) code)).flatMap accCells)) :
    Calls Try.prog 34 #[.agg #[.int .i64 c.t, .int .i64 c.wd, .int .i64 c.s, .int .i64 c.g, .int .i64 c.r, .int .i64 c.cp, .int .i64 c.f, .slice ma mem.length mc, .slice ja jl jc], .slice la (iJob c (memW mem) code).length lc, .int .i64 (3 + 2 * c.s + c.t + (j : Int))] wr fun e w' =>
      e = .returned (.int .i64 (endW c mem code (Int.ofNat j))) ∧ Below wr.heap.size wr w' := by
  obtain ⟨hs, hw⟩ := job_sees (code := code) hc hmb
  obtain ⟨⟨t1, t2⟩, ⟨wd1, wd2⟩, ⟨s1, s2⟩, _, _, _, ⟨f1, f2⟩⟩ := cfgB_true hc
  have hN := iJob_len c (memW mem) code f2
  have hwj := hw (Int.ofNat j) (by simp) (by simp; omega)
  generalize iJob c (memW mem) code = T at *
  have hv := log_value c mem T [] _ [] (fun x => rfl) hs (kWord c (Int.ofNat j))
  rw [List.nil_append, hwj] at hv
  have hll : (logOf T).length = T.length := by simp [logOf]
  have hl' : wr.ownsRow B2 51 4 (.slice la (logOf T).length lc) (logOf T).length ((logOf T).flatMap accCells) := by rw [hll]; exact hl
  have hcall := value_any c hc ma ja la mc jl jc lc mem (logOf T) (kWord c (Int.ofNat j)) wr hm (log_row hl') (by rw [hll]; omega) (by unfold kWord; simp; omega) (by unfold kWord; simp; omega) (by unfold kWord wordBase; simp; omega)
  rw [hll, hv] at hcall
  exact hcall

/-- The post of both. -/
def AnsIs (w : World) (A : ResD) (O : List Int) (ER : Int) (e : Ending) (w' : World) : Prop :=
  ∃ (oa : Option Addr) (oc : Nat), e = .returned (.tuple #[.agg #[.int .i64 A.fate, .int .i64 A.r0, .int .i64 A.r1, .int .i64 A.r2, .int .i64 A.r3], .slice oa O.length oc, .int .i64 ER]) ∧ Ints w' w'.heap.size oa O ∧ Below w.heap.size w w'

theorem res_end {w w3 : World} {n rb : Nat} {cs : Array Value} (hr : Blk w3 rb 35 cs) (hcs : cs.size = 5) (hB : Below n w w3) (hn : n ≤ rb) (a b c d e : Value) :
    (((((w3.setCell ⟨rb, 0, none⟩ a).setCell ⟨rb, 1, none⟩ b).setCell ⟨rb, 2, none⟩ c).setCell ⟨rb, 3, none⟩ d).setCell ⟨rb, 4, none⟩ e).cell? ⟨rb, 0, none⟩ = some a ∧
    (((((w3.setCell ⟨rb, 0, none⟩ a).setCell ⟨rb, 1, none⟩ b).setCell ⟨rb, 2, none⟩ c).setCell ⟨rb, 3, none⟩ d).setCell ⟨rb, 4, none⟩ e).cell? ⟨rb, 1, none⟩ = some b ∧
    (((((w3.setCell ⟨rb, 0, none⟩ a).setCell ⟨rb, 1, none⟩ b).setCell ⟨rb, 2, none⟩ c).setCell ⟨rb, 3, none⟩ d).setCell ⟨rb, 4, none⟩ e).cell? ⟨rb, 2, none⟩ = some c ∧
    (((((w3.setCell ⟨rb, 0, none⟩ a).setCell ⟨rb, 1, none⟩ b).setCell ⟨rb, 2, none⟩ c).setCell ⟨rb, 3, none⟩ d).setCell ⟨rb, 4, none⟩ e).cell? ⟨rb, 3, none⟩ = some d ∧
    (((((w3.setCell ⟨rb, 0, none⟩ a).setCell ⟨rb, 1, none⟩ b).setCell ⟨rb, 2, none⟩ c).setCell ⟨rb, 3, none⟩ d).setCell ⟨rb, 4, none⟩ e).cell? ⟨rb, 4, none⟩ = some e ∧
    Below n w (((((w3.setCell ⟨rb, 0, none⟩ a).setCell ⟨rb, 1, none⟩ b).setCell ⟨rb, 2, none⟩ c).setCell ⟨rb, 3, none⟩ d).setCell ⟨rb, 4, none⟩ e) ∧
    Only rb w3 (((((w3.setCell ⟨rb, 0, none⟩ a).setCell ⟨rb, 1, none⟩ b).setCell ⟨rb, 2, none⟩ c).setCell ⟨rb, 3, none⟩ d).setCell ⟨rb, 4, none⟩ e) := by
  have hs := hr.set (i := 0) (v := a) |>.set (i := 1) (v := b) |>.set (i := 2) (v := c) |>.set (i := 3) (v := d) |>.set (i := 4) (v := e)
  have ho : Only rb w3 (((((w3.setCell ⟨rb, 0, none⟩ a).setCell ⟨rb, 1, none⟩ b).setCell ⟨rb, 2, none⟩ c).setCell ⟨rb, 3, none⟩ d).setCell ⟨rb, 4, none⟩ e) := ((((((Only.refl _ _).set).set).set).set).set)
  have hlt := hr.lt
  refine ⟨by rw [hs.cell]; simp [hcs], by rw [hs.cell]; simp [hcs], by rw [hs.cell]; simp [hcs], by rw [hs.cell]; simp [hcs], by rw [hs.cell]; simp [hcs], ?_, ho⟩
  exact hB.trans ⟨ho.os, ho.tape, ho.output, ho.size, fun k hk => ho.block k (by omega) (by omega)⟩

theorem below_set {n b i : Nat} {w w' : World} {v : Value} (h : Below n w w') (hb : n ≤ b) : Below n w (w'.setCell ⟨b, i, none⟩ v) := by
  have ho : Only b w' (w'.setCell ⟨b, i, none⟩ v) := (Only.refl _ _).set
  exact ⟨ho.os.trans h.os, ho.tape.trans h.tape, ho.output.trans h.output, Nat.le_trans h.size ho.size, fun k hk => (Below.heap_setCell _ _ _ _ (by simp; omega)).trans (h.block k hk)⟩

theorem JobsRep.mono {w : World} {n m : Nat} {ja : Option Addr} {jobs : List (Int × List InsD)} (h : JobsRep w n ja jobs) (hm : n ≤ m) : JobsRep w m ja jobs := by
  obtain ⟨js, h1, h2, h3⟩ := h
  refine ⟨js, h1, fun i hi => ?_, fun i hi => ⟨(h3 i hi).1, (h3 i hi).2.1, fun j hj => ?_⟩⟩
  · obtain ⟨b, off, g1, g2, g3⟩ := h2 i hi
    exact ⟨b, off, g1, by omega, g3⟩
  · obtain ⟨b, off, g1, g2, g3⟩ := (h3 i hi).2.2 j hj
    exact ⟨b, off, g1, by omega, g3⟩

/-- Where the loop stands. -/
def AtK (c : Cfg) (mem : List Int) (code : List InsD) (w2 : World) (k : Nat) (pa la : Option Addr) (pc lc p eb : Nat) (r : ResD) (q : AskD) (wr : World) : Prop :=
  wr.ownsRow w2.heap.size 58 2 (.slice pa k pc) k ((picks0 k).flatMap pickCells) ∧ wr.ownsRow w2.heap.size 51 4 (.slice la k lc) k ((logOf ((iJob c (memW mem) code).take k)).flatMap accCells) ∧ LifeAt p eb r q wr ∧
    (k < (iJob c (memW mem) code).length → r = ⟨0, 0, 0, 0, 0⟩ ∧ q = ((iJob c (memW mem) code).getD k nilAsk).1) ∧ (k = (iJob c (memW mem) code).length → r = resOf (iRun c (memW mem) code).1 (iRun c (memW mem) code).2.2.1) ∧ Below w2.heap.size w2 wr

theorem LifeAt.lt {p eb : Nat} {r : ResD} {q : AskD} {w : World} (h : LifeAt p eb r q w) : p < w.heap.size ∧ eb < w.heap.size := ⟨block_lt h.1, block_lt (h.2.1 0)⟩

theorem log_next (T : Tr) (k : Nat) (hk : k < T.length) : (logOf (T.take (k + 1))).flatMap accCells = (logOf (T.take k)).flatMap accCells ++ accCells (accOf (T.getD k nilAsk)) := by
  rw [List.take_add_one, List.getElem?_eq_getElem hk]
  unfold logOf
  rw [List.map_append, List.flatMap_append]
  simp [List.getD, List.getElem?_eq_getElem hk]
theorem picks_next (k : Nat) : (picks0 (k + 1)).flatMap pickCells = (picks0 k).flatMap pickCells ++ [.int .i64 0, .int .i64 0] := by
  unfold picks0
  rw [List.replicate_succ']
  simp [pickCells]

set_option maxRecDepth 100000 in
set_option maxHeartbeats 8000000 in
theorem refAlone_any (c : Cfg) (mem : List Int) (code : List InsD) (ma ca : Option Addr) (mc cc : Nat) (w : World) (hm : mem.length ≤ maxLen) (h : Ints w w.heap.size ma mem) (hcd : CodeIn w w.heap.size ca code) :
    Calls Try.prog 12 #[.agg #[.int .i64 c.t, .int .i64 c.wd, .int .i64 c.s, .int .i64 c.g, .int .i64 c.r, .int .i64 c.cp, .int .i64 c.f], .slice ma mem.length mc, .slice ca code.length cc] w (AnsIs w (ansR c mem code) (ansO c mem code) (errN c mem code)) := by
  have HI : Hid (Ints w w.heap.size ma mem) := h
  have HCD : Hid (CodeIn w w.heap.size ca code) := hcd
  obtain ⟨A, HA⟩ : ∃ A, Hid (ansR c mem code = A) := ⟨_, rfl⟩
  obtain ⟨O, HO⟩ : ∃ O, Hid (ansO c mem code = O) := ⟨_, rfl⟩
  obtain ⟨ER, HER⟩ : ∃ ER, Hid (errN c mem code = ER) := ⟨_, rfl⟩
  rw [show ansR c mem code = A from HA.out, show ansO c mem code = O from HO.out, show errN c mem code = ER from HER.out]
  clear h hcd
  go_enter Try.func12, Try.ntmps12
  go_wp2_with fail
  obtain ⟨w0, hw0⟩ : ∃ w0, w0 = (w.alloc (.cells #[.int .i64 c.t, .int .i64 c.wd, .int .i64 c.s, .int .i64 c.g, .int .i64 c.r, .int .i64 c.cp, .int .i64 c.f] 23)).alloc (.cells #[.int .i64 0, .int .i64 0, .int .i64 0, .int .i64 0, .int .i64 0] 35) := ⟨_, rfl⟩
  have hbc0 : Blk w0 w.heap.size 23 #[.int .i64 c.t, .int .i64 c.wd, .int .i64 c.s, .int .i64 c.g, .int .i64 c.r, .int .i64 c.cp, .int .i64 c.f] := by rw [hw0]; exact (Blk.new w 23 _).alloc _
  have hbr0 : Blk w0 (w.heap.size + 1) 35 #[.int .i64 0, .int .i64 0, .int .i64 0, .int .i64 0, .int .i64 0] := by
    rw [hw0]
    have := Blk.new (w.alloc (.cells #[.int .i64 c.t, .int .i64 c.wd, .int .i64 c.s, .int .i64 c.g, .int .i64 c.r, .int .i64 c.cp, .int .i64 c.f] 23)) 35 #[.int .i64 0, .int .i64 0, .int .i64 0, .int .i64 0, .int .i64 0]
    simpa using this
  have hB0 : Below w.heap.size w w0 := by rw [hw0]; exact ((Below.refl w.heap.size w).alloc (Nat.le_refl _) _).alloc (by simp) _
  have hs0 : w0.heap.size = w.heap.size + 2 := by rw [hw0]; simp
  rw [← hw0]
  clear hw0
  refine (machine_core _ _ _ _ _ _ _ _ _ _ mem _ rfl hm ((HI.out).up hB0)).mono ?_
  rintro e w1 ⟨rfl, hb1⟩
  have HB1 : Hid (Below w.heap.size w w1) := hB0.trans (hb1.mono (by omega))
  have HBc : Hid (Blk w1 w.heap.size 23 #[.int .i64 c.t, .int .i64 c.wd, .int .i64 c.s, .int .i64 c.g, .int .i64 c.r, .int .i64 c.cp, .int .i64 c.f]) := hbc0.below hb1 (by omega)
  have HBr : Hid (Blk w1 (w.heap.size + 1) 35 #[.int .i64 0, .int .i64 0, .int .i64 0, .int .i64 0, .int .i64 0]) := hbr0.below hb1 (by omega)
  have hs1 : w.heap.size + 2 ≤ w1.heap.size := by have := hb1.size; omega
  clear hb1 hB0 hbc0 hbr0 hs0
  rw [show (⟨c.t, c.wd, c.s, c.g, c.r, c.cp, c.f⟩ : Cfg) = c from rfl]
  have HU : Hid (ER = if machN c mem ≠ 0 then machN c mem else if (code.length : Int) ≤ 20 then 0 else 4) := (HER.out).symm
  have hbad : ER ≠ 0 → A = ⟨0, 0, 0, 0, 0⟩ ∧ O = [] := fun he => by
    constructor
    · rw [← HA.out]; exact if_neg (by rw [HER.out]; exact he)
    · rw [← HO.out]; exact if_neg (by rw [HER.out]; exact he)
  generalize machN c mem = e1 at *
  have hrc := (HBr.out).cell
  have hrf := (HBr.out).frozen
  by_cases he : e1 = 0
  · have hbe : (e1 == 0) = true := by simp [he]
    have hbn : (e1 != 0) = false := by simp [he]
    have HU2 : Hid (ER = if (code.length : Int) ≤ 20 then 0 else 4) := (HU.out).trans (if_neg (by simp [he]))
    clear HU
    by_cases hl : (code.length : Int) ≤ 20
    · have hER : ER = 0 := (HU2.out).trans (if_pos hl)
      subst hER
      obtain ⟨hcf, hmw, hmb, hcl⟩ := errN_ok HER.out
      have HAe : Hid (A = resOf (iRun c (memW mem) code).1 (iRun c (memW mem) code).2.2.1) := by
        show A = _
        rw [← HA.out]; exact if_pos HER.out
      have HOe : Hid (O = (List.range mem.length).map (fun a : Nat => endW c mem code (Int.ofNat a))) := by
        show O = _
        rw [← HO.out]; exact if_pos HER.out
      clear HU2 hbad HA HO
      have hcc := (HBc.out).cell
      go_wp2_with fail
      clear hcc hrc hrf hbe hbn he
      obtain ⟨w2, hw2⟩ : ∃ w2, w2 = (w1.alloc (.cells #[.int .i64 0, .slice ca code.length cc] 68)).alloc (.cells #[.int .i64 c.t, .int .i64 c.wd, .int .i64 c.s, .int .i64 c.g, .int .i64 c.r, .int .i64 c.cp, .int .i64 c.f, .slice ma mem.length mc, .slice (some ⟨w1.heap.size, 0, none⟩) 1 1] 27) := ⟨_, rfl⟩
      have hB12 : Below w1.heap.size w1 w2 := by rw [hw2]; exact ((Below.refl _ _).alloc (Nat.le_refl _) _).alloc (by simp) _
      have HB2 : Hid (Below w.heap.size w w2) := (HB1.out).trans (hB12.mono (by omega))
      have hs2 : w2.heap.size = w1.heap.size + 2 := by rw [hw2]; simp
      have HSb : Hid (Blk w2 (w1.heap.size + 1) 27 #[.int .i64 c.t, .int .i64 c.wd, .int .i64 c.s, .int .i64 c.g, .int .i64 c.r, .int .i64 c.cp, .int .i64 c.f, .slice ma mem.length mc, .slice (some ⟨w1.heap.size, 0, none⟩) 1 1]) := by
        rw [hw2]
        have := Blk.new (w1.alloc (.cells #[.int .i64 0, .slice ca code.length cc] 68)) 27 #[.int .i64 c.t, .int .i64 c.wd, .int .i64 c.s, .int .i64 c.g, .int .i64 c.r, .int .i64 c.cp, .int .i64 c.f, .slice ma mem.length mc, .slice (some ⟨w1.heap.size, 0, none⟩) 1 1]
        exact (by simpa using this : Blk _ _ _ _)
      have HJb : Hid (Blk w2 w1.heap.size 68 #[.int .i64 0, .slice ca code.length cc]) := by
        rw [hw2]
        exact (Blk.new w1 68 _).alloc _
      have HR2 : Hid (Blk w2 (w.heap.size + 1) 35 #[.int .i64 0, .int .i64 0, .int .i64 0, .int .i64 0, .int .i64 0]) := (HBr.out).below hB12 (by omega)
      have HC2 : Hid (Blk w2 w.heap.size 23 #[.int .i64 c.t, .int .i64 c.wd, .int .i64 c.s, .int .i64 c.g, .int .i64 c.r, .int .i64 c.cp, .int .i64 c.f]) := (HBc.out).below hB12 (by omega)
      have HJ2 : Hid (JobsRep w2 w2.heap.size (some ⟨w1.heap.size, 0, none⟩) [(0, code)]) := by
        refine ⟨[⟨0, ca, code.length, cc⟩], rfl, fun i hi => ?_, fun i hi => ?_⟩
        · have : i = 0 := by simp at hi; omega
          subst this
          exact ⟨_, 0, rfl, by omega, by rw [(HJb.out).cell]; rfl, by rw [(HJb.out).cell]; rfl⟩
        · have : i = 0 := by simp at hi; omega
          subst this
          refine ⟨rfl, rfl, fun j hj => ?_⟩
          obtain ⟨b, off, g1, g2, g3⟩ := (HCD.out).up HB2.out j hj
          exact ⟨b, off, g1, by have := (HB2.out).size; omega, g3⟩
      have HI2 : Hid (Ints w2 w2.heap.size ma mem) := (HI.out).up HB2.out
      rw [← hw2]
      clear hw2 hB12 HBr HBc HB1 HJb
      generalize hsb : w1.heap.size + 1 = sb at *
      generalize hjb : w1.heap.size = jb at *
      refine (told_k hcf hmb hcl 0 (Nat.zero_le _) ma (some ⟨jb, 0, none⟩) none none mem.length mc 1 0 0 w2.heap.size w2.heap.size w2 HJ2.out (World.ownsRow_nil _ _ _ _) (World.ownsRow_nil _ _ _ _)).mono ?_
      rintro e w3 ⟨rfl, ⟨r, q, hLA, hk1, hk2⟩, hb3⟩
      have HA3 : Hid (AtK c mem code w2 0 none none 0 0 (w2.heap.size + 2) (w2.heap.size + 1) r q w3) := ⟨World.ownsRow_nil _ _ _ _, World.ownsRow_nil _ _ _ _, hLA, hk1, hk2, hb3⟩
      clear hLA hk1 hk2 hb3
      obtain ⟨N, hN⟩ : ∃ N, N = (iJob c (memW mem) code).length := ⟨_, rfl⟩
      have hN4 : N ≤ 400 := by rw [hN]; exact iJob_len c (memW mem) code (cfgB_true hcf).2.2.2.2.2.2.2
      have HN : Hid (N = (iJob c (memW mem) code).length) := hN
      clear hN
      obtain ⟨i4, hi4, hz40, hz41, hz42⟩ := info_parts Try.info51
      obtain ⟨i6, hi6, hz60, hz61, hz62⟩ := info_parts Try.info58
      obtain ⟨i3, hi3, hz30, hz31, hz32⟩ := info_parts Try.info3
      go_wp2
      go_loopg [11, 12, 13, 14] (N + 1) (fun m t11 t12 t13 t14 wr => ∃ (k : Nat) (pa la : Option Addr) (pc lc p eb : Nat) (r : ResD) (q : AskD), t11 = .slice pa k pc ∧ t12 = .slice la k lc ∧ t13 = .pointer (some ⟨p, 0, none⟩) ∧ k ≤ N ∧ m = N + 1 - k ∧ Hid (AtK c mem code w2 k pa la pc lc p eb r q wr))
      case atStart => exact ⟨0, none, none, 0, 0, _, _, r, q, rfl, rfl, rfl, by omega, by omega, by first | exact HA3 | (rw [hs2] at HA3; exact HA3)⟩
      case round =>
        obtain ⟨k, pa, la, pc, lc, p, eb, r1, q1, rfl, rfl, rfl, hk, hgk, HAk⟩ := hrel
        clear HA3
        have hLA := (HAk.out).2.2.1
        obtain ⟨h22, heb, h15, h16, h17, h18⟩ := hLA
        by_cases hkl : k < N
        · obtain ⟨hr0, hq0⟩ := (HAk.out).2.2.2.1 (by rw [← show N = (iJob c (memW mem) code).length from HN.out]; exact hkl)
          subst hr0
          have hk5 : (k : Int) < 524288 := by omega
          have hsc := ((HSb.out).below (HAk.out).2.2.2.2.2 (by omega)).cell
          obtain ⟨tk, htk⟩ : ∃ tk, tk = (iJob c (memW mem) code).getD k nilAsk := ⟨_, rfl⟩
          obtain ⟨LG, hLG⟩ : ∃ LG, LG = (logOf ((iJob c (memW mem) code).take k)).flatMap accCells := ⟨_, rfl⟩
          have hkT : k < (iJob c (memW mem) code).length := by rw [← show N = (iJob c (memW mem) code).length from HN.out]; exact hkl
          have HMK : Hid (∀ wx : World, Ints wx wx.heap.size ma mem → wx.ownsRow w2.heap.size 51 4 (.slice la k lc) k LG → Calls Try.prog 33 #[.agg #[.int .i64 c.t, .int .i64 c.wd, .int .i64 c.s, .int .i64 c.g, .int .i64 c.r, .int .i64 c.cp, .int .i64 c.f, .slice ma mem.length mc, .slice (some ⟨jb, 0, none⟩) 1 1], .slice la k lc, .agg #[.int .i64 tk.1.kind, .int .i64 tk.1.cell, .int .i64 tk.1.frm, .int .i64 tk.1.to]] wx (fun e w' => e = .returned (.agg #[.int .i64 (accOf tk).kind, .int .i64 (accOf tk).cell, .int .i64 (accOf tk).seen, .int .i64 (accOf tk).put]) ∧ Below wx.heap.size wx w')) := fun wx g1 g2 => by
            rw [hLG] at g2
            rw [htk]
            exact made_k hcf hmw hmb k hkT ma (some ⟨jb, 0, none⟩) la mc 1 1 lc w2.heap.size wx g1 g2
          have HLGn : Hid ((logOf ((iJob c (memW mem) code).take (k + 1))).flatMap accCells = LG ++ accCells (accOf tk)) := by
            show _ = _
            rw [log_next _ _ hkT, ← hLG, ← htk]
          have hq : q1 = tk.1 := hq0.trans (by rw [htk])
          subst hq
          have HRp : Hid (wr.ownsRow w2.heap.size 58 2 (.slice pa k pc) k ((picks0 k).flatMap pickCells)) := (HAk.out).1
          have HRl : Hid (wr.ownsRow w2.heap.size 51 4 (.slice la k lc) k LG) := by
            have h := (HAk.out).2.1
            rw [← hLG] at h
            exact h
          have HBk : Hid (Below w2.heap.size w2 wr) := (HAk.out).2.2.2.2.2
          have hszk : w2.heap.size ≤ wr.heap.size := (HBk.out).size
          have HIk : Hid (Ints wr wr.heap.size ma mem) := (HI2.out).up HBk.out
          obtain ⟨hplt, hebl⟩ := LifeAt.lt (HAk.out).2.2.1
          have hsbl : sb < wr.heap.size := by omega
          clear hq0 hLG htk HAk
          go_wp2_with fail
          go_cut [14] (fun t wx => ∃ ab, t = .pointer (some ⟨ab, 0, none⟩) ∧ Hid (Blk wx ab 51 #[.int .i64 (accOf tk).kind, .int .i64 (accOf tk).cell, .int .i64 (accOf tk).seen, .int .i64 (accOf tk).put]) ∧ Hid (Below wr.heap.size wr wx))
          case first =>
            have HS0 : Hid ((∀ i, wr.drew.cell? ⟨sb, i, none⟩ = (#[.int .i64 c.t, .int .i64 c.wd, .int .i64 c.s, .int .i64 c.g, .int .i64 c.r, .int .i64 c.cp, .int .i64 c.f, .slice ma mem.length mc, .slice (some ⟨jb, 0, none⟩) 1 1] : Array Value)[i]?) ∧ wr.drew.cell? ⟨p, 15, none⟩ = some (.int .i64 tk.1.kind) ∧ wr.drew.cell? ⟨p, 16, none⟩ = some (.int .i64 tk.1.cell) ∧ wr.drew.cell? ⟨p, 17, none⟩ = some (.int .i64 tk.1.frm) ∧ wr.drew.cell? ⟨p, 18, none⟩ = some (.int .i64 tk.1.to)) := ⟨hsc, h15, h16, h17, h18⟩
            have hS : ∀ wx : World, Below wr.heap.size wr wx → ((∀ i, wx.cell? ⟨sb, i, none⟩ = (#[.int .i64 c.t, .int .i64 c.wd, .int .i64 c.s, .int .i64 c.g, .int .i64 c.r, .int .i64 c.cp, .int .i64 c.f, .slice ma mem.length mc, .slice (some ⟨jb, 0, none⟩) 1 1] : Array Value)[i]?) ∧ wx.cell? ⟨p, 15, none⟩ = some (.int .i64 tk.1.kind) ∧ wx.cell? ⟨p, 16, none⟩ = some (.int .i64 tk.1.cell) ∧ wx.cell? ⟨p, 17, none⟩ = some (.int .i64 tk.1.frm) ∧ wx.cell? ⟨p, 18, none⟩ = some (.int .i64 tk.1.to)) := fun wx hb => ⟨fun i => (World.cell?_of_block (hb.block sb hsbl)).trans (hsc i), (World.cell?_of_block (hb.block p hplt)).trans h15, (World.cell?_of_block (hb.block p hplt)).trans h16, (World.cell?_of_block (hb.block p hplt)).trans h17, (World.cell?_of_block (hb.block p hplt)).trans h18⟩
            have hby : Below wr.heap.size wr (wr.drew.alloc (.cells #[.int .i64 0, .int .i64 0, .int .i64 0, .int .i64 0] 51)) := (Below.refl wr.heap.size wr).drew.alloc (Nat.le_refl _) _
            have HBy : Hid (Blk (wr.drew.alloc (.cells #[.int .i64 0, .int .i64 0, .int .i64 0, .int .i64 0] 51)) wr.heap.size 51 #[.int .i64 0, .int .i64 0, .int .i64 0, .int .i64 0]) := Blk.new wr.drew 51 _
            have HI0 : Hid (Ints wr.drew wr.drew.heap.size ma mem) := HIk
            have HR0 : Hid (wr.drew.ownsRow w2.heap.size 51 4 (.slice la k lc) k LG) := (HRl.out).drew
            have HI1 : Hid (Ints (wr.drew.alloc (.cells #[.int .i64 0, .int .i64 0, .int .i64 0, .int .i64 0] 51)) (wr.drew.alloc (.cells #[.int .i64 0, .int .i64 0, .int .i64 0, .int .i64 0] 51)).heap.size ma mem) := (HIk.out).up hby
            have HR1 : Hid ((wr.drew.alloc (.cells #[.int .i64 0, .int .i64 0, .int .i64 0, .int .i64 0] 51)).ownsRow w2.heap.size 51 4 (.slice la k lc) k LG) := (HRl.out).drew.alloc _
            have HSA : Hid ((∀ i, (wr.drew.alloc (.cells #[.int .i64 0, .int .i64 0, .int .i64 0, .int .i64 0] 51)).cell? ⟨sb, i, none⟩ = (#[.int .i64 c.t, .int .i64 c.wd, .int .i64 c.s, .int .i64 c.g, .int .i64 c.r, .int .i64 c.cp, .int .i64 c.f, .slice ma mem.length mc, .slice (some ⟨jb, 0, none⟩) 1 1] : Array Value)[i]?) ∧ (wr.drew.alloc (.cells #[.int .i64 0, .int .i64 0, .int .i64 0, .int .i64 0] 51)).cell? ⟨p, 15, none⟩ = some (.int .i64 tk.1.kind) ∧ (wr.drew.alloc (.cells #[.int .i64 0, .int .i64 0, .int .i64 0, .int .i64 0] 51)).cell? ⟨p, 16, none⟩ = some (.int .i64 tk.1.cell) ∧ (wr.drew.alloc (.cells #[.int .i64 0, .int .i64 0, .int .i64 0, .int .i64 0] 51)).cell? ⟨p, 17, none⟩ = some (.int .i64 tk.1.frm) ∧ (wr.drew.alloc (.cells #[.int .i64 0, .int .i64 0, .int .i64 0, .int .i64 0] 51)).cell? ⟨p, 18, none⟩ = some (.int .i64 tk.1.to)) := hS _ hby
            have HHS : Hid (∀ wx : World, Below wr.heap.size wr wx → ((∀ i, wx.cell? ⟨sb, i, none⟩ = (#[.int .i64 c.t, .int .i64 c.wd, .int .i64 c.s, .int .i64 c.g, .int .i64 c.r, .int .i64 c.cp, .int .i64 c.f, .slice ma mem.length mc, .slice (some ⟨jb, 0, none⟩) 1 1] : Array Value)[i]?) ∧ wx.cell? ⟨p, 15, none⟩ = some (.int .i64 tk.1.kind) ∧ wx.cell? ⟨p, 16, none⟩ = some (.int .i64 tk.1.cell) ∧ wx.cell? ⟨p, 17, none⟩ = some (.int .i64 tk.1.frm) ∧ wx.cell? ⟨p, 18, none⟩ = some (.int .i64 tk.1.to))) := hS
            have HBY : Hid (Below wr.heap.size wr (wr.drew.alloc (.cells #[.int .i64 0, .int .i64 0, .int .i64 0, .int .i64 0] 51))) := hby
            clear hS hby h22 heb HRp HLGn HN HI2 HJ2 HB2 HR2 HC2 HI HCD HIk HRl
            go_region_held3 (fun w' => (∀ i, w'.cell? ⟨sb, i, none⟩ = (#[.int .i64 c.t, .int .i64 c.wd, .int .i64 c.s, .int .i64 c.g, .int .i64 c.r, .int .i64 c.cp, .int .i64 c.f, .slice ma mem.length mc, .slice (some ⟨jb, 0, none⟩) 1 1] : Array Value)[i]?) ∧ w'.cell? ⟨p, 15, none⟩ = some (.int .i64 tk.1.kind) ∧ w'.cell? ⟨p, 16, none⟩ = some (.int .i64 tk.1.cell) ∧ w'.cell? ⟨p, 17, none⟩ = some (.int .i64 tk.1.frm) ∧ w'.cell? ⟨p, 18, none⟩ = some (.int .i64 tk.1.to))
              (first | exact HS1.out | exact HSA.out | exact HS0.out | exact HHS.out _ ((HB4.out).alloc (HB4.out).size _) | exact HHS.out _ (below_set (below_set (below_set (below_set HB4.out (Nat.le_refl _)) (Nat.le_refl _)) (Nat.le_refl _)) (Nat.le_refl _)) | exact HHS.out _ (below_set (below_set (below_set (below_set ((HB4.out).alloc (HB4.out).size _) (HB4.out).size) (HB4.out).size) (HB4.out).size) (HB4.out).size))
              (first
                | (go_at_call 33; refine (HMK.out _ HI0.out HR0.out).mono ?_; rintro e w4 ⟨rfl, hb4⟩; have HB4 : Hid (Below wr.heap.size wr w4) := (Below.refl wr.heap.size wr).drew.trans hb4; clear hb4;
                   have HS1 : Hid ((∀ i, w4.cell? ⟨sb, i, none⟩ = (#[.int .i64 c.t, .int .i64 c.wd, .int .i64 c.s, .int .i64 c.g, .int .i64 c.r, .int .i64 c.cp, .int .i64 c.f, .slice ma mem.length mc, .slice (some ⟨jb, 0, none⟩) 1 1] : Array Value)[i]?) ∧ w4.cell? ⟨p, 15, none⟩ = some (.int .i64 tk.1.kind) ∧ w4.cell? ⟨p, 16, none⟩ = some (.int .i64 tk.1.cell) ∧ w4.cell? ⟨p, 17, none⟩ = some (.int .i64 tk.1.frm) ∧ w4.cell? ⟨p, 18, none⟩ = some (.int .i64 tk.1.to)) := HHS.out _ HB4.out)
                | (go_at_call 33; refine (HMK.out _ HI1.out HR1.out).mono ?_; rintro e w4 ⟨rfl, hb4⟩; have HB4 : Hid (Below wr.heap.size wr w4) := (HBY.out).trans (hb4.mono (by simp)); have HZ4 : Hid (Blk w4 wr.heap.size 51 #[.int .i64 0, .int .i64 0, .int .i64 0, .int .i64 0]) := (HBy.out).below hb4 (HBy.out).lt; clear hb4; have hzc := (HZ4.out).cell; have hzf := (HZ4.out).frozen;
                   have HS1 : Hid ((∀ i, w4.cell? ⟨sb, i, none⟩ = (#[.int .i64 c.t, .int .i64 c.wd, .int .i64 c.s, .int .i64 c.g, .int .i64 c.r, .int .i64 c.cp, .int .i64 c.f, .slice ma mem.length mc, .slice (some ⟨jb, 0, none⟩) 1 1] : Array Value)[i]?) ∧ w4.cell? ⟨p, 15, none⟩ = some (.int .i64 tk.1.kind) ∧ w4.cell? ⟨p, 16, none⟩ = some (.int .i64 tk.1.cell) ∧ w4.cell? ⟨p, 17, none⟩ = some (.int .i64 tk.1.frm) ∧ w4.cell? ⟨p, 18, none⟩ = some (.int .i64 tk.1.to)) := HHS.out _ HB4.out))
            all_goals
              go_wp2
              go_meet
              case rel => first
                | exact ⟨_, rfl, Blk.new w4 51 _, (HB4.out).alloc (HB4.out).size _⟩
                | exact ⟨_, rfl, ((((HZ4.out).set).set).set).set.congr (by simp), below_set (below_set (below_set (below_set HB4.out (Nat.le_refl _)) (Nat.le_refl _)) (Nat.le_refl _)) (Nat.le_refl _)⟩
          case rest =>
            obtain ⟨ab, rfl, HAb, HBx⟩ := hcut
            have hac := (HAb.out).cell
            have hszx : w2.heap.size ≤ wc.heap.size := Nat.le_trans hszk (HBx.out).size
            have HB2x : Hid (Below w2.heap.size w2 wc) := (HBk.out).trans ((HBx.out).mono hszk)
            have HRl1 : Hid (wc.ownsRow w2.heap.size 51 4 (.slice la k lc) k LG) := ownsRow_keep HRl.out (Kp.below (chg := []) (p := w2.heap.size) (eb := w2.heap.size) HBx.out hszk) (by simp)
            have HRp1 : Hid (wc.ownsRow w2.heap.size 58 2 (.slice pa k pc) k ((picks0 k).flatMap pickCells)) := ownsRow_keep HRp.out (Kp.below (chg := []) (p := w2.heap.size) (eb := w2.heap.size) HBx.out hszk) (by simp)
            clear HRl HRp HBx HMK hsc h15 h16 h17 h18 h22 heb hplt hebl HIk HBk
            obtain ⟨PK, hPK⟩ : ∃ PK, PK = (picks0 k).flatMap pickCells := ⟨_, rfl⟩
            have HPKn : Hid ((picks0 (k + 1)).flatMap pickCells = PK ++ [.int .i64 0, .int .i64 0]) := by rw [hPK]; exact picks_next k
            rw [← hPK] at HRp1
            clear hPK
            go_wp2_with
              (first
                | (at_builtin;
                   refine wpList_append_lies _ (by rfl) _ _ _ (by rfl) w2.heap.size 51 i4 _ 4 32 Try.underlying42 hi4 hz40 hz41 hz42 rfl (by omega) (.slice la k lc) k LG (by rfl) ((HRl1.out).alloc _)
                     ⟨wc.heap.size, 0, none⟩ 1 1 [.int .i64 (accOf tk).kind, .int .i64 (accOf tk).cell, .int .i64 (accOf tk).seen, .int .i64 (accOf tk).put] (by rfl) (by rfl) (World.news_of_block (cs := #[.int .i64 (accOf tk).kind, .int .i64 (accOf tk).cell, .int .i64 (accOf tk).seen, .int .i64 (accOf tk).put]) (t := 51) (fr := (0, 0)) (heap_alloc_new wc _)) (by simp [Value.oneCell'])
                     (by omega) (by unfold maxLen; omega) (by omega) (by simp; omega) (wc.heap.size + 1) (by simp) ?_;
                   intro g5 cap5 w5 hown5 hgrow5 hat5 hlt5;
                   have HK5 : Hid (Kp [51] w2.heap.size w2.heap.size w2.heap.size wc w5) := ((Kp.below ((Below.refl _ _).alloc (Nat.le_refl _) _) hszx).trans (Kp.grown hgrow5 (by simp; omega) ((HRl1.out).alloc _) (by simp)));
                   have HRl5 : Hid (w5.ownsRow w2.heap.size 51 4 (.slice (some ⟨g5, 0, none⟩) (k + 1) cap5) (k + 1) (LG ++ [.int .i64 (accOf tk).kind, .int .i64 (accOf tk).cell, .int .i64 (accOf tk).seen, .int .i64 (accOf tk).put])) := hown5;
                   have HRp5 : Hid (w5.ownsRow w2.heap.size 58 2 (.slice pa k pc) k PK) := ownsRow_keep HRp1.out HK5.out (by simp);
                   have hsz5 : w2.heap.size ≤ w5.heap.size := Nat.le_trans hszx (HK5.out).size;
                   clear hown5 hgrow5 hat5 hlt5)
                | (at_builtin;
                   refine wpList_append_lies _ (by rfl) _ _ _ (by rfl) w2.heap.size 58 i6 _ 2 16 Try.underlying41 hi6 hz60 hz61 hz62 rfl (by omega) (.slice pa k pc) k PK (by rfl) ((HRp5.out).alloc _)
                     ⟨w5.heap.size, 0, none⟩ 1 1 [.int .i64 0, .int .i64 0] (by rfl) (by rfl) (World.news_of_block (cs := #[.int .i64 0, .int .i64 0]) (t := 58) (fr := (0, 0)) (heap_alloc_new w5 _)) (by simp [Value.oneCell'])
                     (by omega) (by unfold maxLen; omega) (by omega) (by simp; omega) (w5.heap.size + 1) (by simp) ?_;
                   intro g6 cap6 w6 hown6 hgrow6 hat6 hlt6;
                   have HK6 : Hid (Kp [51, 58] w2.heap.size w2.heap.size w2.heap.size wc w6) := ((HK5.out).wide (by simp)).trans ((Kp.below ((Below.refl _ _).alloc (Nat.le_refl _) _) hsz5).trans (Kp.grown hgrow6 (by simp; omega) ((HRp5.out).alloc _) (by simp)));
                   have HRp6 : Hid (w6.ownsRow w2.heap.size 58 2 (.slice (some ⟨g6, 0, none⟩) (k + 1) cap6) (k + 1) (PK ++ [.int .i64 0, .int .i64 0])) := hown6;
                   have HRl6 : Hid (w6.ownsRow w2.heap.size 51 4 (.slice (some ⟨g5, 0, none⟩) (k + 1) cap5) (k + 1) (LG ++ [.int .i64 (accOf tk).kind, .int .i64 (accOf tk).cell, .int .i64 (accOf tk).seen, .int .i64 (accOf tk).put])) := ownsRow_keep HRl5.out ((Kp.below (chg := [58]) (p := w2.heap.size) (eb := w2.heap.size) ((Below.refl _ _).alloc (Nat.le_refl _) _) hsz5).trans (Kp.grown hgrow6 (by simp; omega) ((HRp5.out).alloc _) (by simp))) (by simp);
                   have HB6 : Hid (Below w2.heap.size w2 w6) := ⟨(HK6.out).os.trans (HB2x.out).os, (HK6.out).tape.trans (HB2x.out).tape, (HK6.out).output.trans (HB2x.out).output, Nat.le_trans (HB2x.out).size (HK6.out).size, fun b hb => ((HK6.out).low b hb (by omega) (by omega)).trans ((HB2x.out).block b hb)⟩;
                   have hs6 := ((HSb.out).below HB6.out (by omega)).cell;
                   clear hown6 hgrow6 hat6 hlt6))
            have hRlk : w6.ownsRow w2.heap.size 51 4 (.slice (some ⟨g5, 0, none⟩) (k + 1) cap5) (k + 1) ((logOf ((iJob c (memW mem) code).take (k + 1))).flatMap accCells) := by rw [HLGn.out]; exact HRl6.out
            have hRpk : w6.ownsRow w2.heap.size 58 2 (.slice (some ⟨g6, 0, none⟩) (k + 1) cap6) (k + 1) ((picks0 (k + 1)).flatMap pickCells) := by rw [HPKn.out]; exact HRp6.out
            refine (told_k hcf hmb hcl (k + 1) hkT ma (some ⟨jb, 0, none⟩) _ _ mem.length mc 1 _ _ w2.heap.size w2.heap.size w6 (((HJ2.out).up HB6.out).mono (HB6.out).size) hRpk hRlk).mono ?_
            rintro e w7 ⟨rfl, ⟨r7, q7, hLA7, g1, g2⟩, hb7⟩
            have HA7 : Hid (AtK c mem code w2 (k + 1) (some ⟨g6, 0, none⟩) (some ⟨g5, 0, none⟩) cap6 cap5 (w6.heap.size + 2) (w6.heap.size + 1) r7 q7 w7) :=
              ⟨ownsRow_keep hRpk (Kp.below (chg := []) (p := w2.heap.size) (eb := w2.heap.size) hb7 (HB6.out).size) (by simp), ownsRow_keep hRlk (Kp.below (chg := []) (p := w2.heap.size) (eb := w2.heap.size) hb7 (HB6.out).size) (by simp), hLA7, g1, g2, (HB6.out).trans (hb7.mono (HB6.out).size)⟩
            clear hRlk hRpk hLA7 g1 g2 hb7
            go_wp2
            go_roundg (gk - 1)
            case rel => exact ⟨k + 1, _, _, _, _, _, _, r7, q7, rfl, rfl, rfl, by omega, by omega, HA7⟩
            case measure => omega
        · have hke : k = N := by omega
          have hkT : k = (iJob c (memW mem) code).length := by rw [hke]; exact HN.out
          have hr := (HAk.out).2.2.2.2.1 hkT
          have HRe : Hid (r1 = A) := by
            show r1 = A
            rw [hr, HAe.out]
          have hfb : (r1.fate == 0) = false := by
            have := (iRun_fate c (memW mem) code (by have := (cfgB_true hcf).2.2.2.2.2.2.1; omega)).1
            rw [hr]
            have h2 : (resOf (iRun c (memW mem) code).1 (iRun c (memW mem) code).2.2.1).fate = (iRun c (memW mem) code).1 := rfl
            simp [h2]
            omega
          have HBk : Hid (Below w2.heap.size w2 wr) := (HAk.out).2.2.2.2.2
          have hszk : w2.heap.size ≤ wr.heap.size := (HBk.out).size
          have HRl : Hid (wr.ownsRow w2.heap.size 51 4 (.slice la (iJob c (memW mem) code).length lc) (iJob c (memW mem) code).length ((logOf (iJob c (memW mem) code)).flatMap accCells)) := by
            have h := (HAk.out).2.1
            rw [hkT, List.take_length] at h
            exact h
          have HIk : Hid (Ints wr wr.heap.size ma mem) := (HI2.out).up HBk.out
          obtain ⟨hplt, hebl⟩ := LifeAt.lt (HAk.out).2.2.1
          have HVK : Hid (∀ (j : Nat) (wx : World), j < mem.length → Below wr.heap.size wr wx → Calls Try.prog 34 #[.agg #[.int .i64 c.t, .int .i64 c.wd, .int .i64 c.s, .int .i64 c.g, .int .i64 c.r, .int .i64 c.cp, .int .i64 c.f, .slice ma mem.length mc, .slice (some ⟨jb, 0, none⟩) 1 1], .slice la k lc, .int .i64 (3 + 2 * c.s + c.t + (j : Int))] wx (fun e w' => e = .returned (.int .i64 (endW c mem code (Int.ofNat j))) ∧ Below wx.heap.size wx w')) := fun j wx hj hb => by
            have := value_k hcf hmw hmb (code := code) j hj ma (some ⟨jb, 0, none⟩) la mc 1 1 lc w2.heap.size wx ((HIk.out).up hb) (ownsRow_keep HRl.out (Kp.below (chg := []) (p := w2.heap.size) (eb := w2.heap.size) hb hszk) (by simp))
            rw [← hkT] at this
            exact this
          have hOl : O.length = mem.length := by rw [HOe.out]; simp
          have HOg : Hid (∀ j, j < mem.length → O.take (j + 1) = O.take j ++ [endW c mem code (Int.ofNat j)]) := fun j hj => by
            rw [List.take_add_one, List.getElem?_eq_getElem (by omega)]
            congr 1
            simp [HOe.out]
          clear hr hkT HAk HRl HIk HAe HOe HN HJ2 HI2 hke
          obtain ⟨⟨ht1, ht2⟩, ⟨hwd1, hwd2⟩, ⟨hst1, hst2⟩, _⟩ := cfgB_true hcf
          have hsbl : sb < wr.heap.size := by omega
          have hcn : w.heap.size < wr.heap.size := by omega
          have hbn2 := (HBk.out)
          have hcw : ∀ i, wr.cell? ⟨w.heap.size, i, none⟩ = (#[.int .i64 c.t, .int .i64 c.wd, .int .i64 c.s, .int .i64 c.g, .int .i64 c.r, .int .i64 c.cp, .int .i64 c.f] : Array Value)[i]? := ((HC2.out).below hbn2 (by omega)).cell
          have HRb : Hid (Blk wr (w.heap.size + 1) 35 #[.int .i64 0, .int .i64 0, .int .i64 0, .int .i64 0, .int .i64 0]) := (HR2.out).below hbn2 (by omega)
          have hsc : ∀ i, wr.cell? ⟨sb, i, none⟩ = (#[.int .i64 c.t, .int .i64 c.wd, .int .i64 c.s, .int .i64 c.g, .int .i64 c.r, .int .i64 c.cp, .int .i64 c.f, .slice ma mem.length mc, .slice (some ⟨jb, 0, none⟩) 1 1] : Array Value)[i]? := ((HSb.out).below hbn2 (by omega)).cell
          have HBw : Hid (Below w.heap.size w wr) := (HB2.out).trans (hbn2.mono (by omega))
          clear hbn2 HBk HB2 HR2 HC2 HSb
          have HLf : Hid (LifeAt p eb r1 q1 wr) := ⟨h22, heb, h15, h16, h17, h18⟩
          clear h15 h16 h17 h18
          go_wp2
          clear h22 heb hfb
          obtain ⟨wq, hwq⟩ : ∃ wq, wq = wr := ⟨_, rfl⟩
          subst hwq
          go_loopg [15, 16, 17] (mem.length + 1) (fun m t15 t16 t17 wr => ∃ (j : Nat) (oa : Option Addr) (oc : Nat), t15 = .slice oa j oc ∧ t16 = .int .i64 (j : Int) ∧ j ≤ mem.length ∧ m = mem.length + 1 - j ∧ Hid (wr.ownsRow wq.heap.size 3 1 (.slice oa j oc) j ((O.take j).map (Value.int .i64 ·))) ∧ Hid (Below wq.heap.size wq wr))
          case atStart => exact ⟨0, none, 0, rfl, rfl, by omega, by omega, World.ownsRow_nil _ _ _ _, Below.refl _ _⟩
          case round =>
            obtain ⟨j, oa, oc, rfl, rfl, hj, hgj, HRo, HBx⟩ := hrel
            have hcx : ∀ i, wr.cell? ⟨w.heap.size, i, none⟩ = (#[.int .i64 c.t, .int .i64 c.wd, .int .i64 c.s, .int .i64 c.g, .int .i64 c.r, .int .i64 c.cp, .int .i64 c.f] : Array Value)[i]? := fun i => (World.cell?_of_block ((HBx.out).block _ hcn)).trans (hcw i)
            by_cases hjl : j < mem.length
            · have hjw : (j : Int) < c.wd := by omega
              have hj0 : (0 : Int) ≤ (j : Int) := by omega
              have hwj : IntKind.i64.wrap ((j : Int) + 1) = (j : Int) + 1 := wrapF _ (by omega) (by omega)
              have HHS : Hid (∀ wy : World, Below wq.heap.size wq wy → ∀ i, wy.cell? ⟨sb, i, none⟩ = (#[.int .i64 c.t, .int .i64 c.wd, .int .i64 c.s, .int .i64 c.g, .int .i64 c.r, .int .i64 c.cp, .int .i64 c.f, .slice ma mem.length mc, .slice (some ⟨jb, 0, none⟩) 1 1] : Array Value)[i]?) := fun wy hb i => (World.cell?_of_block (hb.block sb hsbl)).trans (hsc i)
              have HS0 : Hid (∀ i, wr.drew.cell? ⟨sb, i, none⟩ = (#[.int .i64 c.t, .int .i64 c.wd, .int .i64 c.s, .int .i64 c.g, .int .i64 c.r, .int .i64 c.cp, .int .i64 c.f, .slice ma mem.length mc, .slice (some ⟨jb, 0, none⟩) 1 1] : Array Value)[i]?) := HHS.out _ (HBx.out).drew
              have HOj : Hid (O.take (j + 1) = O.take j ++ [endW c mem code (Int.ofNat j)]) := HOg.out j hjl
              have HVj : Hid (∀ wy : World, Below wq.heap.size wq wy → Calls Try.prog 34 #[.agg #[.int .i64 c.t, .int .i64 c.wd, .int .i64 c.s, .int .i64 c.g, .int .i64 c.r, .int .i64 c.cp, .int .i64 c.f, .slice ma mem.length mc, .slice (some ⟨jb, 0, none⟩) 1 1], .slice la k lc, .int .i64 (3 + 2 * c.s + c.t + (j : Int))] wy (fun e w' => e = .returned (.int .i64 (endW c mem code (Int.ofNat j))) ∧ Below wy.heap.size wy w')) := fun wy hb => HVK.out j wy hjl hb
              have hszx : wq.heap.size ≤ wr.heap.size := (HBx.out).size
              generalize endW c mem code (Int.ofNat j) = ew at *
              go_wp2_with fail
              go_cut [17] (fun t wy => t = .int .i64 ew ∧ Hid (Below wr.heap.size wr wy))
              case first =>
                clear HLf hcx hcw hsc HVK HOg HRb HBw HRo HOj
                go_region_held3 (fun w' => ∀ i, w'.cell? ⟨sb, i, none⟩ = (#[.int .i64 c.t, .int .i64 c.wd, .int .i64 c.s, .int .i64 c.g, .int .i64 c.r, .int .i64 c.cp, .int .i64 c.f, .slice ma mem.length mc, .slice (some ⟨jb, 0, none⟩) 1 1] : Array Value)[i]?)
                  (first | exact HS2.out | exact HS1.out | exact HS0.out)
                  (first
                    | (go_at_call 35; refine (wordV _ _ _ _ _ _ _ _ _ _ _ _ _ _ _ hst1 hst2 ht1 ht2 (by omega) (by omega)).mono ?_; rintro e w8 ⟨rfl, hb8⟩; have HB8 : Hid (Below wq.heap.size wq w8) := ((HBx.out).drew).trans (hb8.mono hszx); have HX8 : Hid (Below wr.heap.size wr w8) := (Below.refl wr.heap.size wr).drew.trans hb8; clear hb8;
                       have HS1 : Hid (∀ i, w8.cell? ⟨sb, i, none⟩ = (#[.int .i64 c.t, .int .i64 c.wd, .int .i64 c.s, .int .i64 c.g, .int .i64 c.r, .int .i64 c.cp, .int .i64 c.f, .slice ma mem.length mc, .slice (some ⟨jb, 0, none⟩) 1 1] : Array Value)[i]?) := HHS.out _ HB8.out)
                    | (go_at_call 34; refine (HVj.out _ HB8.out).mono ?_; rintro e w9 ⟨rfl, hb9⟩; have HB9 : Hid (Below wq.heap.size wq w9) := (HB8.out).trans (hb9.mono (HB8.out).size); have HX9 : Hid (Below wr.heap.size wr w9) := (HX8.out).trans (hb9.mono (HX8.out).size); clear hb9;
                       have HS2 : Hid (∀ i, w9.cell? ⟨sb, i, none⟩ = (#[.int .i64 c.t, .int .i64 c.wd, .int .i64 c.s, .int .i64 c.g, .int .i64 c.r, .int .i64 c.cp, .int .i64 c.f, .slice ma mem.length mc, .slice (some ⟨jb, 0, none⟩) 1 1] : Array Value)[i]?) := HHS.out _ HB9.out))
                all_goals
                  go_wp2
                  go_meet
                  case rel => exact ⟨rfl, HX9⟩
              case rest =>
                obtain ⟨rfl, HXy⟩ := hcut
                have hszy : wq.heap.size ≤ wc.heap.size := Nat.le_trans hszx (HXy.out).size
                have HRy : Hid (wc.ownsRow wq.heap.size 3 1 (.slice oa j oc) j ((O.take j).map (Value.int .i64 ·))) := ownsRow_keep HRo.out (Kp.below (chg := []) (p := wq.heap.size) (eb := wq.heap.size) HXy.out hszx) (by simp)
                have HBy : Hid (Below wq.heap.size wq wc) := (HBx.out).trans ((HXy.out).mono hszx)
                clear HS0 HHS HVj HVK hcx
                obtain ⟨OT, hOT⟩ : ∃ OT, OT = (O.take j).map (Value.int .i64 ·) := ⟨_, rfl⟩
                have HOn : Hid ((O.take (j + 1)).map (Value.int .i64 ·) = OT ++ [.int .i64 ew]) := by
                  show _ = _
                  rw [HOj.out, hOT]
                  simp
                rw [← hOT] at HRy
                clear hOT
                go_wp2_with
                  (at_builtin;
                   refine wpList_append_lies _ (by rfl) _ _ _ (by rfl) wq.heap.size 3 i3 _ 1 8 Try.underlying24 hi3 hz30 hz31 hz32 rfl (by omega) (.slice oa j oc) j OT (by rfl) ((HRy.out).alloc _)
                     ⟨wc.heap.size, 0, none⟩ 1 1 [.int .i64 ew] (by rfl) (by rfl) (World.news_of_block (cs := #[.int .i64 ew]) (t := 3) (fr := (0, 0)) (heap_alloc_new wc _)) (by simp [Value.oneCell'])
                     (by omega) (by unfold maxLen; omega) (by omega) (by simp; omega) (wc.heap.size + 1) (by simp) ?_;
                   intro gg cap wz hown1 hgrow hat hlt;
                   have HKz : Hid (Kp [3] wq.heap.size wq.heap.size wq.heap.size wc wz) := ((Kp.below ((Below.refl _ _).alloc (Nat.le_refl _) _) hszy).trans (Kp.grown hgrow (by simp; omega) ((HRy.out).alloc _) (by simp)));
                   have HRz : Hid (wz.ownsRow wq.heap.size 3 1 (.slice (some ⟨gg, 0, none⟩) (j + 1) cap) (j + 1) (OT ++ [.int .i64 ew])) := hown1;
                   clear hown1 hgrow hat hlt)
                go_roundg (gk - 1)
                case rel =>
                  refine ⟨j + 1, _, _, rfl, by simp, by omega, by omega, by rw [HOn.out]; exact HRz, ?_⟩
                  have hk := HKz.out
                  have h := HBy.out
                  exact ⟨hk.os.trans h.os, hk.tape.trans h.tape, hk.output.trans h.output, Nat.le_trans h.size hk.size, fun b hb => (hk.low b hb (by omega) (by omega)).trans (h.block b hb)⟩
                case measure => omega
            · have hje : j = mem.length := by omega
              have hjw : ¬ (j : Int) < c.wd := by omega
              have HJE : Hid (j = mem.length) := hje
              obtain ⟨hl22, hleb, _⟩ := HLf.out
              have hx22 := (World.cell?_of_block ((HBx.out).block p hplt)).trans hl22
              have hxeb := fun i => (World.cell?_of_block ((HBx.out).block eb hebl)).trans (hleb i)
              have hRx : Blk wr (w.heap.size + 1) 35 #[.int .i64 0, .int .i64 0, .int .i64 0, .int .i64 0, .int .i64 0] := (HRb.out).below HBx.out (by omega)
              have HRx : Hid (Blk wr (w.heap.size + 1) 35 #[.int .i64 0, .int .i64 0, .int .i64 0, .int .i64 0, .int .i64 0]) := hRx
              have hRc := hRx.cell
              have hRf := hRx.frozen
              have HBz : Hid (Below w.heap.size w wr) := (HBw.out).trans ((HBx.out).mono (by omega))
              have HIo : Hid (Ints wr wr.heap.size oa O) := by
                have h := HRo.out
                have e : O.take j = O := by rw [hje, ← hOl, List.take_length]
                rw [e] at h
                have h2 : Row wr wq.heap.size oa oc O := by
                  unfold Row
                  rw [hOl, ← hje]
                  exact h
                exact h2.ints
              have HFo : Hid (∀ x, oa = some x → wq.heap.size ≤ x.block) := fun x hx => by
                have h := HRo.out
                subst hx
                exact (World.ownsRow.lt h x.block rfl).1
              clear hRx hl22 hleb hcw hsc HVK HOg HRo hje
              go_wp2
              obtain ⟨e0, e1', e2, e3, e4, hfin, honly⟩ := res_end HRx.out rfl HBz.out (by omega) (.int .i64 r1.fate) (.int .i64 r1.r0) (.int .i64 r1.r1) (.int .i64 r1.r2) (.int .i64 r1.r3)
              refine bodyPost_ret (v := .tuple #[.agg #[.int .i64 r1.fate, .int .i64 r1.r0, .int .i64 r1.r1, .int .i64 r1.r2, .int .i64 r1.r3], .slice oa j oc, .int .i64 0]) (by simp [results, Try.results12, go_sem, e0, e1', e2, e3, e4]) rfl ⟨oa, oc, ?_, ?_, hfin⟩
              · rw [← show r1 = A from HRe.out, hOl, ← show j = mem.length from HJE.out]
              · refine ((HIo.out).only honly (fun b off hb _ => ?_)).mono honly.size
                have := HFo.out _ hb
                simp only at this
                omega
    · have hER : ER = 4 := (HU2.out).trans (if_neg hl)
      subst hER
      obtain ⟨hA, hO⟩ := hbad (by decide)
      subst hA hO
      clear HU2 hbad HA HO HER
      go_wp2
      obtain ⟨e0, e1', e2, e3, e4, hfin, _⟩ := res_end HBr.out rfl HB1.out (by omega) (.int .i64 0) (.int .i64 0) (.int .i64 0) (.int .i64 0) (.int .i64 0)
      exact bodyPost_ret (v := .tuple #[.agg #[.int .i64 0, .int .i64 0, .int .i64 0, .int .i64 0, .int .i64 0], .slice none 0 0, .int .i64 4]) (by simp [results, Try.results12, go_sem, e0, e1', e2, e3, e4]) rfl ⟨none, 0, rfl, fun i hi => absurd hi (by simp), hfin⟩
  · have hbe : (e1 == 0) = false := by simpa using he
    have hbn : (e1 != 0) = true := by simpa using he
    have hER : ER = e1 := (HU.out).trans (if_pos he)
    subst hER
    obtain ⟨hA, hO⟩ := hbad he
    subst hA hO
    clear HU hbad HA HO HER he
    go_wp2
    obtain ⟨e0, e1', e2, e3, e4, hfin, _⟩ := res_end HBr.out rfl HB1.out (by omega) (.int .i64 0) (.int .i64 0) (.int .i64 0) (.int .i64 0) (.int .i64 0)
    exact bodyPost_ret (v := .tuple #[.agg #[.int .i64 0, .int .i64 0, .int .i64 0, .int .i64 0, .int .i64 0], .slice none 0 0, .int .i64 ER]) (by simp [results, Try.results12, go_sem, e0, e1', e2, e3, e4]) rfl ⟨none, 0, rfl, fun i hi => absurd hi (by simp), hfin⟩

end Go.Proofs.Ytejadojilncbjaa
