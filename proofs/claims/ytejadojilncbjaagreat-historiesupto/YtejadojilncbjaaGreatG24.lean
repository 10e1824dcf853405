import Derived.Test.YtejadojilncbjaaGreatG23
import Derived.Test.YtejadojilncbjaaGreatG04
import Derived.Test.YtejadojilncbjaaGreatG03
namespace Go.Proofs.YtejadojilncbjaaGreat
open Go.RowKit
set_option linter.unusedVariables false
attribute [local go_sem ↓] Go.wp_at_zero Go.wp_at_succ
def NextAt (p : Nat) (q : AskD) (w : World) : Prop :=
 w.cell? ⟨p, 15, none⟩ = some (.int .i64 q.kind) ∧ w.cell? ⟨p, 16, none⟩ = some (.int .i64 q.cell) ∧ w.cell? ⟨p, 17, none⟩ = some (.int .i64 q.frm) ∧ w.cell? ⟨p, 18, none⟩ = some (.int .i64 q.to)
theorem LifeR.next {E : Env} {H : Hd} {B p eb : Nat} {w : World} {s : LS} (h : LifeR E H B p eb w s) : NextAt p s.next w := by
 obtain ⟨la, lc, hb, _⟩ := h.life
 refine ⟨?_, ?_, ?_, ?_⟩ <;> rw [hb.cell] <;> rfl
structure SetupOk (c : Cfg) (mem : List Int) (jobs : List (Int × List InsD)) : Prop where
 cfg : cfgB c = true
 mw : (mem.length : Int) = c.wd
 mb : memB mem = true
 j8 : jobs.length ≤ 8
 cd : ∀ j ∈ jobs, j.2.length ≤ 20
theorem told_at {c : Cfg} {mem : List Int} {jobs : List (Int × List InsD)} (S : SetupOk c mem jobs) (ps : List PickD) (hps : ps.length ≤ 2 ^ 33) (k : Nat) (hk : k ≤ ps.length) (t : Int) (t0 : 0 ≤ t) (t1 : t < c.t) (ma ja pa la : Option Addr) (mc jc pc lc : Nat) (w : World)
  (hj : JobsRep w w.heap.size ja jobs) (hp : PicksIn w w.heap.size pa ps) (hl : LogIn w w.heap.size la (gLog c mem jobs ps k)) :
  Calls Tryz.prog 45 #[.agg #[.int .i64 c.t, .int .i64 c.wd, .int .i64 c.s, .int .i64 c.g, .int .i64 c.r, .int .i64 c.cp, .int .i64 c.f, .slice ma mem.length mc, .slice ja jobs.length jc], .slice pa ps.length pc, .slice la k lc, .int .i64 t] w fun e w' =>
   e = .returned (.pointer (some ⟨w.heap.size + 2, 0, none⟩)) ∧ NextAt (w.heap.size + 2) (hOut (cxOf c jobs t) ((gAt c mem jobs ps k).th t)) w' ∧ Below w.heap.size w w' := by
 obtain ⟨⟨_, t2⟩, _, _, _, _, _, ⟨f1, f2⟩⟩ := cfgB_true S.cfg
 have hlen := gLog_len c mem jobs ps k
 have hseen := glog_seen S.cfg S.mw S.mb jobs ps k
 have := told_any c S.cfg t t0 (by omega) ma ja pa la mem.length mc jc pc lc jobs ps (gLog c mem jobs ps k) w hj hp hl (by omega) (by omega) (by omega) (fun a ha => by have := hseen a ha; omega) S.j8 S.cd
 rw [hlen] at this
 refine this.mono ?_
 rintro e w' ⟨rfl, ⟨H, B, hL, _⟩, hb⟩
 refine ⟨rfl, ?_, hb⟩
 have h := hL.next
 obtain ⟨_, _, h3⟩ := log_sim c (by omega) mem jobs ps k hk
 have O := (told_sim (envOf c jobs t ps (gLog c mem jobs ps k)) (by show 0 ≤ c.f; omega)).next
 have ec : (envOf c jobs t ps (gLog c mem jobs ps k)).cx = cxOf c jobs t := rfl
 rw [ec, ← h3 t t0 t1] at O
 rw [O] at h
 exact h
theorem made_at {c : Cfg} {mem : List Int} {jobs : List (Int × List InsD)} (S : SetupOk c mem jobs) (ps : List PickD) (hps : ps.length ≤ 2 ^ 33) (k : Nat) (hk : k ≤ ps.length) (t : Int) (t0 : 0 ≤ t) (t1 : t < c.t) (ma ja la : Option Addr) (mc jl jc lc : Nat) (w : World)
  (hm : Ints w w.heap.size ma mem) (hl : LogIn w w.heap.size la (gLog c mem jobs ps k)) (q : AskD) (hq : q = hOut (cxOf c jobs t) ((gAt c mem jobs ps k).th t)) :
  Calls Tryz.prog 64 #[.agg #[.int .i64 c.t, .int .i64 c.wd, .int .i64 c.s, .int .i64 c.g, .int .i64 c.r, .int .i64 c.cp, .int .i64 c.f, .slice ma mem.length mc, .slice ja jl jc], .slice la k lc, .agg #[.int .i64 q.kind, .int .i64 q.cell, .int .i64 q.frm, .int .i64 q.to]] w fun e w' =>
   e = .returned (.agg #[.int .i64 (gAcc c jobs (gAt c mem jobs ps k) t).kind, .int .i64 (gAcc c jobs (gAt c mem jobs ps k) t).cell, .int .i64 (gAcc c jobs (gAt c mem jobs ps k) t).seen, .int .i64 (gAcc c jobs (gAt c mem jobs ps k) t).put]) ∧ Below w.heap.size w w' := by
 obtain ⟨⟨_, t2⟩, ⟨w1, w2⟩, ⟨s1, s2⟩, _, _, _, ⟨f1, f2⟩⟩ := cfgB_true S.cfg
 have hlen := gLog_len c mem jobs ps k
 obtain ⟨_, h2, h3⟩ := log_sim c (by omega) mem jobs ps k hk
 have O := (told_sim (envOf c jobs t ps (gLog c mem jobs ps k)) (by show 0 ≤ c.f; omega)).next
 have ec : (envOf c jobs t ps (gLog c mem jobs ps k)).cx = cxOf c jobs t := rfl
 rw [ec, ← h3 t t0 t1, ← hq] at O
 have hask := told_ask S.cfg S.mw S.mb jobs ps k hk t t0 t1
 rw [O] at hask
 have hmw := S.mw
 have := made_any c S.cfg ma ja la mc jl jc lc mem (gLog c mem jobs ps k) q w hm hl (by omega) (fun h0 => by
     obtain ⟨⟨a, b⟩, d, e⟩ := hask h0
     rw [total_eq] at b
     unfold wordBase
     exact ⟨by omega, by omega, by omega, d, by omega⟩)
 rw [hlen, made_acc c mem _ _ h2 q] at this
 unfold gAcc
 rw [← hq]
 exact this
def AccIs (w : World) (l : List AccD) (e : Ending) (w' : World) : Prop :=
 ∃ (la : Option Addr) (lc : Nat), e = .returned (.slice la l.length lc) ∧ LogIn w' w'.heap.size la l ∧ Below w.heap.size w w'
theorem glog_next (c : Cfg) (mem : List Int) (jobs : List (Int × List InsD)) (ps : List PickD) (k : Nat) (a : AccD) (ha : a = (gStep c jobs (gAt c mem jobs ps k) ((k : Int) + 1) (pickAt ps k)).2) :
  (gLog c mem jobs ps (k + 1)).flatMap accCells = (gLog c mem jobs ps k).flatMap accCells ++ [.int .i64 a.kind, .int .i64 a.cell, .int .i64 a.seen, .int .i64 a.put] := by
 show (gLog c mem jobs ps k ++ _).flatMap accCells = _
 rw [List.flatMap_append, ← ha]
 simp [accCells]
theorem logIn_row {c : Cfg} {mem : List Int} {jobs : List (Int × List InsD)} {ps : List PickD} {w : World} {base : Nat} {a : Option Addr} {cap k : Nat} (h : w.ownsRow base 40 4 (.slice a k cap) k ((gLog c mem jobs ps k).flatMap accCells)) : LogIn w w.heap.size a (gLog c mem jobs ps k) := by
 have hl := gLog_len c mem jobs ps k
 have h' : w.ownsRow base 40 4 (.slice a (gLog c mem jobs ps k).length cap) (gLog c mem jobs ps k).length ((gLog c mem jobs ps k).flatMap accCells) := by rw [hl]; exact h
 exact log_row h'
def errS (c : Cfg) (mem : List Int) (jobs : List (Int × List InsD)) : Int :=
 if machN c mem = 0 then (if jobs.length ≤ 8 ∧ (jobs.all fun j => inB j.1 0 (c.t - 1)) = true then (if (jobs.all fun j => decide ((j.2.length : Int) ≤ 20)) = true then 0 else 4) else 3) else machN c mem
theorem errS_ok {c : Cfg} {mem : List Int} {jobs : List (Int × List InsD)} (h : errS c mem jobs = 0) : SetupOk c mem jobs ∧ ∀ j ∈ jobs, 0 ≤ j.1 ∧ j.1 < c.t := by
 unfold errS at h
 by_cases h1 : machN c mem = 0
 ·rw [if_pos h1] at h
  by_cases h2 : jobs.length ≤ 8 ∧ (jobs.all fun j => inB j.1 0 (c.t - 1)) = true
  ·rw [if_pos h2] at h
   by_cases h3 : (jobs.all fun j => decide ((j.2.length : Int) ≤ 20)) = true
   ·have hm : cfgB c = true ∧ (mem.length : Int) = c.wd ∧ memB mem = true := by
     unfold machN at h1
     by_cases a : cfgB c = true
     ·rw [if_pos a] at h1
      by_cases b : (mem.length : Int) = c.wd ∧ memB mem = true
      ·exact ⟨a, b.1, b.2⟩
      ·rw [if_neg b] at h1; cases h1
     ·rw [if_neg a] at h1; cases h1
    rw [List.all_eq_true] at h3
    have h4 := h2.2
    rw [List.all_eq_true] at h4
    refine ⟨⟨hm.1, hm.2.1, hm.2.2, h2.1, fun j hj => ?_⟩, fun j hj => ?_⟩
    ·have := h3 j hj
     simp at this
     omega
    ·have := inB_true (h4 j hj)
     omega
   ·rw [if_neg h3] at h; cases h
  ·rw [if_neg h2] at h; cases h
 ·rw [if_neg h1] at h; exact absurd h h1
theorem all_at {α : Type} (l : List α) (p : α → Bool) (d : α) : l.all p = true ↔ ∀ i, i < l.length → p (l.getD i d) = true := by
 rw [List.all_eq_true]
 constructor
 ·intro h i hi
  rw [show l.getD i d = l[i] from by simp [List.getD, List.getElem?_eq_getElem hi]]
  exact h _ (List.getElem_mem hi)
 ·intro h x hx
  obtain ⟨i, hi, rfl⟩ := List.mem_iff_getElem.1 hx
  have := h i hi
  rwa [show l.getD i d = l[i] from by simp [List.getD, List.getElem?_eq_getElem hi]] at this
theorem check_err {c : Cfg} {mem : List Int} {jobs : List (Int × List InsD)} {js : List JobD} (h1 : js.length = jobs.length) (h2 : ∀ i, i < js.length → (jobAt js i).t = (jobs.getD i (0, [])).1 ∧ (jobAt js i).len = (jobs.getD i (0, [])).2.length) : checkN c mem js = errS c mem jobs := by
 have e1 : thrB c.t js = (jobs.all fun j => inB j.1 0 (c.t - 1)) := by
  rw [Bool.eq_iff_iff]
  unfold thrB
  rw [all_at js _ ⟨0, none, 0, 0⟩, all_at jobs _ (0, []), h1]
  constructor <;> intro h i hi
  ·rw [← (h2 i (by omega)).1]; exact h i hi
  ·have := h i hi
   rw [← (h2 i (by omega)).1] at this
   exact this
 have e2 : lenB js = (jobs.all fun j => decide ((j.2.length : Int) ≤ 20)) := by
  rw [Bool.eq_iff_iff]
  unfold lenB
  rw [all_at js _ ⟨0, none, 0, 0⟩, all_at jobs _ (0, []), h1]
  constructor <;> intro h i hi
  ·rw [← (h2 i (by omega)).2]; exact h i hi
  ·have := h i hi
   rw [← (h2 i (by omega)).2] at this
   exact this
 unfold checkN errS
 rw [h1, e1, e2]
theorem refCheck_rep (c : Cfg) (mem : List Int) (jobs : List (Int × List InsD)) (ma ja : Option Addr) (mc jc : Nat) (w : World) (hml : mem.length ≤ maxLen) (hjl : jobs.length ≤ maxLen) (hm : Ints w w.heap.size ma mem) (hj : JobsRep w w.heap.size ja jobs) :
  Calls Tryz.prog 43 #[.agg #[.int .i64 c.t, .int .i64 c.wd, .int .i64 c.s, .int .i64 c.g, .int .i64 c.r, .int .i64 c.cp, .int .i64 c.f, .slice ma mem.length mc, .slice ja jobs.length jc]] w fun e w' =>
   e = .returned (.int .i64 (errS c mem jobs)) ∧ Below w.heap.size w w' := by
 obtain ⟨js, h1, h2, h3⟩ := hj
 have := refCheck_core c.t c.wd c.s c.g c.r c.cp c.f ma mem.length mc mem ja jobs.length jc js w rfl hml hm h1 hjl h2
 rw [show (⟨c.t, c.wd, c.s, c.g, c.r, c.cp, c.f⟩ : Cfg) = c from rfl, check_err h1 (fun i hi => ⟨(h3 i hi).1, (h3 i hi).2.1⟩)] at this
 exact this
theorem PicksIn.up2 {w w' : World} {a : Option Addr} {l : List PickD} (h : PicksIn w w.heap.size a l) (hb : Below w.heap.size w w') : PicksIn w' w'.heap.size a l := by
 intro i hi
 obtain ⟨b, off, h1, h2, h3, h4⟩ := h.up hb i hi
 exact ⟨b, off, h1, Nat.lt_of_lt_of_le h2 hb.size, h3, h4⟩
theorem JobsRep.up2 {w w' : World} {a : Option Addr} {l : List (Int × List InsD)} (h : JobsRep w w.heap.size a l) (hb : Below w.heap.size w w') : JobsRep w' w'.heap.size a l := (h.up hb).mono hb.size
set_option maxRecDepth 100000 in
set_option maxHeartbeats 8000000 in
theorem accesses_any {c : Cfg} {mem : List Int} {jobs : List (Int × List InsD)} (S : SetupOk c mem jobs) (ps : List PickD) (hps : ps.length ≤ 2 ^ 33) (ma ja pa : Option Addr) (mc jc pc : Nat) (w : World)
  (hm : Ints w w.heap.size ma mem) (hj : JobsRep w w.heap.size ja jobs) (hp : PicksIn w w.heap.size pa ps) :
  Calls Tryz.prog 44 #[.agg #[.int .i64 c.t, .int .i64 c.wd, .int .i64 c.s, .int .i64 c.g, .int .i64 c.r, .int .i64 c.cp, .int .i64 c.f, .slice ma mem.length mc, .slice ja jobs.length jc], .slice pa ps.length pc] w (AccIs w (accs c mem jobs ps)) := by
 have HM : Hid (Ints w w.heap.size ma mem) := hm
 have HJ : Hid (JobsRep w w.heap.size ja jobs) := hj
 have HP : Hid (PicksIn w w.heap.size pa ps) := hp
 have HS : Hid (SetupOk c mem jobs) := S
 obtain ⟨⟨ht1, ht2⟩, _⟩ := cfgB_true S.cfg
 obtain ⟨A, HA⟩ : ∃ A, Hid (accs c mem jobs ps = A) := ⟨_, rfl⟩
 rw [show accs c mem jobs ps = A from HA.out]
 have hps' : ps.length ≤ 8589934592 := hps
 obtain ⟨i4, hi4, hz40, hz41, hz42⟩ := info_parts Tryz.info40
 clear hm hj hp S hps
 go_enter Tryz.func44, Tryz.ntmps44
 go_wp2_with fail
 obtain ⟨w1, hw1⟩ : ∃ w1, w1 = w.alloc (.cells #[.int .i64 c.t, .int .i64 c.wd, .int .i64 c.s, .int .i64 c.g, .int .i64 c.r, .int .i64 c.cp, .int .i64 c.f, .slice ma mem.length mc, .slice ja jobs.length jc] 27) := ⟨_, rfl⟩
 have HB1 : Hid (Below w.heap.size w w1) := by rw [hw1]; exact (Below.refl w.heap.size w).alloc (Nat.le_refl _) _
 have HSb : Hid (Blk w1 w.heap.size 27 #[.int .i64 c.t, .int .i64 c.wd, .int .i64 c.s, .int .i64 c.g, .int .i64 c.r, .int .i64 c.cp, .int .i64 c.f, .slice ma mem.length mc, .slice ja jobs.length jc]) := by rw [hw1]; exact Blk.new w 27 _
 have hs1 : w1.heap.size = w.heap.size + 1 := by rw [hw1]; simp
 rw [← hw1]
 clear hw1
 have HM1 : Hid (Ints w1 w1.heap.size ma mem) := (HM.out).up HB1.out
 have HJ1 : Hid (JobsRep w1 w1.heap.size ja jobs) := ((HJ.out).up HB1.out).mono (by omega)
 have HP1 : Hid (PicksIn w1 w1.heap.size pa ps) := by
  intro i hi
  obtain ⟨b, off, h1, h2, h3, h4⟩ := (HP.out).up HB1.out i hi
  exact ⟨b, off, h1, by omega, h3, h4⟩
 clear HM HJ HP
 go_loopg [5, 6] (ps.length + 1) (fun m t5 t6 wr => ∃ (k : Nat) (la : Option Addr) (lc : Nat), t5 = .slice la k lc ∧ t6 = .int .i64 (k : Int) ∧ k ≤ ps.length ∧ m = ps.length + 1 - k ∧ Hid (wr.ownsRow w1.heap.size 40 4 (.slice la k lc) k ((gLog c mem jobs ps k).flatMap accCells)) ∧ Hid (Below w1.heap.size w1 wr))
 case atStart => exact ⟨0, none, 0, rfl, rfl, by omega, by omega, World.ownsRow_nil _ _ _ _, Below.refl _ _⟩
 case round =>
  obtain ⟨k, la, lc, rfl, rfl, hk, hgk, HR, HB⟩ := hrel
  by_cases hkl : k < ps.length
  ·obtain ⟨pb, poff, hpa, hpb, hpc0, hpc1⟩ := HP1.out k hkl
   have hk0 : (0 : Int) ≤ (k : Int) := by omega
   have hk1 : (k : Int) < (ps.length : Int) := by omega
   have hwk : IntKind.i64.wrap ((k : Int) + 1) = (k : Int) + 1 := wrapF _ (by omega) (by omega)
   have hszk : w1.heap.size ≤ wr.heap.size := (HB.out).size
   have hq0 : wr.cell? ⟨pb, poff + k * 2, none⟩ = some (.int .i64 (pickAt ps k).thread) := (World.cell?_of_block ((HB.out).block pb hpb)).trans hpc0
   have hpbl : pb < wr.heap.size := by omega
   have hsbl : w.heap.size < wr.heap.size := by omega
   have hsc : ∀ i, wr.cell? ⟨w.heap.size, i, none⟩ = (#[.int .i64 c.t, .int .i64 c.wd, .int .i64 c.s, .int .i64 c.g, .int .i64 c.r, .int .i64 c.cp, .int .i64 c.f, .slice ma mem.length mc, .slice ja jobs.length jc] : Array Value)[i]? := ((HSb.out).below HB.out (by omega)).cell
   have HG : Hid (∀ a : AccD, a = (gStep c jobs (gAt c mem jobs ps k) ((k : Int) + 1) (pickAt ps k)).2 → (gLog c mem jobs ps (k + 1)).flatMap accCells = (gLog c mem jobs ps k).flatMap accCells ++ [.int .i64 a.kind, .int .i64 a.cell, .int .i64 a.seen, .int .i64 a.put]) := fun a ha => glog_next c mem jobs ps k a ha
   obtain ⟨th, hth⟩ : ∃ th, th = (pickAt ps k).thread := ⟨_, rfl⟩
   rw [← hth] at hq0
   subst hpa
   clear hpc0 hpc1
   have HTH : Hid (th = (pickAt ps k).thread) := hth
   clear hth
   have hBa : Below wr.heap.size wr (wr.alloc (.cells #[.int .i64 0, .int .i64 0, .int .i64 0, .int .i64 0] 40)) := (Below.refl wr.heap.size wr).alloc (Nat.le_refl _) _
   have hBb : Below w1.heap.size w1 (wr.alloc (.cells #[.int .i64 0, .int .i64 0, .int .i64 0, .int .i64 0] 40)) := (HB.out).trans (hBa.mono hszk)
   have HBa : Hid (Below wr.heap.size wr (wr.alloc (.cells #[.int .i64 0, .int .i64 0, .int .i64 0, .int .i64 0] 40))) := hBa
   have HJa : Hid (JobsRep (wr.alloc (.cells #[.int .i64 0, .int .i64 0, .int .i64 0, .int .i64 0] 40)) (wr.alloc (.cells #[.int .i64 0, .int .i64 0, .int .i64 0, .int .i64 0] 40)).heap.size ja jobs) := ((HJ1.out).up hBb).mono hBb.size
   have HPa : Hid (PicksIn (wr.alloc (.cells #[.int .i64 0, .int .i64 0, .int .i64 0, .int .i64 0] 40)) (wr.alloc (.cells #[.int .i64 0, .int .i64 0, .int .i64 0, .int .i64 0] 40)).heap.size (some ⟨pb, poff, none⟩) ps) := by
    intro i hi
    obtain ⟨b, off, g1, g2, g3, g4⟩ := (HP1.out).up hBb i hi
    exact ⟨b, off, g1, Nat.lt_of_lt_of_le g2 hBb.size, g3, g4⟩
   have HLa : Hid (LogIn (wr.alloc (.cells #[.int .i64 0, .int .i64 0, .int .i64 0, .int .i64 0] 40)) (wr.alloc (.cells #[.int .i64 0, .int .i64 0, .int .i64 0, .int .i64 0] 40)).heap.size la (gLog c mem jobs ps k)) := (logIn_row HR.out).up hBa
   have HMa : Hid (Ints (wr.alloc (.cells #[.int .i64 0, .int .i64 0, .int .i64 0, .int .i64 0] 40)) (wr.alloc (.cells #[.int .i64 0, .int .i64 0, .int .i64 0, .int .i64 0] 40)).heap.size ma mem) := (HM1.out).up hBb
   have HSa : Hid (Blk (wr.alloc (.cells #[.int .i64 0, .int .i64 0, .int .i64 0, .int .i64 0] 40)) w.heap.size 27 #[.int .i64 c.t, .int .i64 c.wd, .int .i64 c.s, .int .i64 c.g, .int .i64 c.r, .int .i64 c.cp, .int .i64 c.f, .slice ma mem.length mc, .slice ja jobs.length jc]) := (HSb.out).below hBb (by omega)
   have HAa : Hid (Blk (wr.alloc (.cells #[.int .i64 0, .int .i64 0, .int .i64 0, .int .i64 0] 40)) wr.heap.size 40 #[.int .i64 0, .int .i64 0, .int .i64 0, .int .i64 0]) := Blk.new wr 40 _
   have hsza : (wr.alloc (.cells #[.int .i64 0, .int .i64 0, .int .i64 0, .int .i64 0] 40)).heap.size = wr.heap.size + 1 := by simp
   clear hBa hBb
   by_cases hin : 0 ≤ th ∧ th < c.t
   ·obtain ⟨h0, h1⟩ := hin
    have HGs : Hid ((gStep c jobs (gAt c mem jobs ps k) ((k : Int) + 1) (pickAt ps k)).2 = gAcc c jobs (gAt c mem jobs ps k) th) := by
     show _ = _
     unfold gStep
     rw [if_pos (by rw [← show th = _ from HTH.out]; exact ⟨h0, h1⟩), ← show th = _ from HTH.out]
    go_wp2_with fail
    clear hq0 hsc
    refine (told_at HS.out ps hps' k hk th h0 h1 ma ja _ la mc jc pc lc _ HJa.out HPa.out HLa.out).mono ?_
    rintro e w4 ⟨rfl, hN4, hb4⟩
    rw [hsza] at hN4 hb4 ⊢
    have hB4 : Below wr.heap.size wr w4 := (HBa.out).trans (hb4.mono (by omega))
    have hs4 : wr.heap.size + 1 ≤ w4.heap.size := by have := hb4.size; omega
    have HB4 : Hid (Below wr.heap.size wr w4) := hB4
    have HA4 : Hid (Blk w4 wr.heap.size 40 #[.int .i64 0, .int .i64 0, .int .i64 0, .int .i64 0]) := (HAa.out).below hb4 (by omega)
    have hsc4 : ∀ i, w4.cell? ⟨w.heap.size, i, none⟩ = (#[.int .i64 c.t, .int .i64 c.wd, .int .i64 c.s, .int .i64 c.g, .int .i64 c.r, .int .i64 c.cp, .int .i64 c.f, .slice ma mem.length mc, .slice ja jobs.length jc] : Array Value)[i]? := ((HSa.out).below hb4 (by omega)).cell
    have HL4 : Hid (LogIn w4 w4.heap.size la (gLog c mem jobs ps k)) := (HLa.out).up (by rw [hsza]; exact hb4)
    have HM4 : Hid (Ints w4 w4.heap.size ma mem) := (HMa.out).up (by rw [hsza]; exact hb4)
    obtain ⟨q, hq⟩ : ∃ q, q = hOut (cxOf c jobs th) ((gAt c mem jobs ps k).th th) := ⟨_, rfl⟩
    rw [← hq] at hN4
    obtain ⟨ac, hac⟩ : ∃ ac, ac = gAcc c jobs (gAt c mem jobs ps k) th := ⟨_, rfl⟩
    have HMK : Hid (∀ wx : World, Ints wx wx.heap.size ma mem → LogIn wx wx.heap.size la (gLog c mem jobs ps k) → Calls Tryz.prog 64 #[.agg #[.int .i64 c.t, .int .i64 c.wd, .int .i64 c.s, .int .i64 c.g, .int .i64 c.r, .int .i64 c.cp, .int .i64 c.f, .slice ma mem.length mc, .slice ja jobs.length jc], .slice la k lc, .agg #[.int .i64 q.kind, .int .i64 q.cell, .int .i64 q.frm, .int .i64 q.to]] wx (fun e w' => e = .returned (.agg #[.int .i64 ac.kind, .int .i64 ac.cell, .int .i64 ac.seen, .int .i64 ac.put]) ∧ Below wx.heap.size wx w')) := fun wx g1 g2 => by
     rw [hac]
     exact made_at HS.out ps hps' k hk th h0 h1 ma ja la mc jobs.length jc lc wx g1 g2 q hq
    have HGn : Hid ((gLog c mem jobs ps (k + 1)).flatMap accCells = (gLog c mem jobs ps k).flatMap accCells ++ [.int .i64 ac.kind, .int .i64 ac.cell, .int .i64 ac.seen, .int .i64 ac.put]) := HG.out ac (hac.trans (HGs.out).symm)
    obtain ⟨h15, h16, h17, h18⟩ := hN4
    have hplt : wr.heap.size + 1 + 2 < w4.heap.size := block_lt h15
    have hpne : wr.heap.size + 1 + 2 ≠ wr.heap.size := by omega
    generalize wr.heap.size + 1 + 2 = p at *
    clear HG HGs hq hac HTH hb4 HJa HPa HLa HMa HSa HAa HBa hsza
    go_wp2_with fail
    go_cut [] (fun wx => Hid (Blk wx wr.heap.size 40 #[.int .i64 ac.kind, .int .i64 ac.cell, .int .i64 ac.seen, .int .i64 ac.put]) ∧ Hid (Below wr.heap.size wr wx))
    case first =>
     have HS0 : Hid ((∀ i, w4.drew.cell? ⟨w.heap.size, i, none⟩ = (#[.int .i64 c.t, .int .i64 c.wd, .int .i64 c.s, .int .i64 c.g, .int .i64 c.r, .int .i64 c.cp, .int .i64 c.f, .slice ma mem.length mc, .slice ja jobs.length jc] : Array Value)[i]?) ∧ w4.drew.cell? ⟨p, 15, none⟩ = some (.int .i64 q.kind) ∧ w4.drew.cell? ⟨p, 16, none⟩ = some (.int .i64 q.cell) ∧ w4.drew.cell? ⟨p, 17, none⟩ = some (.int .i64 q.frm) ∧ w4.drew.cell? ⟨p, 18, none⟩ = some (.int .i64 q.to)) := ⟨hsc4, h15, h16, h17, h18⟩
     have HHS : Hid (∀ wx : World, Below w4.heap.size w4 wx → ((∀ i, wx.cell? ⟨w.heap.size, i, none⟩ = (#[.int .i64 c.t, .int .i64 c.wd, .int .i64 c.s, .int .i64 c.g, .int .i64 c.r, .int .i64 c.cp, .int .i64 c.f, .slice ma mem.length mc, .slice ja jobs.length jc] : Array Value)[i]?) ∧ wx.cell? ⟨p, 15, none⟩ = some (.int .i64 q.kind) ∧ wx.cell? ⟨p, 16, none⟩ = some (.int .i64 q.cell) ∧ wx.cell? ⟨p, 17, none⟩ = some (.int .i64 q.frm) ∧ wx.cell? ⟨p, 18, none⟩ = some (.int .i64 q.to))) := fun wx hb => ⟨fun i => (World.cell?_of_block (hb.block _ (by show w.heap.size < _; omega))).trans (hsc4 i), (World.cell?_of_block (hb.block p hplt)).trans h15, (World.cell?_of_block (hb.block p hplt)).trans h16, (World.cell?_of_block (hb.block p hplt)).trans h17, (World.cell?_of_block (hb.block p hplt)).trans h18⟩
     have HSO : Hid (∀ wx wy : World, w4.heap.size ≤ wy.heap.size → Only wr.heap.size wy wx → ((∀ i, wy.cell? ⟨w.heap.size, i, none⟩ = (#[.int .i64 c.t, .int .i64 c.wd, .int .i64 c.s, .int .i64 c.g, .int .i64 c.r, .int .i64 c.cp, .int .i64 c.f, .slice ma mem.length mc, .slice ja jobs.length jc] : Array Value)[i]?) ∧ wy.cell? ⟨p, 15, none⟩ = some (.int .i64 q.kind) ∧ wy.cell? ⟨p, 16, none⟩ = some (.int .i64 q.cell) ∧ wy.cell? ⟨p, 17, none⟩ = some (.int .i64 q.frm) ∧ wy.cell? ⟨p, 18, none⟩ = some (.int .i64 q.to)) → ((∀ i, wx.cell? ⟨w.heap.size, i, none⟩ = (#[.int .i64 c.t, .int .i64 c.wd, .int .i64 c.s, .int .i64 c.g, .int .i64 c.r, .int .i64 c.cp, .int .i64 c.f, .slice ma mem.length mc, .slice ja jobs.length jc] : Array Value)[i]?) ∧ wx.cell? ⟨p, 15, none⟩ = some (.int .i64 q.kind) ∧ wx.cell? ⟨p, 16, none⟩ = some (.int .i64 q.cell) ∧ wx.cell? ⟨p, 17, none⟩ = some (.int .i64 q.frm) ∧ wx.cell? ⟨p, 18, none⟩ = some (.int .i64 q.to))) := fun wx wy hs ho h => ⟨fun i => (World.cell?_of_block (ho.block w.heap.size (by omega) (by omega))).trans (h.1 i), (World.cell?_of_block (ho.block p (by omega) (by omega))).trans h.2.1, (World.cell?_of_block (ho.block p (by omega) (by omega))).trans h.2.2.1, (World.cell?_of_block (ho.block p (by omega) (by omega))).trans h.2.2.2.1, (World.cell?_of_block (ho.block p (by omega) (by omega))).trans h.2.2.2.2⟩
     have HM0 : Hid (Ints w4.drew w4.drew.heap.size ma mem) := HM4
     have HL0 : Hid (LogIn w4.drew w4.drew.heap.size la (gLog c mem jobs ps k)) := HL4
     clear hsc4 h15 h16 h17 h18 HR HGn HA HP1 HJ1 HM1 HM4 HL4
     go_region_held3 (fun w' => (∀ i, w'.cell? ⟨w.heap.size, i, none⟩ = (#[.int .i64 c.t, .int .i64 c.wd, .int .i64 c.s, .int .i64 c.g, .int .i64 c.r, .int .i64 c.cp, .int .i64 c.f, .slice ma mem.length mc, .slice ja jobs.length jc] : Array Value)[i]?) ∧ w'.cell? ⟨p, 15, none⟩ = some (.int .i64 q.kind) ∧ w'.cell? ⟨p, 16, none⟩ = some (.int .i64 q.cell) ∧ w'.cell? ⟨p, 17, none⟩ = some (.int .i64 q.frm) ∧ w'.cell? ⟨p, 18, none⟩ = some (.int .i64 q.to))
      (first | exact HS1.out | exact HS0.out | exact HST.out _ ((((Only.refl _ _).set).set).set).set)
      (first | (go_at_call 64; refine (HMK.out _ HM0.out HL0.out).mono ?_; rintro e w5 ⟨rfl, hb5⟩; have HB5 : Hid (Below wr.heap.size wr w5) := (HB4.out).trans ((Below.refl _ _).drew.trans (hb5.mono (HB4.out).size)); have HA5 : Hid (Blk w5 wr.heap.size 40 #[.int .i64 0, .int .i64 0, .int .i64 0, .int .i64 0]) := (HA4.out).below ((Below.refl w4.heap.size w4).drew.trans hb5) (HA4.out).lt; have HS1 : Hid ((∀ i, w5.cell? ⟨w.heap.size, i, none⟩ = (#[.int .i64 c.t, .int .i64 c.wd, .int .i64 c.s, .int .i64 c.g, .int .i64 c.r, .int .i64 c.cp, .int .i64 c.f, .slice ma mem.length mc, .slice ja jobs.length jc] : Array Value)[i]?) ∧ w5.cell? ⟨p, 15, none⟩ = some (.int .i64 q.kind) ∧ w5.cell? ⟨p, 16, none⟩ = some (.int .i64 q.cell) ∧ w5.cell? ⟨p, 17, none⟩ = some (.int .i64 q.frm) ∧ w5.cell? ⟨p, 18, none⟩ = some (.int .i64 q.to)) := HHS.out _ ((Below.refl w4.heap.size w4).drew.trans hb5); have h5s : w4.heap.size ≤ w5.heap.size := hb5.size; clear hb5; have HST : Hid (∀ wx : World, Only wr.heap.size w5 wx → ((∀ i, wx.cell? ⟨w.heap.size, i, none⟩ = (#[.int .i64 c.t, .int .i64 c.wd, .int .i64 c.s, .int .i64 c.g, .int .i64 c.r, .int .i64 c.cp, .int .i64 c.f, .slice ma mem.length mc, .slice ja jobs.length jc] : Array Value)[i]?) ∧ wx.cell? ⟨p, 15, none⟩ = some (.int .i64 q.kind) ∧ wx.cell? ⟨p, 16, none⟩ = some (.int .i64 q.cell) ∧ wx.cell? ⟨p, 17, none⟩ = some (.int .i64 q.frm) ∧ wx.cell? ⟨p, 18, none⟩ = some (.int .i64 q.to))) := (fun wx ho => HSO.out wx w5 h5s ho HS1.out); have hzc := (HA5.out).cell; have hzf := (HA5.out).frozen))
     all_goals
      go_wp2
      go_meet
      case rel => exact ⟨((((HA5.out).set).set).set).set.congr (by simp), below_set (below_set (below_set (below_set HB5.out (Nat.le_refl _)) (Nat.le_refl _)) (Nat.le_refl _)) (Nat.le_refl _)⟩
    case rest =>
     obtain ⟨HAx, HBx⟩ := hcut
     have hax := (HAx.out).cell
     have hszx : w1.heap.size ≤ wc.heap.size := Nat.le_trans hszk (HBx.out).size
     have HRx : Hid (wc.ownsRow w1.heap.size 40 4 (.slice la k lc) k ((gLog c mem jobs ps k).flatMap accCells)) := ownsRow_keep HR.out (Kp.below (chg := []) (p := w1.heap.size) (eb := w1.heap.size) HBx.out hszk) (by simp)
     have HBz : Hid (Below w1.heap.size w1 wc) := (HB.out).trans ((HBx.out).mono hszk)
     clear HR HBx HMK hsc4 h15 h16 h17 h18 HB4 HA4 HL4 HM4 HB
     generalize (gLog c mem jobs ps k).flatMap accCells = LG at *
     go_wp2_with
      (at_builtin;
          refine wpList_append_lies _ (by rfl) _ _ _ (by rfl) w1.heap.size 40 i4 _ 4 32 Tryz.underlying31 hi4 hz40 hz41 hz42 rfl (by omega) (.slice la k lc) k LG (by rfl) ((HRx.out).alloc _)
           ⟨wc.heap.size, 0, none⟩ 1 1 [.int .i64 ac.kind, .int .i64 ac.cell, .int .i64 ac.seen, .int .i64 ac.put] (by rfl) (by rfl) (World.news_of_block (cs := #[.int .i64 ac.kind, .int .i64 ac.cell, .int .i64 ac.seen, .int .i64 ac.put]) (t := 40) (fr := (0, 0)) (heap_alloc_new wc _)) (by simp [Value.oneCell'])
           (by omega) (by unfold maxLen; omega) (by omega) (by simp; omega) (wc.heap.size + 1) (by simp) ?_;
          intro gg cap wz hown1 hgrow hat hlt;
          have HKz : Hid (Kp [40] w1.heap.size w1.heap.size w1.heap.size wc wz) := ((Kp.below ((Below.refl _ _).alloc (Nat.le_refl _) _) hszx).trans (Kp.grown hgrow (by simp; omega) ((HRx.out).alloc _) (by simp)));
          have HRz : Hid (wz.ownsRow w1.heap.size 40 4 (.slice (some ⟨gg, 0, none⟩) (k + 1) cap) (k + 1) (LG ++ [.int .i64 ac.kind, .int .i64 ac.cell, .int .i64 ac.seen, .int .i64 ac.put])) := hown1;
          clear hown1 hgrow hat hlt)
     go_roundg (gk - 1)
     case rel =>
      refine ⟨k + 1, _, _, rfl, by simp, by omega, by omega, by rw [HGn.out]; exact HRz, ?_⟩
      have hk := HKz.out
      have h := HBz.out
      exact ⟨hk.os.trans h.os, hk.tape.trans h.tape, hk.output.trans h.output, Nat.le_trans h.size hk.size, fun b hb => (hk.low b hb (by omega) (by omega)).trans (h.block b hb)⟩
     case measure => omega
   ·have hin1 : ¬ (0 ≤ th) ∨ (0 ≤ th ∧ ¬ (th < c.t)) := by omega
    have HGn : Hid ((gLog c mem jobs ps (k + 1)).flatMap accCells = (gLog c mem jobs ps k).flatMap accCells ++ [.int .i64 0, .int .i64 0, .int .i64 0, .int .i64 0]) := HG.out noAcc (by
        unfold gStep
        rw [if_neg (by rw [← show th = _ from HTH.out]; exact hin)])
    have HRx : Hid ((wr.alloc (.cells #[.int .i64 0, .int .i64 0, .int .i64 0, .int .i64 0] 40)).ownsRow w1.heap.size 40 4 (.slice la k lc) k ((gLog c mem jobs ps k).flatMap accCells)) := (HR.out).alloc _
    have HBz : Hid (Below w1.heap.size w1 (wr.alloc (.cells #[.int .i64 0, .int .i64 0, .int .i64 0, .int .i64 0] 40))) := (HB.out).trans ((HBa.out).mono hszk)
    have HSy : Hid (∀ i, (wr.alloc (.cells #[.int .i64 0, .int .i64 0, .int .i64 0, .int .i64 0] 40)).cell? ⟨w.heap.size, i, none⟩ = (#[.int .i64 c.t, .int .i64 c.wd, .int .i64 c.s, .int .i64 c.g, .int .i64 c.r, .int .i64 c.cp, .int .i64 c.f, .slice ma mem.length mc, .slice ja jobs.length jc] : Array Value)[i]?) := (HSa.out).cell
    have HAy : Hid (∀ i, (wr.alloc (.cells #[.int .i64 0, .int .i64 0, .int .i64 0, .int .i64 0] 40)).cell? ⟨wr.heap.size, i, none⟩ = (#[.int .i64 0, .int .i64 0, .int .i64 0, .int .i64 0] : Array Value)[i]?) := (HAa.out).cell
    clear HG HTH HJa HPa HLa HMa HSa HAa HR HB
    generalize (gLog c mem jobs ps k).flatMap accCells = LG at *
    go_upto_region 6 with fail
    go_cut [8] (fun t wx => t = .int .i64 th ∧ wx = wr.alloc (.cells #[.int .i64 0, .int .i64 0, .int .i64 0, .int .i64 0] 40))
    case first =>
     clear HSy HAy HRx HBz HBa
     go_wp2
     go_meet
     case rel => exact ⟨rfl, rfl⟩
    case rest =>
     obtain ⟨rfl, hwc⟩ := hcut
     rw [← hwc] at HSy HAy HRx HBz hsza
     have hsy := HSy.out
     have hay := HAy.out
     have hszx : w1.heap.size ≤ wc.heap.size := by omega
     have HRy : Hid (wc.ownsRow w1.heap.size 40 4 (.slice la k lc) k LG) := HRx
     have HBy : Hid (Below w1.heap.size w1 wc) := HBz
     clear HSy HAy HRx HBz hwc HBa hq0 hsc hsza
     rcases hin1 with hA | ⟨h0, hB⟩
     ·clear hin
      go_wp2_with
       (at_builtin;
           refine wpList_append_lies _ (by rfl) _ _ _ (by rfl) w1.heap.size 40 i4 _ 4 32 Tryz.underlying31 hi4 hz40 hz41 hz42 rfl (by omega) (.slice la k lc) k LG (by rfl) ((HRy.out).alloc _)
            ⟨wc.heap.size, 0, none⟩ 1 1 [.int .i64 0, .int .i64 0, .int .i64 0, .int .i64 0] (by rfl) (by rfl) (World.news_of_block (cs := #[.int .i64 0, .int .i64 0, .int .i64 0, .int .i64 0]) (t := 40) (fr := (0, 0)) (heap_alloc_new wc _)) (by simp [Value.oneCell'])
            (by omega) (by unfold maxLen; omega) (by omega) (by simp; omega) (wc.heap.size + 1) (by simp) ?_;
           intro gg cap wz hown1 hgrow hat hlt;
           have HKz : Hid (Kp [40] w1.heap.size w1.heap.size w1.heap.size wc wz) := ((Kp.below ((Below.refl _ _).alloc (Nat.le_refl _) _) hszx).trans (Kp.grown hgrow (by simp; omega) ((HRy.out).alloc _) (by simp)));
           have HRz : Hid (wz.ownsRow w1.heap.size 40 4 (.slice (some ⟨gg, 0, none⟩) (k + 1) cap) (k + 1) (LG ++ [.int .i64 0, .int .i64 0, .int .i64 0, .int .i64 0])) := hown1;
           clear hown1 hgrow hat hlt)
      go_roundg (gk - 1)
      case rel =>
       refine ⟨k + 1, _, _, rfl, by simp, by omega, by omega, by rw [HGn.out]; exact HRz, ?_⟩
       have hk := HKz.out
       have h := HBy.out
       exact ⟨hk.os.trans h.os, hk.tape.trans h.tape, hk.output.trans h.output, Nat.le_trans h.size hk.size, fun b hb => (hk.low b hb (by omega) (by omega)).trans (h.block b hb)⟩
      case measure => omega
     ·clear hin
      go_wp2_with
       (at_builtin;
           refine wpList_append_lies _ (by rfl) _ _ _ (by rfl) w1.heap.size 40 i4 _ 4 32 Tryz.underlying31 hi4 hz40 hz41 hz42 rfl (by omega) (.slice la k lc) k LG (by rfl) ((HRy.out).alloc _)
            ⟨wc.heap.size, 0, none⟩ 1 1 [.int .i64 0, .int .i64 0, .int .i64 0, .int .i64 0] (by rfl) (by rfl) (World.news_of_block (cs := #[.int .i64 0, .int .i64 0, .int .i64 0, .int .i64 0]) (t := 40) (fr := (0, 0)) (heap_alloc_new wc _)) (by simp [Value.oneCell'])
            (by omega) (by unfold maxLen; omega) (by omega) (by simp; omega) (wc.heap.size + 1) (by simp) ?_;
           intro gg cap wz hown1 hgrow hat hlt;
           have HKz : Hid (Kp [40] w1.heap.size w1.heap.size w1.heap.size wc wz) := ((Kp.below ((Below.refl _ _).alloc (Nat.le_refl _) _) hszx).trans (Kp.grown hgrow (by simp; omega) ((HRy.out).alloc _) (by simp)));
           have HRz : Hid (wz.ownsRow w1.heap.size 40 4 (.slice (some ⟨gg, 0, none⟩) (k + 1) cap) (k + 1) (LG ++ [.int .i64 0, .int .i64 0, .int .i64 0, .int .i64 0])) := hown1;
           clear hown1 hgrow hat hlt)
      go_roundg (gk - 1)
      case rel =>
       refine ⟨k + 1, _, _, rfl, by simp, by omega, by omega, by rw [HGn.out]; exact HRz, ?_⟩
       have hk := HKz.out
       have h := HBy.out
       exact ⟨hk.os.trans h.os, hk.tape.trans h.tape, hk.output.trans h.output, Nat.le_trans h.size hk.size, fun b hb => (hk.low b hb (by omega) (by omega)).trans (h.block b hb)⟩
      case measure => omega
  ·have hke : k = ps.length := by omega
   have HL : Hid (LogIn wr wr.heap.size la A) := by
    have h := logIn_row HR.out
    rw [hke] at h
    rw [← show accs c mem jobs ps = A from HA.out]
    exact h
   have hlen : A.length = k := by rw [← show accs c mem jobs ps = A from HA.out, hke]; exact gLog_len c mem jobs ps ps.length
   have HF : Hid (Below w.heap.size w wr) := (HB1.out).trans ((HB.out).mono (by omega))
   have hk1 : ¬ (k : Int) < (ps.length : Int) := by omega
   have HLen : Hid (A.length = k) := hlen
   clear HR HB hke hlen
   go_wp2
   go_ret
   exact ⟨la, lc, by rw [HLen.out]; rfl, HL.out, HF.out⟩
end Go.Proofs.YtejadojilncbjaaGreat
namespace Go.Proofs.YtejadojilncbjaaGreat
set_option linter.unusedVariables false
def att0 : AttD := ⟨0, 0, 0, 0, 0, 0, 0, []⟩
def cur (l : List AttD) : AttD := l.getD (l.length - 1) att0
theorem modLast_snoc (l : List AttD) (t : AttD) (f : AttD → AttD) : modLast (l ++ [t]) f = l ++ [f t] := by
 unfold modLast
 apply List.ext_getElem?
 intro i
 rw [List.getElem?_modify]
 by_cases hi : i < l.length
 ·rw [List.getElem?_append_left hi, List.getElem?_append_left hi, show (fun a => if (l ++ [t]).length - 1 = i then f a else a) = id from by funext a; rw [if_neg (by simp; omega)]; rfl]
  simp
 ·rw [List.getElem?_append_right (by omega), List.getElem?_append_right (by omega)]
  by_cases he : i = l.length
  ·rw [show (fun a => if (l ++ [t]).length - 1 = i then f a else a) = f from by funext a; rw [if_pos (by simp; omega)], he]; simp
  ·rw [show [t][i - l.length]? = none from by simp; omega, show [f t][i - l.length]? = none from by simp; omega]
   rfl
theorem snoc_of {l : List AttD} (h : l ≠ []) : ∃ l0 t, l = l0 ++ [t] := by
 rcases List.eq_nil_or_concat l with e | ⟨l0, t, e⟩
 ·exact absurd e h
 ·exact ⟨l0, t, by rw [e, List.concat_eq_append]⟩
def er (t : AttD) : AttD := { t with notes := [] }
structure Rn where
 c : Cfg
 mem : List Int
 jobs : List (Int × List InsD)
 ps : List PickD
structure Rn.Ok (R : Rn) : Prop where
 c : cfgB R.c = true
 w : (R.mem.length : Int) = R.c.wd
 m : memB R.mem = true
def Rn.g (R : Rn) (k : Nat) : Gs := gAt R.c R.mem R.jobs R.ps k
def Rn.K (R : Rn) (t : Int) : Cx := cxOf R.c R.jobs t
def Rn.pk (R : Rn) (k : Nat) : PickD := pickAt R.ps k
def Rn.out (R : Rn) (k : Nat) (t : Int) : AskD := hOut (R.K t) ((R.g k).th t)
theorem Rn.step (R : Rn) (k : Nat) : R.g (k + 1) = (gStep R.c R.jobs (R.g k) ((k : Int) + 1) (R.pk k)).1 := rfl
theorem Rn.off (R : Rn) (k : Nat) {t : Int} (h : (R.pk k).thread ≠ t) : (R.g (k + 1)).th t = (R.g k).th t := by
 rw [R.step]
 unfold gStep
 split
 ·exact if_neg (fun e => h e.symm)
 ·rfl
theorem Rn.at (R : Rn) (k : Nat) {t : Int} (h : (R.pk k).thread = t) (t0 : 0 ≤ t) (t1 : t < R.c.t) : (R.g (k + 1)).th t = hNext (R.K t) ((R.g k).th t) ⟨(accBy (R.g k).m (R.out k t)).seen, (R.pk k).draw, (k : Int) + 1⟩ := by
 subst h
 rw [R.step]
 unfold gStep
 rw [if_pos ⟨t0, t1⟩]
 exact if_pos rfl
end Go.Proofs.YtejadojilncbjaaGreat
namespace Go.Proofs.YtejadojilncbjaaGreat
open Go.RowKit
set_option linter.unusedVariables false
attribute [local go_sem ↓] Go.wp_at_zero Go.wp_at_succ
structure MS where
 regs : List Int
 place : Nat
 begun : Nat
 into : Int
def mArr (m : MS) : Array Value := #[.int .i64 (m.regs.getD 0 0), .int .i64 (m.regs.getD 1 0), .int .i64 (m.regs.getD 2 0), .int .i64 (m.regs.getD 3 0), .int .i64 m.place, .int .i64 m.begun, .int .i64 m.into]
end Go.Proofs.YtejadojilncbjaaGreat
namespace Go.Proofs.YtejadojilncbjaaGreat
open Go.RowKit
set_option linter.unusedVariables false
def MOk (m : MS) : Prop := m.regs.length = 4 ∧ ∀ v ∈ m.regs, 0 ≤ v ∧ v ≤ 65535
def mReg (m : MS) (i : Int) : Int := m.regs.getD i.toNat 0
def pComp (m : MS) (i : InsD) : MS :=
 if i.op = 2 then { m with regs := m.regs.set i.a.toNat i.b }
 else if i.op = 3 then { m with regs := m.regs.set i.a.toNat ((mReg m i.b + mReg m i.c).tmod 65536) }
 else if i.op = 4 then { m with regs := m.regs.set i.a.toNat ((mReg m i.b + 65535 + 1 - mReg m i.c).tmod 65536) }
 else if i.op = 5 then { m with place := i.c.toNat }
 else if mReg m i.a < mReg m i.b then { m with place := i.c.toNat } else m
theorem formed2 {i : InsD} {n : Int} (h : formedB i n = true) (o : i.op = 2) : (0 ≤ i.a ∧ i.a ≤ 3) ∧ (0 ≤ i.b ∧ i.b ≤ 65535) := by
 simp [formedB, o, inB] at h
 omega
theorem formed34 {i : InsD} {n : Int} (h : formedB i n = true) (o : i.op = 3 ∨ i.op = 4) : (0 ≤ i.a ∧ i.a ≤ 3) ∧ (0 ≤ i.b ∧ i.b ≤ 3) ∧ (0 ≤ i.c ∧ i.c ≤ 3) := by
 unfold formedB at h
 rw [if_neg (by omega), if_neg (by omega), if_pos o] at h
 simp [inB] at h
 omega
theorem formed5 {i : InsD} {n : Int} (h : formedB i n = true) (o : i.op = 5) : 0 ≤ i.c ∧ i.c ≤ n := by
 simp [formedB, o, inB] at h
 omega
theorem formed6 {i : InsD} {n : Int} (h : formedB i n = true) (o : i.op = 6) : (0 ≤ i.a ∧ i.a ≤ 3) ∧ (0 ≤ i.b ∧ i.b ≤ 3) ∧ (0 ≤ i.c ∧ i.c ≤ n) := by
 simp [formedB, o, inB] at h
 omega
theorem formed78 {i : InsD} {n : Int} (h : formedB i n = true) (o : i.op = 7 ∨ i.op = 8) : (0 ≤ i.a ∧ i.a ≤ 3) ∧ (0 ≤ i.b ∧ i.b ≤ 3) := by
 unfold formedB at h
 rw [if_neg (by omega), if_neg (by omega), if_neg (by omega), if_neg (by omega), if_neg (by omega), if_pos o] at h
 simp [inB] at h
 omega
theorem formed_op {i : InsD} {n : Int} (h : formedB i n = true) : 0 ≤ i.op ∧ i.op ≤ 8 := by
 unfold formedB at h
 by_cases h1 : i.op = 0 ∨ i.op = 1
 ·omega
 rw [if_neg h1] at h
 by_cases h2 : i.op = 2
 ·omega
 rw [if_neg h2] at h
 by_cases h3 : i.op = 3 ∨ i.op = 4
 ·omega
 rw [if_neg h3] at h
 by_cases h5 : i.op = 5
 ·omega
 rw [if_neg h5] at h
 by_cases h6 : i.op = 6
 ·omega
 rw [if_neg h6] at h
 by_cases h7 : i.op = 7 ∨ i.op = 8
 ·omega
 rw [if_neg h7] at h
 cases h
structure TurnD where
 fate : Int
 op : Int
 addr : Int
 val : Int
def turnCells (t : TurnD) : Array Value := #[.int .i64 t.fate, .int .i64 t.op, .int .i64 t.addr, .int .i64 t.val]
def pWord (wd : Int) (m : MS) (i : InsD) : TurnD × MS :=
 if i.op = 7 then ((if inB (mReg m i.b) 0 (wd - 1) then ⟨0, 7, mReg m i.b, 0⟩ else ⟨3, 0, 0, 0⟩), { m with into := i.a })
 else ((if inB (mReg m i.a) 0 (wd - 1) then ⟨0, 8, mReg m i.a, mReg m i.b⟩ else ⟨3, 0, 0, 0⟩), m)
def pNext (f wd : Int) (code : List InsD) : Nat → MS → TurnD × MS
 | 0, m => (⟨0, 0, 0, 0⟩, m)
 | n + 1, m =>
  if code.length ≤ m.place then (⟨1, 0, 0, 0⟩, m) else if f ≤ m.begun then (⟨4, 0, 0, 0⟩, m) else
   let i := insAt code m.place
   if formedB i code.length = false then (⟨3, 0, 0, 0⟩, { m with begun := m.begun + 1 }) else
    let m2 : MS := { m with begun := m.begun + 1, place := m.place + 1 }
    if i.op = 0 then (⟨1, 0, 0, 0⟩, m2) else if i.op = 1 then (⟨2, 0, 0, 0⟩, m2) else if i.op = 7 ∨ i.op = 8 then pWord wd m2 i else pNext f wd code n (pComp m2 i)
theorem MOk.comp {m : MS} {i : InsD} {n : Int} (h : MOk m) (hf : formedB i n = true) (ho : 2 ≤ i.op ∧ i.op ≤ 6) : MOk (pComp m i) := by
 have hreg : ∀ k : Int, 0 ≤ mReg m k ∧ mReg m k ≤ 65535 := fun k => by
  unfold mReg
  by_cases hk : k.toNat < m.regs.length
  ·rw [show m.regs.getD k.toNat 0 = m.regs[k.toNat] from by simp [List.getD, List.getElem?_eq_getElem hk]]
   exact h.2 _ (List.getElem_mem hk)
  ·rw [show m.regs.getD k.toNat 0 = 0 from by simp [List.getD, List.getElem?_eq_none (Nat.le_of_not_lt hk)]]
   omega
 have hset : ∀ (k : Nat) (v : Int), 0 ≤ v → v ≤ 65535 → MOk { m with regs := m.regs.set k v } := fun k v h0 h1 => by
  refine ⟨by simp [h.1], fun u hu => ?_⟩
  rcases List.mem_or_eq_of_mem_set hu with h2 | h2
  ·exact h.2 u h2
  ·omega
 have hmod : ∀ v : Int, 0 ≤ v → 0 ≤ v.tmod 65536 ∧ v.tmod 65536 ≤ 65535 := fun v hv => ⟨Int.tmod_nonneg _ hv, by have := Int.tmod_lt_of_pos v (b := 65536) (by omega); omega⟩
 unfold pComp
 split
 ·rename_i o
  obtain ⟨_, b0, b1⟩ := formed2 hf o
  exact hset _ _ b0 b1
 split
 ·have h1 := hreg i.b
  have h2 := hreg i.c
  have := hmod (mReg m i.b + mReg m i.c) (by omega)
  exact hset _ _ this.1 this.2
 split
 ·have h1 := hreg i.b
  have h2 := hreg i.c
  have := hmod (mReg m i.b + 65535 + 1 - mReg m i.c) (by omega)
  exact hset _ _ this.1 this.2
 split
 ·exact h
 split
 ·exact h
 ·exact h
end Go.Proofs.YtejadojilncbjaaGreat
