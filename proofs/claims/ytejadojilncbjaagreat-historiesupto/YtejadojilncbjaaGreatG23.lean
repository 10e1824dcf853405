import Derived.Test.YtejadojilncbjaaGreatG19
import Derived.Deep.DeepCutAuto
import Derived.Test.YtejadojilncbjaaGreatG18
import Derived.Test.YtejadojilncbjaaGreatG20
import Derived.Test.YtejadojilncbjaaGreatG22
namespace Go.Proofs.YtejadojilncbjaaGreat
open Go.RowKit
set_option linter.unusedVariables false
attribute [local go_sem ↓] Go.wp_at_zero Go.wp_at_succ
theorem Tryz.info84 : (Tryz.prog.info? 84).map (fun i => (i.zero, i.size, i.bytes)) = some (some (.agg #[.int .i64 0, .int .i64 0, .int .i64 0, .int .i64 0, .int .i64 0]), 5, 40) := by kernel_rfl
theorem made35 (n : Nat) : madeCells (Value.agg #[.int .i64 0, .int .i64 0, .int .i64 0, .int .i64 0, .int .i64 0]).cells (n * 5) = ((List.replicate n (⟨0, 0, 0, 0, 0⟩ : ResD)).flatMap resCells).toArray := by
 have e : ((List.replicate n (⟨0, 0, 0, 0, 0⟩ : ResD)).flatMap resCells) = List.replicate (n * 5) (.int .i64 0) := by
  induction n with
  | zero => rfl
  | succ n ih =>
   rw [List.replicate_succ, List.flatMap_cons, ih, show resCells ⟨0, 0, 0, 0, 0⟩ = List.replicate 5 (.int .i64 0) from rfl, List.replicate_append_replicate]
   congr 1
   omega
 have hz : (Value.agg #[.int .i64 0, .int .i64 0, .int .i64 0, .int .i64 0, .int .i64 0]).cells = #[.int .i64 0, .int .i64 0, .int .i64 0, .int .i64 0, .int .i64 0] := by rfl
 rw [e, hz]
 apply Array.ext
 ·simp [size_madeCells]
 ·intro i h1 h2
  simp [madeCells]
  have : i % 5 = 0 ∨ i % 5 = 1 ∨ i % 5 = 2 ∨ i % 5 = 3 ∨ i % 5 = 4 := by omega
  rcases this with h | h | h | h | h <;> rw [h] <;> rfl
theorem run_make35 (n : Nat) (hn : n ≤ 8) (w : World) : (Instr.makeSlice 45 (Value.int .i64 (n : Int)) (Value.int .i64 (n : Int))).run Tryz.prog w =
  .ok (.slice (some ⟨w.heap.size, 0, none⟩) n n) (w.alloc (.cells ((List.replicate n (⟨0, 0, 0, 0, 0⟩ : ResD)).flatMap resCells).toArray 84)) := by
 obtain ⟨i0, h1, h2, h3, h4⟩ := info_parts Tryz.info84
 have := run_make (P := Tryz.prog) w 45 84 i0 _ Tryz.underlying45 h1 h2 .i64 .i64 n n (by omega) (by omega) (by rw [h4]; omega) (by omega)
 rw [h3] at this
 simp only [Int.toNat_natCast, made35] at this
 exact this
def JobsRep (w : World) (B : Nat) (ja : Option Addr) (jobs : List (Int × List InsD)) : Prop :=
 ∃ js : List JobD, js.length = jobs.length ∧ JobsIn w B ja js ∧ ∀ i, i < js.length → (jobAt js i).t = (jobs.getD i (0, [])).1 ∧ (jobAt js i).len = (jobs.getD i (0, [])).2.length ∧ CodeIn w B (jobAt js i).a (jobs.getD i (0, [])).2
theorem CodeIn.up {w w' : World} {n : Nat} {a : Option Addr} {is : List InsD} (h : CodeIn w n a is) (hb : Below n w w') : CodeIn w' n a is := by
 intro i hi
 obtain ⟨b, off, ha, hlt, h0, h1, h2, h3⟩ := h i hi
 have e : ∀ o, w'.cell? ⟨b, o, none⟩ = w.cell? ⟨b, o, none⟩ := fun o => World.cell?_of_block (hb.block b hlt)
 exact ⟨b, off, ha, hlt, (e _).trans h0, (e _).trans h1, (e _).trans h2, (e _).trans h3⟩
theorem JobsRep.up {w w' : World} {n : Nat} {ja : Option Addr} {jobs : List (Int × List InsD)} (h : JobsRep w n ja jobs) (hb : Below n w w') : JobsRep w' n ja jobs := by
 obtain ⟨js, h1, h2, h3⟩ := h
 refine ⟨js, h1, fun i hi => ?_, fun i hi => ⟨(h3 i hi).1, (h3 i hi).2.1, (h3 i hi).2.2.up hb⟩⟩
 obtain ⟨b, off, ha, hlt, k0, k1⟩ := h2 i hi
 have e : ∀ o, w'.cell? ⟨b, o, none⟩ = w.cell? ⟨b, o, none⟩ := fun o => World.cell?_of_block (hb.block b hlt)
 exact ⟨b, off, ha, hlt, (e _).trans k0, (e _).trans k1⟩
theorem PicksIn.up {w w' : World} {n : Nat} {a : Option Addr} {l : List PickD} (h : PicksIn w n a l) (hb : Below n w w') : PicksIn w' n a l := by
 intro i hi
 obtain ⟨b, off, ha, hlt, k0, k1⟩ := h i hi
 have e : ∀ o, w'.cell? ⟨b, o, none⟩ = w.cell? ⟨b, o, none⟩ := fun o => World.cell?_of_block (hb.block b hlt)
 exact ⟨b, off, ha, hlt, (e _).trans k0, (e _).trans k1⟩
theorem TellR.life {c : Cfg} {me : Int} {jobs : List (Int × List InsD)} {ma ja : Option Addr} {ml mc jc n : Nat} {w : World} {S D W : List Int}
  (h : TellR c me jobs ma ja ml mc jc (n + 3) (n + 2) (n + 1) w S D W) (hj : JobsRep w n ja jobs) (he : Blk w (n + 1) 84 ((jobs.map fun _ => (⟨0, 0, 0, 0, 0⟩ : ResD)).flatMap resCells).toArray) (hsz : n + 3 ≤ w.heap.size) :
  ∃ H, LifeR ⟨c, me, S, D, W, jobs⟩ H w.heap.size (n + 2) (n + 1) w (newLS ⟨c, me, S, D, W, jobs⟩) ∧ H.ea = some ⟨n + 1, 0, none⟩ ∧ H.ec = jobs.length := by
 obtain ⟨sa, sc, da, dc, wa, wc, hb, hs, hd, hw, _, _, _⟩ := h
 have far : ∀ {a : Option Addr} {k : Nat} {l : List Int}, Row w (n + 3) a k l → Far w.heap.size (n + 2) (n + 1) a := fun {a k l} h b off e => by
  have := h.base _ e
  simp only at this
  exact ⟨this.2, by omega, by omega⟩
 obtain ⟨js, h1, h2, h3⟩ := hj
 refine ⟨⟨ma, ml, mc, ja, jc, sa, sc, da, dc, wa, wc, some ⟨n + 1, 0, none⟩, jobs.length⟩, ⟨⟨Nat.le_refl _, hs.ints, far hs, hd.ints, far hd, hw.ints, far hw, ⟨js, h1, fun i hi => ?_, fun i hi => ⟨(h3 i hi).1, (h3 i hi).2.1, fun k hk => ?_, fun hne => ?_⟩⟩, fun hne => ?_⟩, ⟨none, 0, hb, ⟨[], rfl, World.ownsRow_nil _ _ _ _, by simp [newLS], by simp⟩⟩, Or.inr ⟨rfl, he⟩, by omega, by omega, by omega⟩, rfl, rfl⟩
 ·obtain ⟨b, off, ha, hlt, k0, k1⟩ := h2 i hi
  exact ⟨b, off, ha, by omega, k0, k1⟩
 ·obtain ⟨b, off, ha, hlt, k0, k1, k2, k3⟩ := (h3 i hi).2.2 k hk
  exact ⟨b, off, ha, by omega, k0, k1, k2, k3⟩
 ·intro b off e
  obtain ⟨b', off', ha, hlt, _⟩ := (h3 i hi).2.2 0 (List.length_pos_iff.2 hne)
  rw [ha] at e
  cases e
  exact ⟨by omega, by omega, by omega⟩
 ·intro b off e
  obtain ⟨b', off', ha, hlt, _⟩ := h2 0 (by rw [h1]; exact List.length_pos_iff.2 hne)
  rw [ha] at e
  cases e
  exact ⟨by omega, by omega, by omega⟩
theorem tell0 {c : Cfg} {me : Int} {jobs : List (Int × List InsD)} {ma ja : Option Addr} {ml mc jc n : Nat} {w0 w1 : World} (h1 : w0.heap.size = n + 1) (hw : w1 = (w0.alloc (.cells ((List.replicate jobs.length (⟨0, 0, 0, 0, 0⟩ : ResD)).flatMap resCells).toArray 84)).alloc (.cells #[.int .i64 c.t, .int .i64 c.wd, .int .i64 c.s, .int .i64 c.g, .int .i64 c.r, .int .i64 c.cp, .int .i64 c.f, .slice ma ml mc, .slice ja jobs.length jc,
            .int .i64 me, .slice none 0 0, .slice none 0 0, .slice none 0 0, .int .i64 0, .bool false, .int .i64 0, .int .i64 0, .int .i64 0, .int .i64 0, .int .i64 0, .int .i64 0, .slice none 0 0, .slice (some ⟨n + 1, 0, none⟩) jobs.length jobs.length] 88)) :
  TellR c me jobs ma ja ml mc jc (n + 3) (n + 2) (n + 1) w1 [] [] [] ∧ Blk w1 (n + 1) 84 ((jobs.map fun _ => (⟨0, 0, 0, 0, 0⟩ : ResD)).flatMap resCells).toArray ∧ Below (n + 1) w0 w1 ∧ w1.heap.size = n + 3 := by
 have e : (jobs.map fun _ => (⟨0, 0, 0, 0, 0⟩ : ResD)) = List.replicate jobs.length ⟨0, 0, 0, 0, 0⟩ := List.map_const'
 rw [e, hw]
 refine ⟨⟨none, 0, none, 0, none, 0, ?_, World.ownsRow_nil _ _ _ _, World.ownsRow_nil _ _ _ _, World.ownsRow_nil _ _ _ _, (fun x y hx hy => by cases hx), (fun x y hx hy => by cases hx), (fun x y hx hy => by cases hx)⟩, ?_, ?_, ?_⟩
 ·have := Blk.new (w0.alloc (.cells ((List.replicate jobs.length (⟨0, 0, 0, 0, 0⟩ : ResD)).flatMap resCells).toArray 84)) 88 #[.int .i64 c.t, .int .i64 c.wd, .int .i64 c.s, .int .i64 c.g, .int .i64 c.r, .int .i64 c.cp, .int .i64 c.f, .slice ma ml mc, .slice ja jobs.length jc,
      .int .i64 me, .slice none 0 0, .slice none 0 0, .slice none 0 0, .int .i64 0, .bool false, .int .i64 0, .int .i64 0, .int .i64 0, .int .i64 0, .int .i64 0, .int .i64 0, .slice none 0 0, .slice (some ⟨n + 1, 0, none⟩) jobs.length jobs.length]
  rw [show (w0.alloc (.cells ((List.replicate jobs.length (⟨0, 0, 0, 0, 0⟩ : ResD)).flatMap resCells).toArray 84)).heap.size = n + 2 from by simp [h1]] at this
  refine this.congr ?_
  simp [lifeArr, newLS]
 ·have := Blk.new w0 84 ((List.replicate jobs.length (⟨0, 0, 0, 0, 0⟩ : ResD)).flatMap resCells).toArray
  rw [h1] at this
  exact this.alloc _
 ·exact ((Below.refl _ _).alloc (by omega) _).alloc (by simp; omega) _
 ·simp [h1]
theorem tellSeen {c : Cfg} {me : Int} {jobs : List (Int × List InsD)} {ma ja sa da wa : Option Addr} {ml mc jc sc dc wc B p eb g cap : Nat} {w w0 w1 : World} {S D W : List Int} {v : Int} (hb : Blk w p 88 (lifeArr ⟨c, me, S, D, W, jobs⟩ ⟨ma, ml, mc, ja, jc, sa, sc, da, dc, wa, wc, some ⟨eb, 0, none⟩, jobs.length⟩ none 0 (newLS ⟨c, me, S, D, W, jobs⟩))) (hs : Row w B sa sc S) (hd : Row w B da dc D) (hw : Row w B wa wc W) (d1 : Apart sa da) (d2 : Apart sa wa) (d3 : Apart da wa) (hp : p < B) (hB : B ≤ w.heap.size) (hb0 : Below w.heap.size w w0) (hgr : w0.grownBy w1 (Value.slice sa S.length sc).ownBlock) (hown : w1.ownsRow B 3 1 (.slice (some ⟨g, 0, none⟩) (S.length + 1) cap) (S.length + 1) (S.map (Value.int .i64 ·) ++ [.int .i64 v]))
  (hat : (Value.slice sa S.length sc).ownBlock = some g ∨ g = w.heap.size + 1) :
  TellR c me jobs ma ja ml mc jc B p eb (w1.setCell ⟨p, 10, none⟩ (.slice (some ⟨g, 0, none⟩) (S.length + 1) cap)) (S ++ [v]) D W ∧ Kp [88, 3] B p eb w (w1.setCell ⟨p, 10, none⟩ (.slice (some ⟨g, 0, none⟩) (S.length + 1) cap)) := by
 obtain ⟨k1, k2, k3, k4, k5, k6, k7⟩ := rowAdd (eb := eb) (i := 10) (u := .slice (some ⟨g, 0, none⟩) (S.length + 1) cap) hb hp hB hs hd hw d1 d2 hb0 hgr hown hat
 exact ⟨⟨some ⟨g, 0, none⟩, cap, da, dc, wa, wc, k1.congr (by simp [lifeArr, newLS]), k2, k3, k4, k5, k6, d3⟩, k7⟩
theorem tellDraw {c : Cfg} {me : Int} {jobs : List (Int × List InsD)} {ma ja sa da wa : Option Addr} {ml mc jc sc dc wc B p eb g cap : Nat} {w w0 w1 : World} {S D W : List Int} {v : Int} (hb : Blk w p 88 (lifeArr ⟨c, me, S, D, W, jobs⟩ ⟨ma, ml, mc, ja, jc, sa, sc, da, dc, wa, wc, some ⟨eb, 0, none⟩, jobs.length⟩ none 0 (newLS ⟨c, me, S, D, W, jobs⟩))) (hs : Row w B sa sc S) (hd : Row w B da dc D) (hw : Row w B wa wc W) (d1 : Apart sa da) (d2 : Apart sa wa) (d3 : Apart da wa) (hp : p < B) (hB : B ≤ w.heap.size) (hb0 : Below w.heap.size w w0) (hgr : w0.grownBy w1 (Value.slice da D.length dc).ownBlock) (hown : w1.ownsRow B 3 1 (.slice (some ⟨g, 0, none⟩) (D.length + 1) cap) (D.length + 1) (D.map (Value.int .i64 ·) ++ [.int .i64 v]))
  (hat : (Value.slice da D.length dc).ownBlock = some g ∨ g = w.heap.size + 1) :
  TellR c me jobs ma ja ml mc jc B p eb (w1.setCell ⟨p, 11, none⟩ (.slice (some ⟨g, 0, none⟩) (D.length + 1) cap)) S (D ++ [v]) W ∧ Kp [88, 3] B p eb w (w1.setCell ⟨p, 11, none⟩ (.slice (some ⟨g, 0, none⟩) (D.length + 1) cap)) := by
 obtain ⟨k1, k2, k3, k4, k5, k6, k7⟩ := rowAdd (eb := eb) (i := 11) (u := .slice (some ⟨g, 0, none⟩) (D.length + 1) cap) hb hp hB hd hs hw d1.symm d3 hb0 hgr hown hat
 exact ⟨⟨sa, sc, some ⟨g, 0, none⟩, cap, wa, wc, k1.congr (by simp [lifeArr, newLS]), k3, k2, k4, k5.symm, d2, k6⟩, k7⟩
theorem tellWhen {c : Cfg} {me : Int} {jobs : List (Int × List InsD)} {ma ja sa da wa : Option Addr} {ml mc jc sc dc wc B p eb g cap : Nat} {w w0 w1 : World} {S D W : List Int} {v : Int} (hb : Blk w p 88 (lifeArr ⟨c, me, S, D, W, jobs⟩ ⟨ma, ml, mc, ja, jc, sa, sc, da, dc, wa, wc, some ⟨eb, 0, none⟩, jobs.length⟩ none 0 (newLS ⟨c, me, S, D, W, jobs⟩))) (hs : Row w B sa sc S) (hd : Row w B da dc D) (hw : Row w B wa wc W) (d1 : Apart sa da) (d2 : Apart sa wa) (d3 : Apart da wa) (hp : p < B) (hB : B ≤ w.heap.size) (hb0 : Below w.heap.size w w0) (hgr : w0.grownBy w1 (Value.slice wa W.length wc).ownBlock) (hown : w1.ownsRow B 3 1 (.slice (some ⟨g, 0, none⟩) (W.length + 1) cap) (W.length + 1) (W.map (Value.int .i64 ·) ++ [.int .i64 v]))
  (hat : (Value.slice wa W.length wc).ownBlock = some g ∨ g = w.heap.size + 1) :
  TellR c me jobs ma ja ml mc jc B p eb (w1.setCell ⟨p, 12, none⟩ (.slice (some ⟨g, 0, none⟩) (W.length + 1) cap)) S D (W ++ [v]) ∧ Kp [88, 3] B p eb w (w1.setCell ⟨p, 12, none⟩ (.slice (some ⟨g, 0, none⟩) (W.length + 1) cap)) := by
 obtain ⟨k1, k2, k3, k4, k5, k6, k7⟩ := rowAdd (eb := eb) (i := 12) (u := .slice (some ⟨g, 0, none⟩) (W.length + 1) cap) hb hp hB hw hs hd d2.symm d3.symm hb0 hgr hown hat
 exact ⟨⟨sa, sc, da, dc, some ⟨g, 0, none⟩, cap, k1.congr (by simp [lifeArr, newLS]), k3, k4, k2, d1, k5.symm, k6.symm⟩, k7⟩
theorem Row.ne {w : World} {B b : Nat} {a : Option Addr} {k : Nat} {l : List Int} (h : Row w B a k l) (hb : b < B) : (Value.slice a l.length k).ownBlock ≠ some b := fun e => by
 have := (World.ownsRow.lt h b e).1
 omega
theorem below_kp {chg : List TypeId} {n : Nat} {w w1 w2 : World} (h : Below n w w1) (hk : Kp chg (n + 3) (n + 2) (n + 1) w1 w2) : Below n w w2 :=
 ⟨hk.os.trans h.os, hk.tape.trans h.tape, hk.output.trans h.output, Nat.le_trans h.size hk.size, fun k hlt => (hk.low k (by omega) (by omega) (by omega)).trans (h.block k hlt)⟩
set_option maxRecDepth 100000 in
set_option maxHeartbeats 8000000 in
theorem told_any (c : Cfg) (hc : cfgB c = true) (me : Int) (hm0 : 0 ≤ me) (hm3 : me ≤ 3) (ma ja pa la : Option Addr) (ml mc jc pc lc : Nat) (jobs : List (Int × List InsD)) (ps : List PickD) (log : List AccD) (w : World)
  (hj : JobsRep w w.heap.size ja jobs) (hp : PicksIn w w.heap.size pa ps) (hl : LogIn w w.heap.size la log) (hpl : log.length ≤ ps.length) (hn : log.length ≤ 2 ^ 33) (hpn : ps.length ≤ 2 ^ 40) (hv : ∀ a ∈ log, -1 ≤ a.seen ∧ a.seen ≤ 1125899906842624)
  (hj8 : jobs.length ≤ 8) (hcd : ∀ j ∈ jobs, j.2.length ≤ 20) :
  Calls Tryz.prog 45 #[.agg #[.int .i64 c.t, .int .i64 c.wd, .int .i64 c.s, .int .i64 c.g, .int .i64 c.r, .int .i64 c.cp, .int .i64 c.f, .slice ma ml mc, .slice ja jobs.length jc], .slice pa ps.length pc, .slice la log.length lc, .int .i64 me] w fun e w' =>
   e = .returned (.pointer (some ⟨w.heap.size + 2, 0, none⟩)) ∧ (∃ H B, LifeR (envOf c jobs me ps log) H B (w.heap.size + 2) (w.heap.size + 1) w' (mTold (envOf c jobs me ps log)) ∧ H.ea = some ⟨w.heap.size + 1, 0, none⟩ ∧ H.ec = jobs.length) ∧ Below w.heap.size w w' := by
 have HJ : Hid (JobsRep w w.heap.size ja jobs) := hj
 have HP : Hid (PicksIn w w.heap.size pa ps) := hp
 have HL : Hid (LogIn w w.heap.size la log) := hl
 have HC : Hid (cfgB c = true) := hc
 have HV : Hid (∀ a ∈ log, -1 ≤ a.seen ∧ a.seen ≤ 1125899906842624) := hv
 have HCd : Hid (∀ j ∈ jobs, j.2.length ≤ 20) := hcd
 have hmk := run_make35 jobs.length hj8
 clear hj hp hl hc hv hcd
 go_enter Tryz.func45, Tryz.ntmps45
 go_upto_region 1 with fail
 go_cut [9] (fun t wc => t = .pointer (some ⟨w.heap.size + 2, 0, none⟩) ∧ Hid (TellR c me jobs ma ja ml mc jc (w.heap.size + 3) (w.heap.size + 2) (w.heap.size + 1) wc [] [] []) ∧ Hid (Blk wc (w.heap.size + 1) 84 ((jobs.map fun _ => (⟨0, 0, 0, 0, 0⟩ : ResD)).flatMap resCells).toArray) ∧ Hid (Below w.heap.size w wc) ∧ w.heap.size + 3 ≤ wc.heap.size)
 case first =>
  go_region
  all_goals
   go_wp2
   go_meet
   case rel =>
    have h0 := tell0 (c := c) (me := me) (jobs := jobs) (ma := ma) (ja := ja) (ml := ml) (mc := mc) (jc := jc) (n := w.heap.size) (w0 := w.alloc (.cells #[.int .i64 c.t, .int .i64 c.wd, .int .i64 c.s, .int .i64 c.g, .int .i64 c.r, .int .i64 c.cp, .int .i64 c.f, .slice ma ml mc, .slice ja jobs.length jc] 27)) (by simp) rfl
    refine ⟨rfl, h0.1, h0.2.1, ?_, Nat.le_of_eq h0.2.2.2.symm⟩
    exact (((Below.refl w.heap.size w).alloc (Nat.le_refl _) _).trans (h0.2.2.1.mono (by omega))).drew
 case rest =>
  obtain ⟨rfl, HT0, HE0, HB0, hsz0⟩ := hcut
  obtain ⟨i0, hi0, hz0, hz1, hz2⟩ := info_parts Tryz.info3
  clear hmk
  go_wp2
  go_loopg [10] (log.length + 1) (fun m t wr => ∃ k : Nat, t = .int .i64 (k : Int) ∧ k ≤ log.length ∧ m = log.length + 1 - k ∧
      Hid (TellR c me jobs ma ja ml mc jc (w.heap.size + 3) (w.heap.size + 2) (w.heap.size + 1) wr (seenOf me (ps.take k) (log.take k)) (drawsOf me (ps.take k) (log.take k)) (whensOf me (ps.take k) (log.take k))) ∧
      Hid (Blk wr (w.heap.size + 1) 84 ((jobs.map fun _ => (⟨0, 0, 0, 0, 0⟩ : ResD)).flatMap resCells).toArray) ∧ Hid (Below w.heap.size w wr) ∧ w.heap.size + 3 ≤ wr.heap.size)
  case atStart => exact ⟨0, rfl, by omega, by omega, HT0, HE0, HB0, hsz0⟩
  case round =>
   obtain ⟨k, rfl, hk, hgk, HTk, HEk, HBk, hszk⟩ := hrel
   clear HT0 HE0 HB0 hsz0
   by_cases hkl : k < log.length
   ·obtain ⟨pb, poff, hpa, hpb, hpc0, hpc1⟩ := HP.out k (by omega)
    obtain ⟨lb, loff, hla, hlb, hlc0, hlc1, hlc2, hlc3⟩ := HL.out k hkl
    have hup : ∀ (wx : World), Below w.heap.size w wx → ∀ (b o : Nat), b < w.heap.size → wx.cell? ⟨b, o, none⟩ = w.cell? ⟨b, o, none⟩ := fun wx hb b o hlt => World.cell?_of_block (hb.block b hlt)
    have hq0 := (hup wr HBk.out pb (poff + k * 2) hpb).trans hpc0
    have hk0 : (0 : Int) ≤ (k : Int) := by omega
    have hk1 : (k : Int) < (log.length : Int) := by omega
    have hk2 : (k : Int) < (ps.length : Int) := by omega
    have hwk : IntKind.i64.wrap ((k : Int) + 1) = (k : Int) + 1 := wrapF _ (by omega) (by omega)
    by_cases hth : (pickAt ps k).thread = me
    ·have HSn : Hid (seenOf me (ps.take (k + 1)) (log.take (k + 1)) = seenOf me (ps.take k) (log.take k) ++ [(accAt log k).seen]) := seen_in me ps log k hkl hpl hth
     have HDn : Hid (drawsOf me (ps.take (k + 1)) (log.take (k + 1)) = drawsOf me (ps.take k) (log.take k) ++ [(pickAt ps k).draw]) := draws_in me ps log k hkl hpl hth
     have HWn : Hid (whensOf me (ps.take (k + 1)) (log.take (k + 1)) = whensOf me (ps.take k) (log.take k) ++ [(k : Int) + 1]) := whens_in me ps log k hkl hpl hth
     have hS40 : (seenOf me (ps.take k) (log.take k)).length ≤ 8589934592 := Nat.le_trans (seenOf_len _ _ _) (by simp; omega)
     have hD40 : (drawsOf me (ps.take k) (log.take k)).length ≤ 8589934592 := by rw [drawsOf_len]; exact hS40
     have hW40 : (whensOf me (ps.take k) (log.take k)).length ≤ 8589934592 := by rw [whensOf_len]; exact hS40
     have hbe : ((pickAt ps k).thread == me) = true := by simp [hth]
     generalize seenOf me (ps.take k) (log.take k) = S at *
     generalize drawsOf me (ps.take k) (log.take k) = D at *
     generalize whensOf me (ps.take k) (log.take k) = W at *
     obtain ⟨pk, hpk⟩ : ∃ pk, pk = pickAt ps k := ⟨_, rfl⟩
     obtain ⟨ak, hak⟩ : ∃ ak, ak = accAt log k := ⟨_, rfl⟩
     rw [← hpk] at hq0 hpc0 hpc1 hbe HDn
     rw [← hak] at hlc2 HSn
     subst hpa
     subst hla
     clear hlc0 hlc1 hlc3 hpk hak hth HP HL hpc0
     go_upto_region 6 with fail
     go_cut [] (fun wx => Hid (TellR c me jobs ma ja ml mc jc (w.heap.size + 3) (w.heap.size + 2) (w.heap.size + 1) wx (S ++ [ak.seen]) D W) ∧ Hid (Blk wx (w.heap.size + 1) 84 ((jobs.map fun _ => (⟨0, 0, 0, 0, 0⟩ : ResD)).flatMap resCells).toArray) ∧ Hid (Below w.heap.size w wx) ∧ w.heap.size + 3 ≤ wx.heap.size)
     case first =>
      obtain ⟨sa, sc, da, dc, wa, wcc, hb, hs, hd, hw, d1, d2, d3⟩ := HTk.out
      have hl2 := (hup wr HBk.out lb (loff + k * 4 + 2) hlb).trans hlc2
      have hcc : wr.cell? ⟨w.heap.size + 2, 10, none⟩ = some (.slice sa S.length sc) := by rw [hb.cell]; rfl
      have hfz : wr.frozen? ⟨w.heap.size + 2, 10, none⟩ = false := hb.frozen _
      have hplt : w.heap.size + 2 < wr.heap.size := by omega
      have hllt : lb < wr.heap.size := by omega
      have hpne : (Value.slice sa S.length sc).ownBlock ≠ some (w.heap.size + 2) := hs.ne (by omega)
      have hlne : (Value.slice sa S.length sc).ownBlock ≠ some lb := hs.ne (by omega)
      have HR : Hid (wr.ownsRow (w.heap.size + 3) 3 1 (.slice sa S.length sc) S.length (S.map (Value.int .i64 ·))) := hs
      have HBl : Hid (Blk wr (w.heap.size + 2) 88 (lifeArr ⟨c, me, S, D, W, jobs⟩ ⟨ma, ml, mc, ja, jc, sa, sc, da, dc, wa, wcc, some ⟨w.heap.size + 1, 0, none⟩, jobs.length⟩ none 0 (newLS ⟨c, me, S, D, W, jobs⟩))) := hb
      have HRs : Hid (Row wr (w.heap.size + 3) sa sc S ∧ Row wr (w.heap.size + 3) da dc D ∧ Row wr (w.heap.size + 3) wa wcc W ∧ Apart sa da ∧ Apart sa wa ∧ Apart da wa) := ⟨hs, hd, hw, d1, d2, d3⟩
      clear hb hs hd hw d1 d2 d3 hlc2 hpc1 hup HSn HDn HWn HTk hD40 hW40
      go_region_law
       ((refine step_append_lies _ (by rfl) _ _ _ (by rfl) (w.heap.size + 3) 3 i0 _ 1 8 Tryz.underlying24 hi0 hz0 hz1 hz2 rfl (by omega) (.slice sa S.length sc) S.length (S.map (Value.int .i64 ·)) (by rfl) (((HR.out).alloc _).drew)
               ⟨wr.heap.size, 0, none⟩ 1 1 [.int .i64 ak.seen] (by rfl) (by rfl) (World.news_of_block (cs := #[.int .i64 ak.seen]) (t := 3) (fr := (0, 0)) (heap_alloc_new wr _)) (by simp [Value.oneCell'])
               (by omega) (by unfold maxLen; omega) (by omega) (by simp; omega) (wr.heap.size + 1) (by simp) ?_; intro gg cap w3 hown1 hgrow hat hlt;
              have hd10 : w3.cell? ⟨w.heap.size + 2, 10, none⟩ = some (.slice sa S.length sc) := (by rw [hgrow.cell_far _ (by simp; omega) (Ne.symm hpne)]; simpa [World.cell?_alloc_lt, hplt] using hcc);
              have he10 : w3.frozen? ⟨w.heap.size + 2, 10, none⟩ = false := (by rw [hgrow.frozen_far _ (by simp; omega) (Ne.symm hpne)]; simpa [World.frozen?_alloc_past, hplt] using hfz)))
      all_goals
       have hLK := tellSeen (v := ak.seen) HBl.out (HRs.out).1 (HRs.out).2.1 (HRs.out).2.2.1 (HRs.out).2.2.2.1 (HRs.out).2.2.2.2.1 (HRs.out).2.2.2.2.2 (by omega) hszk ((Below.refl _ _).alloc (Nat.le_refl _) _).drew hgrow hown1 hat
       go_wp2
       go_meet
       case rel => exact ⟨hLK.1, (HEk.out).keep hLK.2 (by simp), below_kp HBk.out hLK.2, Nat.le_trans hszk hLK.2.size⟩
     case rest =>
      obtain ⟨HT1, HE1, HB1, hsz1⟩ := hcut
      clear HTk HEk HBk hszk hq0 hbe hS40
      go_upto_region 7 with fail
      go_cut [] (fun wx => Hid (TellR c me jobs ma ja ml mc jc (w.heap.size + 3) (w.heap.size + 2) (w.heap.size + 1) wx (S ++ [ak.seen]) (D ++ [pk.draw]) W) ∧ Hid (Blk wx (w.heap.size + 1) 84 ((jobs.map fun _ => (⟨0, 0, 0, 0, 0⟩ : ResD)).flatMap resCells).toArray) ∧ Hid (Below w.heap.size w wx) ∧ w.heap.size + 3 ≤ wx.heap.size)
      case first =>
       obtain ⟨sa, sc, da, dc, wa, wcc, hb, hs, hd, hw, d1, d2, d3⟩ := HT1.out
       have hl2 := (hup wc HB1.out pb (poff + k * 2 + 1) hpb).trans hpc1
       have hcc : wc.cell? ⟨w.heap.size + 2, 11, none⟩ = some (.slice da D.length dc) := by rw [hb.cell]; rfl
       have hfz : wc.frozen? ⟨w.heap.size + 2, 11, none⟩ = false := hb.frozen _
       have hplt : w.heap.size + 2 < wc.heap.size := by omega
       have hllt : pb < wc.heap.size := by omega
       have hpne : (Value.slice da D.length dc).ownBlock ≠ some (w.heap.size + 2) := hd.ne (by omega)
       have hlne : (Value.slice da D.length dc).ownBlock ≠ some pb := hd.ne (by omega)
       have HR : Hid (wc.ownsRow (w.heap.size + 3) 3 1 (.slice da D.length dc) D.length (D.map (Value.int .i64 ·))) := hd
       have HBl : Hid (Blk wc (w.heap.size + 2) 88 (lifeArr ⟨c, me, S ++ [ak.seen], D, W, jobs⟩ ⟨ma, ml, mc, ja, jc, sa, sc, da, dc, wa, wcc, some ⟨w.heap.size + 1, 0, none⟩, jobs.length⟩ none 0 (newLS ⟨c, me, S ++ [ak.seen], D, W, jobs⟩))) := hb
       have HRs : Hid (Row wc (w.heap.size + 3) sa sc (S ++ [ak.seen]) ∧ Row wc (w.heap.size + 3) da dc D ∧ Row wc (w.heap.size + 3) wa wcc W ∧ Apart sa da ∧ Apart sa wa ∧ Apart da wa) := ⟨hs, hd, hw, d1, d2, d3⟩
       clear hb hs hd hw d1 d2 d3 hlc2 hpc1 hup HSn HDn HWn HT1 hW40
       go_region_law
        ((refine step_append_lies _ (by rfl) _ _ _ (by rfl) (w.heap.size + 3) 3 i0 _ 1 8 Tryz.underlying24 hi0 hz0 hz1 hz2 rfl (by omega) (.slice da D.length dc) D.length (D.map (Value.int .i64 ·)) (by rfl) (((HR.out).alloc _).drew)
                ⟨wc.heap.size, 0, none⟩ 1 1 [.int .i64 pk.draw] (by rfl) (by rfl) (World.news_of_block (cs := #[.int .i64 pk.draw]) (t := 3) (fr := (0, 0)) (heap_alloc_new wc _)) (by simp [Value.oneCell'])
                (by omega) (by unfold maxLen; omega) (by omega) (by simp; omega) (wc.heap.size + 1) (by simp) ?_; intro gg cap w3 hown1 hgrow hat hlt;
               have hd10 : w3.cell? ⟨w.heap.size + 2, 11, none⟩ = some (.slice da D.length dc) := (by rw [hgrow.cell_far _ (by simp; omega) (Ne.symm hpne)]; simpa [World.cell?_alloc_lt, hplt] using hcc);
               have he10 : w3.frozen? ⟨w.heap.size + 2, 11, none⟩ = false := (by rw [hgrow.frozen_far _ (by simp; omega) (Ne.symm hpne)]; simpa [World.frozen?_alloc_past, hplt] using hfz)))
       all_goals
        have hLK := tellDraw (v := pk.draw) HBl.out (HRs.out).1 (HRs.out).2.1 (HRs.out).2.2.1 (HRs.out).2.2.2.1 (HRs.out).2.2.2.2.1 (HRs.out).2.2.2.2.2 (by omega) hsz1 ((Below.refl _ _).alloc (Nat.le_refl _) _).drew hgrow hown1 hat
        go_wp2
        go_meet
        case rel => exact ⟨hLK.1, (HE1.out).keep hLK.2 (by simp), below_kp HB1.out hLK.2, Nat.le_trans hsz1 hLK.2.size⟩
      case rest =>
       rename_i wc1 _
       obtain ⟨HT2, HE2, HB2, hsz2⟩ := hcut
       clear HT1 HE1 HB1 hsz1 hD40
       obtain ⟨sa, sc, da, dc, wa, wcc, hb, hs, hd, hw, d1, d2, d3⟩ := HT2.out
       have hcc : wc.cell? ⟨w.heap.size + 2, 12, none⟩ = some (.slice wa W.length wcc) := by rw [hb.cell]; rfl
       have hfz : wc.frozen? ⟨w.heap.size + 2, 12, none⟩ = false := hb.frozen _
       have hplt : w.heap.size + 2 < wc.heap.size := by omega
       have hpne : (Value.slice wa W.length wcc).ownBlock ≠ some (w.heap.size + 2) := hw.ne (by omega)
       have HR : Hid (wc.ownsRow (w.heap.size + 3) 3 1 (.slice wa W.length wcc) W.length (W.map (Value.int .i64 ·))) := hw
       have HBl : Hid (Blk wc (w.heap.size + 2) 88 (lifeArr ⟨c, me, S ++ [ak.seen], D ++ [pk.draw], W, jobs⟩ ⟨ma, ml, mc, ja, jc, sa, sc, da, dc, wa, wcc, some ⟨w.heap.size + 1, 0, none⟩, jobs.length⟩ none 0 (newLS ⟨c, me, S ++ [ak.seen], D ++ [pk.draw], W, jobs⟩))) := hb
       have HRs : Hid (Row wc (w.heap.size + 3) sa sc (S ++ [ak.seen]) ∧ Row wc (w.heap.size + 3) da dc (D ++ [pk.draw]) ∧ Row wc (w.heap.size + 3) wa wcc W ∧ Apart sa da ∧ Apart sa wa ∧ Apart da wa) := ⟨hs, hd, hw, d1, d2, d3⟩
       clear hb hs hd hw d1 d2 d3 hlc2 hpc1 hup HT2
       go_wp2_with
        (at_builtin;
            refine wpList_append_lies _ (by rfl) _ _ _ (by rfl) (w.heap.size + 3) 3 i0 _ 1 8 Tryz.underlying24 hi0 hz0 hz1 hz2 rfl (by omega) (.slice wa W.length wcc) W.length (W.map (Value.int .i64 ·)) (by rfl) ((HR.out).alloc _)
             ⟨wc.heap.size, 0, none⟩ 1 1 [.int .i64 ((k : Int) + 1)] (by rfl) (by rfl) (World.news_of_block (cs := #[.int .i64 ((k : Int) + 1)]) (t := 3) (fr := (0, 0)) (heap_alloc_new wc _)) (by simp [Value.oneCell'])
             (by omega) (by unfold maxLen; omega) (by omega) (by simp; omega) (wc.heap.size + 1) (by simp) ?_;
            intro gg cap w3 hown1 hgrow hat hlt;
            have hd10 : w3.cell? ⟨w.heap.size + 2, 12, none⟩ = some (.slice wa W.length wcc) := (by rw [hgrow.cell_far _ (by simp; omega) (Ne.symm hpne)]; simpa [World.cell?_alloc_lt, hplt] using hcc);
            have he10 : w3.frozen? ⟨w.heap.size + 2, 12, none⟩ = false := (by rw [hgrow.frozen_far _ (by simp; omega) (Ne.symm hpne)]; simpa [World.frozen?_alloc_past, hplt] using hfz);
            have hLK := tellWhen (v := (k : Int) + 1) HBl.out (HRs.out).1 (HRs.out).2.1 (HRs.out).2.2.1 (HRs.out).2.2.2.1 (HRs.out).2.2.2.2.1 (HRs.out).2.2.2.2.2 (by omega) hsz2 ((Below.refl _ _).alloc (Nat.le_refl _) _) hgrow hown1 hat;
            have HT3 : Hid _ := hLK.1;
            have HK3 : Hid _ := hLK.2;
            clear hLK hown1 hgrow hat)
       go_roundg (gk - 1)
       case rel => exact ⟨k + 1, by simp, by omega, by omega, by rw [HSn.out, HDn.out, HWn.out]; exact HT3, (HE2.out).keep HK3.out (by simp), below_kp HB2.out HK3.out, Nat.le_trans hsz2 (HK3.out).size⟩
       case measure => omega
    ·have hbe : ((pickAt ps k).thread == me) = false := by simpa using hth
     have e1 := seen_out me ps log k hkl hpl hth
     have e2 := draws_out me ps log k hkl hpl hth
     have e3 := whens_out me ps log k hkl hpl hth
     rw [← e1, ← e2, ← e3] at HTk
     subst hpa
     clear e1 e2 e3 hth hup hlc0 hlc1 hlc2 hlc3 hla HP HL
     generalize (pickAt ps k).thread = th at *
     go_wp2
     go_roundg (gk - 1)
     case rel => exact ⟨k + 1, by simp, by omega, by omega, HTk, HEk, HBk, hszk⟩
     case measure => omega
   ·have hke : k = log.length := by omega
    have hzip : (ps.take k).zip (log.take k) = ps.zip log := by
     rw [hke, List.zip_eq_zip_take_min (l₁ := ps) (l₂ := log), Nat.min_eq_right hpl]
    have hE : (⟨c, me, seenOf me (ps.take k) (log.take k), drawsOf me (ps.take k) (log.take k), whensOf me (ps.take k) (log.take k), jobs⟩ : Env) = envOf c jobs me ps log := by
     unfold envOf seenOf drawsOf whensOf
     rw [hzip]
    obtain ⟨H, hL, hH1, hH2⟩ := TellR.life HTk.out ((HJ.out).up HBk.out) HEk.out hszk
    rw [hE] at hL
    have hsl : (envOf c jobs me ps log).seen.length ≤ log.length := seenOf_len _ _ _
    have hEO : EnvOk (envOf c jobs me ps log) := by
     refine ⟨HC.out, hm0, hm3, by omega, drawsOf_len _ _ _, whensOf_len _ _ _, fun v hv => ?_, hj8, HCd.out⟩
     obtain ⟨q, hq, rfl⟩ := List.mem_map.1 (show v ∈ seenOf me ps log from hv)
     have hq2 : (q.1, q.2) ∈ ps.zip log := (List.mem_filter.1 hq).1
     exact HV.out q.2 (List.of_mem_zip hq2).2
    have hLO : LifeOk (envOf c jobs me ps log) (newLS (envOf c jobs me ps log)) := ⟨by simp [newLS], by simp [newLS], by simp [newLS], by simp [newLS], by simp [newLS], by simp [newLS], by simp [newLS], by simp [newLS]⟩
    have HLx : Hid (LifeR (envOf c jobs me ps log) H wr.heap.size (w.heap.size + 2) (w.heap.size + 1) wr (newLS (envOf c jobs me ps log))) := hL
    have HEO : Hid (EnvOk (envOf c jobs me ps log)) := hEO
    have HLO : Hid (LifeOk (envOf c jobs me ps log) (newLS (envOf c jobs me ps log))) := hLO
    have H33 : Hid ((envOf c jobs me ps log).seen.length ≤ 2 ^ 33) := by show _ ≤ _; omega
    have HHH : Hid (H.ea = some ⟨w.heap.size + 1, 0, none⟩ ∧ H.ec = jobs.length) := ⟨hH1, hH2⟩
    clear hL hEO hLO hE hzip hH1 hH2 hsl HTk
    go_wp2_with fail
    refine (live_any (envOf c jobs me ps log) HEO.out H wr.heap.size (w.heap.size + 2) (w.heap.size + 1) _ _ HLx.out HLO.out H33.out).mono ?_
    rintro e w5 ⟨rfl, hL5, hK5⟩
    have HL5 : Hid _ := hL5
    have HB5 : Hid (Below w.heap.size w w5) := by
     have h := HBk.out
     exact ⟨hK5.os.trans h.os, hK5.tape.trans h.tape, hK5.output.trans h.output, Nat.le_trans h.size hK5.size, fun j hlt => (hK5.low j (by omega) (by omega) (by omega)).trans (h.block j hlt)⟩
    clear hL5 hK5
    go_wp2
    go_ret
    exact ⟨rfl, ⟨H, wr.heap.size, HL5.out, (HHH.out).1, (HHH.out).2⟩, HB5.out⟩
theorem belowDrewN {n : Nat} {w w' : World} (h : Below n w w') (k : Nat) : Below n w (w'.drewN k) := ⟨h.os, h.tape, h.output, h.size, h.block⟩
set_option maxHeartbeats 2000000 in
theorem sameResult_any (f r0 r1 r2 r3 : Int) (w : World) :
  Calls Tryz.prog 46 #[.agg #[.int .i64 f, .int .i64 r0, .int .i64 r1, .int .i64 r2, .int .i64 r3], .agg #[.int .i64 f, .int .i64 r0, .int .i64 r1, .int .i64 r2, .int .i64 r3]] w fun e w' => e = .returned (.bool true) ∧ Below w.heap.size w w' := by
 go_enter Tryz.func46, Tryz.ntmps46
 go_wp2
 obtain ⟨w0, hw0⟩ : ∃ w0, w0 = (w.alloc (.cells #[.int .i64 f, .int .i64 r0, .int .i64 r1, .int .i64 r2, .int .i64 r3] 84)).alloc (.cells #[.int .i64 f, .int .i64 r0, .int .i64 r1, .int .i64 r2, .int .i64 r3] 84) := ⟨_, rfl⟩
 have HA : Hid (Blk w0 w.heap.size 84 #[.int .i64 f, .int .i64 r0, .int .i64 r1, .int .i64 r2, .int .i64 r3]) := by rw [hw0]; exact (Blk.new w 84 _).alloc _
 have HB : Hid (Blk w0 (w.heap.size + 1) 84 #[.int .i64 f, .int .i64 r0, .int .i64 r1, .int .i64 r2, .int .i64 r3]) := by
  rw [hw0]
  have := Blk.new (w.alloc (.cells #[.int .i64 f, .int .i64 r0, .int .i64 r1, .int .i64 r2, .int .i64 r3] 84)) 84 #[.int .i64 f, .int .i64 r0, .int .i64 r1, .int .i64 r2, .int .i64 r3]
  exact (by simpa using this : Blk _ _ _ _)
 have HBw : Hid (Below w.heap.size w w0) := by rw [hw0]; exact ((Below.refl w.heap.size w).alloc (Nat.le_refl _) _).alloc (by simp) _
 have hsz : w0.heap.size = w.heap.size + 2 := by rw [hw0]; simp
 rw [← hw0]
 clear hw0
 go_loopg [5] 5 (fun m t wr => ∃ k : Nat, t = .int .i64 (k : Int) ∧ k ≤ 4 ∧ m = 5 - k ∧ Hid (Below w0.heap.size w0 wr))
 case atStart => exact ⟨0, rfl, by omega, by omega, Below.refl _ _⟩
 case round =>
  obtain ⟨k, rfl, hk, hgk, HBk⟩ := hrel
  have hcA := ((HA.out).below HBk.out (by omega)).cell
  have hcB := ((HB.out).below HBk.out (by omega)).cell
  have hk4 : k = 0 ∨ k = 1 ∨ k = 2 ∨ k = 3 ∨ k = 4 := by omega
  rcases hk4 with rfl | rfl | rfl | rfl | rfl
  ·go_wp2
   go_quiet (fail)
   go_wp2
   go_roundg (gk - 1)
   case rel => exact ⟨1, by first | rfl | simp, by omega, by omega, belowDrewN HBk.out nq⟩
   case measure => omega
  ·go_wp2
   go_quiet (fail)
   go_wp2
   go_roundg (gk - 1)
   case rel => exact ⟨2, by first | rfl | simp, by omega, by omega, belowDrewN HBk.out nq⟩
   case measure => omega
  ·go_wp2
   go_quiet (fail)
   go_wp2
   go_roundg (gk - 1)
   case rel => exact ⟨3, by first | rfl | simp, by omega, by omega, belowDrewN HBk.out nq⟩
   case measure => omega
  ·go_wp2
   go_quiet (fail)
   go_wp2
   go_roundg (gk - 1)
   case rel => exact ⟨4, by first | rfl | simp, by omega, by omega, belowDrewN HBk.out nq⟩
   case measure => omega
  ·go_wp2
   go_ret
   exact ⟨by simp, (HBw.out).trans ((HBk.out).mono (by omega))⟩
theorem memB_get {mem : List Int} (h : memB mem = true) (i : Nat) : 0 ≤ mem.getD i 0 ∧ mem.getD i 0 ≤ 65535 := by
 by_cases hi : i < mem.length
 ·unfold memB at h
  rw [List.all_eq_true] at h
  have := h mem[i] (List.getElem_mem hi)
  rw [show mem.getD i 0 = mem[i] from by simp [List.getD, List.getElem?_eq_getElem hi]]
  exact inB_true this
 ·rw [show mem.getD i 0 = 0 from by simp [List.getD, List.getElem?_eq_none (Nat.le_of_not_lt hi)]]
  omega
theorem log_row {w : World} {base : Nat} {a : Option Addr} {c : Nat} {l : List AccD} (h : w.ownsRow base 40 4 (.slice a l.length c) l.length (l.flatMap accCells)) : LogIn w w.heap.size a l := by
 intro i hi
 obtain ⟨g, cap, cur, hv, hb, hg, h1, h2, h3, h4⟩ := own_block h (by omega)
 simp at hv
 obtain ⟨rfl, rfl⟩ := hv
 have hat : ∀ j, j < 4 → w.cell? ⟨g, i * 4 + j, none⟩ = (accCells (accAt l i))[j]? := by
  intro j hj
  rw [hg.cell]
  have e1 : (l.flatMap accCells)[i * 4 + j]? = (accCells (accAt l i))[j]? := by
   rw [flat_at (n := 4) (fun _ => rfl) l i j hj]
   simp [accAt, List.getElem?_eq_getElem hi]
  rw [← e1, ← h4, List.getElem?_take, if_pos (by omega), Array.getElem?_toList]
 refine ⟨g, 0, rfl, hg.lt, ?_, ?_, ?_, ?_⟩
 ·have := hat 0 (by omega); simpa [accCells] using this
 ·have := hat 1 (by omega); simpa [accCells] using this
 ·have := hat 2 (by omega); simpa [accCells] using this
 ·have := hat 3 (by omega); simpa [accCells] using this
theorem Tryz.info40 : (Tryz.prog.info? 40).map (fun i => (i.zero, i.size, i.bytes)) = some (some (.agg #[.int .i64 0, .int .i64 0, .int .i64 0, .int .i64 0]), 4, 32) := by kernel_rfl
theorem below_set {n b i : Nat} {w w' : World} {v : Value} (h : Below n w w') (hb : n ≤ b) : Below n w (w'.setCell ⟨b, i, none⟩ v) := by
 have ho : Only b w' (w'.setCell ⟨b, i, none⟩ v) := (Only.refl _ _).set
 exact ⟨ho.os.trans h.os, ho.tape.trans h.tape, ho.output.trans h.output, Nat.le_trans h.size ho.size, fun k hk => (Below.heap_setCell _ _ _ _ (by simp; omega)).trans (h.block k hk)⟩
theorem JobsRep.mono {w : World} {n m : Nat} {ja : Option Addr} {jobs : List (Int × List InsD)} (h : JobsRep w n ja jobs) (hm : n ≤ m) : JobsRep w m ja jobs := by
 obtain ⟨js, h1, h2, h3⟩ := h
 refine ⟨js, h1, fun i hi => ?_, fun i hi => ⟨(h3 i hi).1, (h3 i hi).2.1, fun j hj => ?_⟩⟩
 ·obtain ⟨b, off, g1, g2, g3⟩ := h2 i hi
  exact ⟨b, off, g1, by omega, g3⟩
 ·obtain ⟨b, off, g1, g2, g3⟩ := (h3 i hi).2.2 j hj
  exact ⟨b, off, g1, by omega, g3⟩
end Go.Proofs.YtejadojilncbjaaGreat
namespace Go.Proofs.YtejadojilncbjaaGreat
set_option linter.unusedVariables false
theorem VOk.bd {c : Cfg} {k x v : Int} (hc : cfgB c = true) (hk : 0 ≤ k) (h : VOk c k x v) (x0 : 0 ≤ x) (x1 : x < total c) : -1 ≤ v ∧ v ≤ 8 * k + 65535 := by
 obtain ⟨⟨t1, t2⟩, _⟩ := cfgB_true hc
 rw [total_eq] at x1
 by_cases h0 : x = 0 ∨ x = 1
 ·have := h.cnt h0; omega
 by_cases h2 : x = 2
 ·have := h.gate h2; omega
 by_cases h3 : x < 3 + c.s
 ·have := h.ver (by omega) h3; omega
 by_cases h4 : x < 3 + 2 * c.s
 ·have := h.own (by omega) h4; omega
 by_cases h5 : x < 3 + 2 * c.s + c.t
 ·have := h.sta (by omega) h5
  obtain ⟨a, b, d⟩ := this
  omega
 ·have := h.wrd (by omega) (by rw [total_eq]; omega)
  omega
structure GOk (c : Cfg) (jobs : List (Int × List InsD)) (k : Int) (g : Gs) : Prop where
 m : CellsOk c k g.m
 th : ∀ t, 0 ≤ t → t < c.t → ThOk (cxOf c jobs t) k (g.th t)
theorem gstart_ok {c : Cfg} (hc : cfgB c = true) {mem : List Int} (hmw : (mem.length : Int) = c.wd) (hmb : memB mem = true) (jobs : List (Int × List InsD)) : GOk c jobs 0 (gStart c mem jobs) := by
 obtain ⟨⟨t1, t2⟩, ⟨w1, w2⟩, ⟨s1, s2⟩, _, _, _, ⟨f1, f2⟩⟩ := cfgB_true hc
 refine ⟨fun x x0 x1 => ?_, fun t t0 t1' => ?_⟩
 ·show VOk c 0 x (startVal c mem x)
  unfold startVal
  by_cases hx : wordBase c ≤ x
  ·rw [if_pos hx]
   have := memB_get hmb (x - wordBase c).toNat
   unfold wordBase at hx
   exact ⟨(fun e => by omega), (fun e => by omega), (fun _ e => by omega), (fun _ e => by omega), (fun _ e => by omega), fun _ _ => this⟩
  ·rw [if_neg hx]
   unfold wordBase at hx
   exact ⟨(fun e => by omega), (fun e => by omega), (fun _ e => by omega), (fun _ e => by omega), (fun _ e => ⟨by omega, by omega, by omega⟩), (fun e => by omega)⟩
 ·show ThOk _ 0 (hInit (cxOf c jobs t))
  unfold hInit
  refine to_ok ?_ (Int.le_refl _) 0
  refine ⟨⟨Int.le_refl _, Int.le_refl _⟩, ?_⟩
  exact new_ok (by show 0 ≤ c.f; omega) t1 _ ⟨Int.le_refl _, Int.le_refl _⟩
theorem acc_none {m : Int → Int} {q : AskD} (h : q.kind = 0) : accBy m q = noAcc := if_pos h
theorem acc_some {m : Int → Int} {q : AskD} (h : q.kind ≠ 0) : accBy m q = ⟨q.kind, q.cell, m q.cell, putV q (m q.cell)⟩ := if_neg h
theorem gstep_ok {c : Cfg} (hc : cfgB c = true) {jobs : List (Int × List InsD)} {k : Int} (hk : 0 ≤ k) {g : Gs} (G : GOk c jobs k g) (n : Int) (pk : PickD) : GOk c jobs (k + 1) (gStep c jobs g n pk).1 := by
 unfold gStep
 by_cases ht : 0 ≤ pk.thread ∧ pk.thread < c.t
 ·rw [if_pos ht]
  have A := G.th pk.thread ht.1 ht.2
  have hcK : cfgB (cxOf c jobs pk.thread).c = true := hc
  refine ⟨?_, fun t t0 t1 => ?_⟩
  ·simp only
   by_cases h0 : (hOut (cxOf c jobs pk.thread) (g.th pk.thread)).kind = 0
   ·rw [if_pos h0]
    exact fun x x0 x1 => (G.m x x0 x1).mono (by omega)
   ·rw [if_neg h0]
    obtain ⟨hcell, hput⟩ := ask_ok hcK ht hk A h0
    intro x x0 x1
    by_cases hx : x = (hOut (cxOf c jobs pk.thread) (g.th pk.thread)).cell
    ·rw [hx, wr_at]
     exact hput _ (G.m _ hcell.1 hcell.2)
    ·rw [wr_off hx]
     exact (G.m x x0 x1).mono (by omega)
  ·simp only
   by_cases htt : t = pk.thread
   ·rw [if_pos htt, htt]
    refine next_ok hcK ht hk A _ (fun h0 => ?_)
    obtain ⟨hcell, _⟩ := ask_ok hcK ht hk A h0
    show VOk c k _ (gAcc c jobs g pk.thread).seen
    unfold gAcc
    rw [acc_some h0]
    exact G.m _ hcell.1 hcell.2
   ·rw [if_neg htt]
    exact (G.th t t0 t1).mono (by omega)
 ·rw [if_neg ht]
  exact ⟨fun x x0 x1 => (G.m x x0 x1).mono (by omega), fun t t0 t1 => (G.th t t0 t1).mono (by omega)⟩
theorem gat_ok {c : Cfg} (hc : cfgB c = true) {mem : List Int} (hmw : (mem.length : Int) = c.wd) (hmb : memB mem = true) (jobs : List (Int × List InsD)) (ps : List PickD) : ∀ k : Nat, GOk c jobs k (gAt c mem jobs ps k)
 | 0 => gstart_ok hc hmw hmb jobs
 | k + 1 => by
  have := gstep_ok hc (by omega) (gat_ok hc hmw hmb jobs ps k) ((k : Int) + 1) (pickAt ps k)
  exact this
theorem glog_seen {c : Cfg} (hc : cfgB c = true) {mem : List Int} (hmw : (mem.length : Int) = c.wd) (hmb : memB mem = true) (jobs : List (Int × List InsD)) (ps : List PickD) : ∀ k : Nat, ∀ a ∈ gLog c mem jobs ps k, -1 ≤ a.seen ∧ a.seen ≤ 8 * k + 65535
 | 0, a, ha => by simp [gLog] at ha
 | k + 1, a, ha => by
  have G := gat_ok hc hmw hmb jobs ps k
  rcases List.mem_append.1 ha with h | h
  ·have := glog_seen hc hmw hmb jobs ps k a h
   omega
  ·rw [List.mem_singleton.1 h]
   unfold gStep
   by_cases ht : 0 ≤ (pickAt ps k).thread ∧ (pickAt ps k).thread < c.t
   ·rw [if_pos ht]
    show -1 ≤ (gAcc c jobs _ _).seen ∧ (gAcc c jobs _ _).seen ≤ _
    unfold gAcc
    generalize hq : hOut (cxOf c jobs (pickAt ps k).thread) ((gAt c mem jobs ps k).th (pickAt ps k).thread) = q
    by_cases h0 : q.kind = 0
    ·rw [acc_none h0]
     exact ⟨by simp [noAcc], by simp [noAcc]; omega⟩
    ·rw [acc_some h0]
     have hcK : cfgB (cxOf c jobs (pickAt ps k).thread).c = true := hc
     obtain ⟨hcell, _⟩ := ask_ok hcK ht (by omega) (G.th _ ht.1 ht.2) (by rw [hq]; exact h0)
     rw [hq] at hcell
     have := (G.m _ hcell.1 hcell.2).bd hc (by omega) hcell.1 hcell.2
     simp only
     omega
   ·rw [if_neg ht]
    exact ⟨by simp [noAcc], by simp [noAcc]; omega⟩
theorem told_ask {c : Cfg} (hc : cfgB c = true) {mem : List Int} (hmw : (mem.length : Int) = c.wd) (hmb : memB mem = true) (jobs : List (Int × List InsD)) (ps : List PickD) (k : Nat) (hk : k ≤ ps.length) (t : Int) (t0 : 0 ≤ t) (t1 : t < c.t)
  (h0 : (mTold (envOf c jobs t ps (gLog c mem jobs ps k))).next.kind ≠ 0) : (0 ≤ (mTold (envOf c jobs t ps (gLog c mem jobs ps k))).next.cell ∧ (mTold (envOf c jobs t ps (gLog c mem jobs ps k))).next.cell < total c) ∧
   -1 ≤ mValue c mem (gLog c mem jobs ps k) (mTold (envOf c jobs t ps (gLog c mem jobs ps k))).next.cell ∧ mValue c mem (gLog c mem jobs ps k) (mTold (envOf c jobs t ps (gLog c mem jobs ps k))).next.cell ≤ 8 * k + 65535 := by
 obtain ⟨_, _, _, _, _, _, ⟨f1, f2⟩⟩ := cfgB_true hc
 have G := gat_ok hc hmw hmb jobs ps k
 obtain ⟨h1, h2, h3⟩ := log_sim c (by omega) mem jobs ps k hk
 have O := (told_sim (envOf c jobs t ps (gLog c mem jobs ps k)) (by show 0 ≤ c.f; omega)).next
 have ec : (envOf c jobs t ps (gLog c mem jobs ps k)).cx = cxOf c jobs t := rfl
 rw [ec, ← h3 t t0 t1] at O
 rw [O] at h0 ⊢
 have hcK : cfgB (cxOf c jobs t).c = true := hc
 obtain ⟨hcell, _⟩ := ask_ok hcK ⟨t0, t1⟩ (by omega) (G.th t t0 t1) h0
 refine ⟨hcell, ?_⟩
 rw [← h2]
 exact (G.m _ hcell.1 hcell.2).bd hc (by omega) hcell.1 hcell.2
def accs (c : Cfg) (mem : List Int) (jobs : List (Int × List InsD)) (ps : List PickD) : List AccD := gLog c mem jobs ps ps.length
end Go.Proofs.YtejadojilncbjaaGreat
