import Derived.Test.YtejadojilncbjaaGreatH40
import Derived.Test.YtejadojilncbjaaGreatH49
import Derived.Test.YtejadojilncbjaaGreatH06
import Derived.Test.YtejadojilncbjaaGreatH39
import Derived.Deep.DeepCutAuto
namespace Go.Proofs.YtejadojilncbjaaGreat
open Go.ChangeShapes Go.WideShapes Go.ChangeAt Go.RowKit Go.Deep
set_option linter.unusedVariables false
attribute [local go_sem ↓] Go.wp_at_zero Go.wp_at_succ

theorem Tryz.info66 : (Tryz.prog.info? 66).map (fun i => (i.zero, i.size, i.bytes)) = some (some (.agg #[.int .i64 0, .slice none 0 0]), 2, 32) := by kernel_rfl

section
variable {H : Type} {enc : TypeId × Value → H} {w : World} {spare : Nat → Bool} {held : Bool}
/-- The bulk of a setup bounds its jobs. -/
theorem setup_bulk {fuel : Nat} {cs : List Value} {x : DataW H × List MemPlace} (h : DataW.trod enc Tryz.prog w 0 spare held fuel 27 cs = some x) {ja : Option Addr} {jlen jcap : Nat} (hc : cs[8]? = some (.slice ja jlen jcap)) : jlen ≤ Rows.uptoBulk x.1 := by
  obtain ⟨xs, k, hk, hxy, hlen, hxl, hf⟩ := DataW.trod_struct Tryz.underlying27 h
  rw [Tryz.cells27] at hlen
  obtain ⟨y0, y1, y2, rfl⟩ := list3 hxl
  obtain ⟨v0, v1, v2, v3, v4, v5, v6, v7, v8, rfl⟩ := list9 hlen
  have g2 := hf 2 _ rfl
  simp [Tryz.cells25] at g2
  simp at hc
  subst hc
  rw [hxy]
  rcases open_slice_pairs Tryz.underlying25 Tryz.underlying66 Tryz.cells66 rfl rfl Tryz.cells3 Tryz.cells64 g2 with ⟨hcs, hx⟩ | ⟨x, l, c, m, n, V0, V1, D0, D1, P0, P1, hcs, _, hl, hm, hmm, hx, hel⟩
  · simp at hcs
    obtain ⟨rfl, rfl, rfl⟩ := hcs
    exact Nat.zero_le _
  · simp at hcs
    obtain ⟨rfl, rfl, rfl⟩ := hcs
    rw [hx]
    have := bulk_len ((List.range jlen).map fun i => (DataW.agg [D0 i, D1 i] : DataW H))
    simp only [List.length_map, List.length_range] at this
    simp only [List.map_cons, List.map_nil, Rows.uptoBulk, Rows.uptoBulkAll]
    omega
end

/-- A job of the one thread. -/
def oneJob (j : JobD) : List Value := [.int .i64 0, .slice j.a j.len j.cap]

theorem one_next {js : List JobD} {k : Nat} (hk : k < js.length) : (js.take (k + 1)).flatMap oneJob = (js.take k).flatMap oneJob ++ [.int .i64 0, .slice (jobAt js k).a (jobAt js k).len (jobAt js k).cap] := by
  rw [List.take_add_one, List.getElem?_eq_getElem hk, List.flatMap_append]
  congr 1
  simp [oneJob, jobAt, List.getD, List.getElem?_eq_getElem hk]

theorem one_jobs {w : World} {base : Nat} {a : Option Addr} {cap : Nat} {js : List JobD} (h : w.ownsRow base 66 2 (.slice a js.length cap) js.length (js.flatMap oneJob)) : JobsIn w w.heap.size a (js.map fun j => ⟨0, j.a, j.len, j.cap⟩) := by
  intro i hi0
  have hi : i < js.length := by simpa using hi0
  obtain ⟨g, cap, cur, hv, hb, hg, h1, h2, h3, h4⟩ := own_block h (by omega)
  simp at hv
  obtain ⟨rfl, rfl⟩ := hv
  have hat : ∀ j, j < 2 → w.cell? ⟨g, i * 2 + j, none⟩ = (oneJob (jobAt js i))[j]? := by
    intro j hj
    rw [hg.cell]
    have e1 : (js.flatMap oneJob)[i * 2 + j]? = (oneJob (jobAt js i))[j]? := by
      rw [flat_at (n := 2) (fun _ => rfl) js i j hj]
      simp [jobAt, List.getD, List.getElem?_eq_getElem hi]
    rw [← e1, ← h4, List.getElem?_take, if_pos (by omega), Array.getElem?_toList]
  have e : jobAt (js.map fun j => ⟨0, j.a, j.len, j.cap⟩) i = ⟨0, (jobAt js i).a, (jobAt js i).len, (jobAt js i).cap⟩ := by
    simp [jobAt, List.getD, List.getElem?_eq_getElem hi]
  rw [e]
  refine ⟨g, 0, rfl, hg.lt, ?_, ?_⟩
  · have := hat 0 (by omega); simpa [oneJob] using this
  · have := hat 1 (by omega); simpa [oneJob] using this

theorem one_rep {w w' : World} {base n : Nat} {a : Option Addr} {cap : Nat} {js : List JobD} {jobs : List (Int × List InsD)} (hl : js.length = jobs.length) (h3 : ∀ i, i < js.length → (jobAt js i).t = (jobs.getD i (0, [])).1 ∧ (jobAt js i).len = (jobs.getD i (0, [])).2.length ∧ CodeIn w n (jobAt js i).a (jobs.getD i (0, [])).2) (hb : Below n w w') (hn : n ≤ w'.heap.size)
    (h : w'.ownsRow base 66 2 (.slice a js.length cap) js.length (js.flatMap oneJob)) : JobsRep w' w'.heap.size a (jobs.map fun j => (0, j.2)) := by
  refine ⟨js.map fun j => ⟨0, j.a, j.len, j.cap⟩, by simp [hl], one_jobs h, fun i hi0 => ?_⟩
  have hi : i < js.length := by simpa using hi0
  have hi2 : i < jobs.length := by omega
  have e : jobAt (js.map fun j => ⟨0, j.a, j.len, j.cap⟩) i = ⟨0, (jobAt js i).a, (jobAt js i).len, (jobAt js i).cap⟩ := by
    simp [jobAt, List.getD, List.getElem?_eq_getElem hi]
  have e2 : (jobs.map fun j => ((0 : Int), j.2)).getD i (0, []) = (0, (jobs.getD i (0, [])).2) := by
    simp [List.getD, List.getElem?_eq_getElem hi2]
  rw [e, e2]
  obtain ⟨_, q2, q3⟩ := h3 i hi
  exact ⟨rfl, q2, CodeIn.mono (q3.up hb) hn⟩

theorem nine_set {w : World} {b : Nat} {T : TypeId} {v0 v1 v2 v3 v4 v5 v6 v7 v8 c0 c1 c2 c3 c4 c5 c6 c7 c8 : Value} (h : Blk w b T #[c0, c1, c2, c3, c4, c5, c6, c7, c8]) :
    Only b w (((((((((w.setCell ⟨b, 0, none⟩ v0).setCell ⟨b, 1, none⟩ v1).setCell ⟨b, 2, none⟩ v2).setCell ⟨b, 3, none⟩ v3).setCell ⟨b, 4, none⟩ v4).setCell ⟨b, 5, none⟩ v5).setCell ⟨b, 6, none⟩ v6).setCell ⟨b, 7, none⟩ v7).setCell ⟨b, 8, none⟩ v8) ∧
    Blk (((((((((w.setCell ⟨b, 0, none⟩ v0).setCell ⟨b, 1, none⟩ v1).setCell ⟨b, 2, none⟩ v2).setCell ⟨b, 3, none⟩ v3).setCell ⟨b, 4, none⟩ v4).setCell ⟨b, 5, none⟩ v5).setCell ⟨b, 6, none⟩ v6).setCell ⟨b, 7, none⟩ v7).setCell ⟨b, 8, none⟩ v8) b T #[v0, v1, v2, v3, v4, v5, v6, v7, v8] :=
  ⟨(Only.refl _ _).set.set.set.set.set.set.set.set.set, Blk.congr h.set.set.set.set.set.set.set.set.set (by simp)⟩

set_option maxRecDepth 100000 in
set_option maxHeartbeats 8000000 in
theorem single_any (c : Cfg) (ml : Nat) (jobs : List (Int × List InsD)) (ma ja : Option Addr) (mc jc : Nat) (w : World) (hjl : jobs.length ≤ 2 ^ 21) (hj : JobsRep w w.heap.size ja jobs) :
    Calls Tryz.prog 10 #[.agg #[.int .i64 c.t, .int .i64 c.wd, .int .i64 c.s, .int .i64 c.g, .int .i64 c.r, .int .i64 c.cp, .int .i64 c.f, .slice ma ml mc, .slice ja jobs.length jc]] w fun e w' =>
      ∃ (ja' : Option Addr) (jc' : Nat) (J : List (Int × List InsD)), e = .returned (.agg #[.int .i64 1, .int .i64 c.wd, .int .i64 c.s, .int .i64 c.g, .int .i64 c.r, .int .i64 c.cp, .int .i64 c.f, .slice ma ml mc, .slice ja' J.length jc']) ∧ J.length ≤ 2 ^ 21 ∧ JobsRep w' w'.heap.size ja' J ∧ Below w.heap.size w w' := by
  obtain ⟨js, h1, h2, h3⟩ := hj
  have HJ : Hid (JobsIn w w.heap.size ja js) := h2
  have HC : Hid (∀ i, i < js.length → (jobAt js i).t = (jobs.getD i (0, [])).1 ∧ (jobAt js i).len = (jobs.getD i (0, [])).2.length ∧ CodeIn w w.heap.size (jobAt js i).a (jobs.getD i (0, [])).2) := h3
  have hjs : js.length ≤ 2097152 := by rw [h1]; exact hjl
  have HL : Hid (js.length = jobs.length) := h1
  rw [← h1]
  obtain ⟨i4, hi4, hz40, hz41, hz42⟩ := info_parts Tryz.info66
  clear h2 h3 h1 hjl
  go_enter Tryz.func10, Tryz.ntmps10
  go_upto_region 2 with fail
  obtain ⟨w1, hw1⟩ : ∃ w1, w1 = (w.alloc (.cells #[.int .i64 c.t, .int .i64 c.wd, .int .i64 c.s, .int .i64 c.g, .int .i64 c.r, .int .i64 c.cp, .int .i64 c.f, .slice ma ml mc, .slice ja js.length jc] 27)).alloc (.cells #[.int .i64 0, .int .i64 0, .int .i64 0, .int .i64 0, .int .i64 0, .int .i64 0, .int .i64 0, .slice none 0 0, .slice none 0 0] 27) := ⟨_, rfl⟩
  have HB1 : Hid (Below w.heap.size w w1) := by rw [hw1]; exact ((Below.refl w.heap.size w).alloc (Nat.le_refl _) _).alloc (by simp) _
  have HSb : Hid (Blk w1 w.heap.size 27 #[.int .i64 c.t, .int .i64 c.wd, .int .i64 c.s, .int .i64 c.g, .int .i64 c.r, .int .i64 c.cp, .int .i64 c.f, .slice ma ml mc, .slice ja js.length jc]) := by rw [hw1]; exact (Blk.new w 27 _).alloc _
  have hs1 : w1.heap.size = w.heap.size + 2 := by rw [hw1]; simp
  have HRb : Hid (Blk w1 (w.heap.size + 1) 27 #[.int .i64 0, .int .i64 0, .int .i64 0, .int .i64 0, .int .i64 0, .int .i64 0, .int .i64 0, .slice none 0 0, .slice none 0 0]) := by
    have := Blk.new (w.alloc (.cells #[.int .i64 c.t, .int .i64 c.wd, .int .i64 c.s, .int .i64 c.g, .int .i64 c.r, .int .i64 c.cp, .int .i64 c.f, .slice ma ml mc, .slice ja js.length jc] 27)) 27 #[.int .i64 0, .int .i64 0, .int .i64 0, .int .i64 0, .int .i64 0, .int .i64 0, .int .i64 0, .slice none 0 0, .slice none 0 0]
    show Blk _ _ _ _
    rw [hw1]
    simpa using this
  rw [← hw1]
  clear hw1
  go_wp2_with fail
  go_loopg [3, 4] (js.length + 1) (fun m t3 t4 wr => ∃ (k : Nat) (la : Option Addr) (lc : Nat), t3 = .slice la k lc ∧ t4 = .int .i64 (k : Int) ∧ k ≤ js.length ∧ m = js.length + 1 - k ∧ Hid (wr.ownsRow w1.heap.size 66 2 (.slice la k lc) k ((js.take k).flatMap oneJob)) ∧ Hid (Below w1.heap.size w1 wr))
  case atStart => exact ⟨0, none, 0, rfl, rfl, by omega, by omega, World.ownsRow_nil _ _ _ _, Below.refl _ _⟩
  case round =>
    obtain ⟨k, la, lc, rfl, rfl, hk, hgk, HR, HB⟩ := hrel
    have hszk : w1.heap.size ≤ wr.heap.size := (HB.out).size
    have hsbl : w.heap.size < wr.heap.size := by omega
    have hsc : ∀ i, wr.cell? ⟨w.heap.size, i, none⟩ = (#[.int .i64 c.t, .int .i64 c.wd, .int .i64 c.s, .int .i64 c.g, .int .i64 c.r, .int .i64 c.cp, .int .i64 c.f, .slice ma ml mc, .slice ja js.length jc] : Array Value)[i]? := ((HSb.out).below HB.out (by omega)).cell
    by_cases hkl : k < js.length
    · obtain ⟨b, off, hja, hbl, hc0, hc1⟩ := HJ.out k hkl
      have hk0 : (0 : Int) ≤ (k : Int) := by omega
      have hk1 : (k : Int) < (js.length : Int) := by omega
      have hwk : IntKind.i64.wrap ((k : Int) + 1) = (k : Int) + 1 := wrapP _ (by omega) (by omega)
      have hq1 : wr.cell? ⟨b, off + k * 2 + 1, none⟩ = some (.slice (jobAt js k).a (jobAt js k).len (jobAt js k).cap) := (World.cell?_of_block (((HB1.out).trans ((HB.out).mono (HB1.out).size)).block b hbl)).trans hc1
      have hbw : b < wr.heap.size := by omega
      subst hja
      obtain ⟨J, hJ⟩ : ∃ J, J = jobAt js k := ⟨_, rfl⟩
      have HN : Hid ((js.take (k + 1)).flatMap oneJob = (js.take k).flatMap oneJob ++ [.int .i64 0, .slice J.a J.len J.cap]) := by show _ = _; rw [hJ]; exact one_next hkl
      rw [← hJ] at hq1
      clear hc0 hc1 hJ
      obtain ⟨jt, ca, cl, cc⟩ := J
      generalize (js.take k).flatMap oneJob = LG at *
      go_wp2_with
        (at_builtin;
         refine wpList_append_lies _ (by rfl) _ _ _ (by rfl) w1.heap.size 66 i4 _ 2 32 Tryz.underlying25 hi4 hz40 hz41 hz42 rfl (by omega) (.slice la k lc) k LG (by rfl) ((HR.out).alloc _)
           ⟨wr.heap.size, 0, none⟩ 1 1 [.int .i64 0, .slice ca cl cc] (by rfl) (by rfl) (World.news_of_block (cs := #[.int .i64 0, .slice ca cl cc]) (t := 66) (fr := (0, 0)) (heap_alloc_new wr _)) (by simp [Value.oneCell'])
           (by omega) (by unfold maxLen; omega) (by omega) (by simp; omega) (wr.heap.size + 1) (by simp) ?_;
         intro gg cap wz hown1 hgrow hat hlt;
         have HRz : Hid (wz.ownsRow w1.heap.size 66 2 (.slice (some ⟨gg, 0, none⟩) (k + 1) cap) (k + 1) (LG ++ [.int .i64 0, .slice ca cl cc])) := hown1;
         have HBz : Hid (Below w1.heap.size w1 wz) := (by
           have h1 : Below w1.heap.size w1 (wr.alloc (.cells #[.int .i64 0, .slice ca cl cc] 66)) := (HB.out).trans (((Below.refl _ _).alloc (Nat.le_refl _) _).mono hszk);
           refine ⟨hgrow.os.trans h1.os, hgrow.tape.trans h1.tape, hgrow.output.trans h1.output, Nat.le_trans h1.size hgrow.size, fun q hq => ?_⟩;
           rw [hgrow.block q (by have := h1.size; omega) (fun e => by have := ((HR.out).lt q e.symm).1; omega)];
           exact h1.block q hq);
         clear hown1 hgrow hat hlt)
      go_roundg (gk - 1)
      case rel => exact ⟨k + 1, _, _, rfl, by simp, by omega, by omega, by rw [HN.out]; exact HRz, HBz⟩
      case measure => omega
    · have hkj : k = js.length := by omega
      subst hkj
      have hk2 : ¬ ((js.length : Int) < (js.length : Int)) := by omega
      rw [List.take_length] at HR
      have HRc : Hid (Blk wr (w.heap.size + 1) 27 #[.int .i64 0, .int .i64 0, .int .i64 0, .int .i64 0, .int .i64 0, .int .i64 0, .int .i64 0, .slice none 0 0, .slice none 0 0]) := (HRb.out).below HB.out (by omega)
      have mr := (HRc.out).cell
      have fr := (HRc.out).frozen
      have hrl : w.heap.size + 1 < wr.heap.size := by omega
      have hne : wr.heap.size ≠ w.heap.size + 1 := by omega
      have HW : Hid (∀ W, W = (((((((((wr.setCell ⟨w.heap.size + 1, 0, none⟩ (.int .i64 1)).setCell ⟨w.heap.size + 1, 1, none⟩ (.int .i64 c.wd)).setCell ⟨w.heap.size + 1, 2, none⟩ (.int .i64 c.s)).setCell ⟨w.heap.size + 1, 3, none⟩ (.int .i64 c.g)).setCell ⟨w.heap.size + 1, 4, none⟩ (.int .i64 c.r)).setCell ⟨w.heap.size + 1, 5, none⟩ (.int .i64 c.cp)).setCell ⟨w.heap.size + 1, 6, none⟩ (.int .i64 c.f)).setCell ⟨w.heap.size + 1, 7, none⟩ (.slice ma ml mc)).setCell ⟨w.heap.size + 1, 8, none⟩ (.slice la js.length lc)) → Only (w.heap.size + 1) wr W ∧ Blk W (w.heap.size + 1) 27 #[.int .i64 1, .int .i64 c.wd, .int .i64 c.s, .int .i64 c.g, .int .i64 c.r, .int .i64 c.cp, .int .i64 c.f, .slice ma ml mc, .slice la js.length lc] ∧ W.ownsRow w1.heap.size 66 2 (.slice la js.length lc) js.length (js.flatMap oneJob)) := fun W hW => by
        obtain ⟨q1, q2⟩ := nine_set (v0 := .int .i64 1) (v1 := .int .i64 c.wd) (v2 := .int .i64 c.s) (v3 := .int .i64 c.g) (v4 := .int .i64 c.r) (v5 := .int .i64 c.cp) (v6 := .int .i64 c.f) (v7 := .slice ma ml mc) (v8 := .slice la js.length lc) HRc.out
        rw [hW]
        exact ⟨q1, q2, ownsRow_only HR.out q1 (own_tag HR.out HRc.out (by decide))⟩
      clear HR
      go_wp2_with fail
      obtain ⟨w8, hw8⟩ : ∃ w8, w8 = (((((((((wr.setCell ⟨w.heap.size + 1, 0, none⟩ (.int .i64 1)).setCell ⟨w.heap.size + 1, 1, none⟩ (.int .i64 c.wd)).setCell ⟨w.heap.size + 1, 2, none⟩ (.int .i64 c.s)).setCell ⟨w.heap.size + 1, 3, none⟩ (.int .i64 c.g)).setCell ⟨w.heap.size + 1, 4, none⟩ (.int .i64 c.r)).setCell ⟨w.heap.size + 1, 5, none⟩ (.int .i64 c.cp)).setCell ⟨w.heap.size + 1, 6, none⟩ (.int .i64 c.f)).setCell ⟨w.heap.size + 1, 7, none⟩ (.slice ma ml mc)).setCell ⟨w.heap.size + 1, 8, none⟩ (.slice la js.length lc)) := ⟨_, rfl⟩
      rw [← hw8]
      obtain ⟨ho, hB9, hrow⟩ := HW.out w8 hw8
      clear hw8 HW
      have hb0 : Below w.heap.size w wr := (HB1.out).trans ((HB.out).mono (HB1.out).size)
      have hb8 : Below w.heap.size w w8 := ⟨ho.os.trans hb0.os, ho.tape.trans hb0.tape, ho.output.trans hb0.output, Nat.le_trans hb0.size ho.size, fun q hq => (ho.block q (by omega) (by omega)).trans (hb0.block q hq)⟩
      have hb9 : Below w.heap.size w (w8.alloc (.cells #[.int .i64 1, .int .i64 c.wd, .int .i64 c.s, .int .i64 c.g, .int .i64 c.r, .int .i64 c.cp, .int .i64 c.f] 23)) := hb8.trans (((Below.refl _ _).alloc (Nat.le_refl _) _).mono hb8.size)
      have hr9 := hrow.alloc (.cells #[.int .i64 1, .int .i64 c.wd, .int .i64 c.s, .int .i64 c.g, .int .i64 c.r, .int .i64 c.cp, .int .i64 c.f] 23)
      have h9 := (hB9.alloc (.cells #[.int .i64 1, .int .i64 c.wd, .int .i64 c.s, .int .i64 c.g, .int .i64 c.r, .int .i64 c.cp, .int .i64 c.f] 23)).cell
      generalize w8.alloc (.cells #[.int .i64 1, .int .i64 c.wd, .int .i64 c.s, .int .i64 c.g, .int .i64 c.r, .int .i64 c.cp, .int .i64 c.f] 23) = w9 at *
      refine bodyPost_ret (v := .agg #[.int .i64 1, .int .i64 c.wd, .int .i64 c.s, .int .i64 c.g, .int .i64 c.r, .int .i64 c.cp, .int .i64 c.f, .slice ma ml mc, .slice la js.length lc]) ?_ rfl ⟨la, lc, jobs.map fun j => (0, j.2), by rw [List.length_map, HL.out], by rw [List.length_map, ← HL.out]; exact hjs, one_rep HL.out HC.out hb9 hb9.size hr9, hb9⟩
      clear hr9 hb9 hb8 hb0 ho hB9 hrow mr fr hsc HSb HRb HRc HB HB1 HJ HC
      simp [results, Tryz.results10, go_sem, h9]

end Go.Proofs.YtejadojilncbjaaGreat

namespace Go.Proofs.YtejadojilncbjaaGreat
open Go.ChangeShapes Go.WideShapes Go.ChangeAt Go.RowKit Go.Deep
set_option linter.unusedVariables false
attribute [local go_sem ↓] Go.wp_at_zero Go.wp_at_succ

set_option maxRecDepth 100000 in
set_option maxHeartbeats 8000000 in
theorem single_walk (GP : PlayGood) (GC : CellsGood) (c : Cfg) (mem : List Int) (jobs : List (Int × List InsD)) (ps : List PickD) (ma ja pa : Option Addr) (mc jc pc : Nat) (w : World) (hps : ps.length ≤ 2 ^ 21) (hml : mem.length ≤ maxLen) (hjl : jobs.length ≤ 2 ^ 21)
    (hm : Ints w w.heap.size ma mem) (hj : JobsRep w w.heap.size ja jobs) (hp : PicksIn w w.heap.size pa ps) :
    Calls Tryz.prog 3 #[.agg #[.int .i64 c.t, .int .i64 c.wd, .int .i64 c.s, .int .i64 c.g, .int .i64 c.r, .int .i64 c.cp, .int .i64 c.f, .slice ma mem.length mc, .slice ja jobs.length jc], .slice pa ps.length pc] w fun e w' => e = .returned (.bool true) ∧ Below w.heap.size w w' := by
  have HM : Hid (Ints w w.heap.size ma mem) := hm
  have HJ : Hid (JobsRep w w.heap.size ja jobs) := hj
  have HP : Hid (PicksIn w w.heap.size pa ps) := hp
  have HG : Hid (PlayGood ∧ CellsGood) := ⟨GP, GC⟩
  have HN : Hid (ps.length ≤ 2 ^ 21 ∧ mem.length ≤ maxLen ∧ jobs.length ≤ 2 ^ 21) := ⟨hps, hml, hjl⟩
  clear hm hj hp GP GC hps hml hjl
  go_enter Tryz.func3, Tryz.ntmps3
  go_wp2_with fail
  obtain ⟨w1, hw1⟩ : ∃ w1, w1 = w.alloc (.cells #[.int .i64 c.t, .int .i64 c.wd, .int .i64 c.s, .int .i64 c.g, .int .i64 c.r, .int .i64 c.cp, .int .i64 c.f, .slice ma mem.length mc, .slice ja jobs.length jc] 27) := ⟨_, rfl⟩
  have hB1 : Below w.heap.size w w1 := by rw [hw1]; exact (Below.refl w.heap.size w).alloc (Nat.le_refl _) _
  rw [← hw1]
  clear hw1
  refine (single_any c mem.length jobs ma ja mc jc w1 (HN.out).2.2 ((HJ.out).up2 hB1)).mono ?_
  rintro e w2 ⟨jb, jd, J, rfl, hJl, hJr, hb2⟩
  have hB2 : Below w.heap.size w w2 := hB1.trans (hb2.mono hB1.size)
  have hB3 : Below w2.heap.size w2 (w2.alloc (.cells #[.int .i64 1, .int .i64 c.wd, .int .i64 c.s, .int .i64 c.g, .int .i64 c.r, .int .i64 c.cp, .int .i64 c.f, .slice ma mem.length mc, .slice jb J.length jd] 27)) := (Below.refl _ _).alloc (Nat.le_refl _) _
  have HB3 : Hid (Below w.heap.size w (w2.alloc (.cells #[.int .i64 1, .int .i64 c.wd, .int .i64 c.s, .int .i64 c.g, .int .i64 c.r, .int .i64 c.cp, .int .i64 c.f, .slice ma mem.length mc, .slice jb J.length jd] 27))) := hB2.trans (hB3.mono hB2.size)
  have HJ3 : Hid (JobsRep (w2.alloc (.cells #[.int .i64 1, .int .i64 c.wd, .int .i64 c.s, .int .i64 c.g, .int .i64 c.r, .int .i64 c.cp, .int .i64 c.f, .slice ma mem.length mc, .slice jb J.length jd] 27)) (w2.alloc (.cells #[.int .i64 1, .int .i64 c.wd, .int .i64 c.s, .int .i64 c.g, .int .i64 c.r, .int .i64 c.cp, .int .i64 c.f, .slice ma mem.length mc, .slice jb J.length jd] 27)).heap.size jb J) := hJr.up2 hB3
  have HO3 : Hid (Blk (w2.alloc (.cells #[.int .i64 1, .int .i64 c.wd, .int .i64 c.s, .int .i64 c.g, .int .i64 c.r, .int .i64 c.cp, .int .i64 c.f, .slice ma mem.length mc, .slice jb J.length jd] 27)) w2.heap.size 27 #[.int .i64 1, .int .i64 c.wd, .int .i64 c.s, .int .i64 c.g, .int .i64 c.r, .int .i64 c.cp, .int .i64 c.f, .slice ma mem.length mc, .slice jb J.length jd]) := Blk.new w2 27 _
  clear hB1 hb2 hB2 hB3 hJr HJ
  go_upto_region 2 with fail
  generalize w2.heap.size = ob at *
  generalize w2.alloc (.cells #[.int .i64 1, .int .i64 c.wd, .int .i64 c.s, .int .i64 c.g, .int .i64 c.r, .int .i64 c.cp, .int .i64 c.f, .slice ma mem.length mc, .slice jb J.length jd] 27) = w3 at *
  have HA : Hid (∀ W : World, Below w3.heap.size w3 W → Calls Tryz.prog 11 #[.agg #[.int .i64 1, .int .i64 c.wd, .int .i64 c.s, .int .i64 c.g, .int .i64 c.r, .int .i64 c.cp, .int .i64 c.f, .slice ma mem.length mc, .slice jb J.length jd], .slice pa ps.length pc] W fun e w' => e = .returned (.bool true) ∧ Below W.heap.size W w') := fun W hW =>
    plays_inner (HG.out).1 ⟨1, c.wd, c.s, c.g, c.r, c.cp, c.f⟩ mem J ps ma jb pa mc jd pc W (HN.out).1 (HN.out).2.1 (Nat.le_trans hJl (by decide)) (((HM.out).up HB3.out).up hW) ((HJ3.out).up2 hW) (((HP.out).up2 HB3.out).up2 hW)
  have HC : Hid (∀ W : World, Below w3.heap.size w3 W → Calls Tryz.prog 11 #[.agg #[.int .i64 4, .int .i64 c.wd, .int .i64 c.s, .int .i64 c.g, .int .i64 c.r, .int .i64 c.cp, .int .i64 c.f, .slice ma mem.length mc, .slice jb J.length jd], .slice pa ps.length pc] W fun e w' => e = .returned (.bool true) ∧ Below W.heap.size W w') := fun W hW =>
    plays_inner (HG.out).1 ⟨4, c.wd, c.s, c.g, c.r, c.cp, c.f⟩ mem J ps ma jb pa mc jd pc W (HN.out).1 (HN.out).2.1 (Nat.le_trans hJl (by decide)) (((HM.out).up HB3.out).up hW) ((HJ3.out).up2 hW) (((HP.out).up2 HB3.out).up2 hW)
  have HD : Hid (∀ W : World, Below w3.heap.size w3 W → Calls Tryz.prog 12 #[.agg #[.int .i64 1, .int .i64 c.wd, .int .i64 c.s, .int .i64 c.g, .int .i64 c.r, .int .i64 c.cp, .int .i64 c.f, .slice ma mem.length mc, .slice jb J.length jd], .slice pa ps.length pc] W fun e w' => e = .returned (.bool true) ∧ Below W.heap.size W w') := fun W hW =>
    holds_inner (HG.out).2 ⟨1, c.wd, c.s, c.g, c.r, c.cp, c.f⟩ mem J ps ma jb pa mc jd pc W (HN.out).1 (HN.out).2.1 (Nat.le_trans hJl (by decide)) (((HM.out).up HB3.out).up hW) ((HJ3.out).up2 hW) (((HP.out).up2 HB3.out).up2 hW)
  clear HM HP HG HN HJ3 hJl
  have m3 := (HO3.out).cell
  go_wp2_with fail
  clear m3
  refine (HA.out w3 (Below.refl _ _)).mono ?_
  rintro e w4 ⟨rfl, hb4⟩
  have HB4 : Hid (Below w3.heap.size w3 w4) := hb4
  have m4 := ((HO3.out).below hb4 (HO3.out).lt).cell
  clear hb4
  go_wp2_with fail
  clear m4
  refine (HD.out w4 HB4.out).mono ?_
  rintro e w5 ⟨rfl, hb5⟩
  have HB5 : Hid (Below w3.heap.size w3 w5) := (HB4.out).trans (hb5.mono (HB4.out).size)
  have m5 := ((HO3.out).below HB5.out (HO3.out).lt).cell
  clear hb5 HB4
  go_wp2_with fail
  clear m5
  refine (HC.out _ ((HB5.out).trans (((Below.refl _ _).alloc (Nat.le_refl _) _).mono (HB5.out).size))).mono ?_
  rintro e w6 ⟨rfl, hb6⟩
  have HB6 : Hid (Below w.heap.size w w6) := (HB3.out).trans (((HB5.out).trans ((((Below.refl _ _).alloc (Nat.le_refl _) _).trans (hb6.mono (by simp))).mono (HB5.out).size)).mono (HB3.out).size)
  clear hb6 HB5
  go_wp2
  go_ret
  exact ⟨rfl, HB6.out⟩

end Go.Proofs.YtejadojilncbjaaGreat

namespace Go.Proofs.YtejadojilncbjaaGreat
open Go.ChangeShapes Go.WideShapes Go.ChangeAt Go.RowKit Go.Deep
set_option linter.unusedVariables false

set_option maxRecDepth 100000 in
theorem single_lifted (GP : PlayGood) (GC : CellsGood) (os : Os) (started : os.Started) (H : Type) (enc : TypeId × Value → H) (F : Stop.Interp) :
    ReturnsInHanded {} Tryz.checked os 3 .any ((Rows.OpenSpec.upto Rows.singleSpec).pre6 enc Tryz.prog Tryz.f3 Rows.singleUptoRow.domain false) (((Rows.OpenSpec.upto Rows.singleSpec).at F).post enc Tryz.prog Tryz.f3 false true false false) := by
  refine returnsInHanded_of_cond (C := Tryz.checked) (s := Rows.OpenSpec.upto Rows.singleSpec) (k := Rows.uptoSmall) rfl ownP started (by kernel_rfl) Tryz.func3
    (OpenSpec.witness (enc := enc) (C := Tryz.checked) (s := Rows.OpenSpec.upto Rows.singleSpec) (k := Rows.uptoSmall) rfl false ⟨#[], #[.agg #[.int .i64 0, .int .i64 0, .int .i64 0, .int .i64 0, .int .i64 0, .int .i64 0, .int .i64 0, .slice none 0 0, .slice none 0 0], .slice none 0 0], []⟩ 8 (by kernel_rfl) (by kernel_rfl) (by kernel_rfl)
      (x := ([.agg [.agg [.lit (.int .i64 0), .lit (.int .i64 0), .lit (.int .i64 0), .lit (.int .i64 0), .lit (.int .i64 0), .lit (.int .i64 0), .lit (.int .i64 0)], .nil, .nil], .nil], [], [])) (by kernel_rfl) rfl (by kernel_rfl)) ?_
  intro W base args ds gs before hval0 hW hcnd hk _
  have hval : ∀ (j : Nat) t v, Tryz.f3.params[j]? = some t → args[j]? = some v → Value.okWide Tryz.prog W .any base t v := hval0
  have hW' := hW
  obtain ⟨p, q, hA0, hV, rfl, hfz, hnd⟩ := hW
  have hA : DataW.TrodAll enc Tryz.prog W 0 (fun _ => true) true Tryz.f3.params.toList args.toList ds p := hA0
  rw [Tryz.params3] at hA hval
  obtain ⟨v0, vs0, d0, ds0, p0, q0, hargs, rfl, rfl, h0, r0⟩ := trodAll_cons hA
  obtain ⟨v1, vs1, d1, ds1, p1, q1, hvs0, rfl, rfl, h1, r1⟩ := trodAll_cons r0
  obtain ⟨rfl, rfl, rfl⟩ := trodAll_nil r1
  obtain rfl : args = #[v0, v1] := by cases args; simp_all
  obtain ⟨rfl, rfl⟩ := trodVars_none hV
  obtain ⟨cs, rfl, hsz⟩ := okWide_struct Tryz.underlying27 (hval 0 27 v0 rfl rfl)
  obtain ⟨pa, pl, pc, rfl⟩ := okWide_slice Tryz.underlying28 (hval 1 28 v1 rfl rfl)
  have k0 := h0
  have k1 := h1
  have lt0 : ∀ x ∈ p0, x.block < W.heap.size := by obtain ⟨m, hm⟩ := k0; exact DataW.trod_lt m _ _ _ hm
  have lt1 : ∀ x ∈ p1, x.block < W.heap.size := by obtain ⟨m, hm⟩ := k1; exact DataW.trod_lt m _ _ _ hm
  obtain ⟨f0, hf0⟩ := h0
  obtain ⟨f1, hf1⟩ := h1
  obtain ⟨t, wd, s, g, r, cp, f, a, len, cap, zs, ja, jlen, jcap, js, hcs, e1, e2, e3, e4, e5, e6, e7, e8⟩ := setup_open hf0
  obtain ⟨b, blen, bcap, ps, e9, e10, e11, e12⟩ := picks_open hf1
  obtain rfl : cs = #[.int .i64 t, .int .i64 wd, .int .i64 s, .int .i64 g, .int .i64 r, .int .i64 cp, .int .i64 f, .slice a len cap, .slice ja jlen jcap] := by
    cases cs; simpa [Value.cells] using hcs
  have e9' : Value.slice pa pl pc = Value.slice b blen bcap := by simpa [Value.cells] using e9
  cases e9'
  obtain ⟨jobs, hjb, hjr⟩ := jobs_rep e7 e8
  have hps : ps.length ≤ 2 ^ 21 := by
    have h := of_decide_eq_true hk
    simp only [List.append_nil, Rows.uptoBulkAll] at h
    rw [e10]
    simp only at e12
    omega
  have hj2 : jobs.length ≤ 2 ^ 21 := by
    have h := of_decide_eq_true hk
    simp only [List.append_nil, Rows.uptoBulkAll] at h
    have hb := setup_bulk hf0 (ja := ja) (jlen := jlen) (jcap := jcap) (by simp [Value.cells])
    rw [hjb, e5]
    simp only at hb
    omega
  subst e1 e5 e10
  rw [← hjb]
  clear hA0 hval0
  refine (single_walk GP GC ⟨t, wd, s, g, r, cp, f⟩ zs jobs ps a ja pa cap jcap pc W hps e2 hj2 e3 hjr e11).mono fun e W' ⟨he, bel⟩ => ?_
  subst he
  rw [hjb]
  exact ⟨_, rfl, _, _, _, [], _, [], hW', trodAll_mk1 (shut_bool Tryz.underlying4 _), (trodAll_cons_mk (Below.trod laidOutP (by kernel_rfl) (of_decide_eq_true (by kernel_rfl)) k0 bel lt0) (trodAll_cons_mk (Below.trod laidOutP (by kernel_rfl) (of_decide_eq_true (by kernel_rfl)) k1 bel lt1) trodAll_mk0)), rfl, bel.frame _, fun h => by cases h⟩

theorem single_over (GP : PlayGood) (GC : CellsGood) : Rows.singleUptoRow.holds Tryz.pinned (Rows.OpenSpec.upto Rows.singleSpec) :=
  OpenClaim.holds_of_cond 3 Tryz.f3 rfl rfl rfl rfl rfl rfl rfl ⟨rfl, rfl, rfl, rfl, rfl⟩ rfl rfl rfl rfl rfl (by kernel_rfl) Tryz.func3 (by kernel_rfl)
    (of_decide_eq_true (by kernel_rfl)) (by unfold Func.isWrapper; first | (rw [if_pos (by decide +kernel)]; kernel_rfl) | (rw [if_neg (by decide +kernel)]; exact ⟨rfl, rfl⟩))
    (fun os started H enc _ F => single_lifted GP GC os started H enc F)

/-- The statement, if the program's call is as it should be. -/
theorem single_if (GP : PlayGood) (GC : CellsGood) : Rows.SingleUptoSaid := single_over GP GC

end Go.Proofs.YtejadojilncbjaaGreat
