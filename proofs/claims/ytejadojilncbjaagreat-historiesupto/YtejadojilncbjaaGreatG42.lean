import Derived.Test.YtejadojilncbjaaGreatG28
import Derived.Test.YtejadojilncbjaaGreatG33
import Derived.Test.YtejadojilncbjaaGreatG41
import Derived.Deep.DeepCutAuto
namespace Go.Proofs.YtejadojilncbjaaGreat
open Go.RowKit
set_option linter.unusedVariables false
attribute [local go_sem ↓] Go.wp_at_zero Go.wp_at_succ
theorem ress_at {w : World} {base : Nat} {a : Option Addr} {c : Nat} {rs : List ResD} (h : w.ownsRow base 84 5 (.slice a rs.length c) rs.length (rs.flatMap resCells)) (k : Nat) (hk : k < rs.length) :
  ∃ b, a = some ⟨b, 0, none⟩ ∧ w.cell? ⟨b, k * 5, none⟩ = some (.int .i64 (rs.getD k noRes).fate) ∧ w.cell? ⟨b, k * 5 + 1, none⟩ = some (.int .i64 (rs.getD k noRes).r0) ∧ w.cell? ⟨b, k * 5 + 2, none⟩ = some (.int .i64 (rs.getD k noRes).r1) ∧ w.cell? ⟨b, k * 5 + 3, none⟩ = some (.int .i64 (rs.getD k noRes).r2) ∧ w.cell? ⟨b, k * 5 + 4, none⟩ = some (.int .i64 (rs.getD k noRes).r3) := by
 obtain ⟨g, cap, cur, hv, hb, hg, h1, h2, h3, h4⟩ := own_block h (by omega)
 injection hv with ha
 have hl : (rs.flatMap resCells).length = rs.length * 5 := flat_len (f := resCells) (n := 5) (fun _ => rfl) rs
 have e : ∀ j, j < 5 → w.cell? ⟨g, k * 5 + j, none⟩ = (resCells (rs.getD k noRes))[j]? := fun j hj => by
  rw [Blk.cell hg]
  have h5 : cur[k * 5 + j]? = (cur.toList.take (rs.length * 5))[k * 5 + j]? := by
   rw [List.getElem?_take_of_lt (by omega)]
   simp
  rw [h5, h4, flat_at (n := 5) (fun _ => rfl) _ k j hj, List.getElem?_eq_getElem hk]
  simp [List.getD, List.getElem?_eq_getElem hk]
 exact ⟨g, ha, e 0 (by omega), e 1 (by omega), e 2 (by omega), e 3 (by omega), e 4 (by omega)⟩
section
variable (base p z : Nat) (A B : List Value) (t : PT) (L : Ls) (w : World)
set_option maxRecDepth 100000 in
set_option maxHeartbeats 4000000 in
theorem t_result (R : TR base p z A B w t L) (hrl : t.res.length ≤ 200) (hrm : t.res.length ≤ t.mine.length) (j : Int) (r : ResD)
  (hr : ∀ k, k < t.res.length → t.mine.getD k 0 = j → t.res.getD k noRes = r) (hn : (∀ k, k < t.res.length → t.mine.getD k 0 ≠ j) → r = noRes) :
  Calls Tryz.prog 61 #[.pointer (some ⟨p, z, none⟩), .int .i64 j] w fun e w' => e = .returned (.agg #[.int .i64 r.fate, .int .i64 r.r0, .int .i64 r.r1, .int .i64 r.r2, .int .i64 r.r3]) ∧ Below w.heap.size w w' := by
 obtain ⟨sa, hsa⟩ : ∃ sa, sa = L.sa := ⟨_, rfl⟩
 obtain ⟨sl, hsl⟩ : ∃ sl, sl = t.res.length := ⟨_, rfl⟩
 obtain ⟨ml, hml⟩ : ∃ ml, ml = t.mine.length := ⟨_, rfl⟩
 have HC : Hid (w.cell? ⟨p, z + 10, none⟩ = some (.slice sa sl L.sc)) := by rw [hsl, hsa]; exact R.tt.cRes
 have HM : Hid (w.cell? ⟨p, z + 8, none⟩ = some (.slice L.ma ml L.mc)) := by rw [hml]; exact R.tt.cMine
 have HP : Hid (p < w.heap.size) := R.tt.lt
 have HRs : Hid (∀ k, k < sl → ∃ b, sa = some ⟨b, 0, none⟩ ∧ w.cell? ⟨b, k * 5, none⟩ = some (.int .i64 (t.res.getD k noRes).fate) ∧ w.cell? ⟨b, k * 5 + 1, none⟩ = some (.int .i64 (t.res.getD k noRes).r0) ∧ w.cell? ⟨b, k * 5 + 2, none⟩ = some (.int .i64 (t.res.getD k noRes).r1) ∧ w.cell? ⟨b, k * 5 + 3, none⟩ = some (.int .i64 (t.res.getD k noRes).r2) ∧ w.cell? ⟨b, k * 5 + 4, none⟩ = some (.int .i64 (t.res.getD k noRes).r3)) := fun k hk => by rw [hsa]; exact ress_at R.sr k (by rw [← hsl]; exact hk)
 have HMi : Hid (∀ k, k < ml → ∃ b, L.ma = some ⟨b, 0, none⟩ ∧ w.cell? ⟨b, k, none⟩ = some (.int .i64 (t.mine.getD k 0))) := fun k hk => nums_at R.mi k (by rw [← hml]; exact hk)
 have HR : Hid ((∀ k, k < sl → t.mine.getD k 0 = j → t.res.getD k noRes = r) ∧ ((∀ k, k < sl → t.mine.getD k 0 ≠ j) → r = noRes)) := by rw [hsl]; exact ⟨hr, hn⟩
 rw [← hsl] at hrl hrm
 rw [← hml] at hrm
 have hc := HC.out
 have HRes : Hid (Blk (w.alloc (.cells #[.int .i64 0, .int .i64 0, .int .i64 0, .int .i64 0, .int .i64 0] 84)) w.heap.size 84 #[.int .i64 0, .int .i64 0, .int .i64 0, .int .i64 0, .int .i64 0]) := Blk.new w 84 _
 have hB0 : Below w.heap.size w (w.alloc (.cells #[.int .i64 0, .int .i64 0, .int .i64 0, .int .i64 0, .int .i64 0] 84)) := (Below.refl _ _).alloc (Nat.le_refl _) _
 have HB0 : Hid (Below w.heap.size w (w.alloc (.cells #[.int .i64 0, .int .i64 0, .int .i64 0, .int .i64 0, .int .i64 0] 84))) := hB0
 have hlt : p < w.heap.size := HP.out
 have hne : p ≠ w.heap.size := by omega
 have hs0 : (w.alloc (.cells #[.int .i64 0, .int .i64 0, .int .i64 0, .int .i64 0, .int .i64 0] 84)).heap.size = w.heap.size + 1 := by simp
 clear R hr hn hsl hml hB0 hsa
 go_enter Tryz.func61, Tryz.ntmps61
 go_wp2
 generalize w.alloc (.cells #[.int .i64 0, .int .i64 0, .int .i64 0, .int .i64 0, .int .i64 0] 84) = w0 at *
 obtain ⟨rb, hrb⟩ : ∃ rb, rb = w.heap.size := ⟨_, rfl⟩
 have HRb : Hid (rb = w.heap.size) := hrb
 rw [← hrb] at HRes ⊢
 clear hc hne hlt hrb
 go_loopg [12] (sl + 1) (fun m t12 wr => ∃ k : Nat, t12 = .int .i64 (k : Int) ∧ k ≤ sl ∧ m = sl + 1 - k ∧ Hid (Below w0.heap.size w0 wr) ∧ Hid (∀ i, i < k → t.mine.getD i 0 ≠ j))
 case atStart => exact ⟨0, rfl, by omega, by omega, Below.refl _ _, fun i hi => absurd hi (Nat.not_lt_zero _)⟩
 case round =>
  obtain ⟨k, rfl, hk, hgk, HB, HN⟩ := hrel
  have HBw : Hid (Below w.heap.size w wr) := (HB0.out).trans ((HB.out).mono (HB0.out).size)
  have hcm : wr.cell? ⟨p, z + 8, none⟩ = some (.slice L.ma ml L.mc) := (World.cell?_of_block ((HBw.out).block p HP.out)).trans HM.out
  have hrk : Blk wr rb 84 #[.int .i64 0, .int .i64 0, .int .i64 0, .int .i64 0, .int .i64 0] := (HRes.out).below HB.out (HRes.out).lt
  have HRk : Hid (Blk wr rb 84 #[.int .i64 0, .int .i64 0, .int .i64 0, .int .i64 0, .int .i64 0]) := hrk
  have r0 := hrk.cell
  have rf := hrk.frozen
  have hrl' : rb < wr.heap.size := hrk.lt
  have hpl : p < wr.heap.size := Nat.lt_of_lt_of_le HP.out (HBw.out).size
  have hpn : p ≠ wr.heap.size := by omega
  have hrn : rb ≠ wr.heap.size := by omega
  clear hrk
  by_cases hlt : k < sl
  ·obtain ⟨b, rfl, c0, c1, c2, c3, c4⟩ := HRs.out k hlt
   obtain ⟨g, hga, gc⟩ := HMi.out k (by omega)
   have hbl : b < w.heap.size := block_lt c0
   have hgl : g < w.heap.size := block_lt gc
   have bs : wr.heap[b]? = w.heap[b]? := (HBw.out).block b hbl
   have d0 : wr.cell? ⟨b, k * 5, none⟩ = some (.int .i64 (t.res.getD k noRes).fate) := (World.cell?_of_block bs).trans c0
   have d1 : wr.cell? ⟨b, k * 5 + 1, none⟩ = some (.int .i64 (t.res.getD k noRes).r0) := (World.cell?_of_block bs).trans c1
   have d2 : wr.cell? ⟨b, k * 5 + 2, none⟩ = some (.int .i64 (t.res.getD k noRes).r1) := (World.cell?_of_block bs).trans c2
   have d3 : wr.cell? ⟨b, k * 5 + 3, none⟩ = some (.int .i64 (t.res.getD k noRes).r2) := (World.cell?_of_block bs).trans c3
   have d4 : wr.cell? ⟨b, k * 5 + 4, none⟩ = some (.int .i64 (t.res.getD k noRes).r3) := (World.cell?_of_block bs).trans c4
   have dg : wr.cell? ⟨g, k, none⟩ = some (.int .i64 (t.mine.getD k 0)) := (World.cell?_of_block ((HBw.out).block g hgl)).trans gc
   have hgw : g < wr.heap.size := Nat.lt_of_lt_of_le hgl (HBw.out).size
   have hgn : g ≠ wr.heap.size := by omega
   have hk0 : (0 : Int) ≤ (k : Int) := by omega
   have hk1 : (k : Int) < (sl : Int) := by omega
   have hk2 : (k : Int) < (ml : Int) := by omega
   have hwk : IntKind.i64.wrap ((k : Int) + 1) = (k : Int) + 1 := wrapP _ (by omega) (by omega)
   rw [hga] at hcm
   obtain ⟨q, hq⟩ : ∃ q, q = t.res.getD k noRes := ⟨_, rfl⟩
   obtain ⟨mk, hmk⟩ : ∃ mk, mk = t.mine.getD k 0 := ⟨_, rfl⟩
   rw [← hq] at d0 d1 d2 d3 d4
   rw [← hmk] at dg
   have HQ : Hid (q = t.res.getD k noRes ∧ mk = t.mine.getD k 0) := ⟨hq, hmk⟩
   have HKl : Hid (k < sl) := hlt
   clear c0 c1 c2 c3 c4 gc bs hbl hgl hq hmk hga
   by_cases hin : mk = j
   ·have HF : Hid (q = r) := by
     show q = r
     rw [(HQ.out).1]
     exact (HR.out).1 k HKl.out (by rw [← (HQ.out).2]; exact hin)
    have hib : (mk == j) = true := by simp [hin]
    clear hin
    go_wp2
    have hr5 := ((((((HRk.out).set (i := 0) (v := .int .i64 q.fate)).set (i := 1) (v := .int .i64 q.r0)).set (i := 2) (v := .int .i64 q.r1)).set (i := 3) (v := .int .i64 q.r2)).set (i := 4) (v := .int .i64 q.r3)).congr (ds := #[.int .i64 q.fate, .int .i64 q.r0, .int .i64 q.r1, .int .i64 q.r2, .int .i64 q.r3]) (by simp)
    have ho5 : Only rb wr (((((wr.setCell ⟨rb, 0, none⟩ (.int .i64 q.fate)).setCell ⟨rb, 1, none⟩ (.int .i64 q.r0)).setCell ⟨rb, 2, none⟩ (.int .i64 q.r1)).setCell ⟨rb, 3, none⟩ (.int .i64 q.r2)).setCell ⟨rb, 4, none⟩ (.int .i64 q.r3)) := (((((Only.refl _ _).set).set).set).set).set
    have hBf : Below w.heap.size w (((((wr.setCell ⟨rb, 0, none⟩ (.int .i64 q.fate)).setCell ⟨rb, 1, none⟩ (.int .i64 q.r0)).setCell ⟨rb, 2, none⟩ (.int .i64 q.r1)).setCell ⟨rb, 3, none⟩ (.int .i64 q.r2)).setCell ⟨rb, 4, none⟩ (.int .i64 q.r3)) := by
     have h1 := HBw.out
     exact ⟨ho5.os.trans h1.os, ho5.tape.trans h1.tape, ho5.output.trans h1.output, Nat.le_trans h1.size ho5.size, fun b hb => (ho5.block b (by have := h1.size; omega) (by have := HRb.out; omega)).trans (h1.block b hb)⟩
    have h9 := (hr5.alloc (.cells #[.int .i64 q.fate, .int .i64 q.r0, .int .i64 q.r1, .int .i64 q.r2, .int .i64 q.r3] 84)).cell
    refine bodyPost_ret (v := .agg #[.int .i64 q.fate, .int .i64 q.r0, .int .i64 q.r1, .int .i64 q.r2, .int .i64 q.r3]) ?_ rfl ⟨by rw [HF.out], hBf.alloc hBf.size _⟩
    simp [results, Tryz.results61, go_sem, h9]
   ·have hib : (mk == j) = false := by rw [beq_eq_false_iff_ne]; exact hin
    have H1 : Hid (∀ i, i < k + 1 → t.mine.getD i 0 ≠ j) := fun i hi => by
     rcases Nat.lt_succ_iff_lt_or_eq.1 hi with h | rfl
     ·exact HN.out i h
     ·rw [← (HQ.out).2]; exact hin
    clear hin HN
    go_wp2
    go_roundg (gk - 1)
    case rel => exact ⟨k + 1, by simp, by omega, by omega, (HB.out).trans ((Below.refl _ _).alloc (HB.out).size _), H1⟩
    case measure => omega
  ·have hk2 : ¬ ((k : Int) < (sl : Int)) := by omega
   have HF : Hid (r = noRes) := (HR.out).2 (fun i hi => HN.out i (by omega))
   go_wp2
   have hr5 := ((((((HRk.out).set (i := 0) (v := .int .i64 0)).set (i := 1) (v := .int .i64 0)).set (i := 2) (v := .int .i64 0)).set (i := 3) (v := .int .i64 0)).set (i := 4) (v := .int .i64 0)).congr (ds := #[.int .i64 0, .int .i64 0, .int .i64 0, .int .i64 0, .int .i64 0]) (by simp)
   have ho5 : Only rb wr (((((wr.setCell ⟨rb, 0, none⟩ (.int .i64 0)).setCell ⟨rb, 1, none⟩ (.int .i64 0)).setCell ⟨rb, 2, none⟩ (.int .i64 0)).setCell ⟨rb, 3, none⟩ (.int .i64 0)).setCell ⟨rb, 4, none⟩ (.int .i64 0)) := (((((Only.refl _ _).set).set).set).set).set
   have hBf : Below w.heap.size w (((((wr.setCell ⟨rb, 0, none⟩ (.int .i64 0)).setCell ⟨rb, 1, none⟩ (.int .i64 0)).setCell ⟨rb, 2, none⟩ (.int .i64 0)).setCell ⟨rb, 3, none⟩ (.int .i64 0)).setCell ⟨rb, 4, none⟩ (.int .i64 0)) := by
    have h1 := HBw.out
    exact ⟨ho5.os.trans h1.os, ho5.tape.trans h1.tape, ho5.output.trans h1.output, Nat.le_trans h1.size ho5.size, fun b hb => (ho5.block b (by have := h1.size; omega) (by have := HRb.out; omega)).trans (h1.block b hb)⟩
   refine bodyPost_ret (v := .agg #[.int .i64 0, .int .i64 0, .int .i64 0, .int .i64 0, .int .i64 0]) ?_ rfl ⟨by rw [HF.out]; rfl, hBf⟩
   have h9 := hr5.cell
   simp [results, Tryz.results61, go_sem, h9]
end
theorem TolF.result {K : Cx} {mine : List Int} {cur : Nat} {res : List ResD} {told : AttD} {list : List AttD} {ends : List ResD} (T : TolF K mine cur res told list ends) (j : Nat) :
  (∀ k, k < res.length → mine.getD k 0 = (j : Int) → res.getD k noRes = ends.getD j noRes) ∧ ((∀ k, k < res.length → mine.getD k 0 ≠ (j : Int)) → ends.getD j noRes = noRes) := by
 have h0 : ∀ i, i < cur → 0 ≤ mine.getD i 0 := fun i hi => by
  have hm : mine.getD i 0 ∈ mineF K.me 0 K.jobs := by
   rw [← T.mi]
   simp only [List.getD, List.getElem?_eq_getElem (show i < mine.length by have := T.cu; omega), Option.getD_some]
   exact List.getElem_mem _
  have := mineF_ge _ _ _ _ hm
  omega
 refine ⟨fun k hk e => ?_, fun h => T.rz j (fun i hi e => h i (by rw [T.rl]; exact hi) (by have := h0 i hi; omega))⟩
 rw [T.rl] at hk
 rw [← T.rs k hk, e]
 simp
theorem Sim.tol {K : Cx} {t : PT} {h : Th} (S : Sim K t h) : Tol K t h := by
 rcases S with ⟨_, _, q⟩ | ⟨_, b, _⟩ | ⟨n, _, b, _⟩ | ⟨n, _, b, _⟩ | ⟨b, _⟩
 ·exact q
 ·exact b.tol
 ·exact b.tol
 ·exact b.tol
 ·exact b.1.tol
theorem Tryz.info119 : (Tryz.prog.info? 119).map (fun i => (i.zero, i.size, i.bytes)) = some (some (.agg zc), 47, 472) := by kernel_rfl
theorem fold_set : ∀ (l : List Value) (j : Nat) (a : Array Value), j + l.length = a.size → (l.zipIdx j).foldl (fun cs x => cs.setIfInBounds x.snd x.fst) a = (a.toList.take j ++ l).toArray
 | [], j, a, h => by
  have : j = a.size := by simpa using h
  subst this
  rw [List.take_of_length_le (by simp)]
  simp
 | v :: l, j, a, h => by
  rw [List.zipIdx_cons, List.foldl_cons, fold_set l (j + 1) (a.setIfInBounds j v) (by simp at h ⊢; omega)]
  congr 1
  have hj : j < a.toList.length := by simp at h ⊢; omega
  rw [Array.toList_setIfInBounds, List.take_set, List.take_add_one, List.getElem?_eq_getElem hj]
  simp only [Option.toList]
  rw [List.set_append_right _ _ (by simp; omega)]
  simp [Nat.min_eq_left (Nat.le_of_lt (by simpa using hj))]
def BegunIs (c : Cfg) (mem : List Int) (jobs : List (Int × List InsD)) (w : World) (e : Ending) (w' : World) : Prop :=
 ∃ (nb p cap tcap : Nat) (q : List (PT × Ls)) (Ds : List Int) (X : List Value), e = .returned (.agg #[.slice (some ⟨nb, 0, none⟩) Ds.length cap, .slice (some ⟨p, 0, none⟩) q.length tcap, .int .i64 0]) ∧
  (∀ w2 cb, Below w'.heap.size w' w2 → Blk w2 cb 106 #[.slice (some ⟨nb, 0, none⟩) Ds.length cap, .slice (some ⟨p, 0, none⟩) q.length tcap, .int .i64 0] → w.heap.size ≤ cb → WR w.heap.size p nb cb cap tcap 0 X w2 q Ds) ∧ SimW c jobs 0 (gStart c mem jobs) q Ds ∧ Below w.heap.size w w'
theorem bi_below {wb k tcap : Nat} {ta : Option Addr} {xs : List Value} {w wr w5 w6 w7 : World} (hB : Below w.heap.size w wr) (hb5 : Below wr.heap.size wr w5) (hb6 : Below w5.heap.size w5 w6) (hthr : wr.ownsRow w.heap.size 119 47 (.slice ta k tcap) k xs) (hgr : w6.grownBy w7 (Value.slice ta k tcap).ownBlock) (hwb : w.heap.size ≤ wb) (v : Value) :
  Below w.heap.size w (w7.setCell ⟨wb, 1, none⟩ v) := by
 have h1 : Below w.heap.size w w6 := (hB.trans (hb5.mono hB.size)).trans (hb6.mono (Nat.le_trans hB.size hb5.size))
 have hs : w.heap.size ≤ w6.heap.size := h1.size
 refine below_onto (w' := w7) ⟨hgr.os.trans h1.os, hgr.tape.trans h1.tape, hgr.output.trans h1.output, Nat.le_trans h1.size hgr.size, fun q hq => ?_⟩ ((Only.refl _ _).set) hwb (by have := hgr.size; omega)
 rw [hgr.block q (by omega) (fun e => by have := (hthr.lt q e.symm).1; omega)]
 exact h1.block q hq
theorem begun_of {c : Cfg} {mem : List Int} {jobs : List (Int × List InsD)} {w wr w' : World} {base nb wb sb r2 tcap tn : Nat} {S : Array Value} {Ds : List Int} {ta : Option Addr} {q : List (PT × Ls)} (hc : cfgB c = true) (hmw : (mem.length : Int) = c.wd) (hmb : memB mem = true) (hjl : jobs.length ≤ 8)
  (hbase : (base : Int) = 3 + 2 * c.s + c.t) (htn : (tn : Int) = c.t) (ht1 : 1 ≤ tn) (hDs : Ds = List.replicate base (0 : Int) ++ mem) (I : BI w.heap.size nb wb sb r2 Ds.length Ds.length S c jobs Ds ta tcap tn q wr) (HB : Below w.heap.size w wr) (ho : Only r2 wr w') (hr : w.heap.size ≤ r2) :
  BegunIs c mem jobs w (.returned (.agg #[.slice (some ⟨nb, 0, none⟩) Ds.length Ds.length, .slice ta tn tcap, .int .i64 0])) w' := by
 obtain ⟨g, cap, cur, hv, hbg, hgb, h1, h2, h3, h4⟩ := own_block I.thr ht1
 obtain ⟨rfl, rfl⟩ : ta = some ⟨g, 0, none⟩ ∧ tcap = cap := by injection hv with a b c; exact ⟨a, c⟩
 have hql := I.ql
 have hg2 : Blk w' g 119 cur := hgb.only ho (Blk.ne hgb I.res (by decide))
 have hn2 : Blk w' nb 3 (Ds.map (Value.int .i64 ·)).toArray := I.num.only ho (Blk.ne I.num I.res (by decide))
 have hrows : ∀ i (h : i < q.length), RowsOk w.heap.size w' q[i].1 q[i].2 := fun i h => (I.rows i h).kept (fun k o => ho.block k ((I.rows i h).own k o).2 (fun e => Own_tag (I.rows i h) I.res (by decide) (by decide) (by decide) (by decide) (by decide) (e ▸ o)))
 refine ⟨nb, g, Ds.length, tcap, q, Ds, cur.toList.drop (tn * 47), by rw [hql], ?_, ?_, below_onto HB ho hr HB.size⟩
 ·intro w2 cb hb hcb hle
  have hbs : w.heap.size ≤ w2.heap.size := Nat.le_trans HB.size (Nat.le_trans ho.size hb.size)
  refine ⟨?_, fun i h => (hrows i h).kept (fun k o => hb.block k ((hrows i h).own k o).2), I.dis, hn2.below hb hn2.lt, I.nown, hcb, hbg, I.nbb, hle, hbs⟩
  refine (hg2.below hb hg2.lt).congr ?_
  rw [← h4, List.take_append_drop]
 ·have hd : ∀ i (h : i < q.length), q[i].1 = tInit c jobs i := I.init
  refine ⟨by rw [hql]; exact htn, ?_, ?_, fun i h => by rw [hd i h]; exact init_sim c jobs i, fun i h => by rw [hd i h]; exact init_own c jobs i hjl, gstart_ok hc hmw hmb jobs⟩
  ·rw [hDs, total_eq]
   simp
   omega
  ·intro x hx
   show Ds.getD x 0 = startVal c mem x
   unfold startVal wordBase
   rw [hDs] at hx ⊢
   by_cases hxb : x < base
   ·rw [if_neg (by omega)]
    simp [List.getD_eq_getElem?_getD, List.getElem?_append_left, hxb]
   ·rw [if_pos (by omega)]
    have e : ((x : Int) - (3 + 2 * c.s + c.t)).toNat = x - base := by omega
    rw [e]
    simp [List.getD_eq_getElem?_getD, List.getElem?_append_right, Nat.le_of_not_lt hxb]
set_option maxRecDepth 100000 in
set_option maxHeartbeats 8000000 in
theorem begin_any (c : Cfg) (hc : cfgB c = true) (mem : List Int) (hmw : (mem.length : Int) = c.wd) (hmb : memB mem = true) (jobs : List (Int × List InsD)) (hjl : jobs.length ≤ 8) (ma ja : Option Addr) (mc jc : Nat) (w : World) (hm : Ints w w.heap.size ma mem) (hj : JobsRep w w.heap.size ja jobs) :
  Calls Tryz.prog 66 #[.agg #[.int .i64 c.t, .int .i64 c.wd, .int .i64 c.s, .int .i64 c.g, .int .i64 c.r, .int .i64 c.cp, .int .i64 c.f, .slice ma mem.length mc, .slice ja jobs.length jc]] w (BegunIs c mem jobs w) := by
 obtain ⟨⟨t1, t2⟩, ⟨w1, w2⟩, ⟨s1, s2⟩, _⟩ := cfgB_true hc
 have HC : Hid (cfgB c = true ∧ (mem.length : Int) = c.wd ∧ memB mem = true) := ⟨hc, hmw, hmb⟩
 have HM : Hid (Ints w w.heap.size ma mem) := hm
 have HJ : Hid (JobsRep w w.heap.size ja jobs) := hj
 obtain ⟨base, hbase⟩ : ∃ base : Nat, (base : Int) = 3 + 2 * c.s + c.t := ⟨(3 + 2 * c.s + c.t).toNat, by omega⟩
 obtain ⟨tn, htn⟩ : ∃ tn : Nat, (tn : Int) = c.t := ⟨c.t.toNat, by omega⟩
 have hB0 : Below w.heap.size w ((w.alloc (.cells #[.int .i64 c.t, .int .i64 c.wd, .int .i64 c.s, .int .i64 c.g, .int .i64 c.r, .int .i64 c.cp, .int .i64 c.f, .slice ma mem.length mc, .slice ja jobs.length jc] 27)).alloc (.cells #[.slice none 0 0, .slice none 0 0, .int .i64 0] 106)) := ((Below.refl _ _).alloc (Nat.le_refl _) _).alloc (by simp) _
 have HS0 : Hid (Blk ((w.alloc (.cells #[.int .i64 c.t, .int .i64 c.wd, .int .i64 c.s, .int .i64 c.g, .int .i64 c.r, .int .i64 c.cp, .int .i64 c.f, .slice ma mem.length mc, .slice ja jobs.length jc] 27)).alloc (.cells #[.slice none 0 0, .slice none 0 0, .int .i64 0] 106)) w.heap.size 27 #[.int .i64 c.t, .int .i64 c.wd, .int .i64 c.s, .int .i64 c.g, .int .i64 c.r, .int .i64 c.cp, .int .i64 c.f, .slice ma mem.length mc, .slice ja jobs.length jc]) := (Blk.new w 27 _).alloc _
 have HR0 : Hid (Blk ((w.alloc (.cells #[.int .i64 c.t, .int .i64 c.wd, .int .i64 c.s, .int .i64 c.g, .int .i64 c.r, .int .i64 c.cp, .int .i64 c.f, .slice ma mem.length mc, .slice ja jobs.length jc] 27)).alloc (.cells #[.slice none 0 0, .slice none 0 0, .int .i64 0] 106)) (w.heap.size + 1) 106 #[.slice none 0 0, .slice none 0 0, .int .i64 0]) := by
  have := Blk.new (w.alloc (.cells #[.int .i64 c.t, .int .i64 c.wd, .int .i64 c.s, .int .i64 c.g, .int .i64 c.r, .int .i64 c.cp, .int .i64 c.f, .slice ma mem.length mc, .slice ja jobs.length jc] 27)) 106 #[.slice none 0 0, .slice none 0 0, .int .i64 0]
  show Blk _ _ _ _
  simpa using this
 have HB0 : Hid (Below w.heap.size w ((w.alloc (.cells #[.int .i64 c.t, .int .i64 c.wd, .int .i64 c.s, .int .i64 c.g, .int .i64 c.r, .int .i64 c.cp, .int .i64 c.f, .slice ma mem.length mc, .slice ja jobs.length jc] 27)).alloc (.cells #[.slice none 0 0, .slice none 0 0, .int .i64 0] 106))) := hB0
 have hs0 : ((w.alloc (.cells #[.int .i64 c.t, .int .i64 c.wd, .int .i64 c.s, .int .i64 c.g, .int .i64 c.r, .int .i64 c.cp, .int .i64 c.f, .slice ma mem.length mc, .slice ja jobs.length jc] 27)).alloc (.cells #[.slice none 0 0, .slice none 0 0, .int .i64 0] 106)).heap.size = w.heap.size + 2 := by simp
 clear hm hj hB0 hc hmw hmb
 go_enter Tryz.func66, Tryz.ntmps66
 go_wp2_with fail
 obtain ⟨sb, hsb⟩ : ∃ sb, sb = w.heap.size := ⟨_, rfl⟩
 rw [← hsb] at HS0 HR0 ⊢
 have HSb : Hid (sb = w.heap.size) := hsb
 generalize (w.alloc (.cells #[.int .i64 c.t, .int .i64 c.wd, .int .i64 c.s, .int .i64 c.g, .int .i64 c.r, .int .i64 c.cp, .int .i64 c.f, .slice ma mem.length mc, .slice ja jobs.length jc] 27)).alloc (.cells #[.slice none 0 0, .slice none 0 0, .int .i64 0] 106) = w0 at *
 have HN : Hid (Calls Tryz.prog 79 #[.agg #[.int .i64 c.t, .int .i64 c.wd, .int .i64 c.s, .int .i64 c.g, .int .i64 c.r, .int .i64 c.cp, .int .i64 c.f], .slice ma mem.length mc] w0 (NewIs base mem w0)) := by
  obtain ⟨hc, hmw, hmb⟩ := HC.out
  exact newCells_any c base ma mc mem w0 hbase (by omega) (by omega) (by omega) (by omega) (by omega) (by omega) ((HM.out).up HB0.out)
 clear hsb
 refine (HN.out).mono ?_
 rintro e w2' ⟨nb, rfl, hn2, hb2, hnb⟩
 obtain ⟨Ds, hDs⟩ : ∃ Ds : List Int, Ds = List.replicate base (0 : Int) ++ mem := ⟨_, rfl⟩
 have hDl : Ds.length = base + mem.length := by rw [hDs]; simp
 rw [← hDs] at hn2
 rw [← hDl]
 have HDl : Hid (Ds.length = base + mem.length) := hDl
 clear hDl
 have HS2 : Hid (Blk w2' sb 27 #[.int .i64 c.t, .int .i64 c.wd, .int .i64 c.s, .int .i64 c.g, .int .i64 c.r, .int .i64 c.cp, .int .i64 c.f, .slice ma mem.length mc, .slice ja jobs.length jc]) := (HS0.out).below hb2 (HS0.out).lt
 have HR2 : Hid (Blk w2' (sb + 1) 106 #[.slice none 0 0, .slice none 0 0, .int .i64 0]) := (HR0.out).below hb2 (HR0.out).lt
 have HN2 : Hid (Blk w2' nb 3 (Ds.map (Value.int .i64 ·)).toArray) := hn2
 have HB2 : Hid (Below w.heap.size w w2') := (HB0.out).trans (hb2.mono (by omega))
 have HNb : Hid (w.heap.size + 2 ≤ nb) := by show _ ≤ _; omega
 have HDs : Hid (Ds = List.replicate base (0 : Int) ++ mem) := hDs
 have hs2 : w.heap.size + 2 ≤ w2'.heap.size := by have := hb2.size; omega
 have m0 := (HS2.out).cell
 have hsl : sb < w2'.heap.size := (HS2.out).lt
 clear HS0 HR0 HB0 HN hn2 hb2 hnb hDs hs0
 go_upto_region 2 with fail
 obtain ⟨wb, hwb⟩ : ∃ wb, wb = w2'.heap.size := ⟨_, rfl⟩
 have hB3 : Below w2'.heap.size w2' (w2'.alloc (.cells #[.slice (some ⟨nb, 0, none⟩) Ds.length Ds.length, .slice none 0 0, .int .i64 0] 106)) := (Below.refl _ _).alloc (Nat.le_refl _) _
 have HI3 : Hid (BI w.heap.size nb wb sb (sb + 1) Ds.length Ds.length #[.int .i64 c.t, .int .i64 c.wd, .int .i64 c.s, .int .i64 c.g, .int .i64 c.r, .int .i64 c.cp, .int .i64 c.f, .slice ma mem.length mc, .slice ja jobs.length jc] c jobs Ds none 0 0 [] (w2'.alloc (.cells #[.slice (some ⟨nb, 0, none⟩) Ds.length Ds.length, .slice none 0 0, .int .i64 0] 106))) := by
  refine ⟨(HS2.out).below hB3 (HS2.out).lt, (HR2.out).below hB3 (HR2.out).lt, by rw [hwb]; exact Blk.new w2' 106 _, (HN2.out).below hB3 (HN2.out).lt, World.ownsRow_nil _ _ _ _, rfl, fun i h => by simp at h, fun i j h => by simp at h, fun i h => by simp at h, fun i h => by simp at h, by have := HNb.out; omega, by have := HSb.out; omega⟩
 have HB3 : Hid (Below w.heap.size w (w2'.alloc (.cells #[.slice (some ⟨nb, 0, none⟩) Ds.length Ds.length, .slice none 0 0, .int .i64 0] 106))) := (HB2.out).trans (hB3.mono (by omega))
 have HWb : Hid (w.heap.size ≤ wb) := by show _ ≤ _; omega
 rw [← hwb]
 clear HS2 HR2 HN2 HB2 hB3 hwb hs2 m0 hsl
 generalize w2'.alloc (.cells #[.slice (some ⟨nb, 0, none⟩) Ds.length Ds.length, .slice none 0 0, .int .i64 0] 106) = w3 at *
 obtain ⟨iz, hiz, hz0, hz1, hz2⟩ := info_parts Tryz.info119
 go_wp2_with fail
 go_loopg [4] (tn + 1) (fun m t4 wr => ∃ (k : Nat) (ta : Option Addr) (tcap : Nat) (q : List (PT × Ls)), t4 = .int .i64 (k : Int) ∧ k ≤ tn ∧ m = tn + 1 - k ∧ Hid (BI w.heap.size nb wb sb (sb + 1) Ds.length Ds.length #[.int .i64 c.t, .int .i64 c.wd, .int .i64 c.s, .int .i64 c.g, .int .i64 c.r, .int .i64 c.cp, .int .i64 c.f, .slice ma mem.length mc, .slice ja jobs.length jc] c jobs Ds ta tcap k q wr) ∧ Hid (Below w.heap.size w wr))
 case atStart => exact ⟨0, none, 0, [], rfl, by omega, by omega, HI3, HB3⟩
 case round =>
  obtain ⟨k, ta, tcap, q, rfl, hk, hgk, HI, HB⟩ := hrel
  clear HI3 HB3
  have m0 := (HI.out).setup.cell
  have m1 := (HI.out).wst.cell
  by_cases hlt : k < tn
  ·have hlt' : (k : Int) < c.t := by omega
   have hwk : IntKind.i64.wrap ((k : Int) + 1) = (k : Int) + 1 := wrapP _ (by omega) (by omega)
   have HNw : Hid (∀ W, (∃ m, W = wr.drewN m) → Calls Tryz.prog 80 #[.agg #[.int .i64 c.t, .int .i64 c.wd, .int .i64 c.s, .int .i64 c.g, .int .i64 c.r, .int .i64 c.cp, .int .i64 c.f], .int .i64 (k : Int), .slice ja jobs.length jc] W fun e w' =>
        ∃ ma mc, e = .returned (.agg (tArr (tInit c jobs k) (L0 ma mc)).toArray) ∧ w'.ownsRow W.heap.size 3 1 (.slice ma (mineF k 0 jobs).length mc) (mineF k 0 jobs).length (intCells (mineF k 0 jobs)) ∧ Below W.heap.size W w') := fun W hW => by
    obtain ⟨m, rfl⟩ := hW
    exact new_any c k jobs ja jc (wr.drewN m) (((HJ.out).up HB.out).mono (HB.out).size) hjl
   have hwbl : wb < wr.heap.size := (HI.out).wst.lt
   have hpne : (Value.slice ta k tcap).ownBlock ≠ some wb := fun q => own_tag (HI.out).thr (HI.out).wst (by decide) wb q rfl
   have hbs : w.heap.size ≤ wr.heap.size := (HB.out).size
   have hk4 : k ≤ 4 := by omega
   go_wp2_with fail
   go_region_law
    (first
        | (go_simp; go_at_call 80; refine (HNw.out _ ⟨1, rfl⟩).mono ?_; rintro e w5 ⟨ma5, mc5, rfl, hm5, hb5⟩;
           have HI5 : Hid (BI w.heap.size nb wb sb (sb + 1) Ds.length Ds.length #[.int .i64 c.t, .int .i64 c.wd, .int .i64 c.s, .int .i64 c.g, .int .i64 c.r, .int .i64 c.cp, .int .i64 c.f, .slice ma mem.length mc, .slice ja jobs.length jc] c jobs Ds ta tcap k q w5) := (HI.out).below ((below_drew wr).trans hb5);
           have HM5 : Hid (w5.ownsRow wr.heap.size 3 1 (.slice ma5 (mineF k 0 jobs).length mc5) (mineF k 0 jobs).length (intCells (mineF k 0 jobs)) ∧ Below wr.heap.size wr w5) := ⟨hm5, (below_drew wr).trans hb5⟩;
           have n1 := (HI5.out).wst.cell; have hwb5 : wb < w5.heap.size := (HI5.out).wst.lt; have hwb6 : wb ≠ w5.heap.size := (by omega); have hbs5 : w.heap.size ≤ w5.heap.size := Nat.le_trans hbs hb5.size;
           obtain ⟨T, hT⟩ : ∃ T, T = tArr (tInit c jobs k) (L0 ma5 mc5) := ⟨_, rfl⟩; have HT : Hid (T = tArr (tInit c jobs k) (L0 ma5 mc5) ∧ T.length = 47 ∧ ∀ u ∈ T, u.oneCell' = true) := ⟨hT, by rw [hT]; rfl, by rw [hT]; unfold tInit yBegin yLoad; split <;> simp [tArr, t0, L0, Value.oneCell']⟩; rw [← hT]; have hTl : T.length = 47 := (HT.out).2.1; have hfold : List.foldl (fun cs x => cs.setIfInBounds x.snd x.fst) #[.int .i64 0, .int .i64 0, .int .i64 0, .int .i64 0, .int .i64 0, .int .i64 0, .int .i64 0, .int .i64 0, .slice none 0 0, .int .i64 0, .slice none 0 0, .int .i64 0, .int .i64 0, .int .i64 0, .int .i64 0, .int .i64 0, .int .i64 0, .int .i64 0, .int .i64 0, .int .i64 0, .int .i64 0, .int .i64 0, .int .i64 0, .int .i64 0, .int .i64 0, .int .i64 0, .slice none 0 0, .int .i64 0, .int .i64 0, .int .i64 0, .int .i64 0, .int .i64 0, .int .i64 0, .int .i64 0, .int .i64 0, .int .i64 0, .int .i64 0, .int .i64 0, .slice none 0 0, .slice none 0 0, .slice none 0 0, .int .i64 0, .int .i64 0, .int .i64 0, .int .i64 0, .int .i64 0, .int .i64 0] T.zipIdx = T.toArray := (by have := fold_set T 0 #[.int .i64 0, .int .i64 0, .int .i64 0, .int .i64 0, .int .i64 0, .int .i64 0, .int .i64 0, .int .i64 0, .slice none 0 0, .int .i64 0, .slice none 0 0, .int .i64 0, .int .i64 0, .int .i64 0, .int .i64 0, .int .i64 0, .int .i64 0, .int .i64 0, .int .i64 0, .int .i64 0, .int .i64 0, .int .i64 0, .int .i64 0, .int .i64 0, .int .i64 0, .int .i64 0, .slice none 0 0, .int .i64 0, .int .i64 0, .int .i64 0, .int .i64 0, .int .i64 0, .int .i64 0, .int .i64 0, .int .i64 0, .int .i64 0, .int .i64 0, .int .i64 0, .slice none 0 0, .slice none 0 0, .slice none 0 0, .int .i64 0, .int .i64 0, .int .i64 0, .int .i64 0, .int .i64 0, .int .i64 0] (by rw [hTl]; rfl); simpa using this); clear hm5 hb5 hT)
        | (refine step_append_lies _ (by rfl) _ _ _ (by rfl) w.heap.size 119 iz _ 47 472 Tryz.underlying104 hiz hz0 hz1 hz2 rfl (by omega) (.slice ta k tcap) k (rowsOf q).flatten (by rfl) (World.ownsRow.alloc (by exact (HI5.out).thr) _)
             ⟨w5.heap.size, 0, none⟩ 1 1 T (by rfl) (by rw [(HT.out).2.1]) (World.news_of_block (cs := T.toArray) (t := 119) (fr := (0, 0)) (by exact heap_alloc_new w5 _)) (HT.out).2.2
             (by omega) (by unfold maxLen; omega) (by omega) (by simp; omega) (w5.heap.size + 1) (by simp) ?_; intro gg cap7 w7 hown1 hgrow hat hlt7;
             have hd8 : w7.cell? ⟨wb, 1, none⟩ = some (.slice ta k tcap) := (by rw [hgrow.cell_far _ (by simp; omega) (Ne.symm hpne)]; exact ((HI5.out).below ((Below.refl _ _).alloc (Nat.le_refl _) _)).wst.cell 1);
             have he8 : w7.frozen? ⟨wb, 1, none⟩ = false := (by rw [hgrow.frozen_far _ (by simp; omega) (Ne.symm hpne)]; exact ((HI5.out).below ((Below.refl _ _).alloc (Nat.le_refl _) _)).wst.frozen 1)))
   all_goals
    have HI8 : Hid (BI w.heap.size nb wb sb (sb + 1) Ds.length Ds.length #[.int .i64 c.t, .int .i64 c.wd, .int .i64 c.s, .int .i64 c.g, .int .i64 c.r, .int .i64 c.cp, .int .i64 c.f, .slice ma mem.length mc, .slice ja jobs.length jc] c jobs Ds (some ⟨gg, 0, none⟩) cap7 (k + 1) (q ++ [(tInit c jobs k, L0 ma5 mc5)]) (w7.setCell ⟨wb, 1, none⟩ (.slice (some ⟨gg, 0, none⟩) (k + 1) cap7))) :=
     BI.add HI.out (HM5.out).2 (HM5.out).1 hbs ((Below.refl _ _).alloc (Nat.le_refl _) _) hgrow ((HT.out).1 ▸ hown1)
    have HB8 : Hid (Below w.heap.size w (w7.setCell ⟨wb, 1, none⟩ (.slice (some ⟨gg, 0, none⟩) (k + 1) cap7))) :=
     bi_below HB.out (HM5.out).2 ((Below.refl _ _).alloc (Nat.le_refl _) _) (HI.out).thr hgrow HWb.out _
    clear HI HB HI5 HM5 HT HNw hown1 hgrow hat hlt7 hd8 he8 hfold hTl n1 m0 m1 hwb5 hwb6 hbs5 hwbl hpne hbs
    generalize w7.setCell ⟨wb, 1, none⟩ (.slice (some ⟨gg, 0, none⟩) (k + 1) cap7) = w8 at *
    go_wp2_with fail
    go_roundg (gk - 1)
    case rel => exact ⟨k + 1, some ⟨gg, 0, none⟩, cap7, q ++ [(tInit c jobs k, L0 ma5 mc5)], by simp, by omega, by omega, HI8, HB8⟩
    case measure => omega
  ·have hkj : k = tn := by omega
   subst hkj
   have hlt2 : ¬ ((k : Int) < c.t) := by omega
   have m2 := (HI.out).res.cell
   have hf2 := (HI.out).res.frozen
   have hl2 : sb + 1 < wr.heap.size := (HI.out).res.lt
   have hwr : wb ≠ sb + 1 := (HI.out).sne
   have HRs : Hid (Blk wr (sb + 1) 106 #[.slice none 0 0, .slice none 0 0, .int .i64 0]) := (HI.out).res
   go_wp2_with fail
   obtain ⟨hc, hmw, hmb⟩ := HC.out
   have hsb : w.heap.size ≤ sb + 1 := by have := HSb.out; omega
   refine bodyPost_ret (v := .agg #[.slice (some ⟨nb, 0, none⟩) Ds.length Ds.length, .slice ta k tcap, .int .i64 0]) ?_ rfl (begun_of hc hmw hmb hjl hbase htn (by omega) HDs.out HI.out HB.out ((((Only.refl _ _).set).set).set) hsb)
   have hb : Blk (((wr.setCell ⟨sb + 1, 0, none⟩ (.slice (some ⟨nb, 0, none⟩) Ds.length Ds.length)).setCell ⟨sb + 1, 1, none⟩ (.slice ta k tcap)).setCell ⟨sb + 1, 2, none⟩ (.int .i64 0)) (sb + 1) 106 #[.slice (some ⟨nb, 0, none⟩) Ds.length Ds.length, .slice ta k tcap, .int .i64 0] := ((HRs.out).set.set.set).congr (by simp)
   generalize ((wr.setCell ⟨sb + 1, 0, none⟩ (.slice (some ⟨nb, 0, none⟩) Ds.length Ds.length)).setCell ⟨sb + 1, 1, none⟩ (.slice ta k tcap)).setCell ⟨sb + 1, 2, none⟩ (.int .i64 0) = w9 at *
   have h9 := hb.cell
   clear HI HB HRs m0 m1 m2 hf2
   simp [results, Tryz.results66, go_sem, h9]
end Go.Proofs.YtejadojilncbjaaGreat
