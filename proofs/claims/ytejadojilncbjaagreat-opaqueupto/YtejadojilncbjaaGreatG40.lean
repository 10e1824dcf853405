import Derived.Test.YtejadojilncbjaaGreatG35
import Derived.Test.YtejadojilncbjaaGreatG19
import Derived.Test.YtejadojilncbjaaGreatG39
import Derived.Test.YtejadojilncbjaaGreatG18
import Derived.Deep.Upon
import Derived.Test.YtejadojilncbjaaGreatG23
import Derived.Test.YtejadojilncbjaaGreatG32
namespace Go.Proofs.YtejadojilncbjaaGreat
open Go.RowKit
set_option linter.unusedVariables false
attribute [local go_sem ↓] Go.wp_at_zero Go.wp_at_succ

/-- What cells.New leaves: the numbers in a block of their own. -/
def NewIs (base : Nat) (mem : List Int) (w : World) (e : Ending) (w' : World) : Prop :=
  ∃ nb, e = .returned (.agg #[.slice (some ⟨nb, 0, none⟩) (base + mem.length) (base + mem.length)]) ∧ Blk w' nb 3 ((List.replicate base (0 : Int) ++ mem).map (Value.int .i64 ·)).toArray ∧ Below w.heap.size w w' ∧ w.heap.size ≤ nb

set_option maxRecDepth 100000 in
set_option maxHeartbeats 4000000 in
theorem newCells_any (c : Cfg) (base : Nat) (ma : Option Addr) (mc : Nat) (mem : List Int) (w : World) (hb : (base : Int) = 3 + 2 * c.s + c.t) (hm1 : 1 ≤ mem.length) (hm2 : mem.length ≤ 8) (g1 : 0 ≤ c.s) (g2 : c.s ≤ 100) (t1 : 0 ≤ c.t) (t2 : c.t ≤ 100) (hm : Ints w w.heap.size ma mem) :
    Calls Tryz.prog 79 #[.agg #[.int .i64 c.t, .int .i64 c.wd, .int .i64 c.s, .int .i64 c.g, .int .i64 c.r, .int .i64 c.cp, .int .i64 c.f], .slice ma mem.length mc] w (NewIs base mem w) := by
  have HI : Hid (Ints w w.heap.size ma mem) := hm
  have HB : Hid ((base : Int) = 3 + 2 * c.s + c.t) := hb
  have hbs : base ≤ 303 := by omega
  obtain ⟨N, hN⟩ : ∃ N, N = base + mem.length := ⟨_, rfl⟩
  have hmk := run_make3 N (by omega)
  obtain ⟨Z, hZ⟩ : ∃ Z, Z = List.replicate N (Value.int .i64 0) := ⟨_, rfl⟩
  have hZl : Z.length = N := by rw [hZ]; simp
  rw [← hZ] at hmk
  obtain ⟨i0, h1, h2, h3, h4⟩ := info_parts Tryz.info3
  have hsz : (Tryz.prog.info? 3).map (·.size) = some 1 := by rw [h1]; simp [h3]
  obtain ⟨CS, hCS⟩ : ∃ CS, CS = mem.map (Value.int .i64 ·) := ⟨_, rfl⟩
  have hCl : CS.length = mem.length := by rw [hCS]; simp
  have HOne : Hid (∀ v ∈ CS, v.oneCell' = true) := fun v hv => by
    rw [hCS] at hv
    obtain ⟨z, _, rfl⟩ := List.mem_map.1 hv
    rfl
  have HSp : Hid ((splice Z base CS) = ((List.replicate base (0 : Int) ++ mem).map (Value.int .i64 ·))) := by
    show _ = _
    unfold splice
    rw [hCS, hZ, hN]
    simp
  have HSrc : Hid (∀ wx : World, Below w.heap.size w wx → 0 < CS.length → ∃ ad, ma = some ad ∧ ∀ j v, CS[j]? = some v → wx.cell? (ad.add j) = some v) := fun wx hbx hp => by
    obtain ⟨b, off, ha, hlt, hc⟩ := HI.out 0 (by omega)
    refine ⟨_, ha, fun j v hj => ?_⟩
    have hjl : j < mem.length := by have := (List.getElem?_eq_some_iff.1 hj).1; omega
    obtain ⟨b', off', ha', hlt', hc'⟩ := HI.out j hjl
    rw [ha] at ha'
    cases ha'
    rw [hCS, List.getElem?_map, List.getElem?_eq_getElem hjl] at hj
    simp at hj
    subst hj
    have hcell : wx.cell? ⟨b, off + j, none⟩ = w.cell? ⟨b, off + j, none⟩ := World.cell?_of_block (hbx.block b hlt)
    rw [show ((⟨b, off, none⟩ : Addr).add j) = ⟨b, off + j, none⟩ from by simp [Addr.add], hcell, hc']
    simp [List.getD, List.getElem?_eq_getElem hjl]
  have HN : Hid (N = base + mem.length) := hN
  have hw1 : hWrd ⟨c, 0, []⟩ (mem.length : Int) = (N : Int) := by unfold hWrd; simp only; omega
  have hw0 : hWrd ⟨c, 0, []⟩ 0 = (base : Int) := by unfold hWrd; simp only; omega
  have HW1 : Hid (hWrd ⟨c, 0, []⟩ (mem.length : Int) = (N : Int)) := hw1
  have HW0 : Hid (hWrd ⟨c, 0, []⟩ 0 = (base : Int)) := hw0
  have hN1 : base ≤ N := by omega
  have hNm : N - base = mem.length := by omega
  clear hm hb hCS h2 h3 h4 hZ hw1 hw0 hN
  go_enter Tryz.func79, Tryz.ntmps79
  go_wp2_with fail
  obtain ⟨w1, hw1⟩ : ∃ w1, w1 = (w.alloc (.cells #[.int .i64 c.t, .int .i64 c.wd, .int .i64 c.s, .int .i64 c.g, .int .i64 c.r, .int .i64 c.cp, .int .i64 c.f] 23)).alloc (.cells #[.slice none 0 0] 103) := ⟨_, rfl⟩
  obtain ⟨ob, hob⟩ : ∃ ob, ob = w.heap.size := ⟨_, rfl⟩
  have hB1 : Below w.heap.size w w1 := by rw [hw1]; exact ((Below.refl _ _).alloc (Nat.le_refl _) _).alloc (by simp) _
  have HC1 : Hid (Blk w1 ob 23 #[.int .i64 c.t, .int .i64 c.wd, .int .i64 c.s, .int .i64 c.g, .int .i64 c.r, .int .i64 c.cp, .int .i64 c.f]) := by rw [hw1, hob]; exact (Blk.new w 23 _).alloc _
  have HR1 : Hid (Blk w1 (ob + 1) 103 #[.slice none 0 0]) := by
    have := Blk.new (w.alloc (.cells #[.int .i64 c.t, .int .i64 c.wd, .int .i64 c.s, .int .i64 c.g, .int .i64 c.r, .int .i64 c.cp, .int .i64 c.f] 23)) 103 #[.slice none 0 0]
    rw [hw1, hob]
    exact (by simpa using this : Blk _ (w.heap.size + 1) 103 _)
  have HB1 : Hid (Below w.heap.size w w1) := hB1
  have hs1 : ob + 2 ≤ w1.heap.size := by rw [hw1, hob]; simp
  have HOb : Hid (w.heap.size = ob) := hob.symm
  rw [← hw1, ← hob]
  clear hw1 hob hB1
  refine (wordCell_any c ⟨c, 0, []⟩ rfl _ w1 (by omega) (by omega) g1 (by omega) t1 (by omega)).mono ?_
  rintro e w2 ⟨rfl, hb2⟩
  rw [show hWrd ⟨c, 0, []⟩ (mem.length : Int) = (N : Int) from HW1.out]
  have HC2 : Hid (Blk w2 ob 23 #[.int .i64 c.t, .int .i64 c.wd, .int .i64 c.s, .int .i64 c.g, .int .i64 c.r, .int .i64 c.cp, .int .i64 c.f]) := (HC1.out).below hb2 (by omega)
  have HR2 : Hid (Blk w2 (ob + 1) 103 #[.slice none 0 0]) := (HR1.out).below hb2 (by omega)
  have HB2 : Hid (Below w.heap.size w w2) := (HB1.out).trans (hb2.mono (HB1.out).size)
  have hs2 : ob + 2 ≤ w2.heap.size := Nat.le_trans hs1 hb2.size
  have hcc := (HC2.out).cell
  clear HC1 HR1 HB1 hb2 hs1
  have hcn : ob ≠ w2.heap.size := by omega
  have hlt2 : ob < w2.heap.size := by omega
  go_wp2_with fail
  obtain ⟨w3, hw3⟩ : ∃ w3, w3 = w2.alloc (.cells Z.toArray 3) := ⟨_, rfl⟩
  obtain ⟨nb, hnb⟩ : ∃ nb, nb = w2.heap.size := ⟨_, rfl⟩
  have hB23 : Below w2.heap.size w2 w3 := by rw [hw3]; exact (Below.refl _ _).alloc (Nat.le_refl _) _
  have HZ3 : Hid (Blk w3 nb 3 Z.toArray) := by rw [hw3, hnb]; exact Blk.new w2 3 _
  have HR3 : Hid (Blk w3 (ob + 1) 103 #[.slice none 0 0]) := (HR2.out).below hB23 (by omega)
  have HB3 : Hid (Below w.heap.size w w3) := (HB2.out).trans (hB23.mono (HB2.out).size)
  have hnb3 : ob + 2 ≤ nb := by omega
  rw [← hw3, ← hnb]
  clear hw3 hnb hB23 HC2 HR2 HB2 hcc hcn hlt2 hs2
  refine (wordCell_any c ⟨c, 0, []⟩ rfl 0 w3 (by omega) (by omega) g1 (by omega) t1 (by omega)).mono ?_
  rintro e w4 ⟨rfl, hb4⟩
  rw [show hWrd ⟨c, 0, []⟩ 0 = (base : Int) from HW0.out]
  have HZ4 : Hid (Blk w4 nb 3 Z.toArray) := (HZ3.out).below hb4 (HZ3.out).lt
  have HR4 : Hid (Blk w4 (ob + 1) 103 #[.slice none 0 0]) := (HR3.out).below hb4 (HR3.out).lt
  have HB4 : Hid (Below w.heap.size w w4) := (HB3.out).trans (hb4.mono (HB3.out).size)
  clear HZ3 HR3 HB3 hb4
  have hb0 : (0 : Int) ≤ (base : Int) := by omega
  have hb1 : (base : Int) ≤ (N : Int) := by omega
  have HFit : Hid (base + CS.length ≤ Z.length) := by show _ ≤ _; omega
  have HLe : Hid (w.heap.size ≤ nb) := by have := HOb.out; show _ ≤ _; omega
  have HLr : Hid (ob + 1 < w4.heap.size) := (HR4.out).lt
  have hrn : ob + 1 ≠ nb := by omega
  have hrc := (HR4.out).cell
  have hrf := (HR4.out).frozen
  go_wp2_with
    (refine wpList_copy_splice (by rfl) _ _ _ _ (by rfl) 3 Tryz.underlying24 hsz (some ⟨nb, base, none⟩) ma mem.length mem.length mem.length mc (by rfl) (by rfl) nb base Z 3 (by exact HZ4.out) CS (by rw [hCl]; simp)
       (fun hp => ⟨rfl, HSrc.out _ HB4.out hp⟩) HFit.out HOne.out nb w4 (by exact Below.refl _ _) (Nat.le_refl _) ?_;
     intro w5 hrow hbel;
     have HR5 : Hid (Blk w5 (ob + 1) 103 #[.slice none 0 0]) := (HR4.out).below hbel (by omega);
     have hrc5 := (HR5.out).cell;
     have hrf5 := (HR5.out).frozen)
  have hs := (HR5.out).set (i := 0) (v := .slice (some ⟨nb, 0, none⟩) N N)
  have ho : Only (ob + 1) w5 (w5.setCell ⟨ob + 1, 0, none⟩ (.slice (some ⟨nb, 0, none⟩) N N)) := (Only.refl _ _).set
  have hq : (w5.setCell ⟨ob + 1, 0, none⟩ (.slice (some ⟨nb, 0, none⟩) N N)).cell? ⟨ob + 1, 0, none⟩ = some (.slice (some ⟨nb, 0, none⟩) N N) := by rw [hs.cell]; simp
  refine bodyPost_ret (v := .agg #[.slice (some ⟨nb, 0, none⟩) N N]) (by simp [results, Tryz.results79, go_sem, hq]) rfl ⟨nb, ?_, ?_, ?_, HLe.out⟩
  · rw [HN.out]
  · have h : Blk w5 nb 3 (splice Z base CS).toArray := hrow.out
    rw [HSp.out] at h
    exact h.only ho (by omega)
  · exact below_only ((HB4.out).trans (hbel.mono HLe.out)) ho (by have := HOb.out; omega) ((HB4.out).trans (hbel.mono HLe.out)).size

end Go.Proofs.YtejadojilncbjaaGreat

namespace Go.Proofs.YtejadojilncbjaaGreat
open Go.RowKit
set_option linter.unusedVariables false
attribute [local go_sem ↓] Go.wp_at_zero Go.wp_at_succ

def tInit (c : Cfg) (jobs : List (Int × List InsD)) (i : Nat) : PT := yBegin (t0 c i (mineF i 0 jobs))

theorem init_sim (c : Cfg) (jobs : List (Int × List InsD)) (i : Nat) : Sim (cxOf c jobs i) (tInit c jobs i) (hInit (cxOf c jobs i)) := by
  have hT : TolF (cxOf c jobs i) (mineF i 0 jobs) 0 [] (t0 c i (mineF i 0 jobs)).told [] ((cxOf c jobs i).jobs.map fun _ => ⟨0, 0, 0, 0, 0⟩) := by
    refine ⟨rfl, Nat.zero_le _, Or.inl rfl, by simp, rfl, fun j hj => absurd hj (Nat.not_lt_zero _), fun j _ => ?_⟩
    simp only [List.getD, List.getElem?_map]
    cases (cxOf c jobs i).jobs[j]? <;> rfl
  unfold tInit hInit hTo
  rcases seek_mine (cxOf c jobs i).me (cxOf c jobs i).jobs ((cxOf c jobs i).jobs.drop 0) 0 rfl with ⟨h1, h2⟩ | ⟨k, h1, h2, h3, h4⟩
  · rw [h1]
    have h2' : mineF (i : Int) 0 jobs = [] := by simpa [cxOf] using h2
    unfold yBegin
    rw [if_neg (show ¬ (t0 c i (mineF i 0 jobs)).cur < (t0 c i (mineF i 0 jobs)).mine.length by show ¬ 0 < (mineF (i : Int) 0 jobs).length; rw [h2']; simp)]
    exact Or.inl ⟨rfl, rfl, hT⟩
  · rw [h1]
    have h4' : mineF (i : Int) 0 jobs = (k : Int) :: mineF (i : Int) (k + 1) (jobs.drop (k + 1)) := by simpa [cxOf] using h4
    have b1 : Bas (cxOf c jobs i) (t0 c i (mineF i 0 jobs)) { (⟨0, 0, [], (cxOf c jobs i).jobs.map fun _ => ⟨0, 0, 0, 0, 0⟩, 0, newTS [] 0, .idle⟩ : Th) with rank := 0, fails := 0, job := k, st := .start } := ⟨rfl, rfl, rfl, rfl, h2, h3, h4', hT⟩
    exact sim_start b1 rfl

theorem init_own (c : Cfg) (jobs : List (Int × List InsD)) (i : Nat) (hj : jobs.length ≤ 8) : Own5 0 (tInit c jobs i) := by
  have h := mineF_len (i : Int) jobs 0
  unfold tInit yBegin
  split
  · exact ⟨⟨Int.le_refl _, Int.le_refl _⟩, by show (mineF (i : Int) 0 jobs).length ≤ 100; omega, Nat.zero_le _, by show (0 : Int) ≤ 8; decide, by show ((0 : Nat) : Int) ≤ 60 * 0; decide⟩
  · exact ⟨⟨Int.le_refl _, Int.le_refl _⟩, by show (mineF (i : Int) 0 jobs).length ≤ 100; omega, Nat.zero_le _, by show (0 : Int) ≤ 8; decide, by show ((0 : Nat) : Int) ≤ 60 * 0; decide⟩

theorem init_rows {base : Nat} {w : World} {c : Cfg} {jobs : List (Int × List InsD)} {i : Nat} {ma : Option Addr} {mc : Nat} (h : w.ownsRow base 3 1 (.slice ma (mineF i 0 jobs).length mc) (mineF i 0 jobs).length (intCells (mineF i 0 jobs))) : RowsOk base w (tInit c jobs i) (L0 ma mc) := by
  have e : (tInit c jobs i).reads = [] ∧ (tInit c jobs i).writes = [] ∧ (tInit c jobs i).held = [] ∧ (tInit c jobs i).mine = mineF i 0 jobs ∧ (tInit c jobs i).notes = [] ∧ (tInit c jobs i).res = [] := by unfold tInit yBegin yLoad; split <;> exact ⟨rfl, rfl, rfl, rfl, rfl, rfl⟩
  obtain ⟨e1, e2, e3, e4, e5, e6⟩ := e
  refine ⟨?_, ?_, ?_, ?_, ?_, ?_, ?_⟩
  · rw [e1]; exact World.ownsRow_nil _ _ _ _
  · rw [e2]; exact World.ownsRow_nil _ _ _ _
  · rw [e3]; exact World.ownsRow_nil _ _ _ _
  · rw [e4]; exact h
  · rw [e3]; intro k hk; simp [Value.ownBlock, L0] at hk
  · rw [e5]; exact World.ownsRow_nil _ _ _ _
  · rw [e6]; exact World.ownsRow_nil _ _ _ _

theorem L0_own {ma : Option Addr} {mc k : Nat} (h : Own (L0 ma mc) k) : oB ma = some k := by
  unfold Own at h
  simp [L0, oB] at h
  simpa [oB] using h

/-- The threads so far. -/
structure BI (base nb wb sb r2 N cap : Nat) (S : Array Value) (c : Cfg) (jobs : List (Int × List InsD)) (Ds : List Int) (ta : Option Addr) (tcap k : Nat) (q : List (PT × Ls)) (w : World) : Prop where
  setup : Blk w sb 27 S
  res : Blk w r2 106 #[.slice none 0 0, .slice none 0 0, .int .i64 0]
  wst : Blk w wb 106 #[.slice (some ⟨nb, 0, none⟩) N cap, .slice ta k tcap, .int .i64 0]
  num : Blk w nb 3 (Ds.map (Value.int .i64 ·)).toArray
  thr : w.ownsRow base 119 47 (.slice ta k tcap) k (rowsOf q).flatten
  ql : q.length = k
  rows : ∀ i (h : i < q.length), RowsOk base w q[i].1 q[i].2
  dis : ∀ i j (hi : i < q.length) (hj : j < q.length), i ≠ j → ∀ k, Own q[i].2 k → ¬ Own q[j].2 k
  nown : ∀ i (h : i < q.length), ¬ Own q[i].2 nb
  init : ∀ i (h : i < q.length), q[i].1 = tInit c jobs i
  nbb : base ≤ nb
  sne : wb ≠ r2

theorem ownsRow_low {w : World} {base base' : Nat} {e : TypeId} {size n : Nat} {v : Value} {xs : List Value} (h : w.ownsRow base e size v n xs) (hb : base' ≤ base) : w.ownsRow base' e size v n xs :=
  ⟨h.1, h.2.imp id (fun ⟨g, cap, cur, hv, hb', r⟩ => ⟨g, cap, cur, hv, Nat.le_trans hb hb', r⟩)⟩
theorem ownsRow_below {w w' : World} {base : Nat} {e : TypeId} {size n : Nat} {v : Value} {xs : List Value} (h : w.ownsRow base e size v n xs) (hb : Below w.heap.size w w') : w'.ownsRow base e size v n xs :=
  ownsRow_same h (fun k hk => hb.block k (h.lt k hk).2)

theorem BI.below {base nb wb sb r2 N cap : Nat} {S : Array Value} {c : Cfg} {jobs : List (Int × List InsD)} {Ds : List Int} {ta : Option Addr} {tcap k : Nat} {q : List (PT × Ls)} {w w' : World} (I : BI base nb wb sb r2 N cap S c jobs Ds ta tcap k q w) (h : Below w.heap.size w w') :
    BI base nb wb sb r2 N cap S c jobs Ds ta tcap k q w' :=
  ⟨I.setup.below h I.setup.lt, I.res.below h I.res.lt, I.wst.below h I.wst.lt, I.num.below h I.num.lt, ownsRow_below I.thr h, I.ql, fun i hi => (I.rows i hi).kept (fun k o => h.block k ((I.rows i hi).own k o).2), I.dis, I.nown, I.init, I.nbb, I.sne⟩

theorem BI.add {base nb wb sb r2 N cap : Nat} {S : Array Value} {c : Cfg} {jobs : List (Int × List InsD)} {Ds : List Int} {ta : Option Addr} {tcap k : Nat} {q : List (PT × Ls)} {w w5 w6 w7 : World} {ma : Option Addr} {mc g cap' : Nat} (I : BI base nb wb sb r2 N cap S c jobs Ds ta tcap k q w)
    (hb5 : Below w.heap.size w w5) (hm : w5.ownsRow w.heap.size 3 1 (.slice ma (mineF k 0 jobs).length mc) (mineF k 0 jobs).length (intCells (mineF k 0 jobs))) (hbs : base ≤ w.heap.size) (hb6 : Below w5.heap.size w5 w6)
    (hgr : w6.grownBy w7 (Value.slice ta k tcap).ownBlock) (hown : w7.ownsRow base 119 47 (.slice (some ⟨g, 0, none⟩) (k + 1) cap') (k + 1) ((rowsOf q).flatten ++ tArr (tInit c jobs k) (L0 ma mc))) :
    BI base nb wb sb r2 N cap S c jobs Ds (some ⟨g, 0, none⟩) cap' (k + 1) (q ++ [(tInit c jobs k, L0 ma mc)]) (w7.setCell ⟨wb, 1, none⟩ (.slice (some ⟨g, 0, none⟩) (k + 1) cap')) := by
  have I6 := (I.below hb5).below hb6
  have hm6 := ownsRow_below hm hb6
  have tag7 : ∀ {b : Nat} {T : TypeId} {cs : Array Value}, Blk w6 b T cs → (119 : Nat) ≠ T → Blk w7 b T cs := fun h ht => (hgr.block _ h.lt (fun e => own_tag I6.thr h ht _ e.symm rfl)).trans h
  have ho : Only wb w7 (w7.setCell ⟨wb, 1, none⟩ (.slice (some ⟨g, 0, none⟩) (k + 1) cap')) := (Only.refl _ _).set
  have hs7 := tag7 I6.setup (by decide)
  have hr7 := tag7 I6.res (by decide)
  have hw7 := tag7 I6.wst (by decide)
  have hn7 := tag7 I6.num (by decide)
  have row7 : ∀ {e size n : Nat} {v : Value} {xs : List Value} {b0 : Nat}, w6.ownsRow b0 e size v n xs → e ≠ 119 → e ≠ 106 → (w7.setCell ⟨wb, 1, none⟩ (.slice (some ⟨g, 0, none⟩) (k + 1) cap')).ownsRow b0 e size v n xs := fun {e size n v xs b0} h he he2 => by
    have h7 : w7.ownsRow b0 e size v n xs := ownsRow_same h (fun q hq => hgr.block q (h.lt q hq).2 (fun e2 => by
      rcases h.2 with ⟨rfl, _⟩ | ⟨g1, cap1, cur1, rfl, _, hg1, _⟩
      · simp [Value.ownBlock] at hq
      · simp [Value.ownBlock] at hq
        subst hq
        exact own_tag I6.thr hg1 (Ne.symm he) _ e2.symm rfl))
    exact ownsRow_only h7 ho (own_tag h7 hw7 he2)
  have rows7 : ∀ {t : PT} {L : Ls}, RowsOk base w6 t L → RowsOk base (w7.setCell ⟨wb, 1, none⟩ (.slice (some ⟨g, 0, none⟩) (k + 1) cap')) t L := fun R => ⟨row7 R.rd (by decide) (by decide), row7 R.wr (by decide) (by decide), row7 R.hd (by decide) (by decide), row7 R.mi (by decide) (by decide), R.ne, row7 R.nt (by decide) (by decide), row7 R.sr (by decide) (by decide)⟩
  have hnew : ∀ b, Own (L0 ma mc) b → w.heap.size ≤ b := fun b o => by
    have := L0_own o
    rw [← oB_eq ma (mineF k 0 jobs).length mc] at this
    exact (hm.lt b this).1
  have hold : ∀ i (hi : i < q.length) b, Own q[i].2 b → b < w.heap.size := fun i hi b o => ((I.rows i hi).own b o).2
  have hget : ∀ i (h : i < (q ++ [(tInit c jobs k, L0 ma mc)]).length), (∃ h' : i < q.length, (q ++ [(tInit c jobs k, L0 ma mc)])[i] = q[i]) ∨ (i = k ∧ (q ++ [(tInit c jobs k, L0 ma mc)])[i] = (tInit c jobs k, L0 ma mc)) := fun i h => by
    by_cases hi : i < q.length
    · exact Or.inl ⟨hi, List.getElem_append_left hi⟩
    · have : i = q.length := by simp at h; omega
      subst this
      exact Or.inr ⟨I.ql, by simp⟩
  refine ⟨hs7.only ho (Blk.ne hs7 hw7 (by decide)), hr7.only ho (Ne.symm I.sne), ?_, hn7.only ho (Blk.ne hn7 hw7 (by decide)), ?_, by simp [I.ql], ?_, ?_, ?_, ?_, I.nbb, I.sne⟩
  · exact hw7.set.congr (by simp)
  · have := ownsRow_only hown ho (own_tag hown hw7 (by decide))
    unfold rowsOf at this ⊢
    simpa [List.flatten_append] using this
  · intro i hi
    rcases hget i hi with ⟨h', e⟩ | ⟨e1, e⟩
    · rw [e]; exact rows7 (I6.rows i h')
    · rw [e]; exact rows7 (init_rows (ownsRow_low hm6 hbs))
  · intro a b ha hb hab x oa ob
    rcases hget a ha with ⟨ha', ea⟩ | ⟨ea1, ea⟩ <;> rcases hget b hb with ⟨hb', eb⟩ | ⟨eb1, eb⟩
    · rw [ea] at oa; rw [eb] at ob; exact I.dis a b ha' hb' hab x oa ob
    · rw [ea] at oa; rw [eb] at ob; have := hold a ha' x oa; have := hnew x ob; omega
    · rw [ea] at oa; rw [eb] at ob; have := hold b hb' x ob; have := hnew x oa; omega
    · omega
  · intro i hi o
    rcases hget i hi with ⟨h', e⟩ | ⟨e1, e⟩
    · rw [e] at o; exact I.nown i h' o
    · rw [e] at o; have := hnew nb o; have := I.num.lt; omega
  · intro i hi
    rcases hget i hi with ⟨h', e⟩ | ⟨e1, e⟩
    · rw [e]; exact I.init i h'
    · rw [e, e1]

end Go.Proofs.YtejadojilncbjaaGreat

namespace Go.Proofs.YtejadojilncbjaaGreat
open Go.RowKit
set_option linter.unusedVariables false

/-! Attempts in memory, each with the slice of its notes. -/

def avCells (q : AttD × Value) : List Value := attCells q.1 q.2
/-- The notes of a row of attempts. -/
def NotesOf (w : World) (AN : List (AttD × Value)) : Prop := ∀ q ∈ AN, w.ownsRow 0 95 3 q.2 q.1.notes.length (q.1.notes.flatMap noteCells)

/-- A row of attempts. -/
def AttsRow (w : World) (base : Nat) (a : Option Addr) (c : Nat) (AN : List (AttD × Value)) : Prop := w.ownsRow base 63 8 (.slice a AN.length c) AN.length (AN.flatMap avCells)

theorem av_len (AN : List (AttD × Value)) : (AN.flatMap avCells).length = AN.length * 8 := flat_len (f := avCells) (n := 8) (fun _ => rfl) AN

/-- The cells of a row of attempts. -/
theorem AttsRow.cells {w : World} {base : Nat} {a : Option Addr} {c : Nat} {AN : List (AttD × Value)} (h : AttsRow w base a c AN) (hn : 0 < AN.length) :
    ∃ b, a = some ⟨b, 0, none⟩ ∧ base ≤ b ∧ b < w.heap.size ∧ ∀ j u, (AN.flatMap avCells)[j]? = some u → w.cell? ⟨b, j, none⟩ = some u := by
  obtain ⟨g, cap, cur, hv, hb, hg, h1, h2, h3, h4⟩ := own_block h hn
  injection hv with ha
  refine ⟨g, ha, hb, lt_of_heap hg, fun j u hj => ?_⟩
  have hl := av_len AN
  have hjl : j < AN.length * 8 := by
    rw [← hl]
    exact (List.getElem?_eq_some_iff.1 hj).1
  rw [Blk.cell hg, ← hj, ← h4, List.getElem?_take_of_lt hjl]
  simp

/-- .. one attempt of them. -/
theorem AttsRow.at {w : World} {base : Nat} {a : Option Addr} {c : Nat} {AN : List (AttD × Value)} (h : AttsRow w base a c AN) (k : Nat) (q : AttD × Value) (hk : AN[k]? = some q) :
    ∃ b, a = some ⟨b, 0, none⟩ ∧ b < w.heap.size ∧ w.cell? ⟨b, k * 8, none⟩ = some (.int .i64 q.1.thread) ∧ w.cell? ⟨b, k * 8 + 1, none⟩ = some (.int .i64 q.1.job) ∧ w.cell? ⟨b, k * 8 + 2, none⟩ = some (.int .i64 q.1.start) ∧ w.cell? ⟨b, k * 8 + 3, none⟩ = some (.int .i64 q.1.fin) ∧
      w.cell? ⟨b, k * 8 + 4, none⟩ = some (.int .i64 q.1.valid) ∧ w.cell? ⟨b, k * 8 + 5, none⟩ = some (.int .i64 q.1.stamp) ∧ w.cell? ⟨b, k * 8 + 6, none⟩ = some (.int .i64 q.1.fate) ∧ w.cell? ⟨b, k * 8 + 7, none⟩ = some q.2 := by
  have hkl := (List.getElem?_eq_some_iff.1 hk).1
  obtain ⟨b, ha, _, hb, hc⟩ := h.cells (by omega)
  have e : ∀ j, j < 8 → w.cell? ⟨b, k * 8 + j, none⟩ = (avCells q)[j]? := fun j hj => by
    have h0 := flat_at (f := avCells) (n := 8) (fun _ => rfl) AN k j hj
    rw [hk] at h0
    have h1 : (AN.flatMap avCells)[k * 8 + j]? = (avCells q)[j]? := by rw [h0]; rfl
    have h2 : (avCells q)[j]? = some ((avCells q)[j]'(by simpa [avCells, attCells] using hj)) := List.getElem?_eq_getElem _
    rw [h2] at h1 ⊢
    exact hc _ _ h1
  exact ⟨b, ha, hb, e 0 (by omega), e 1 (by omega), e 2 (by omega), e 3 (by omega), e 4 (by omega), e 5 (by omega), e 6 (by omega), e 7 (by omega)⟩

/-! The order by Starts. -/

/-- How many attempts there are. -/
theorem starts_len : ∀ (l : List Int) (lo hi : Int), l.Pairwise (· < ·) → (∀ a ∈ l, lo < a ∧ a ≤ hi) → lo ≤ hi → (l.length : Int) ≤ hi - lo
  | [], lo, hi, _, _, h => by simp; omega
  | a :: l, lo, hi, hp, hb, h => by
    have h1 := hb a (by simp)
    have h2 := starts_len l a hi (List.pairwise_cons.1 hp).2 (fun b hb' => ⟨(List.pairwise_cons.1 hp).1 b hb', (hb b (by simp [hb'])).2⟩) h1.2
    simp
    omega
def histA (c : Cfg) (mem : List Int) (jobs : List (Int × List InsD)) (ps : List PickD) : List AttD := if errS c mem jobs = 0 then (⟨c, mem, jobs, ps⟩ : Rn).hist else []
/-- What History tells. -/
def HistIs (w : World) (l : List AttD) (ER : Int) (e : Ending) (w' : World) : Prop :=
  ∃ (la : Option Addr) (lc : Nat) (AN : List (AttD × Value)), AN.map (·.1) = l ∧ e = .returned (.tuple #[.slice la AN.length lc, .int .i64 ER]) ∧ AttsRow w' w.heap.size la lc AN ∧ NotesOf w' AN ∧ Below w.heap.size w w'

end Go.Proofs.YtejadojilncbjaaGreat

namespace Go.Proofs.YtejadojilncbjaaGreat
open Go.RowKit
set_option linter.unusedVariables false
attribute [local go_sem ↓] Go.wp_at_zero Go.wp_at_succ

theorem NotesOf.keep {chg : List TypeId} {B p eb : Nat} {w w' : World} {AN : List (AttD × Value)} (h : NotesOf w AN) (hk : Kp chg B p eb w w') (ht : 95 ∉ chg) : NotesOf w' AN := fun q hq => ownsRow_keep (h q hq) hk ht
theorem NotesOf.below {w w' : World} {AN : List (AttD × Value)} (h : NotesOf w AN) (hb : Below w.heap.size w w') : NotesOf w' AN := fun q hq => ownsRow_below (h q hq) hb

end Go.Proofs.YtejadojilncbjaaGreat

namespace Go.Proofs.YtejadojilncbjaaGreat
open Go.RowKit
set_option linter.unusedVariables false
attribute [local go_sem ↓] Go.wp_at_zero Go.wp_at_succ

/-- The program's book in memory: its attempts, and of each thread the place of the latest. -/
def BookB (w : World) (q : Nat) (aa : Option Addr) (n ac : Nat) (lat : List Int) : Prop := Blk w q 125 (.slice aa n ac :: lat.map (.int .i64 ·)).toArray ∧ lat.length = 4

set_option maxRecDepth 100000 in
set_option maxHeartbeats 1000000 in
theorem enter_new {base q : Nat} {aa : Option Addr} {ac : Nat} {lat : List Int} {AN : List (AttD × Value)} {w : World} (hB : BookB w q aa AN.length ac lat) (hr : AttsRow w base aa ac AN) (hbs : base ≤ w.heap.size) (hq : base ≤ q) (hnl : AN.length ≤ 2 ^ 38)
    (x : AttD) (na : Option Addr) (nc : Nat) (k : Nat) (hk : k < 4) (hth : x.thread = (k : Int)) :
    Calls Tryz.prog 69 #[.pointer (some ⟨q, 0, none⟩), .agg #[.int .i64 x.thread, .int .i64 x.job, .int .i64 x.start, .int .i64 x.fin, .int .i64 x.valid, .int .i64 x.stamp, .int .i64 x.fate, .slice na x.notes.length nc], .int .i64 x.start] w fun e w' =>
      e = .returned (.tuple #[]) ∧ (∃ (a' : Option Addr) (c' : Nat), BookB w' q a' (AN.length + 1) c' (lat.set k AN.length) ∧ AttsRow w' base a' c' (AN ++ [(x, .slice na x.notes.length nc)])) ∧ Kp [63, 125] base base base w w' := by
  obtain ⟨iA, hiA, hzA0, hzA1, hzA2⟩ := info_parts Tryz.info63
  obtain ⟨x0, x1, x2, x3, x4, x5, x6, xl⟩ := x
  simp only at hth ⊢
  subst hth
  obtain ⟨NN, HNN⟩ : ∃ NN, Hid (xl.length = NN) := ⟨_, rfl⟩
  rw [show xl.length = NN from HNN.out]
  obtain ⟨w0, hw0⟩ : ∃ w0, w0 = w.alloc (.cells #[.int .i64 (k : Int), .int .i64 x1, .int .i64 x2, .int .i64 x3, .int .i64 x4, .int .i64 x5, .int .i64 x6, .slice na NN nc] 63) := ⟨_, rfl⟩
  have hB0 : Below w.heap.size w w0 := by rw [hw0]; exact (Below.refl w.heap.size w).alloc (Nat.le_refl _) _
  have hT0 : Blk w0 w.heap.size 63 #[.int .i64 (k : Int), .int .i64 x1, .int .i64 x2, .int .i64 x3, .int .i64 x4, .int .i64 x5, .int .i64 x6, .slice na NN nc] := by rw [hw0]; exact Blk.new w 63 _
  have hb0 : Blk w0 q 125 (.slice aa AN.length ac :: lat.map (.int .i64 ·)).toArray := hB.1.below hB0 hB.1.lt
  have hqc : w0.cell? ⟨q, 0, none⟩ = some (.slice aa AN.length ac) := by rw [hb0.cell]; rfl
  have hqk : w0.cell? ⟨q, 1 + k, none⟩ = some (.int .i64 (lat.getD k 0)) := by
    rw [hb0.cell, Nat.add_comm]
    have := hB.2
    simp [List.getElem?_eq_getElem (show k < lat.length by omega), List.getD]
  have hqf := hb0.frozen
  have htc := hT0.cell
  have hk0 : (0 : Int) ≤ (k : Int) := by omega
  have hk4 : (k : Int) < 4 := by omega
  go_enter Tryz.func69, Tryz.ntmps69
  go_upto_region 1 with fail
  rw [← hw0]
  have HT0 : Hid (Blk w0 w.heap.size 63 #[.int .i64 (k : Int), .int .i64 x1, .int .i64 x2, .int .i64 x3, .int .i64 x4, .int .i64 x5, .int .i64 x6, .slice na NN nc]) := hT0
  have HB0 : Hid (Below w.heap.size w w0) := hB0
  have Hb0 : Hid (Blk w0 q 125 (.slice aa AN.length ac :: lat.map (.int .i64 ·)).toArray) := hb0
  clear hw0 hB0 hT0 hb0
  have HR0 : Hid (w0.ownsRow base 63 8 (.slice aa AN.length ac) AN.length (AN.flatMap avCells)) := ownsRow_below hr HB0.out
  have hqt : q ≠ w.heap.size := by have := hB.1.lt; omega
  have hqlt : q < w0.heap.size := (Hb0.out).lt
  have HQ4 : Hid (lat.length = 4) := hB.2
  have hbs0 : base ≤ w0.heap.size := Nat.le_trans hbs (HB0.out).size
  clear hr hB
  go_wp2_with fail
  go_still_tail 11, (by kernel_rfl)
  go_wp2_with fail
  obtain ⟨w1, hw1⟩ : ∃ w1, w1 = (w0.setCell ⟨q, 1 + k, none⟩ (.int .i64 (AN.length : Int))).drew := ⟨_, rfl⟩
  have hO1 : Only q w0 w1 := by rw [hw1]; exact ((Only.refl q w0).set).drew
  have HO1 : Hid (Only q w0 w1) := hO1
  have hb1 : Blk w1 q 125 (.slice aa AN.length ac :: (lat.set k (AN.length : Int)).map (.int .i64 ·)).toArray := by
    rw [hw1]
    have h := ((Hb0.out).set (i := 1 + k) (v := .int .i64 (AN.length : Int))).congr (ds := (.slice aa AN.length ac :: (lat.set k (AN.length : Int)).map (.int .i64 ·)).toArray) (by
      rw [Nat.add_comm 1 k]
      simp [List.map_set])
    exact h
  have Hb1 : Hid (Blk w1 q 125 (.slice aa AN.length ac :: (lat.set k (AN.length : Int)).map (.int .i64 ·)).toArray) := hb1
  have hT1 : Blk w1 w.heap.size 63 #[.int .i64 (k : Int), .int .i64 x1, .int .i64 x2, .int .i64 x3, .int .i64 x4, .int .i64 x5, .int .i64 x6, .slice na NN nc] := (HT0.out).only hO1 (Ne.symm hqt)
  have htc1 := hT1.cell
  have hq0 : w1.cell? ⟨q, 0, none⟩ = some (.slice aa AN.length ac) := by rw [hb1.cell]; rfl
  have hqf0 : w1.frozen? ⟨q, 0, none⟩ = false := hb1.frozen 0
  have HR1 : Hid (w1.ownsRow base 63 8 (.slice aa AN.length ac) AN.length (AN.flatMap avCells)) := ownsRow_only HR0.out hO1 (own_tag HR0.out Hb0.out (by decide))
  have hpne : (Value.slice aa AN.length ac).ownBlock ≠ some q := fun e => own_tag HR1.out Hb1.out (by decide) q e rfl
  have hq1 : q < w1.heap.size := hb1.lt
  have hbs1 : base ≤ w1.heap.size := Nat.le_trans hbs0 hO1.size
  rw [← hw1]
  clear hw1 hO1 hb1 hT1 htc hqc hqk hqf HR0
  go_region_law
    ((refine step_append_lies _ (by rfl) _ _ _ (by rfl) base 63 iA _ 8 80 Tryz.underlying51 hiA hzA0 hzA1 hzA2 rfl (by omega) (.slice aa AN.length ac) AN.length (AN.flatMap avCells) (by rfl) (((HR1.out).alloc _).drew)
        ⟨w1.heap.size, 0, none⟩ 1 1 [.int .i64 (k : Int), .int .i64 x1, .int .i64 x2, .int .i64 x3, .int .i64 x4, .int .i64 x5, .int .i64 x6, .slice na NN nc] (by rfl) (by rfl) (World.news_of_block (cs := #[.int .i64 (k : Int), .int .i64 x1, .int .i64 x2, .int .i64 x3, .int .i64 x4, .int .i64 x5, .int .i64 x6, .slice na NN nc]) (t := 63) (fr := (0, 0)) (heap_alloc_new w1 _)) (by simp [Value.oneCell'])
        (by omega) (by unfold maxLen; omega) (by omega) (by simp; omega) (w1.heap.size + 1) (by simp) ?_; intro gg cap w7 hown1 hgrow hat hlt7;
        have hd8 : w7.cell? ⟨q, 0, none⟩ = some (.slice aa AN.length ac) := (by rw [hgrow.cell_far _ (by simp; omega) (Ne.symm hpne)]; simpa [World.cell?_alloc_lt, hq1] using hq0);
        have he8 : w7.frozen? ⟨q, 0, none⟩ = false := (by rw [hgrow.frozen_far _ (by simp; omega) (Ne.symm hpne)]; simpa [World.frozen?_alloc_past, hq1] using hqf0)))
  all_goals
    go_wp2
    refine bodyPost_ret (v := .tuple #[]) (by first | rfl | simp [results, Tryz.results69, go_sem]) rfl ?_
    have K1 : Kp [63, 125] base base base w w0 := Kp.below HB0.out hbs
    have K2 : Kp [63, 125] base base base w0 w1 := Kp.only HO1.out hbs0 Hb0.out (by simp) (Or.inr (Or.inr hq))
    have K3 : Kp [63] base base base w1 w7 := (Kp.below (((Below.refl _ _).alloc (Nat.le_refl _) _).drew) hbs1).trans (Kp.grown hgrow (by simp; omega) (((HR1.out).alloc _).drew) (by simp))
    have hb7 : Blk w7 q 125 (.slice aa AN.length ac :: (lat.set k (AN.length : Int)).map (.int .i64 ·)).toArray := (Hb1.out).keep K3 (by decide)
    have hO8 : Only q w7 (w7.setCell ⟨q, 0, none⟩ (.slice (some ⟨gg, 0, none⟩) (AN.length + 1) cap)) := (Only.refl q w7).set
    have K4 : Kp [63, 125] base base base w7 (w7.setCell ⟨q, 0, none⟩ (.slice (some ⟨gg, 0, none⟩) (AN.length + 1) cap)) := Kp.only hO8 (Nat.le_trans hbs1 K3.size) hb7 (by simp) (Or.inr (Or.inr hq))
    refine ⟨rfl, ⟨some ⟨gg, 0, none⟩, cap, ⟨(hb7.set (i := 0) (v := .slice (some ⟨gg, 0, none⟩) (AN.length + 1) cap)).congr (by simp), by rw [List.length_set]; exact HQ4.out⟩, ?_⟩, ((K1.trans K2).trans (K3.wide (by simp))).trans K4⟩
    have h9 := ownsRow_only hown1 hO8 (own_tag hown1 hb7 (by decide))
    unfold AttsRow
    rw [List.length_append, List.flatMap_append]
    exact h9

end Go.Proofs.YtejadojilncbjaaGreat

namespace Go.Proofs.YtejadojilncbjaaGreat
open Go.RowKit
set_option linter.unusedVariables false
attribute [local go_sem ↓] Go.wp_at_zero Go.wp_at_succ

theorem av_set (l : List (AttD × Value)) (k : Nat) (hk : k < l.length) (q : AttD × Value) : (l.set k q).flatMap avCells = ((((((((l.flatMap avCells).set (k * 8) (.int .i64 q.1.thread)).set (k * 8 + 1) (.int .i64 q.1.job)).set (k * 8 + 2) (.int .i64 q.1.start)).set (k * 8 + 3) (.int .i64 q.1.fin)).set (k * 8 + 4) (.int .i64 q.1.valid)).set (k * 8 + 5) (.int .i64 q.1.stamp)).set (k * 8 + 6) (.int .i64 q.1.fate)).set (k * 8 + 7) q.2 := by
  have hl := av_len l
  apply List.ext_getElem?
  intro j
  obtain ⟨i, s, hs, rfl⟩ : ∃ i s, s < 8 ∧ j = i * 8 + s := ⟨j / 8, j % 8, by omega, by omega⟩
  rw [flat_at (f := avCells) (n := 8) (fun _ => rfl) _ i s hs]
  simp only [List.getElem?_set, List.length_set, hl]
  by_cases hi : i = k
  · subst hi
    rw [if_pos rfl, if_pos hk]
    have : s = 0 ∨ s = 1 ∨ s = 2 ∨ s = 3 ∨ s = 4 ∨ s = 5 ∨ s = 6 ∨ s = 7 := by omega
    rcases this with rfl | rfl | rfl | rfl | rfl | rfl | rfl | rfl
    · rw [if_neg (by omega), if_neg (by omega), if_neg (by omega), if_neg (by omega), if_neg (by omega), if_neg (by omega), if_neg (by omega), if_pos (by omega), if_pos (by omega)]; rfl
    · rw [if_neg (by omega), if_neg (by omega), if_neg (by omega), if_neg (by omega), if_neg (by omega), if_neg (by omega), if_pos (by omega), if_pos (by omega)]; rfl
    · rw [if_neg (by omega), if_neg (by omega), if_neg (by omega), if_neg (by omega), if_neg (by omega), if_pos (by omega), if_pos (by omega)]; rfl
    · rw [if_neg (by omega), if_neg (by omega), if_neg (by omega), if_neg (by omega), if_pos (by omega), if_pos (by omega)]; rfl
    · rw [if_neg (by omega), if_neg (by omega), if_neg (by omega), if_pos (by omega), if_pos (by omega)]; rfl
    · rw [if_neg (by omega), if_neg (by omega), if_pos (by omega), if_pos (by omega)]; rfl
    · rw [if_neg (by omega), if_pos (by omega), if_pos (by omega)]; rfl
    · rw [if_pos (by omega), if_pos (by omega)]; rfl
  · rw [if_neg (fun e => hi e.symm), if_neg (by omega), if_neg (by omega), if_neg (by omega), if_neg (by omega), if_neg (by omega), if_neg (by omega), if_neg (by omega), if_neg (by omega), flat_at (f := avCells) (n := 8) (fun _ => rfl) _ i s hs]

set_option maxRecDepth 100000 in
set_option maxHeartbeats 400000 in
theorem enter_old {base q : Nat} {aa : Option Addr} {ac : Nat} {lat : List Int} {AN : List (AttD × Value)} {w : World} (hB : BookB w q aa AN.length ac lat) (hr : AttsRow w base aa ac AN) (hbs : base ≤ w.heap.size) (hq : base ≤ q)
    (x : AttD) (na : Option Addr) (nc : Nat) (num : Int) (k m : Nat) (hk : k < 4) (hth : x.thread = (k : Int)) (hne : x.start ≠ num) (hlat : lat.getD k 0 = (m : Int)) (hm : m < AN.length) :
    Calls Tryz.prog 69 #[.pointer (some ⟨q, 0, none⟩), .agg #[.int .i64 x.thread, .int .i64 x.job, .int .i64 x.start, .int .i64 x.fin, .int .i64 x.valid, .int .i64 x.stamp, .int .i64 x.fate, .slice na x.notes.length nc], .int .i64 num] w fun e w' =>
      e = .returned (.tuple #[]) ∧ (BookB w' q aa AN.length ac lat ∧ AttsRow w' base aa ac (AN.set m (x, .slice na x.notes.length nc))) ∧ Kp [63, 125] base base base w w' := by
  obtain ⟨g, hga, hgb, hgl, _⟩ := hr.cells (by omega)
  subst hga
  obtain ⟨x0, x1, x2, x3, x4, x5, x6, xl⟩ := x
  simp only at hth hne ⊢
  subst hth
  obtain ⟨NN, HNN⟩ : ∃ NN, Hid (xl.length = NN) := ⟨_, rfl⟩
  rw [show xl.length = NN from HNN.out]
  obtain ⟨w0, hw0⟩ : ∃ w0, w0 = w.alloc (.cells #[.int .i64 (k : Int), .int .i64 x1, .int .i64 x2, .int .i64 x3, .int .i64 x4, .int .i64 x5, .int .i64 x6, .slice na NN nc] 63) := ⟨_, rfl⟩
  have hB0 : Below w.heap.size w w0 := by rw [hw0]; exact (Below.refl w.heap.size w).alloc (Nat.le_refl _) _
  have hT0 : Blk w0 w.heap.size 63 #[.int .i64 (k : Int), .int .i64 x1, .int .i64 x2, .int .i64 x3, .int .i64 x4, .int .i64 x5, .int .i64 x6, .slice na NN nc] := by rw [hw0]; exact Blk.new w 63 _
  have hb0 : Blk w0 q 125 (.slice (some ⟨g, 0, none⟩) AN.length ac :: lat.map (.int .i64 ·)).toArray := hB.1.below hB0 hB.1.lt
  have hqc : w0.cell? ⟨q, 0, none⟩ = some (.slice (some ⟨g, 0, none⟩) AN.length ac) := by rw [hb0.cell]; rfl
  have hqk : w0.cell? ⟨q, 1 + k, none⟩ = some (.int .i64 (m : Int)) := by
    rw [hb0.cell, Nat.add_comm, ← hlat]
    have := hB.2
    simp [List.getElem?_eq_getElem (show k < lat.length by omega), List.getD]
  have htc := hT0.cell
  have hk0 : (0 : Int) ≤ (k : Int) := by omega
  have hk4 : (k : Int) < 4 := by omega
  have hm0 : (0 : Int) ≤ (m : Int) := by omega
  have hm1 : (m : Int) < (AN.length : Int) := by omega
  have hnb : (x2 == num) = false := by rw [beq_eq_false_iff_ne]; exact hne
  have HR0 : Hid (w0.ownsRow base 63 8 (.slice (some ⟨g, 0, none⟩) AN.length ac) AN.length (AN.flatMap avCells)) := ownsRow_below hr hB0
  obtain ⟨z, hz⟩ : ∃ z, AN[m]? = some z := ⟨_, List.getElem?_eq_getElem hm⟩
  obtain ⟨g', hg', _, c0, c1, c2, c3, c4, c5, c6, c7⟩ := AttsRow.at (show AttsRow w0 base (some ⟨g, 0, none⟩) ac AN from HR0.out) m z hz
  cases hg'
  obtain ⟨⟨z0, z1, z2, z3, z4, z5, z6, zl⟩, zv⟩ := z
  simp only at c0 c1 c2 c3 c4 c5 c6 c7
  have hgf : ∀ i, w0.frozen? ⟨g, i, none⟩ = false := own_frozen HR0.out
  have hgt : g ≠ w.heap.size := by omega
  have hgq : g ≠ q := own_tag HR0.out hb0 (by decide) g rfl
  go_enter Tryz.func69, Tryz.ntmps69
  go_upto_region 1 with fail
  rw [← hw0]
  have HB0 : Hid (Below w.heap.size w w0) := hB0
  have Hb0 : Hid (Blk w0 q 125 (.slice (some ⟨g, 0, none⟩) AN.length ac :: lat.map (.int .i64 ·)).toArray) := hb0
  have HQ4 : Hid (lat.length = 4) := hB.2
  have HM : Hid (m < AN.length) := hm
  have hbs0 : base ≤ w0.heap.size := Nat.le_trans hbs (HB0.out).size
  clear hw0 hB0 hT0 hb0 hr hB hlat hne hm hz
  go_wp2_with fail
  go_still_tail 13, (by kernel_rfl)
  go_wp2
  go_end0
  have HM8 : Hid (m * 8 + 7 < AN.length * 8) := by show _ < _; have := HM.out; omega
  have hm8 := HM8.out
  obtain ⟨X, hX⟩ : ∃ X, X = AN.flatMap avCells := ⟨_, rfl⟩
  have hr0 : w0.ownsRow base 63 8 (.slice (some ⟨g, 0, none⟩) AN.length ac) AN.length X := by rw [hX]; exact HR0.out
  have hr8 := World.ownsRow.drew (own_set (own_set (own_set (own_set (own_set (own_set (own_set (own_set hr0 (i := m * 8) (by omega) (.int .i64 (k : Int))) (i := m * 8 + 1) (by omega) (.int .i64 x1)) (i := m * 8 + 2) (by omega) (.int .i64 x2)) (i := m * 8 + 3) (by omega) (.int .i64 x3)) (i := m * 8 + 4) (by omega) (.int .i64 x4)) (i := m * 8 + 5) (by omega) (.int .i64 x5)) (i := m * 8 + 6) (by omega) (.int .i64 x6)) (i := m * 8 + 7) (by omega) (.slice na NN nc))
  have hO : Only g w0 ((((((((w0.setCell ⟨g, m * 8, none⟩ (.int .i64 (k : Int))).setCell ⟨g, m * 8 + 1, none⟩ (.int .i64 x1)).setCell ⟨g, m * 8 + 2, none⟩ (.int .i64 x2)).setCell ⟨g, m * 8 + 3, none⟩ (.int .i64 x3)).setCell ⟨g, m * 8 + 4, none⟩ (.int .i64 x4)).setCell ⟨g, m * 8 + 5, none⟩ (.int .i64 x5)).setCell ⟨g, m * 8 + 6, none⟩ (.int .i64 x6)).setCell ⟨g, m * 8 + 7, none⟩ (.slice na NN nc)).drew := (((((((((Only.refl g w0).set).set).set).set).set).set).set).set).drew
  obtain ⟨gc, gcap, gcur, gv, gb, gg, _⟩ := own_block HR0.out (by have := HM.out; omega)
  injection gv with gv1
  cases gv1
  have K1 : Kp [63, 125] base base base w w0 := Kp.below HB0.out hbs
  have K2 := Kp.only (chg := [63, 125]) (B := base) (p := base) (eb := base) hO hbs0 gg (by simp) (Or.inr (Or.inr hgb))
  refine ⟨rfl, ⟨⟨(Hb0.out).only hO (Ne.symm hgq), HQ4.out⟩, ?_⟩, K1.trans K2⟩
  show World.ownsRow _ _ _ _ _ _ _
  rw [List.length_set, av_set AN m HM.out, ← hX]
  exact hr8

end Go.Proofs.YtejadojilncbjaaGreat
