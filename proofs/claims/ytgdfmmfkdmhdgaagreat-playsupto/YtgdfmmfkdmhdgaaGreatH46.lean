import Derived.Test.YtgdfmmfkdmhdgaaGreatH45
import Derived.Deep.DeepCutAuto
namespace Go.Proofs.YtgdfmmfkdmhdgaaGreat
open Go.RowKit
set_option linter.unusedVariables false
attribute [local go_sem ↓] Go.wp_at_zero Go.wp_at_succ

/-- What cells.New leaves: the numbers in a block of their own. -/
def NewIs (base : Nat) (mem : List Int) (w : World) (e : Ending) (w' : World) : Prop :=
  ∃ nb, e = .returned (.agg #[.slice (some ⟨nb, 0, none⟩) (base + mem.length) (base + mem.length)]) ∧ Blk w' nb 3 ((List.replicate base (0 : Int) ++ mem).map (Value.int .i64 ·)).toArray ∧ Below w.heap.size w w' ∧ w.heap.size ≤ nb

set_option maxRecDepth 100000 in
set_option maxHeartbeats 4000000 in
theorem newCells_any (c : Cfg) (base : Nat) (ma : Option Addr) (mc : Nat) (mem : List Int) (w : World) (hb : (base : Int) = 3 + 2 * c.s + c.t) (hm1 : 1 ≤ mem.length) (hm2 : mem.length ≤ 8) (g1 : 0 ≤ c.s) (g2 : c.s ≤ 100) (t1 : 0 ≤ c.t) (t2 : c.t ≤ 100) (hm : Ints w w.heap.size ma mem) :
    Calls Tryz.prog 37 #[.agg #[.int .i64 c.t, .int .i64 c.wd, .int .i64 c.s, .int .i64 c.g, .int .i64 c.r, .int .i64 c.cp, .int .i64 c.f], .slice ma mem.length mc] w (NewIs base mem w) := by
  have HI : Hid (Ints w w.heap.size ma mem) := hm
  have HB : Hid ((base : Int) = 3 + 2 * c.s + c.t) := hb
  have hbs : base ≤ 303 := by omega
  obtain ⟨N, hN⟩ : ∃ N, N = base + mem.length := ⟨_, rfl⟩
  have hmk := run_make3 N (by omega)
  obtain ⟨Z, hZ⟩ : ∃ Z, Z = List.replicate N (Value.int .i64 0) := ⟨_, rfl⟩
  have hZl : Z.length = N := by rw [hZ]; simp
  rw [← hZ] at hmk
  obtain ⟨i0, h1, h2, h3, h4⟩ := info_parts Tryz.info3
  have hsz : (Tryz.prog.info? 3).map (·.size) = some 1 := by rw [h1]; simp [h3]
  obtain ⟨CS, hCS⟩ : ∃ CS, CS = mem.map (Value.int .i64 ·) := ⟨_, rfl⟩
  have hCl : CS.length = mem.length := by rw [hCS]; simp
  have HOne : Hid (∀ v ∈ CS, v.oneCell' = true) := fun v hv => by
    rw [hCS] at hv
    obtain ⟨z, _, rfl⟩ := List.mem_map.1 hv
    rfl
  have HSp : Hid ((splice Z base CS) = ((List.replicate base (0 : Int) ++ mem).map (Value.int .i64 ·))) := by
    show _ = _
    unfold splice
    rw [hCS, hZ, hN]
    simp
  have HSrc : Hid (∀ wx : World, Below w.heap.size w wx → 0 < CS.length → ∃ ad, ma = some ad ∧ ∀ j v, CS[j]? = some v → wx.cell? (ad.add j) = some v) := fun wx hbx hp => by
    obtain ⟨b, off, ha, hlt, hc⟩ := HI.out 0 (by omega)
    refine ⟨_, ha, fun j v hj => ?_⟩
    have hjl : j < mem.length := by have := (List.getElem?_eq_some_iff.1 hj).1; omega
    obtain ⟨b', off', ha', hlt', hc'⟩ := HI.out j hjl
    rw [ha] at ha'
    cases ha'
    rw [hCS, List.getElem?_map, List.getElem?_eq_getElem hjl] at hj
    simp at hj
    subst hj
    have hcell : wx.cell? ⟨b, off + j, none⟩ = w.cell? ⟨b, off + j, none⟩ := World.cell?_of_block (hbx.block b hlt)
    rw [show ((⟨b, off, none⟩ : Addr).add j) = ⟨b, off + j, none⟩ from by simp [Addr.add], hcell, hc']
    simp [List.getD, List.getElem?_eq_getElem hjl]
  have HN : Hid (N = base + mem.length) := hN
  have hw1 : hWrd ⟨c, 0, []⟩ (mem.length : Int) = (N : Int) := by unfold hWrd; simp only; omega
  have hw0 : hWrd ⟨c, 0, []⟩ 0 = (base : Int) := by unfold hWrd; simp only; omega
  have HW1 : Hid (hWrd ⟨c, 0, []⟩ (mem.length : Int) = (N : Int)) := hw1
  have HW0 : Hid (hWrd ⟨c, 0, []⟩ 0 = (base : Int)) := hw0
  have hN1 : base ≤ N := by omega
  have hNm : N - base = mem.length := by omega
  clear hm hb hCS h2 h3 h4 hZ hw1 hw0 hN
  go_enter Tryz.func37, Tryz.ntmps37
  go_wp2_with fail
  obtain ⟨w1, hw1⟩ : ∃ w1, w1 = (w.alloc (.cells #[.int .i64 c.t, .int .i64 c.wd, .int .i64 c.s, .int .i64 c.g, .int .i64 c.r, .int .i64 c.cp, .int .i64 c.f] 23)).alloc (.cells #[.slice none 0 0] 54) := ⟨_, rfl⟩
  obtain ⟨ob, hob⟩ : ∃ ob, ob = w.heap.size := ⟨_, rfl⟩
  have hB1 : Below w.heap.size w w1 := by rw [hw1]; exact ((Below.refl _ _).alloc (Nat.le_refl _) _).alloc (by simp) _
  have HC1 : Hid (Blk w1 ob 23 #[.int .i64 c.t, .int .i64 c.wd, .int .i64 c.s, .int .i64 c.g, .int .i64 c.r, .int .i64 c.cp, .int .i64 c.f]) := by rw [hw1, hob]; exact (Blk.new w 23 _).alloc _
  have HR1 : Hid (Blk w1 (ob + 1) 54 #[.slice none 0 0]) := by
    have := Blk.new (w.alloc (.cells #[.int .i64 c.t, .int .i64 c.wd, .int .i64 c.s, .int .i64 c.g, .int .i64 c.r, .int .i64 c.cp, .int .i64 c.f] 23)) 54 #[.slice none 0 0]
    rw [hw1, hob]
    exact (by simpa using this : Blk _ (w.heap.size + 1) 54 _)
  have HB1 : Hid (Below w.heap.size w w1) := hB1
  have hs1 : ob + 2 ≤ w1.heap.size := by rw [hw1, hob]; simp
  have HOb : Hid (w.heap.size = ob) := hob.symm
  rw [← hw1, ← hob]
  clear hw1 hob hB1
  refine (wordCell_any c ⟨c, 0, []⟩ rfl _ w1 (by omega) (by omega) g1 (by omega) t1 (by omega)).mono ?_
  rintro e w2 ⟨rfl, hb2⟩
  rw [show hWrd ⟨c, 0, []⟩ (mem.length : Int) = (N : Int) from HW1.out]
  have HC2 : Hid (Blk w2 ob 23 #[.int .i64 c.t, .int .i64 c.wd, .int .i64 c.s, .int .i64 c.g, .int .i64 c.r, .int .i64 c.cp, .int .i64 c.f]) := (HC1.out).below hb2 (by omega)
  have HR2 : Hid (Blk w2 (ob + 1) 54 #[.slice none 0 0]) := (HR1.out).below hb2 (by omega)
  have HB2 : Hid (Below w.heap.size w w2) := (HB1.out).trans (hb2.mono (HB1.out).size)
  have hs2 : ob + 2 ≤ w2.heap.size := Nat.le_trans hs1 hb2.size
  have hcc := (HC2.out).cell
  clear HC1 HR1 HB1 hb2 hs1
  have hcn : ob ≠ w2.heap.size := by omega
  have hlt2 : ob < w2.heap.size := by omega
  go_wp2_with fail
  obtain ⟨w3, hw3⟩ : ∃ w3, w3 = w2.alloc (.cells Z.toArray 3) := ⟨_, rfl⟩
  obtain ⟨nb, hnb⟩ : ∃ nb, nb = w2.heap.size := ⟨_, rfl⟩
  have hB23 : Below w2.heap.size w2 w3 := by rw [hw3]; exact (Below.refl _ _).alloc (Nat.le_refl _) _
  have HZ3 : Hid (Blk w3 nb 3 Z.toArray) := by rw [hw3, hnb]; exact Blk.new w2 3 _
  have HR3 : Hid (Blk w3 (ob + 1) 54 #[.slice none 0 0]) := (HR2.out).below hB23 (by omega)
  have HB3 : Hid (Below w.heap.size w w3) := (HB2.out).trans (hB23.mono (HB2.out).size)
  have hnb3 : ob + 2 ≤ nb := by omega
  rw [← hw3, ← hnb]
  clear hw3 hnb hB23 HC2 HR2 HB2 hcc hcn hlt2 hs2
  refine (wordCell_any c ⟨c, 0, []⟩ rfl 0 w3 (by omega) (by omega) g1 (by omega) t1 (by omega)).mono ?_
  rintro e w4 ⟨rfl, hb4⟩
  rw [show hWrd ⟨c, 0, []⟩ 0 = (base : Int) from HW0.out]
  have HZ4 : Hid (Blk w4 nb 3 Z.toArray) := (HZ3.out).below hb4 (HZ3.out).lt
  have HR4 : Hid (Blk w4 (ob + 1) 54 #[.slice none 0 0]) := (HR3.out).below hb4 (HR3.out).lt
  have HB4 : Hid (Below w.heap.size w w4) := (HB3.out).trans (hb4.mono (HB3.out).size)
  clear HZ3 HR3 HB3 hb4
  have hb0 : (0 : Int) ≤ (base : Int) := by omega
  have hb1 : (base : Int) ≤ (N : Int) := by omega
  have HFit : Hid (base + CS.length ≤ Z.length) := by show _ ≤ _; omega
  have HLe : Hid (w.heap.size ≤ nb) := by have := HOb.out; show _ ≤ _; omega
  have HLr : Hid (ob + 1 < w4.heap.size) := (HR4.out).lt
  have hrn : ob + 1 ≠ nb := by omega
  have hrc := (HR4.out).cell
  have hrf := (HR4.out).frozen
  go_wp2_with
    (refine wpList_copy_splice (by rfl) _ _ _ _ (by rfl) 3 Tryz.underlying24 hsz (some ⟨nb, base, none⟩) ma mem.length mem.length mem.length mc (by rfl) (by rfl) nb base Z 3 (by exact HZ4.out) CS (by rw [hCl]; simp)
       (fun hp => ⟨rfl, HSrc.out _ HB4.out hp⟩) HFit.out HOne.out nb w4 (by exact Below.refl _ _) (Nat.le_refl _) ?_;
     intro w5 hrow hbel;
     have HR5 : Hid (Blk w5 (ob + 1) 54 #[.slice none 0 0]) := (HR4.out).below hbel (by omega);
     have hrc5 := (HR5.out).cell;
     have hrf5 := (HR5.out).frozen)
  have hs := (HR5.out).set (i := 0) (v := .slice (some ⟨nb, 0, none⟩) N N)
  have ho : Only (ob + 1) w5 (w5.setCell ⟨ob + 1, 0, none⟩ (.slice (some ⟨nb, 0, none⟩) N N)) := (Only.refl _ _).set
  have hq : (w5.setCell ⟨ob + 1, 0, none⟩ (.slice (some ⟨nb, 0, none⟩) N N)).cell? ⟨ob + 1, 0, none⟩ = some (.slice (some ⟨nb, 0, none⟩) N N) := by rw [hs.cell]; simp
  refine bodyPost_ret (v := .agg #[.slice (some ⟨nb, 0, none⟩) N N]) (by simp [results, Tryz.results37, go_sem, hq]) rfl ⟨nb, ?_, ?_, ?_, HLe.out⟩
  · rw [HN.out]
  · have h : Blk w5 nb 3 (splice Z base CS).toArray := hrow.out
    rw [HSp.out] at h
    exact h.only ho (by omega)
  · exact below_only ((HB4.out).trans (hbel.mono HLe.out)) ho (by have := HOb.out; omega) ((HB4.out).trans (hbel.mono HLe.out)).size

end Go.Proofs.YtgdfmmfkdmhdgaaGreat

namespace Go.Proofs.YtgdfmmfkdmhdgaaGreat
open Go.RowKit
set_option linter.unusedVariables false
attribute [local go_sem ↓] Go.wp_at_zero Go.wp_at_succ

def tInit (c : Cfg) (jobs : List (Int × List InsD)) (i : Nat) : PT := yBegin (t0 c i (mineF i 0 jobs))

theorem init_sim (c : Cfg) (jobs : List (Int × List InsD)) (i : Nat) : Sim (cxOf c jobs i) (tInit c jobs i) (hInit (cxOf c jobs i)) := by
  unfold tInit hInit hTo
  rcases seek_mine (cxOf c jobs i).me (cxOf c jobs i).jobs ((cxOf c jobs i).jobs.drop 0) 0 rfl with ⟨h1, h2⟩ | ⟨k, h1, h2, h3, h4⟩
  · rw [h1]
    have h2' : mineF (i : Int) 0 jobs = [] := by simpa [cxOf] using h2
    unfold yBegin
    rw [if_neg (show ¬ (t0 c i (mineF i 0 jobs)).cur < (t0 c i (mineF i 0 jobs)).mine.length by show ¬ 0 < (mineF (i : Int) 0 jobs).length; rw [h2']; simp)]
    exact Or.inl ⟨rfl, rfl⟩
  · rw [h1]
    have h4' : mineF (i : Int) 0 jobs = (k : Int) :: mineF (i : Int) (k + 1) (jobs.drop (k + 1)) := by simpa [cxOf] using h4
    have b1 : Bas (cxOf c jobs i) (t0 c i (mineF i 0 jobs)) { (⟨0, 0, [], (cxOf c jobs i).jobs.map fun _ => ⟨0, 0, 0, 0, 0⟩, 0, newTS [] 0, .idle⟩ : Th) with rank := 0, fails := 0, job := k, st := .start } := ⟨rfl, rfl, rfl, rfl, h2, h3, h4'⟩
    exact sim_start b1 rfl

theorem init_own (c : Cfg) (jobs : List (Int × List InsD)) (i : Nat) (hj : jobs.length ≤ 8) : Own5 0 (tInit c jobs i) := by
  have h := mineF_len (i : Int) jobs 0
  unfold tInit yBegin
  split
  · exact ⟨⟨Int.le_refl _, Int.le_refl _⟩, by show (mineF (i : Int) 0 jobs).length ≤ 100; omega, Nat.zero_le _, by show (0 : Int) ≤ 8; decide⟩
  · exact ⟨⟨Int.le_refl _, Int.le_refl _⟩, by show (mineF (i : Int) 0 jobs).length ≤ 100; omega, Nat.zero_le _, by show (0 : Int) ≤ 8; decide⟩

theorem init_rows {base : Nat} {w : World} {c : Cfg} {jobs : List (Int × List InsD)} {i : Nat} {ma : Option Addr} {mc : Nat} (h : w.ownsRow base 3 1 (.slice ma (mineF i 0 jobs).length mc) (mineF i 0 jobs).length (intCells (mineF i 0 jobs))) : RowsOk base w (tInit c jobs i) (L0 ma mc) := by
  have e : (tInit c jobs i).reads = [] ∧ (tInit c jobs i).writes = [] ∧ (tInit c jobs i).held = [] ∧ (tInit c jobs i).mine = mineF i 0 jobs := by unfold tInit yBegin yLoad; split <;> exact ⟨rfl, rfl, rfl, rfl⟩
  obtain ⟨e1, e2, e3, e4⟩ := e
  refine ⟨?_, ?_, ?_, ?_, ?_⟩
  · rw [e1]; exact World.ownsRow_nil _ _ _ _
  · rw [e2]; exact World.ownsRow_nil _ _ _ _
  · rw [e3]; exact World.ownsRow_nil _ _ _ _
  · rw [e4]; exact h
  · rw [e3]; intro k hk; simp [Value.ownBlock, L0] at hk

theorem L0_own {ma : Option Addr} {mc k : Nat} (h : Own (L0 ma mc) k) : oB ma = some k := by
  unfold Own at h
  simp [L0, oB] at h
  simpa [oB] using h

/-- The threads so far. -/
structure BI (base nb wb sb r2 N cap : Nat) (S : Array Value) (c : Cfg) (jobs : List (Int × List InsD)) (Ds : List Int) (ta : Option Addr) (tcap k : Nat) (q : List (PT × Ls)) (w : World) : Prop where
  setup : Blk w sb 27 S
  res : Blk w r2 57 #[.slice none 0 0, .slice none 0 0]
  wst : Blk w wb 57 #[.slice (some ⟨nb, 0, none⟩) N cap, .slice ta k tcap]
  num : Blk w nb 3 (Ds.map (Value.int .i64 ·)).toArray
  thr : w.ownsRow base 89 39 (.slice ta k tcap) k (rowsOf q).flatten
  ql : q.length = k
  rows : ∀ i (h : i < q.length), RowsOk base w q[i].1 q[i].2
  dis : ∀ i j (hi : i < q.length) (hj : j < q.length), i ≠ j → ∀ k, Own q[i].2 k → ¬ Own q[j].2 k
  nown : ∀ i (h : i < q.length), ¬ Own q[i].2 nb
  init : ∀ i (h : i < q.length), q[i].1 = tInit c jobs i
  nbb : base ≤ nb
  sne : wb ≠ r2

theorem ownsRow_low {w : World} {base base' : Nat} {e : TypeId} {size n : Nat} {v : Value} {xs : List Value} (h : w.ownsRow base e size v n xs) (hb : base' ≤ base) : w.ownsRow base' e size v n xs :=
  ⟨h.1, h.2.imp id (fun ⟨g, cap, cur, hv, hb', r⟩ => ⟨g, cap, cur, hv, Nat.le_trans hb hb', r⟩)⟩
theorem ownsRow_below {w w' : World} {base : Nat} {e : TypeId} {size n : Nat} {v : Value} {xs : List Value} (h : w.ownsRow base e size v n xs) (hb : Below w.heap.size w w') : w'.ownsRow base e size v n xs :=
  ownsRow_same h (fun k hk => hb.block k (h.lt k hk).2)

theorem BI.below {base nb wb sb r2 N cap : Nat} {S : Array Value} {c : Cfg} {jobs : List (Int × List InsD)} {Ds : List Int} {ta : Option Addr} {tcap k : Nat} {q : List (PT × Ls)} {w w' : World} (I : BI base nb wb sb r2 N cap S c jobs Ds ta tcap k q w) (h : Below w.heap.size w w') :
    BI base nb wb sb r2 N cap S c jobs Ds ta tcap k q w' :=
  ⟨I.setup.below h I.setup.lt, I.res.below h I.res.lt, I.wst.below h I.wst.lt, I.num.below h I.num.lt, ownsRow_below I.thr h, I.ql, fun i hi => (I.rows i hi).kept (fun k o => h.block k ((I.rows i hi).own k o).2), I.dis, I.nown, I.init, I.nbb, I.sne⟩

theorem BI.add {base nb wb sb r2 N cap : Nat} {S : Array Value} {c : Cfg} {jobs : List (Int × List InsD)} {Ds : List Int} {ta : Option Addr} {tcap k : Nat} {q : List (PT × Ls)} {w w5 w6 w7 : World} {ma : Option Addr} {mc g cap' : Nat} (I : BI base nb wb sb r2 N cap S c jobs Ds ta tcap k q w)
    (hb5 : Below w.heap.size w w5) (hm : w5.ownsRow w.heap.size 3 1 (.slice ma (mineF k 0 jobs).length mc) (mineF k 0 jobs).length (intCells (mineF k 0 jobs))) (hbs : base ≤ w.heap.size) (hb6 : Below w5.heap.size w5 w6)
    (hgr : w6.grownBy w7 (Value.slice ta k tcap).ownBlock) (hown : w7.ownsRow base 89 39 (.slice (some ⟨g, 0, none⟩) (k + 1) cap') (k + 1) ((rowsOf q).flatten ++ tArr (tInit c jobs k) (L0 ma mc))) :
    BI base nb wb sb r2 N cap S c jobs Ds (some ⟨g, 0, none⟩) cap' (k + 1) (q ++ [(tInit c jobs k, L0 ma mc)]) (w7.setCell ⟨wb, 1, none⟩ (.slice (some ⟨g, 0, none⟩) (k + 1) cap')) := by
  have I6 := (I.below hb5).below hb6
  have hm6 := ownsRow_below hm hb6
  have tag7 : ∀ {b : Nat} {T : TypeId} {cs : Array Value}, Blk w6 b T cs → (89 : Nat) ≠ T → Blk w7 b T cs := fun h ht => (hgr.block _ h.lt (fun e => own_tag I6.thr h ht _ e.symm rfl)).trans h
  have ho : Only wb w7 (w7.setCell ⟨wb, 1, none⟩ (.slice (some ⟨g, 0, none⟩) (k + 1) cap')) := (Only.refl _ _).set
  have hs7 := tag7 I6.setup (by decide)
  have hr7 := tag7 I6.res (by decide)
  have hw7 := tag7 I6.wst (by decide)
  have hn7 := tag7 I6.num (by decide)
  have row7 : ∀ {e size n : Nat} {v : Value} {xs : List Value} {b0 : Nat}, w6.ownsRow b0 e size v n xs → e ≠ 89 → e ≠ 57 → (w7.setCell ⟨wb, 1, none⟩ (.slice (some ⟨g, 0, none⟩) (k + 1) cap')).ownsRow b0 e size v n xs := fun {e size n v xs b0} h he he2 => by
    have h7 : w7.ownsRow b0 e size v n xs := ownsRow_same h (fun q hq => hgr.block q (h.lt q hq).2 (fun e2 => by
      rcases h.2 with ⟨rfl, _⟩ | ⟨g1, cap1, cur1, rfl, _, hg1, _⟩
      · simp [Value.ownBlock] at hq
      · simp [Value.ownBlock] at hq
        subst hq
        exact own_tag I6.thr hg1 (Ne.symm he) _ e2.symm rfl))
    exact ownsRow_only h7 ho (own_tag h7 hw7 he2)
  have rows7 : ∀ {t : PT} {L : Ls}, RowsOk base w6 t L → RowsOk base (w7.setCell ⟨wb, 1, none⟩ (.slice (some ⟨g, 0, none⟩) (k + 1) cap')) t L := fun R => ⟨row7 R.rd (by decide) (by decide), row7 R.wr (by decide) (by decide), row7 R.hd (by decide) (by decide), row7 R.mi (by decide) (by decide), R.ne⟩
  have hnew : ∀ b, Own (L0 ma mc) b → w.heap.size ≤ b := fun b o => by
    have := L0_own o
    rw [← oB_eq ma (mineF k 0 jobs).length mc] at this
    exact (hm.lt b this).1
  have hold : ∀ i (hi : i < q.length) b, Own q[i].2 b → b < w.heap.size := fun i hi b o => ((I.rows i hi).own b o).2
  have hget : ∀ i (h : i < (q ++ [(tInit c jobs k, L0 ma mc)]).length), (∃ h' : i < q.length, (q ++ [(tInit c jobs k, L0 ma mc)])[i] = q[i]) ∨ (i = k ∧ (q ++ [(tInit c jobs k, L0 ma mc)])[i] = (tInit c jobs k, L0 ma mc)) := fun i h => by
    by_cases hi : i < q.length
    · exact Or.inl ⟨hi, List.getElem_append_left hi⟩
    · have : i = q.length := by simp at h; omega
      subst this
      exact Or.inr ⟨I.ql, by simp⟩
  refine ⟨hs7.only ho (Blk.ne hs7 hw7 (by decide)), hr7.only ho (Ne.symm I.sne), ?_, hn7.only ho (Blk.ne hn7 hw7 (by decide)), ?_, by simp [I.ql], ?_, ?_, ?_, ?_, I.nbb, I.sne⟩
  · exact hw7.set.congr (by simp)
  · have := ownsRow_only hown ho (own_tag hown hw7 (by decide))
    unfold rowsOf at this ⊢
    simpa [List.flatten_append] using this
  · intro i hi
    rcases hget i hi with ⟨h', e⟩ | ⟨e1, e⟩
    · rw [e]; exact rows7 (I6.rows i h')
    · rw [e]; exact rows7 (init_rows (ownsRow_low hm6 hbs))
  · intro a b ha hb hab x oa ob
    rcases hget a ha with ⟨ha', ea⟩ | ⟨ea1, ea⟩ <;> rcases hget b hb with ⟨hb', eb⟩ | ⟨eb1, eb⟩
    · rw [ea] at oa; rw [eb] at ob; exact I.dis a b ha' hb' hab x oa ob
    · rw [ea] at oa; rw [eb] at ob; have := hold a ha' x oa; have := hnew x ob; omega
    · rw [ea] at oa; rw [eb] at ob; have := hold b hb' x ob; have := hnew x oa; omega
    · omega
  · intro i hi o
    rcases hget i hi with ⟨h', e⟩ | ⟨e1, e⟩
    · rw [e] at o; exact I.nown i h' o
    · rw [e] at o; have := hnew nb o; have := I.num.lt; omega
  · intro i hi
    rcases hget i hi with ⟨h', e⟩ | ⟨e1, e⟩
    · rw [e]; exact I.init i h'
    · rw [e, e1]

end Go.Proofs.YtgdfmmfkdmhdgaaGreat

namespace Go.Proofs.YtgdfmmfkdmhdgaaGreat
open Go.RowKit
set_option linter.unusedVariables false
attribute [local go_sem ↓] Go.wp_at_zero Go.wp_at_succ

theorem Tryz.info89 : (Tryz.prog.info? 89).map (fun i => (i.zero, i.size, i.bytes)) = some (some (.agg zc), 39, 376) := by kernel_rfl

theorem fold_set : ∀ (l : List Value) (j : Nat) (a : Array Value), j + l.length = a.size → (l.zipIdx j).foldl (fun cs x => cs.setIfInBounds x.snd x.fst) a = (a.toList.take j ++ l).toArray
  | [], j, a, h => by
    have : j = a.size := by simpa using h
    subst this
    rw [List.take_of_length_le (by simp)]
    simp
  | v :: l, j, a, h => by
    rw [List.zipIdx_cons, List.foldl_cons, fold_set l (j + 1) (a.setIfInBounds j v) (by simp at h ⊢; omega)]
    congr 1
    have hj : j < a.toList.length := by simp at h ⊢; omega
    rw [Array.toList_setIfInBounds, List.take_set, List.take_add_one, List.getElem?_eq_getElem hj]
    simp only [Option.toList]
    rw [List.set_append_right _ _ (by simp; omega)]
    simp [Nat.min_eq_left (Nat.le_of_lt (by simpa using hj))]

/-- What begin leaves: the threads and the cells at their beginning. -/
def BegunIs (c : Cfg) (mem : List Int) (jobs : List (Int × List InsD)) (w : World) (e : Ending) (w' : World) : Prop :=
  ∃ (nb p cap tcap : Nat) (q : List (PT × Ls)) (Ds : List Int) (X : List Value), e = .returned (.agg #[.slice (some ⟨nb, 0, none⟩) Ds.length cap, .slice (some ⟨p, 0, none⟩) q.length tcap]) ∧
    (∀ w2 cb, Below w'.heap.size w' w2 → Blk w2 cb 57 #[.slice (some ⟨nb, 0, none⟩) Ds.length cap, .slice (some ⟨p, 0, none⟩) q.length tcap] → w.heap.size ≤ cb → WR w.heap.size p nb cb cap tcap X w2 q Ds) ∧ SimW c jobs 0 (gStart c mem jobs) q Ds ∧ Below w.heap.size w w'

theorem bi_below {wb k tcap : Nat} {ta : Option Addr} {xs : List Value} {w wr w5 w6 w7 : World} (hB : Below w.heap.size w wr) (hb5 : Below wr.heap.size wr w5) (hb6 : Below w5.heap.size w5 w6) (hthr : wr.ownsRow w.heap.size 89 39 (.slice ta k tcap) k xs) (hgr : w6.grownBy w7 (Value.slice ta k tcap).ownBlock) (hwb : w.heap.size ≤ wb) (v : Value) :
    Below w.heap.size w (w7.setCell ⟨wb, 1, none⟩ v) := by
  have h1 : Below w.heap.size w w6 := (hB.trans (hb5.mono hB.size)).trans (hb6.mono (Nat.le_trans hB.size hb5.size))
  have hs : w.heap.size ≤ w6.heap.size := h1.size
  refine below_onto (w' := w7) ⟨hgr.os.trans h1.os, hgr.tape.trans h1.tape, hgr.output.trans h1.output, Nat.le_trans h1.size hgr.size, fun q hq => ?_⟩ ((Only.refl _ _).set) hwb (by have := hgr.size; omega)
  rw [hgr.block q (by omega) (fun e => by have := (hthr.lt q e.symm).1; omega)]
  exact h1.block q hq

theorem begun_of {c : Cfg} {mem : List Int} {jobs : List (Int × List InsD)} {w wr w' : World} {base nb wb sb r2 tcap tn : Nat} {S : Array Value} {Ds : List Int} {ta : Option Addr} {q : List (PT × Ls)} (hc : cfgB c = true) (hmw : (mem.length : Int) = c.wd) (hmb : memB mem = true) (hjl : jobs.length ≤ 8)
    (hbase : (base : Int) = 3 + 2 * c.s + c.t) (htn : (tn : Int) = c.t) (ht1 : 1 ≤ tn) (hDs : Ds = List.replicate base (0 : Int) ++ mem) (I : BI w.heap.size nb wb sb r2 Ds.length Ds.length S c jobs Ds ta tcap tn q wr) (HB : Below w.heap.size w wr) (ho : Only r2 wr w') (hr : w.heap.size ≤ r2) :
    BegunIs c mem jobs w (.returned (.agg #[.slice (some ⟨nb, 0, none⟩) Ds.length Ds.length, .slice ta tn tcap])) w' := by
  obtain ⟨g, cap, cur, hv, hbg, hgb, h1, h2, h3, h4⟩ := own_block I.thr ht1
  obtain ⟨rfl, rfl⟩ : ta = some ⟨g, 0, none⟩ ∧ tcap = cap := by injection hv with a b c; exact ⟨a, c⟩
  have hql := I.ql
  have hg2 : Blk w' g 89 cur := hgb.only ho (Blk.ne hgb I.res (by decide))
  have hn2 : Blk w' nb 3 (Ds.map (Value.int .i64 ·)).toArray := I.num.only ho (Blk.ne I.num I.res (by decide))
  have hrows : ∀ i (h : i < q.length), RowsOk w.heap.size w' q[i].1 q[i].2 := fun i h => (I.rows i h).kept (fun k o => ho.block k ((I.rows i h).own k o).2 (fun e => Own_tag (I.rows i h) I.res (by decide) (by decide) (by decide) (e ▸ o)))
  refine ⟨nb, g, Ds.length, tcap, q, Ds, cur.toList.drop (tn * 39), by rw [hql], ?_, ?_, below_onto HB ho hr HB.size⟩
  · intro w2 cb hb hcb hle
    have hbs : w.heap.size ≤ w2.heap.size := Nat.le_trans HB.size (Nat.le_trans ho.size hb.size)
    refine ⟨?_, fun i h => (hrows i h).kept (fun k o => hb.block k ((hrows i h).own k o).2), I.dis, hn2.below hb hn2.lt, I.nown, hcb, hbg, I.nbb, hle, hbs⟩
    refine (hg2.below hb hg2.lt).congr ?_
    rw [← h4, List.take_append_drop]
  · have hd : ∀ i (h : i < q.length), q[i].1 = tInit c jobs i := I.init
    refine ⟨by rw [hql]; exact htn, ?_, ?_, fun i h => by rw [hd i h]; exact init_sim c jobs i, fun i h => by rw [hd i h]; exact init_own c jobs i hjl, gstart_ok hc hmw hmb jobs⟩
    · rw [hDs, total_eq]
      simp
      omega
    · intro x hx
      show Ds.getD x 0 = startVal c mem x
      unfold startVal wordBase
      rw [hDs] at hx ⊢
      by_cases hxb : x < base
      · rw [if_neg (by omega)]
        simp [List.getD_eq_getElem?_getD, List.getElem?_append_left, hxb]
      · rw [if_pos (by omega)]
        have e : ((x : Int) - (3 + 2 * c.s + c.t)).toNat = x - base := by omega
        rw [e]
        simp [List.getD_eq_getElem?_getD, List.getElem?_append_right, Nat.le_of_not_lt hxb]

end Go.Proofs.YtgdfmmfkdmhdgaaGreat

namespace Go.Proofs.YtgdfmmfkdmhdgaaGreat
open Go.RowKit
set_option linter.unusedVariables false
attribute [local go_sem ↓] Go.wp_at_zero Go.wp_at_succ

set_option maxRecDepth 100000 in
set_option maxHeartbeats 8000000 in
theorem begin_any (c : Cfg) (hc : cfgB c = true) (mem : List Int) (hmw : (mem.length : Int) = c.wd) (hmb : memB mem = true) (jobs : List (Int × List InsD)) (hjl : jobs.length ≤ 8) (ma ja : Option Addr) (mc jc : Nat) (w : World) (hm : Ints w w.heap.size ma mem) (hj : JobsRep w w.heap.size ja jobs) :
    Calls Tryz.prog 26 #[.agg #[.int .i64 c.t, .int .i64 c.wd, .int .i64 c.s, .int .i64 c.g, .int .i64 c.r, .int .i64 c.cp, .int .i64 c.f, .slice ma mem.length mc, .slice ja jobs.length jc]] w (BegunIs c mem jobs w) := by
  obtain ⟨⟨t1, t2⟩, ⟨w1, w2⟩, ⟨s1, s2⟩, _⟩ := cfgB_true hc
  have HC : Hid (cfgB c = true ∧ (mem.length : Int) = c.wd ∧ memB mem = true) := ⟨hc, hmw, hmb⟩
  have HM : Hid (Ints w w.heap.size ma mem) := hm
  have HJ : Hid (JobsRep w w.heap.size ja jobs) := hj
  obtain ⟨base, hbase⟩ : ∃ base : Nat, (base : Int) = 3 + 2 * c.s + c.t := ⟨(3 + 2 * c.s + c.t).toNat, by omega⟩
  obtain ⟨tn, htn⟩ : ∃ tn : Nat, (tn : Int) = c.t := ⟨c.t.toNat, by omega⟩
  have hB0 : Below w.heap.size w ((w.alloc (.cells #[.int .i64 c.t, .int .i64 c.wd, .int .i64 c.s, .int .i64 c.g, .int .i64 c.r, .int .i64 c.cp, .int .i64 c.f, .slice ma mem.length mc, .slice ja jobs.length jc] 27)).alloc (.cells #[.slice none 0 0, .slice none 0 0] 57)) := ((Below.refl _ _).alloc (Nat.le_refl _) _).alloc (by simp) _
  have HS0 : Hid (Blk ((w.alloc (.cells #[.int .i64 c.t, .int .i64 c.wd, .int .i64 c.s, .int .i64 c.g, .int .i64 c.r, .int .i64 c.cp, .int .i64 c.f, .slice ma mem.length mc, .slice ja jobs.length jc] 27)).alloc (.cells #[.slice none 0 0, .slice none 0 0] 57)) w.heap.size 27 #[.int .i64 c.t, .int .i64 c.wd, .int .i64 c.s, .int .i64 c.g, .int .i64 c.r, .int .i64 c.cp, .int .i64 c.f, .slice ma mem.length mc, .slice ja jobs.length jc]) := (Blk.new w 27 _).alloc _
  have HR0 : Hid (Blk ((w.alloc (.cells #[.int .i64 c.t, .int .i64 c.wd, .int .i64 c.s, .int .i64 c.g, .int .i64 c.r, .int .i64 c.cp, .int .i64 c.f, .slice ma mem.length mc, .slice ja jobs.length jc] 27)).alloc (.cells #[.slice none 0 0, .slice none 0 0] 57)) (w.heap.size + 1) 57 #[.slice none 0 0, .slice none 0 0]) := by
    have := Blk.new (w.alloc (.cells #[.int .i64 c.t, .int .i64 c.wd, .int .i64 c.s, .int .i64 c.g, .int .i64 c.r, .int .i64 c.cp, .int .i64 c.f, .slice ma mem.length mc, .slice ja jobs.length jc] 27)) 57 #[.slice none 0 0, .slice none 0 0]
    show Blk _ _ _ _
    simpa using this
  have HB0 : Hid (Below w.heap.size w ((w.alloc (.cells #[.int .i64 c.t, .int .i64 c.wd, .int .i64 c.s, .int .i64 c.g, .int .i64 c.r, .int .i64 c.cp, .int .i64 c.f, .slice ma mem.length mc, .slice ja jobs.length jc] 27)).alloc (.cells #[.slice none 0 0, .slice none 0 0] 57))) := hB0
  have hs0 : ((w.alloc (.cells #[.int .i64 c.t, .int .i64 c.wd, .int .i64 c.s, .int .i64 c.g, .int .i64 c.r, .int .i64 c.cp, .int .i64 c.f, .slice ma mem.length mc, .slice ja jobs.length jc] 27)).alloc (.cells #[.slice none 0 0, .slice none 0 0] 57)).heap.size = w.heap.size + 2 := by simp
  clear hm hj hB0 hc hmw hmb
  go_enter Tryz.func26, Tryz.ntmps26
  go_wp2_with fail
  obtain ⟨sb, hsb⟩ : ∃ sb, sb = w.heap.size := ⟨_, rfl⟩
  rw [← hsb] at HS0 HR0 ⊢
  have HSb : Hid (sb = w.heap.size) := hsb
  generalize (w.alloc (.cells #[.int .i64 c.t, .int .i64 c.wd, .int .i64 c.s, .int .i64 c.g, .int .i64 c.r, .int .i64 c.cp, .int .i64 c.f, .slice ma mem.length mc, .slice ja jobs.length jc] 27)).alloc (.cells #[.slice none 0 0, .slice none 0 0] 57) = w0 at *
  have HN : Hid (Calls Tryz.prog 37 #[.agg #[.int .i64 c.t, .int .i64 c.wd, .int .i64 c.s, .int .i64 c.g, .int .i64 c.r, .int .i64 c.cp, .int .i64 c.f], .slice ma mem.length mc] w0 (NewIs base mem w0)) := by
    obtain ⟨hc, hmw, hmb⟩ := HC.out
    exact newCells_any c base ma mc mem w0 hbase (by omega) (by omega) (by omega) (by omega) (by omega) (by omega) ((HM.out).up HB0.out)
  clear hsb
  refine (HN.out).mono ?_
  rintro e w2' ⟨nb, rfl, hn2, hb2, hnb⟩
  obtain ⟨Ds, hDs⟩ : ∃ Ds : List Int, Ds = List.replicate base (0 : Int) ++ mem := ⟨_, rfl⟩
  have hDl : Ds.length = base + mem.length := by rw [hDs]; simp
  rw [← hDs] at hn2
  rw [← hDl]
  have HDl : Hid (Ds.length = base + mem.length) := hDl
  clear hDl
  have HS2 : Hid (Blk w2' sb 27 #[.int .i64 c.t, .int .i64 c.wd, .int .i64 c.s, .int .i64 c.g, .int .i64 c.r, .int .i64 c.cp, .int .i64 c.f, .slice ma mem.length mc, .slice ja jobs.length jc]) := (HS0.out).below hb2 (HS0.out).lt
  have HR2 : Hid (Blk w2' (sb + 1) 57 #[.slice none 0 0, .slice none 0 0]) := (HR0.out).below hb2 (HR0.out).lt
  have HN2 : Hid (Blk w2' nb 3 (Ds.map (Value.int .i64 ·)).toArray) := hn2
  have HB2 : Hid (Below w.heap.size w w2') := (HB0.out).trans (hb2.mono (by omega))
  have HNb : Hid (w.heap.size + 2 ≤ nb) := by show _ ≤ _; omega
  have HDs : Hid (Ds = List.replicate base (0 : Int) ++ mem) := hDs
  have hs2 : w.heap.size + 2 ≤ w2'.heap.size := by have := hb2.size; omega
  have m0 := (HS2.out).cell
  have hsl : sb < w2'.heap.size := (HS2.out).lt
  clear HS0 HR0 HB0 HN hn2 hb2 hnb hDs hs0
  go_upto_region 2 with fail
  obtain ⟨wb, hwb⟩ : ∃ wb, wb = w2'.heap.size := ⟨_, rfl⟩
  have hB3 : Below w2'.heap.size w2' (w2'.alloc (.cells #[.slice (some ⟨nb, 0, none⟩) Ds.length Ds.length, .slice none 0 0] 57)) := (Below.refl _ _).alloc (Nat.le_refl _) _
  have HI3 : Hid (BI w.heap.size nb wb sb (sb + 1) Ds.length Ds.length #[.int .i64 c.t, .int .i64 c.wd, .int .i64 c.s, .int .i64 c.g, .int .i64 c.r, .int .i64 c.cp, .int .i64 c.f, .slice ma mem.length mc, .slice ja jobs.length jc] c jobs Ds none 0 0 [] (w2'.alloc (.cells #[.slice (some ⟨nb, 0, none⟩) Ds.length Ds.length, .slice none 0 0] 57))) := by
    refine ⟨(HS2.out).below hB3 (HS2.out).lt, (HR2.out).below hB3 (HR2.out).lt, by rw [hwb]; exact Blk.new w2' 57 _, (HN2.out).below hB3 (HN2.out).lt, World.ownsRow_nil _ _ _ _, rfl, fun i h => by simp at h, fun i j h => by simp at h, fun i h => by simp at h, fun i h => by simp at h, by have := HNb.out; omega, by have := HSb.out; omega⟩
  have HB3 : Hid (Below w.heap.size w (w2'.alloc (.cells #[.slice (some ⟨nb, 0, none⟩) Ds.length Ds.length, .slice none 0 0] 57))) := (HB2.out).trans (hB3.mono (by omega))
  have HWb : Hid (w.heap.size ≤ wb) := by show _ ≤ _; omega
  rw [← hwb]
  clear HS2 HR2 HN2 HB2 hB3 hwb hs2 m0 hsl
  generalize w2'.alloc (.cells #[.slice (some ⟨nb, 0, none⟩) Ds.length Ds.length, .slice none 0 0] 57) = w3 at *
  obtain ⟨iz, hiz, hz0, hz1, hz2⟩ := info_parts Tryz.info89
  go_wp2_with fail
  go_loopg [4] (tn + 1) (fun m t4 wr => ∃ (k : Nat) (ta : Option Addr) (tcap : Nat) (q : List (PT × Ls)), t4 = .int .i64 (k : Int) ∧ k ≤ tn ∧ m = tn + 1 - k ∧ Hid (BI w.heap.size nb wb sb (sb + 1) Ds.length Ds.length #[.int .i64 c.t, .int .i64 c.wd, .int .i64 c.s, .int .i64 c.g, .int .i64 c.r, .int .i64 c.cp, .int .i64 c.f, .slice ma mem.length mc, .slice ja jobs.length jc] c jobs Ds ta tcap k q wr) ∧ Hid (Below w.heap.size w wr))
  case atStart => exact ⟨0, none, 0, [], rfl, by omega, by omega, HI3, HB3⟩
  case round =>
    obtain ⟨k, ta, tcap, q, rfl, hk, hgk, HI, HB⟩ := hrel
    clear HI3 HB3
    have m0 := (HI.out).setup.cell
    have m1 := (HI.out).wst.cell
    by_cases hlt : k < tn
    · have hlt' : (k : Int) < c.t := by omega
      have hwk : IntKind.i64.wrap ((k : Int) + 1) = (k : Int) + 1 := wrapP _ (by omega) (by omega)
      have HNw : Hid (∀ W, (∃ m, W = wr.drewN m) → Calls Tryz.prog 38 #[.agg #[.int .i64 c.t, .int .i64 c.wd, .int .i64 c.s, .int .i64 c.g, .int .i64 c.r, .int .i64 c.cp, .int .i64 c.f], .int .i64 (k : Int), .slice ja jobs.length jc] W fun e w' =>
          ∃ ma mc, e = .returned (.agg (tArr (tInit c jobs k) (L0 ma mc)).toArray) ∧ w'.ownsRow W.heap.size 3 1 (.slice ma (mineF k 0 jobs).length mc) (mineF k 0 jobs).length (intCells (mineF k 0 jobs)) ∧ Below W.heap.size W w') := fun W hW => by
        obtain ⟨m, rfl⟩ := hW
        exact new_any c k jobs ja jc (wr.drewN m) (((HJ.out).up HB.out).mono (HB.out).size) hjl
      have hwbl : wb < wr.heap.size := (HI.out).wst.lt
      have hpne : (Value.slice ta k tcap).ownBlock ≠ some wb := fun q => own_tag (HI.out).thr (HI.out).wst (by decide) wb q rfl
      have hbs : w.heap.size ≤ wr.heap.size := (HB.out).size
      have hk4 : k ≤ 4 := by omega
      go_wp2_with fail
      go_region_law
        (first
          | (go_simp; go_at_call 38; refine (HNw.out _ ⟨1, rfl⟩).mono ?_; rintro e w5 ⟨ma5, mc5, rfl, hm5, hb5⟩;
             have HI5 : Hid (BI w.heap.size nb wb sb (sb + 1) Ds.length Ds.length #[.int .i64 c.t, .int .i64 c.wd, .int .i64 c.s, .int .i64 c.g, .int .i64 c.r, .int .i64 c.cp, .int .i64 c.f, .slice ma mem.length mc, .slice ja jobs.length jc] c jobs Ds ta tcap k q w5) := (HI.out).below ((below_drew wr).trans hb5);
             have HM5 : Hid (w5.ownsRow wr.heap.size 3 1 (.slice ma5 (mineF k 0 jobs).length mc5) (mineF k 0 jobs).length (intCells (mineF k 0 jobs)) ∧ Below wr.heap.size wr w5) := ⟨hm5, (below_drew wr).trans hb5⟩;
             have n1 := (HI5.out).wst.cell; have hwb5 : wb < w5.heap.size := (HI5.out).wst.lt; have hwb6 : wb ≠ w5.heap.size := (by omega); have hbs5 : w.heap.size ≤ w5.heap.size := Nat.le_trans hbs hb5.size;
             obtain ⟨T, hT⟩ : ∃ T, T = tArr (tInit c jobs k) (L0 ma5 mc5) := ⟨_, rfl⟩; have HT : Hid (T = tArr (tInit c jobs k) (L0 ma5 mc5) ∧ T.length = 39 ∧ ∀ u ∈ T, u.oneCell' = true) := ⟨hT, by rw [hT]; rfl, by rw [hT]; unfold tInit yBegin yLoad; split <;> simp [tArr, t0, L0, Value.oneCell']⟩; rw [← hT]; have hTl : T.length = 39 := (HT.out).2.1; have hfold : List.foldl (fun cs x => cs.setIfInBounds x.snd x.fst) #[.int .i64 0, .int .i64 0, .int .i64 0, .int .i64 0, .int .i64 0, .int .i64 0, .int .i64 0, .int .i64 0, .slice none 0 0, .int .i64 0, .int .i64 0, .int .i64 0, .int .i64 0, .int .i64 0, .int .i64 0, .int .i64 0, .int .i64 0, .int .i64 0, .int .i64 0, .int .i64 0, .int .i64 0, .int .i64 0, .int .i64 0, .int .i64 0, .int .i64 0, .int .i64 0, .int .i64 0, .int .i64 0, .int .i64 0, .int .i64 0, .slice none 0 0, .slice none 0 0, .slice none 0 0, .int .i64 0, .int .i64 0, .int .i64 0, .int .i64 0, .int .i64 0, .int .i64 0] T.zipIdx = T.toArray := (by have := fold_set T 0 #[.int .i64 0, .int .i64 0, .int .i64 0, .int .i64 0, .int .i64 0, .int .i64 0, .int .i64 0, .int .i64 0, .slice none 0 0, .int .i64 0, .int .i64 0, .int .i64 0, .int .i64 0, .int .i64 0, .int .i64 0, .int .i64 0, .int .i64 0, .int .i64 0, .int .i64 0, .int .i64 0, .int .i64 0, .int .i64 0, .int .i64 0, .int .i64 0, .int .i64 0, .int .i64 0, .int .i64 0, .int .i64 0, .int .i64 0, .int .i64 0, .slice none 0 0, .slice none 0 0, .slice none 0 0, .int .i64 0, .int .i64 0, .int .i64 0, .int .i64 0, .int .i64 0, .int .i64 0] (by rw [hTl]; rfl); simpa using this); clear hm5 hb5 hT)
          | (refine step_append_lies _ (by rfl) _ _ _ (by rfl) w.heap.size 89 iz _ 39 376 Tryz.underlying55 hiz hz0 hz1 hz2 rfl (by omega) (.slice ta k tcap) k (rowsOf q).flatten (by rfl) (World.ownsRow.alloc (by exact (HI5.out).thr) _)
              ⟨w5.heap.size, 0, none⟩ 1 1 T (by rfl) (by rw [(HT.out).2.1]) (World.news_of_block (cs := T.toArray) (t := 89) (fr := (0, 0)) (by exact heap_alloc_new w5 _)) (HT.out).2.2
              (by omega) (by unfold maxLen; omega) (by omega) (by simp; omega) (w5.heap.size + 1) (by simp) ?_; intro gg cap7 w7 hown1 hgrow hat hlt7;
             have hd8 : w7.cell? ⟨wb, 1, none⟩ = some (.slice ta k tcap) := (by rw [hgrow.cell_far _ (by simp; omega) (Ne.symm hpne)]; exact ((HI5.out).below ((Below.refl _ _).alloc (Nat.le_refl _) _)).wst.cell 1);
             have he8 : w7.frozen? ⟨wb, 1, none⟩ = false := (by rw [hgrow.frozen_far _ (by simp; omega) (Ne.symm hpne)]; exact ((HI5.out).below ((Below.refl _ _).alloc (Nat.le_refl _) _)).wst.frozen 1)))
      all_goals
        have HI8 : Hid (BI w.heap.size nb wb sb (sb + 1) Ds.length Ds.length #[.int .i64 c.t, .int .i64 c.wd, .int .i64 c.s, .int .i64 c.g, .int .i64 c.r, .int .i64 c.cp, .int .i64 c.f, .slice ma mem.length mc, .slice ja jobs.length jc] c jobs Ds (some ⟨gg, 0, none⟩) cap7 (k + 1) (q ++ [(tInit c jobs k, L0 ma5 mc5)]) (w7.setCell ⟨wb, 1, none⟩ (.slice (some ⟨gg, 0, none⟩) (k + 1) cap7))) :=
          BI.add HI.out (HM5.out).2 (HM5.out).1 hbs ((Below.refl _ _).alloc (Nat.le_refl _) _) hgrow ((HT.out).1 ▸ hown1)
        have HB8 : Hid (Below w.heap.size w (w7.setCell ⟨wb, 1, none⟩ (.slice (some ⟨gg, 0, none⟩) (k + 1) cap7))) :=
          bi_below HB.out (HM5.out).2 ((Below.refl _ _).alloc (Nat.le_refl _) _) (HI.out).thr hgrow HWb.out _
        clear HI HB HI5 HM5 HT HNw hown1 hgrow hat hlt7 hd8 he8 hfold hTl n1 m0 m1 hwb5 hwb6 hbs5 hwbl hpne hbs
        generalize w7.setCell ⟨wb, 1, none⟩ (.slice (some ⟨gg, 0, none⟩) (k + 1) cap7) = w8 at *
        go_wp2_with fail
        go_roundg (gk - 1)
        case rel => exact ⟨k + 1, some ⟨gg, 0, none⟩, cap7, q ++ [(tInit c jobs k, L0 ma5 mc5)], by simp, by omega, by omega, HI8, HB8⟩
        case measure => omega
    · have hkj : k = tn := by omega
      subst hkj
      have hlt2 : ¬ ((k : Int) < c.t) := by omega
      have m2 := (HI.out).res.cell
      have hf2 := (HI.out).res.frozen
      have hl2 : sb + 1 < wr.heap.size := (HI.out).res.lt
      have hwr : wb ≠ sb + 1 := (HI.out).sne
      have HRs : Hid (Blk wr (sb + 1) 57 #[.slice none 0 0, .slice none 0 0]) := (HI.out).res
      go_wp2_with fail
      obtain ⟨hc, hmw, hmb⟩ := HC.out
      have hsb : w.heap.size ≤ sb + 1 := by have := HSb.out; omega
      refine bodyPost_ret (v := .agg #[.slice (some ⟨nb, 0, none⟩) Ds.length Ds.length, .slice ta k tcap]) ?_ rfl (begun_of hc hmw hmb hjl hbase htn (by omega) HDs.out HI.out HB.out (((Only.refl _ _).set).set) hsb)
      have hb : Blk ((wr.setCell ⟨sb + 1, 0, none⟩ (.slice (some ⟨nb, 0, none⟩) Ds.length Ds.length)).setCell ⟨sb + 1, 1, none⟩ (.slice ta k tcap)) (sb + 1) 57 #[.slice (some ⟨nb, 0, none⟩) Ds.length Ds.length, .slice ta k tcap] := ((HRs.out).set.set).congr (by simp)
      generalize (wr.setCell ⟨sb + 1, 0, none⟩ (.slice (some ⟨nb, 0, none⟩) Ds.length Ds.length)).setCell ⟨sb + 1, 1, none⟩ (.slice ta k tcap) = w9 at *
      have h9 := hb.cell
      clear HI HB HRs m0 m1 m2 hf2
      simp [results, Tryz.results26, go_sem, h9]

end Go.Proofs.YtgdfmmfkdmhdgaaGreat
