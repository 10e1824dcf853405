import Derived.Test.YtejadojilncbjaaGreatE24
import Derived.Test.YtejadojilncbjaaGreatE03
import Derived.Test.YtejadojilncbjaaGreatE23
import Derived.Test.YtejadojilncbjaaGreatE29
import Derived.Test.YtejadojilncbjaaGreatE22
import Derived.Test.YtejadojilncbjaaGreatRows
import Derived.ShutString
import Derived.ChangeOld
import Derived.JoinedCond
import Derived.Laws.OwnMore
namespace Go.Proofs.YtejadojilncbjaaGreat
open Go.RowKit
set_option linter.unusedVariables false
attribute [local go_sem ↓] Go.wp_at_zero Go.wp_at_succ

theorem made51 (n : Nat) : madeCells (Value.agg #[.int .i64 0, .int .i64 0, .int .i64 0, .int .i64 0]).cells (n * 4) = (List.replicate (n * 4) (Value.int .i64 0)).toArray := by
  have hz : (Value.agg #[.int .i64 0, .int .i64 0, .int .i64 0, .int .i64 0]).cells = #[.int .i64 0, .int .i64 0, .int .i64 0, .int .i64 0] := by rfl
  rw [hz]
  apply Array.ext
  · simp [size_madeCells]
  · intro i h1 h2
    simp [madeCells]
    have : i % 4 = 0 ∨ i % 4 = 1 ∨ i % 4 = 2 ∨ i % 4 = 3 := by omega
    rcases this with h | h | h | h <;> rw [h] <;> rfl

theorem run_make51 (n : Nat) (hn : n ≤ 2097152) (w : World) : (Instr.makeSlice 31 (Value.int .i64 (n : Int)) (Value.int .i64 (n : Int))).run Tryz.prog w =
    .ok (.slice (some ⟨w.heap.size, 0, none⟩) n n) (w.alloc (.cells (List.replicate (n * 4) (Value.int .i64 0)).toArray 40)) := by
  obtain ⟨i0, h1, h2, h3, h4⟩ := info_parts Tryz.info40
  have := run_make (P := Tryz.prog) w 31 40 i0 _ Tryz.underlying31 h1 h2 .i64 .i64 n n (by omega) (by omega) (by rw [h4]; omega) (by omega)
  rw [h3] at this
  simp only [Int.toNat_natCast, made51] at this
  exact this

theorem flat4 : ∀ l : List AccD, (l.flatMap accCells).length = l.length * 4
  | [] => rfl
  | a :: l => by
    rw [List.flatMap_cons, List.length_append, flat4 l]
    simp [accCells]
    omega

/-- The accesses so far, and room for the others. -/
def accPad (c : Cfg) (mem : List Int) (jobs : List (Int × List InsD)) (ps : List PickD) (k : Nat) : List Value := (gLog c mem jobs ps k).flatMap accCells ++ List.replicate ((ps.length - k) * 4) (.int .i64 0)

theorem pad_set {c : Cfg} {mem : List Int} {jobs : List (Int × List InsD)} {ps : List PickD} {k : Nat} (hk : k < ps.length) {a : AccD} (ha : a = (gStep c jobs (gAt c mem jobs ps k) ((k : Int) + 1) (pickAt ps k)).2) {w : World} {ab : Nat} (h : Blk w ab 40 (accPad c mem jobs ps k).toArray) :
    Blk ((((w.setCell ⟨ab, k * 4, none⟩ (.int .i64 a.kind)).setCell ⟨ab, k * 4 + 1, none⟩ (.int .i64 a.cell)).setCell ⟨ab, k * 4 + 2, none⟩ (.int .i64 a.seen)).setCell ⟨ab, k * 4 + 3, none⟩ (.int .i64 a.put)) ab 40 (accPad c mem jobs ps (k + 1)).toArray := by
  refine h.set.set.set.set.congr ?_
  have hl : ((gLog c mem jobs ps k).flatMap accCells).length = k * 4 := by rw [flat4, gLog_len]
  have e : (ps.length - k) * 4 = 4 + (ps.length - (k + 1)) * 4 := by omega
  unfold accPad
  rw [glog_next c mem jobs ps k a ha, e, ← List.replicate_append_replicate]
  generalize (gLog c mem jobs ps k).flatMap accCells = L at *
  generalize List.replicate ((ps.length - (k + 1)) * 4) (Value.int .i64 0) = R
  rw [← hl]
  simp [List.set_append_right, List.replicate_succ]

theorem pad_at {c : Cfg} {mem : List Int} {jobs : List (Int × List InsD)} {ps : List PickD} {k : Nat} (hk : k < ps.length) (j : Nat) (hj : j < 4) : (accPad c mem jobs ps k).toArray[k * 4 + j]? = some (.int .i64 0) := by
  have hl : ((gLog c mem jobs ps k).flatMap accCells).length = k * 4 := by rw [flat4, gLog_len]
  unfold accPad
  rw [List.getElem?_toArray, List.getElem?_append_right (by omega), hl, List.getElem?_replicate, if_pos (by omega)]

theorem pad_log {c : Cfg} {mem : List Int} {jobs : List (Int × List InsD)} {ps : List PickD} (hps : ps.length ≤ 2097152) {w : World} {ab : Nat} (h : Blk w ab 40 (accPad c mem jobs ps ps.length).toArray) : LogIn w w.heap.size (some ⟨ab, 0, none⟩) (accs c mem jobs ps) := by
  have hl := gLog_len c mem jobs ps ps.length
  have e : accPad c mem jobs ps ps.length = (accs c mem jobs ps).flatMap accCells := by
    unfold accPad accs
    simp
  rw [e] at h
  refine log_row (base := 0) (c := (accs c mem jobs ps).length) ⟨flat4 _, Or.inr ⟨ab, _, _, rfl, Nat.zero_le _, h, Nat.le_refl _, ?_, by rw [List.size_toArray, flat4], ?_⟩⟩
  · unfold accs maxLen
    omega
  · rw [List.take_of_length_le (by rw [flat4]; exact Nat.le_refl _)]

end Go.Proofs.YtejadojilncbjaaGreat

namespace Go.Proofs.YtejadojilncbjaaGreat
open Go.RowKit
set_option linter.unusedVariables false
attribute [local go_sem ↓] Go.wp_at_zero Go.wp_at_succ

theorem WS.apart {base p nb cb cap tcap : Nat} {X : List Value} {c : Cfg} {mem : List Int} {jobs : List (Int × List InsD)} {ps : List PickD} {k ab : Nat} {w w' : World} {cs : Array Value} (h : WS base p nb cb cap tcap X c mem jobs ps k w) (hb : Blk w ab 40 cs) (ho : Only ab w w') : WS base p nb cb cap tcap X c mem jobs ps k w' := by
  obtain ⟨q, Ds, R, M⟩ := h
  exact ⟨q, Ds, R.apart hb ho (by decide) (by decide) (by decide) (by decide) (by decide) (by decide) (by decide), M⟩

set_option maxRecDepth 100000 in
set_option maxHeartbeats 8000000 in
theorem playAccesses_any {c : Cfg} {mem : List Int} {jobs : List (Int × List InsD)} (S : SetupOk c mem jobs) (ps : List PickD) (hps : ps.length ≤ 2 ^ 21) (ma ja pa : Option Addr) (mc jc pc : Nat) (w : World)
    (hm : Ints w w.heap.size ma mem) (hj : JobsRep w w.heap.size ja jobs) (hp : PicksIn w w.heap.size pa ps) :
    Calls Tryz.prog 53 #[.agg #[.int .i64 c.t, .int .i64 c.wd, .int .i64 c.s, .int .i64 c.g, .int .i64 c.r, .int .i64 c.cp, .int .i64 c.f, .slice ma mem.length mc, .slice ja jobs.length jc], .slice pa ps.length pc] w (AccIs w (accs c mem jobs ps)) := by
  have HM : Hid (Ints w w.heap.size ma mem) := hm
  have HJ : Hid (JobsRep w w.heap.size ja jobs) := hj
  have HP : Hid (PicksIn w w.heap.size pa ps) := hp
  have HS : Hid (SetupOk c mem jobs) := S
  obtain ⟨A, HA⟩ : ∃ A, Hid (accs c mem jobs ps = A) := ⟨_, rfl⟩
  rw [show accs c mem jobs ps = A from HA.out]
  have hps' : ps.length ≤ 2097152 := hps
  clear hm hj hp S hps
  go_enter Tryz.func53, Tryz.ntmps53
  go_wp2_with fail
  obtain ⟨w1, hw1⟩ : ∃ w1, w1 = w.alloc (.cells #[.int .i64 c.t, .int .i64 c.wd, .int .i64 c.s, .int .i64 c.g, .int .i64 c.r, .int .i64 c.cp, .int .i64 c.f, .slice ma mem.length mc, .slice ja jobs.length jc] 27) := ⟨_, rfl⟩
  have HB1 : Hid (Below w.heap.size w w1) := by rw [hw1]; exact (Below.refl w.heap.size w).alloc (Nat.le_refl _) _
  have HSb : Hid (Blk w1 w.heap.size 27 #[.int .i64 c.t, .int .i64 c.wd, .int .i64 c.s, .int .i64 c.g, .int .i64 c.r, .int .i64 c.cp, .int .i64 c.f, .slice ma mem.length mc, .slice ja jobs.length jc]) := by rw [hw1]; exact Blk.new w 27 _
  have hs1 : w1.heap.size = w.heap.size + 1 := by rw [hw1]; simp
  rw [← hw1]
  clear hw1
  have HM1 : Hid (Ints w1 w1.heap.size ma mem) := (HM.out).up HB1.out
  have HJ1 : Hid (JobsRep w1 w1.heap.size ja jobs) := (HJ.out).up2 HB1.out
  have HP1 : Hid (PicksIn w1 w1.heap.size pa ps) := (HP.out).up2 HB1.out
  clear HM HJ HP
  refine (begin_any c (HS.out).cfg mem (HS.out).mw (HS.out).mb jobs (HS.out).j8 ma ja mc jc w1 HM1.out HJ1.out).mono ?_
  rintro e w2 ⟨nb, p, cap, tcap, q, Ds, X, rfl, hW, hM, hb2⟩
  obtain ⟨cb, hcb⟩ : ∃ cb, cb = w2.heap.size := ⟨_, rfl⟩
  have hB3 : Below w2.heap.size w2 (w2.alloc (.cells #[.slice (some ⟨nb, 0, none⟩) Ds.length cap, .slice (some ⟨p, 0, none⟩) q.length tcap, .int .i64 0] 106)) := (Below.refl _ _).alloc (Nat.le_refl _) _
  have HW3 : Hid (WS w1.heap.size p nb cb cap tcap X c mem jobs ps 0 (w2.alloc (.cells #[.slice (some ⟨nb, 0, none⟩) Ds.length cap, .slice (some ⟨p, 0, none⟩) q.length tcap, .int .i64 0] 106))) :=
    ⟨q, Ds, hW _ cb hB3 (by rw [hcb]; exact Blk.new w2 106 _) (by rw [hcb]; exact hb2.size), hM⟩
  have HB3 : Hid (Below w1.heap.size w1 (w2.alloc (.cells #[.slice (some ⟨nb, 0, none⟩) Ds.length cap, .slice (some ⟨p, 0, none⟩) q.length tcap, .int .i64 0] 106))) := hb2.trans (hB3.mono hb2.size)
  clear hW hM hB3 hb2
  go_upto_region 2 with fail
  rw [← hcb]
  clear hcb
  generalize w2.alloc (.cells #[.slice (some ⟨nb, 0, none⟩) Ds.length cap, .slice (some ⟨p, 0, none⟩) q.length tcap, .int .i64 0] 106) = w3 at *
  have hmk := run_make51 ps.length hps'
  obtain ⟨ab, hab⟩ : ∃ ab, ab = w3.heap.size := ⟨_, rfl⟩
  obtain ⟨Z, hZ⟩ : ∃ Z, Z = (List.replicate (ps.length * 4) (Value.int .i64 0)).toArray := ⟨_, rfl⟩
  rw [← hZ] at hmk
  have hB4 : Below w3.heap.size w3 (w3.alloc (.cells Z 40)) := (Below.refl _ _).alloc (Nat.le_refl _) _
  have HW4 : Hid (WS w1.heap.size p nb cb cap tcap X c mem jobs ps 0 (w3.alloc (.cells Z 40))) := (HW3.out).below hB4
  have HB4 : Hid (Below w1.heap.size w1 (w3.alloc (.cells Z 40))) := (HB3.out).trans (hB4.mono (HB3.out).size)
  have HA4 : Hid (Blk (w3.alloc (.cells Z 40)) ab 40 (accPad c mem jobs ps 0).toArray) := by
    rw [hab]
    refine (Blk.new w3 40 _).congr ?_
    rw [hZ]
    simp [accPad, gLog]
  have HAb : Hid (w1.heap.size ≤ ab) := by show _ ≤ _; rw [hab]; exact (HB3.out).size
  clear HW3 HB3 hB4 hZ
  go_upto_region 3 with fail
  rw [← hab]
  clear hab hmk
  generalize w3.alloc (.cells Z 40) = w4 at *
  go_wp2_with fail
  go_loopg [16] (ps.length + 1) (fun m t16 wr => ∃ (k : Nat), t16 = .int .i64 (k : Int) ∧ k ≤ ps.length ∧ m = ps.length + 1 - k ∧ Hid (WS w1.heap.size p nb cb cap tcap X c mem jobs ps k wr) ∧ Hid (Below w1.heap.size w1 wr) ∧ Hid (Blk wr ab 40 (accPad c mem jobs ps k).toArray))
  case atStart => exact ⟨0, rfl, by omega, by omega, HW4, HB4, HA4⟩
  case round =>
    obtain ⟨k, rfl, hk, hgk, HW, HB, HAk⟩ := hrel
    clear HW4 HB4 HA4
    by_cases hkl : k < ps.length
    · obtain ⟨pb, poff, hpa, hpb, hpc0, hpc1⟩ := HP1.out k hkl
      have hk0 : (0 : Int) ≤ (k : Int) := by omega
      have hk1 : (k : Int) < (ps.length : Int) := by omega
      have hwk : IntKind.i64.wrap ((k : Int) + 1) = (k : Int) + 1 := wrapP _ (by omega) (by omega)
      have hszk : w1.heap.size ≤ wr.heap.size := (HB.out).size
      have hq0 : wr.cell? ⟨pb, poff + k * 2, none⟩ = some (.int .i64 (pickAt ps k).thread) := (World.cell?_of_block ((HB.out).block pb hpb)).trans hpc0
      have hq1 : wr.cell? ⟨pb, poff + k * 2 + 1, none⟩ = some (.int .i64 (pickAt ps k).draw) := (World.cell?_of_block ((HB.out).block pb hpb)).trans hpc1
      have hpbl : pb < wr.heap.size := by omega
      have hsbl : w.heap.size < wr.heap.size := by omega
      have hsc : ∀ i, wr.cell? ⟨w.heap.size, i, none⟩ = (#[.int .i64 c.t, .int .i64 c.wd, .int .i64 c.s, .int .i64 c.g, .int .i64 c.r, .int .i64 c.cp, .int .i64 c.f, .slice ma mem.length mc, .slice ja jobs.length jc] : Array Value)[i]? := ((HSb.out).below HB.out (by omega)).cell
      subst hpa
      clear hpc0 hpc1
      obtain ⟨th, hth⟩ : ∃ th, th = (pickAt ps k).thread := ⟨_, rfl⟩
      obtain ⟨dr, hdr⟩ : ∃ dr, dr = (pickAt ps k).draw := ⟨_, rfl⟩
      rw [← hth] at hq0
      rw [← hdr] at hq1
      have hBa : Below wr.heap.size wr (wr.alloc (.cells #[.int .i64 th, .int .i64 dr] 42)) := (Below.refl wr.heap.size wr).alloc (Nat.le_refl _) _
      have HBa : Hid (Below w1.heap.size w1 (wr.alloc (.cells #[.int .i64 th, .int .i64 dr] 42))) := (HB.out).trans (hBa.mono hszk)
      have HC : Hid (Calls Tryz.prog 67 #[.pointer (some ⟨cb, 0, none⟩), .slice ja jobs.length jc, .agg #[.int .i64 th, .int .i64 dr]] (wr.alloc (.cells #[.int .i64 th, .int .i64 dr] 42)) (PickIs w1.heap.size p nb cb cap tcap X c mem jobs ps k (wr.alloc (.cells #[.int .i64 th, .int .i64 dr] 42)))) := by
        rw [hth, hdr] at HBa hBa ⊢
        exact ws_pick HS.out (by omega) ((HW.out).below hBa) ja jc ((HJ1.out).up HBa.out)
      have HAa : Hid (Blk (wr.alloc (.cells #[.int .i64 th, .int .i64 dr] 42)) ab 40 (accPad c mem jobs ps k).toArray) := (HAk.out).alloc _
      clear hth hdr hBa HW HB HAk
      go_wp2_with fail
      clear hq0 hq1 hsc
      refine (HC.out).mono ?_
      rintro e w5 ⟨⟨a, ha, rfl⟩, hW5, hb5, hbk⟩
      have HW5 : Hid (WS w1.heap.size p nb cb cap tcap X c mem jobs ps (k + 1) w5) := hW5
      have HB5 : Hid (Below w1.heap.size w1 w5) := (HBa.out).trans hb5
      have HA5 : Hid (Blk w5 ab 40 (accPad c mem jobs ps k).toArray) := hbk ab 40 _ HAa.out (by decide) (by decide) (by decide) (by decide) (by decide) (by decide) (by decide)
      have Ha : Hid (a = (gStep c jobs (gAt c mem jobs ps k) ((k : Int) + 1) (pickAt ps k)).2) := ha
      have hf := (HA5.out).frozen
      have hc0 : w5.cell? ⟨ab, k * 4, none⟩ = some (.int .i64 0) := by rw [(HA5.out).cell]; exact pad_at hkl 0 (by omega)
      have hc1 : w5.cell? ⟨ab, k * 4 + 1, none⟩ = some (.int .i64 0) := by rw [(HA5.out).cell]; exact pad_at hkl 1 (by omega)
      have hc2 : w5.cell? ⟨ab, k * 4 + 2, none⟩ = some (.int .i64 0) := by rw [(HA5.out).cell]; exact pad_at hkl 2 (by omega)
      have hc3 : w5.cell? ⟨ab, k * 4 + 3, none⟩ = some (.int .i64 0) := by rw [(HA5.out).cell]; exact pad_at hkl 3 (by omega)
      have habl : ab < w5.heap.size := (HA5.out).lt
      clear hW5 hb5 hbk HC HBa HAa ha
      obtain ⟨ak, ac, az, ap⟩ := a
      go_wp2_with fail
      have hA6 := pad_set hkl Ha.out HA5.out
      have ho6 : Only ab w5 ((((w5.setCell ⟨ab, k * 4, none⟩ (.int .i64 ak)).setCell ⟨ab, k * 4 + 1, none⟩ (.int .i64 ac)).setCell ⟨ab, k * 4 + 2, none⟩ (.int .i64 az)).setCell ⟨ab, k * 4 + 3, none⟩ (.int .i64 ap)) := (((Only.refl _ _).set).set).set.set
      go_roundg (gk - 1)
      case rel => exact ⟨k + 1, by simp, by omega, by omega, (HW5.out).apart HA5.out ho6, below_onto HB5.out ho6 HAb.out (HB5.out).size, hA6⟩
      case measure => omega
    · have hkj : k = ps.length := by omega
      subst hkj
      have hk2 : ¬ ((ps.length : Int) < (ps.length : Int)) := by omega
      have HL : Hid (LogIn wr wr.heap.size (some ⟨ab, 0, none⟩) A ∧ A.length = ps.length) := by
        show _ ∧ _
        rw [← HA.out]
        exact ⟨pad_log hps' HAk.out, gLog_len _ _ _ _ _⟩
      have HB5 : Hid (Below w.heap.size w wr) := (HB1.out).trans ((HB.out).mono (HB1.out).size)
      clear HW HB HAk
      go_wp2_with fail
      go_ret
      exact ⟨some ⟨ab, 0, none⟩, ps.length, by rw [(HL.out).2]; rfl, (HL.out).1, HB5.out⟩

end Go.Proofs.YtejadojilncbjaaGreat

namespace Go.Proofs.YtejadojilncbjaaGreat
open Go.RowKit
set_option linter.unusedVariables false
attribute [local go_sem ↓] Go.wp_at_zero Go.wp_at_succ

theorem setup_rep (c : Cfg) (mem : List Int) (jobs : List (Int × List InsD)) (ma ja : Option Addr) (mc jc : Nat) (w : World) (hml : mem.length ≤ maxLen) (hjl : jobs.length ≤ maxLen) (hm : Ints w w.heap.size ma mem) (hj : JobsRep w w.heap.size ja jobs) :
    Calls Tryz.prog 41 #[.agg #[.int .i64 c.t, .int .i64 c.wd, .int .i64 c.s, .int .i64 c.g, .int .i64 c.r, .int .i64 c.cp, .int .i64 c.f, .slice ma mem.length mc, .slice ja jobs.length jc]] w fun e w' =>
      e = .returned (.int .i64 (errS c mem jobs)) ∧ Below w.heap.size w w' := by
  obtain ⟨js, h1, h2, h3⟩ := hj
  have := setup_core c.t c.wd c.s c.g c.r c.cp c.f ma mem.length mc mem ja jobs.length jc js w rfl hml hm h1 hjl h2
  rw [show (⟨c.t, c.wd, c.s, c.g, c.r, c.cp, c.f⟩ : Cfg) = c from rfl, check_err h1 (fun i hi => ⟨(h3 i hi).1, (h3 i hi).2.1⟩)] at this
  exact this

def AccsGood : Prop := ∀ {c : Cfg} {mem : List Int} {jobs : List (Int × List InsD)} (S : SetupOk c mem jobs) (ps : List PickD) (hps : ps.length ≤ 2 ^ 21) (ma ja pa : Option Addr) (mc jc pc : Nat) (w : World)
    (hm : Ints w w.heap.size ma mem) (hj : JobsRep w w.heap.size ja jobs) (hp : PicksIn w w.heap.size pa ps),
    Calls Tryz.prog 53 #[.agg #[.int .i64 c.t, .int .i64 c.wd, .int .i64 c.s, .int .i64 c.g, .int .i64 c.r, .int .i64 c.cp, .int .i64 c.f, .slice ma mem.length mc, .slice ja jobs.length jc], .slice pa ps.length pc] w (AccIs w (accs c mem jobs ps))
set_option maxRecDepth 100000 in
set_option maxHeartbeats 4000000 in
theorem playGood_of (G : AccsGood) : PlayGood := by
  intro c mem jobs ps ma ja pa mc jc pc w hps hml hjl hm hj hp
  have HG : Hid AccsGood := G
  have HM : Hid (Ints w w.heap.size ma mem) := hm
  have HJ : Hid (JobsRep w w.heap.size ja jobs) := hj
  have HP : Hid (PicksIn w w.heap.size pa ps) := hp
  have HPS : Hid (ps.length ≤ 2 ^ 21) := hps
  obtain ⟨L, HL⟩ : ∃ L, Hid (playA c mem jobs ps = L) := ⟨_, rfl⟩
  obtain ⟨ER, HER⟩ : ∃ ER, Hid (errS c mem jobs = ER) := ⟨_, rfl⟩
  rw [show playA c mem jobs ps = L from HL.out, show errS c mem jobs = ER from HER.out]
  clear hm hj hp hps G
  go_enter Tryz.func28, Tryz.ntmps28
  go_wp2_with fail
  obtain ⟨w0, hw0⟩ : ∃ w0, w0 = w.alloc (.cells #[.int .i64 c.t, .int .i64 c.wd, .int .i64 c.s, .int .i64 c.g, .int .i64 c.r, .int .i64 c.cp, .int .i64 c.f, .slice ma mem.length mc, .slice ja jobs.length jc] 27) := ⟨_, rfl⟩
  have hB0 : Below w.heap.size w w0 := by rw [hw0]; exact (Below.refl w.heap.size w).alloc (Nat.le_refl _) _
  have hSb : Blk w0 w.heap.size 27 #[.int .i64 c.t, .int .i64 c.wd, .int .i64 c.s, .int .i64 c.g, .int .i64 c.r, .int .i64 c.cp, .int .i64 c.f, .slice ma mem.length mc, .slice ja jobs.length jc] := by rw [hw0]; exact Blk.new w 27 _
  have hs0 : w0.heap.size = w.heap.size + 1 := by rw [hw0]; simp
  rw [← hw0]
  clear hw0
  refine (setup_rep c mem jobs ma ja mc jc w0 hml hjl ((HM.out).up hB0) ((HJ.out).up2 hB0)).mono ?_
  rintro e w1 ⟨rfl, hb1⟩
  have hB1 : Below w.heap.size w w1 := hB0.trans (hb1.mono hB0.size)
  have hsc : ∀ i, w1.cell? ⟨w.heap.size, i, none⟩ = (#[.int .i64 c.t, .int .i64 c.wd, .int .i64 c.s, .int .i64 c.g, .int .i64 c.r, .int .i64 c.cp, .int .i64 c.f, .slice ma mem.length mc, .slice ja jobs.length jc] : Array Value)[i]? := (hSb.below hb1 (by omega)).cell
  have HB1 : Hid (Below w.heap.size w w1) := hB1
  have HM1 : Hid (Ints w1 w1.heap.size ma mem) := (HM.out).up hB1
  have HJ1 : Hid (JobsRep w1 w1.heap.size ja jobs) := (HJ.out).up2 hB1
  have HP1 : Hid (PicksIn w1 w1.heap.size pa ps) := (HP.out).up2 hB1
  clear hB0 hSb hs0 hb1 hB1 HM HJ HP
  rw [show errS c mem jobs = ER from HER.out]
  by_cases he : ER = 0
  · have hbn : (ER != 0) = false := by simp [he]
    have HLe : Hid (L = accs c mem jobs ps) := (HL.out).symm.trans (if_pos ((HER.out).trans he))
    have HSo : Hid (SetupOk c mem jobs) := (errS_ok ((HER.out).trans he)).1
    have HE0 : Hid (ER = 0) := he
    clear he HL HER
    go_wp2_with fail
    refine ((HG.out) HSo.out ps HPS.out ma ja pa mc jc pc w1 HM1.out HJ1.out HP1.out).mono ?_
    rintro e w2 ⟨la, lc, rfl, hl2, hb2⟩
    have HL2 : Hid (LogIn w2 w2.heap.size la (accs c mem jobs ps)) := hl2
    have HB2 : Hid (Below w.heap.size w w2) := (HB1.out).trans (hb2.mono (HB1.out).size)
    clear hl2 hb2 hsc hbn
    go_wp2
    exact bodyPost_ret (v := .tuple #[.slice la (accs c mem jobs ps).length lc, .int .i64 0]) (by simp [results, Tryz.results28, go_sem]) rfl ⟨la, lc, by rw [HLe.out, HE0.out], by rw [HLe.out]; exact HL2.out, HB2.out⟩
  · have hbn : (ER != 0) = true := by simp [he]
    have HLe : Hid (L = []) := (HL.out).symm.trans (if_neg (by rw [HER.out]; exact he))
    clear he HL HER hsc
    go_wp2
    exact bodyPost_ret (v := .tuple #[.slice none 0 0, .int .i64 ER]) (by simp [results, Tryz.results28, go_sem]) rfl ⟨none, 0, by rw [HLe.out]; rfl, by rw [HLe.out]; exact fun i hi => absurd hi (by simp), HB1.out⟩

end Go.Proofs.YtejadojilncbjaaGreat

namespace Go.Proofs.YtejadojilncbjaaGreat

theorem playGood : PlayGood := playGood_of (fun S ps hps ma ja pa mc jc pc w hm hj hp => playAccesses_any S ps hps ma ja pa mc jc pc w hm hj hp)
end Go.Proofs.YtejadojilncbjaaGreat

namespace Go.Proofs.YtejadojilncbjaaGreat
open Go.RowKit
set_option linter.unusedVariables false
attribute [local go_sem ↓] Go.wp_at_zero Go.wp_at_succ

/-- Has the thread a job? -/
def worksB (jobs : List (Int × List InsD)) (t : Int) : Bool := jobs.any fun j => j.1 == t

set_option maxRecDepth 100000 in
set_option maxHeartbeats 2000000 in
theorem works_any (c : Cfg) (mem : List Int) (jobs : List (Int × List InsD)) (t : Int) (ma ja : Option Addr) (ml mc jc : Nat) (w : World) (hjl : jobs.length ≤ 2 ^ 40) (hj : JobsRep w w.heap.size ja jobs) :
    Calls Tryz.prog 35 #[.agg #[.int .i64 c.t, .int .i64 c.wd, .int .i64 c.s, .int .i64 c.g, .int .i64 c.r, .int .i64 c.cp, .int .i64 c.f, .slice ma ml mc, .slice ja jobs.length jc], .int .i64 t] w fun e w' =>
      e = .returned (.bool (worksB jobs t)) ∧ Below w.heap.size w w' := by
  have hB0 : Below w.heap.size w (w.alloc (.cells #[.int .i64 c.t, .int .i64 c.wd, .int .i64 c.s, .int .i64 c.g, .int .i64 c.r, .int .i64 c.cp, .int .i64 c.f, .slice ma ml mc, .slice ja jobs.length jc] 27)) := (Below.refl w.heap.size w).alloc (Nat.le_refl _) _
  obtain ⟨w0, hw0⟩ : ∃ w0, w0 = w.alloc (.cells #[.int .i64 c.t, .int .i64 c.wd, .int .i64 c.s, .int .i64 c.g, .int .i64 c.r, .int .i64 c.cp, .int .i64 c.f, .slice ma ml mc, .slice ja jobs.length jc] 27) := ⟨_, rfl⟩
  have hSb : Blk w0 w.heap.size 27 #[.int .i64 c.t, .int .i64 c.wd, .int .i64 c.s, .int .i64 c.g, .int .i64 c.r, .int .i64 c.cp, .int .i64 c.f, .slice ma ml mc, .slice ja jobs.length jc] := by rw [hw0]; exact Blk.new w 27 _
  rw [← hw0] at hB0
  have HJ : Hid (JobsRep w0 w0.heap.size ja jobs) := hj.up2 hB0
  have HB0 : Hid (Below w.heap.size w w0) := hB0
  have HSb : Hid (Blk w0 w.heap.size 27 #[.int .i64 c.t, .int .i64 c.wd, .int .i64 c.s, .int .i64 c.g, .int .i64 c.r, .int .i64 c.cp, .int .i64 c.f, .slice ma ml mc, .slice ja jobs.length jc]) := hSb
  have HW0 : Hid (w0 = w.alloc (.cells #[.int .i64 c.t, .int .i64 c.wd, .int .i64 c.s, .int .i64 c.g, .int .i64 c.r, .int .i64 c.cp, .int .i64 c.f, .slice ma ml mc, .slice ja jobs.length jc] 27)) := hw0
  obtain ⟨V, HV⟩ : ∃ V, Hid (worksB jobs t = V) := ⟨_, rfl⟩
  rw [show worksB jobs t = V from HV.out]
  have hsc := hSb.cell
  clear hj hB0 hSb hw0
  go_enter Tryz.func35, Tryz.ntmps35
  go_wp2_with fail
  rw [← show w0 = _ from HW0.out]
  clear HW0
  go_loopg [5] (jobs.length + 1) (fun m t5 wr => ∃ k : Nat, t5 = .int .i64 (k : Int) ∧ k ≤ jobs.length ∧ m = jobs.length + 1 - k ∧ wr = w0 ∧ Hid (∀ i, i < k → ((jobs.getD i (0, [])).1 == t) = false))
  case atStart => exact ⟨0, rfl, by omega, by omega, rfl, fun i hi => absurd hi (Nat.not_lt_zero _)⟩
  case round =>
    obtain ⟨k, rfl, hk, hgk, rfl, HN⟩ := hrel
    by_cases hkl : k < jobs.length
    · obtain ⟨js, h1, h2, h3⟩ := HJ.out
      obtain ⟨b, off, hja, hbl, hc0, hc1⟩ := h2 k (by omega)
      have ht := (h3 k (by omega)).1
      rw [ht] at hc0
      have hk0 : (0 : Int) ≤ (k : Int) := by omega
      have hk1 : (k : Int) < (jobs.length : Int) := by omega
      have hwk : IntKind.i64.wrap ((k : Int) + 1) = (k : Int) + 1 := wrapF _ (by omega) (by omega)
      subst hja
      clear h1 h2 h3 hc1 ht
      by_cases he : (jobs.getD k (0, [])).1 = t
      · have hbe : ((jobs.getD k (0, [])).1 == t) = true := by rw [beq_iff_eq]; exact he
        have HV1 : Hid (V = true) := by
          show V = true
          rw [← show worksB jobs t = V from HV.out]
          unfold worksB
          rw [List.any_eq_true]
          refine ⟨jobs.getD k (0, []), ?_, hbe⟩
          rw [show jobs.getD k (0, []) = jobs[k] from by simp [List.getD, List.getElem?_eq_getElem hkl]]
          exact List.getElem_mem hkl
        generalize (jobs.getD k (0, [])).1 = z at *
        clear HN HV he
        go_wp2
        go_ret
        exact ⟨by rw [HV1.out]; rfl, HB0.out⟩
      · have hbe : ((jobs.getD k (0, [])).1 == t) = false := by rw [beq_eq_false_iff_ne]; exact he
        have HN2 : Hid (∀ i, i < k + 1 → ((jobs.getD i (0, [])).1 == t) = false) := fun i hi => by
          by_cases e : i = k
          · rw [e]; exact hbe
          · exact HN.out i (by omega)
        generalize (jobs.getD k (0, [])).1 = z at *
        clear HN HV he
        go_wp2
        go_roundg (gk - 1)
        case rel => exact ⟨k + 1, by simp, by omega, by omega, rfl, HN2⟩
        case measure => omega
    · have hke : k = jobs.length := by omega
      have hk1 : ¬ (k : Int) < (jobs.length : Int) := by omega
      have HV0 : Hid (V = false) := by
        show V = false
        rw [← show worksB jobs t = V from HV.out]
        unfold worksB
        rw [List.any_eq_false]
        intro x hx
        obtain ⟨i, hi, rfl⟩ := List.mem_iff_getElem.1 hx
        have := HN.out i (by omega)
        rw [show jobs.getD i (0, []) = jobs[i] from by simp [List.getD, List.getElem?_eq_getElem hi]] at this
        simpa using this
      clear HN HV hke
      go_wp2
      go_ret
      exact ⟨by rw [HV0.out]; rfl, HB0.out⟩

/-- How a call has answered. -/
def answeredN (want e : Int) (empty : Bool) : Int := if e ≠ want then 0 else if e = 0 then 2 else if empty then 1 else 0

set_option maxRecDepth 100000 in
set_option maxHeartbeats 2000000 in
theorem answered_any (c : Cfg) (mem : List Int) (jobs : List (Int × List InsD)) (er : Int) (em : Bool) (ma ja : Option Addr) (mc jc : Nat) (w : World) (hml : mem.length ≤ maxLen) (hjl : jobs.length ≤ maxLen) (hm : Ints w w.heap.size ma mem) (hj : JobsRep w w.heap.size ja jobs) :
    Calls Tryz.prog 34 #[.agg #[.int .i64 c.t, .int .i64 c.wd, .int .i64 c.s, .int .i64 c.g, .int .i64 c.r, .int .i64 c.cp, .int .i64 c.f, .slice ma mem.length mc, .slice ja jobs.length jc], .int .i64 er, .bool em] w fun e w' =>
      e = .returned (.int .i64 (answeredN (errS c mem jobs) er em)) ∧ Below w.heap.size w w' := by
  have hB0 : Below w.heap.size w (w.alloc (.cells #[.int .i64 c.t, .int .i64 c.wd, .int .i64 c.s, .int .i64 c.g, .int .i64 c.r, .int .i64 c.cp, .int .i64 c.f, .slice ma mem.length mc, .slice ja jobs.length jc] 27)) := (Below.refl w.heap.size w).alloc (Nat.le_refl _) _
  have HC : Hid _ := refCheck_rep c mem jobs ma ja mc jc _ hml hjl (hm.up hB0) (hj.up2 hB0)
  have HB0 : Hid (Below w.heap.size w (w.alloc (.cells #[.int .i64 c.t, .int .i64 c.wd, .int .i64 c.s, .int .i64 c.g, .int .i64 c.r, .int .i64 c.cp, .int .i64 c.f, .slice ma mem.length mc, .slice ja jobs.length jc] 27))) := hB0
  obtain ⟨N, HNN⟩ : ∃ N, Hid (answeredN (errS c mem jobs) er em = N) := ⟨_, rfl⟩
  rw [show answeredN (errS c mem jobs) er em = N from HNN.out]
  clear hm hj hB0
  go_enter Tryz.func34, Tryz.ntmps34
  go_wp2_with fail
  refine Calls.mono HC.out ?_
  rintro e w1 ⟨rfl, hb1⟩
  have HB1 : Hid (Below w.heap.size w w1) := (HB0.out).trans (hb1.mono (HB0.out).size)
  clear hb1 HC HB0
  generalize errS c mem jobs = W at *
  by_cases h1 : er = W
  · have b1 : (er == W) = true := by simp [h1]
    have b1' : (er != W) = false := by simp [h1]
    by_cases h2 : er = 0
    · have b2 : (er == 0) = true := by simp [h2]
      have HA : Hid (N = 2) := by show N = 2; rw [← show answeredN W er em = N from HNN.out]; unfold answeredN; rw [if_neg (by simp [h1]), if_pos h2]
      clear h1 h2 HNN
      go_wp2
      go_ret
      exact ⟨by rw [HA.out]; rfl, HB1.out⟩
    · have b2 : (er == 0) = false := by simp [h2]
      cases em with
      | true =>
        have HA : Hid (N = 1) := by show N = 1; rw [← show answeredN W er true = N from HNN.out]; unfold answeredN; rw [if_neg (by simp [h1]), if_neg h2, if_pos rfl]
        clear h1 h2 HNN
        go_wp2
        go_ret
        exact ⟨by rw [HA.out]; rfl, HB1.out⟩
      | false =>
        have HA : Hid (N = 0) := by show N = 0; rw [← show answeredN W er false = N from HNN.out]; unfold answeredN; rw [if_neg (by simp [h1]), if_neg h2, if_neg (by simp)]
        clear h1 h2 HNN
        go_wp2
        go_ret
        exact ⟨by rw [HA.out]; rfl, HB1.out⟩
  · have b1 : (er == W) = false := by simp [h1]
    have b1' : (er != W) = true := by simp [h1]
    have HA : Hid (N = 0) := by show N = 0; rw [← show answeredN W er em = N from HNN.out]; unfold answeredN; rw [if_pos h1]
    clear h1 HNN
    go_wp2
    go_ret
    exact ⟨by rw [HA.out]; rfl, HB1.out⟩

end Go.Proofs.YtejadojilncbjaaGreat
