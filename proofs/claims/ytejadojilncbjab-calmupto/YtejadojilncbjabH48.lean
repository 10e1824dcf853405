import Derived.Test.YtejadojilncbjabH25
import Derived.Test.YtejadojilncbjabH47
import Derived.Test.YtejadojilncbjabH07
import Derived.Test.YtejadojilncbjabH24
import Derived.Test.YtejadojilncbjabH03
import Derived.Test.YtejadojilncbjabRows
import Derived.ShutString
import Derived.ChangeOld
import Derived.JoinedCond
import Derived.Laws.OwnMore
import Derived.Deep.DeepCutAuto
namespace Go.Proofs.Ytejadojilncbjab
open Go.RowKit
set_option linter.unusedVariables false
attribute [local go_sem ↓] Go.wp_at_zero Go.wp_at_succ

theorem pick_len (l : List PickD) : (l.flatMap pickCells).length = l.length * 2 := flat_len (f := pickCells) (n := 2) (fun _ => rfl) l
theorem pick_one (l : List PickD) : ∀ u ∈ l.flatMap pickCells, u.oneCell' = true := fun u hu => by
  obtain ⟨q, _, hu⟩ := List.mem_flatMap.1 hu
  simp [pickCells] at hu
  rcases hu with rfl | rfl <;> rfl
theorem PicksIn.src {w : World} {B b off : Nat} {l : List PickD} (h : PicksIn w B (some ⟨b, off, none⟩) l) : ∀ (j : Nat) (u : Value), (l.flatMap pickCells)[j]? = some u → w.cell? ((⟨b, off, none⟩ : Addr).add j) = some u := fun j u hj => by
  have hjl : j < l.length * 2 := by rw [← pick_len l]; exact (List.getElem?_eq_some_iff.1 hj).1
  obtain ⟨i, s, hs, rfl⟩ : ∃ i s, s < 2 ∧ j = i * 2 + s := ⟨j / 2, j % 2, by omega, by omega⟩
  have hi : i < l.length := by omega
  obtain ⟨b', off', e, _, h0, h1⟩ := h i hi
  cases e
  rw [flat_at (f := pickCells) (n := 2) (fun _ => rfl) _ i s hs] at hj
  have e2 : l[i]? = some (pickAt l i) := by unfold pickAt; simp [List.getD, List.getElem?_eq_getElem hi]
  rw [e2] at hj
  rw [show (⟨b, off, none⟩ : Addr).add (i * 2 + s) = ⟨b, off + (i * 2 + s), none⟩ from by unfold Addr.add; split <;> simp_all]
  have : s = 0 ∨ s = 1 := by omega
  rcases this with rfl | rfl
  · rw [Nat.add_zero, h0, ← hj]; rfl
  · rw [← Nat.add_assoc, h1, ← hj]; rfl

/-- What rounds tells. -/
def RndIs (w : World) (L : List PickD) (e : Ending) (w' : World) : Prop := ∃ (ra : Option Addr) (rc : Nat), e = .returned (.slice ra L.length rc) ∧ PicksIn w' w'.heap.size ra L ∧ Below w.heap.size w w'

set_option maxRecDepth 100000 in
set_option maxHeartbeats 1000000 in
/-- The keepers' rounds. -/
theorem rounds_any (c : Cfg) (mem : List Int) (jobs : List (Int × List InsD)) (ps os : List PickD) (n T : Nat) (hT : c.t = (T : Int)) (hT4 : T ≤ 4) (hps : ps.length ≤ 2097152) (hn : n ≤ 524288) (hos : os.length ≤ 2 ^ 40) (ma ja pa qa : Option Addr) (mc jc pc qc : Nat) (w : World)
    (hp : PicksIn w w.heap.size pa ps) (hq : PicksIn w w.heap.size qa os) :
    Calls Try.prog 8 #[.agg #[.int .i64 c.t, .int .i64 c.wd, .int .i64 c.s, .int .i64 c.g, .int .i64 c.r, .int .i64 c.cp, .int .i64 c.f, .slice ma mem.length mc, .slice ja jobs.length jc], .slice pa ps.length pc, .slice qa os.length qc, .int .i64 (n : Int)] w (RndIs w (rndL ps os T n)) := by
  obtain ⟨iP, hiP, hzP0, hzP1, hzP2⟩ := info_parts Try.info48
  have HP : Hid (PicksIn w w.heap.size pa ps) := hp
  have HQ : Hid (PicksIn w w.heap.size qa os) := hq
  have HT : Hid (c.t = (T : Int)) := hT
  have HW2 : Hid (rndW os T ≤ 5) := by
    show _ ≤ _
    unfold rndW
    split <;> omega
  have hos' : os.length ≤ 1099511627776 := hos
  clear hp hq hT hos
  go_enter Try.func8, Try.ntmps8
  go_upto_region 2 with fail
  obtain ⟨w0, hw0⟩ : ∃ w0, w0 = w.alloc (.cells #[.int .i64 c.t, .int .i64 c.wd, .int .i64 c.s, .int .i64 c.g, .int .i64 c.r, .int .i64 c.cp, .int .i64 c.f, .slice ma mem.length mc, .slice ja jobs.length jc] 27) := ⟨_, rfl⟩
  have HB0 : Hid (Below w.heap.size w w0) := by rw [hw0]; exact (Below.refl w.heap.size w).alloc (Nat.le_refl _) _
  have HSb : Hid (Blk w0 w.heap.size 27 #[.int .i64 c.t, .int .i64 c.wd, .int .i64 c.s, .int .i64 c.g, .int .i64 c.r, .int .i64 c.cp, .int .i64 c.f, .slice ma mem.length mc, .slice ja jobs.length jc]) := by rw [hw0]; exact Blk.new w 27 _
  rw [← hw0]
  clear hw0
  have HP0 : Hid (PicksIn w0 w0.heap.size pa ps) := (HP.out).up2 HB0.out
  have HQ0 : Hid (PicksIn w0 w0.heap.size qa os) := (HQ.out).up2 HB0.out
  clear HP HQ
  go_cut [9] (fun t wx => ∃ (ra : Option Addr) (rc : Nat), t = .slice ra ps.length rc ∧ Hid (wx.ownsRow w0.heap.size 48 2 (.slice ra ps.length rc) ps.length (ps.flatMap pickCells)) ∧ Hid (Below w0.heap.size w0 wx))
  case first =>
    by_cases hp0 : ps.length = 0
    · have HP00 : Hid (ps.length = 0) := hp0
      have HPs : Hid (ps = []) := List.length_eq_zero_iff.1 hp0
      clear hp0
      go_wp2_with (at_builtin; refine append_empty (by rfl) _ _ _ (by rfl) _ iP Try.underlying28 hiP none 0 0 (Nat.le_refl _) (by rfl) pa pc (by exact congrArg (fun n => Value.slice pa n pc) HP00.out) ?_)
      go_meet
      case rel => exact ⟨none, 0, by rw [HP00.out], by rw [HPs.out]; exact World.ownsRow_nil _ _ _ _, Below.refl _ _⟩
    · have hpos : 0 < ps.length := by omega
      obtain ⟨pb, poff, hpa, hpbl, _, _⟩ := HP0.out 0 hpos
      subst hpa
      have HSrc : Hid (∀ (j : Nat) (u : Value), (ps.flatMap pickCells)[j]? = some u → w0.cell? ((⟨pb, poff, none⟩ : Addr).add j) = some u) := (HP0.out).src
      have HNil : Hid (w0.ownsRow w0.heap.size 48 2 (.slice none 0 0) 0 []) := World.ownsRow_nil _ _ _ _
      have HLn : Hid ((ps.flatMap pickCells).length = ps.length * 2) := pick_len ps
      have HOne : Hid (∀ u ∈ ps.flatMap pickCells, u.oneCell' = true) := pick_one ps
      obtain ⟨XS, hXS⟩ : ∃ XS, XS = ps.flatMap pickCells := ⟨_, rfl⟩
      have HXS : Hid (XS = ps.flatMap pickCells) := hXS
      rw [← hXS] at HSrc HLn HOne
      clear hXS
      go_wp2_with
        (at_builtin;
         refine wpList_append_lies _ (by rfl) _ _ _ (by rfl) w0.heap.size 48 iP _ 2 16 Try.underlying28 hiP hzP0 hzP1 hzP2 rfl (by omega) (.slice none 0 0) 0 [] (by rfl) HNil.out
           ⟨pb, poff, none⟩ ps.length pc XS (by rfl) HLn.out HSrc.out HOne.out hpos (by unfold maxLen; omega) (by omega) (Nat.le_refl _) w0.heap.size rfl ?_;
         intro gg cap wz hown1 hgrow hat hlt;
         have HKz : Hid (Kp [48] w0.heap.size w0.heap.size w0.heap.size w0 wz) := Kp.grown hgrow (Nat.le_refl _) HNil.out (by simp);
         have HRz : Hid (wz.ownsRow w0.heap.size 48 2 (.slice (some ⟨gg, 0, none⟩) (0 + ps.length) cap) (0 + ps.length) ([] ++ XS)) := hown1;
         clear hown1 hgrow hat hlt)
      go_meet
      case rel =>
        refine ⟨some ⟨gg, 0, none⟩, cap, by simp, by rw [← show XS = _ from HXS.out]; simpa using HRz, ?_⟩
        have hk := HKz.out
        exact ⟨hk.os, hk.tape, hk.output, hk.size, fun b hb => hk.low b hb (by omega) (by omega)⟩
  case rest =>
    obtain ⟨ra0, rc0, rfl, HR0, HBc⟩ := hcut
    have HS0 : Hid (rndL ps os T 0 = ps) := by show _ = _; simp [rndL]
    go_wp2_with fail
    go_loopg [9, 10] (n + 1) (fun m t9 t10 wr => ∃ (k : Nat) (ra : Option Addr) (rc : Nat), t9 = .slice ra (rndL ps os T k).length rc ∧ t10 = .int .i64 (k : Int) ∧ k ≤ n ∧ m = n + 1 - k ∧ Hid (wr.ownsRow w0.heap.size 48 2 (.slice ra (rndL ps os T k).length rc) (rndL ps os T k).length ((rndL ps os T k).flatMap pickCells)) ∧ Hid (Below w0.heap.size w0 wr))
    case atStart => exact ⟨0, ra0, rc0, by rw [HS0.out], rfl, by omega, by omega, by rw [HS0.out]; exact HR0, HBc⟩
    case round =>
      obtain ⟨k, ra, rc, rfl, rfl, hk, hgk, HR, HBx⟩ := hrel
      clear HR0 HBc HS0
      obtain ⟨wq, hwq⟩ : ∃ wq, wq = wr := ⟨_, rfl⟩
      subst hwq
      have hszq : w0.heap.size ≤ wq.heap.size := (HBx.out).size
      have HLk : Hid ((rndL ps os T k).length = ps.length + k * rndW os T) := rndL_len ps os T k
      have hlk : (rndL ps os T k).length ≤ 2097152 + 524288 * 5 := by
        rw [HLk.out]
        have h1 : k * rndW os T ≤ 524288 * 5 := Nat.mul_le_mul (by omega) HW2.out
        omega
      by_cases hkl : k < n
      · have hk1 : (k : Int) < (n : Int) := by omega
        have hwk : IntKind.i64.wrap ((k : Int) + 1) = (k : Int) + 1 := wrapP _ (by omega) (by omega)
        obtain ⟨LK, hLK⟩ : ∃ LK, LK = rndL ps os T k := ⟨_, rfl⟩
        have HLK : Hid (LK = rndL ps os T k) := hLK
        rw [← hLK] at HR HLk hlk ⊢
        clear hLK
        by_cases ho0 : os.length = 0
        · have hob : ¬ (os.length : Int) > 0 := by omega
          have HPre : Hid (rndPre os k = [] ∧ dOf os k = 0) := ⟨if_pos ho0, if_pos ho0⟩
          have HNx : Hid (rndL ps os T (k + 1) = LK ++ (List.range T).map fun t : Nat => (⟨(t : Int), 0⟩ : PickD)) := by
            show _ = _
            rw [rndL_next, ← show LK = _ from HLK.out]
            unfold rndOne
            rw [(HPre.out).1, (HPre.out).2]
            rfl
          have HR1 := HR
          have HB1 := HBx
          clear ho0 HPre HLK HLk HR HBx hszq
          have HS0 : Hid (LK ++ (List.range 0).map (fun t : Nat => (⟨(t : Int), 0⟩ : PickD)) = LK) := by show _ = _; simp
          go_wp2_with fail
          go_loopg [9, 13] (T + 1) (fun m t9 t13 wr => ∃ (t : Nat) (re : Option Addr) (rf : Nat), t9 = .slice re (LK ++ (List.range t).map (fun t : Nat => (⟨(t : Int), 0⟩ : PickD))).length rf ∧ t13 = .int .i64 (t : Int) ∧ t ≤ T ∧ m = T + 1 - t ∧ Hid (wr.ownsRow w0.heap.size 48 2 (.slice re (LK ++ (List.range t).map (fun t : Nat => (⟨(t : Int), 0⟩ : PickD))).length rf) (LK ++ (List.range t).map (fun t : Nat => (⟨(t : Int), 0⟩ : PickD))).length ((LK ++ (List.range t).map (fun t : Nat => (⟨(t : Int), 0⟩ : PickD))).flatMap pickCells)) ∧ Hid (Below w0.heap.size w0 wr))
          case atStart => exact ⟨0, ra, rc, by rw [HS0.out], rfl, by omega, by omega, by rw [HS0.out]; exact HR1, HB1⟩
          case round =>
            obtain ⟨t, re, rf, rfl, rfl, ht, hgt, HRt, HBt⟩ := hrel
            clear HR1 HB1 HS0
            have hszt : w0.heap.size ≤ wr.heap.size := (HBt.out).size
            have hst : wr.cell? ⟨w.heap.size, 0, none⟩ = some (.int .i64 (T : Int)) := by
              rw [((HSb.out).below HBt.out (HSb.out).lt).cell, HT.out]
              rfl
            have HSt : Hid ((LK ++ (List.range (t + 1)).map (fun t : Nat => (⟨(t : Int), 0⟩ : PickD))) = (LK ++ (List.range t).map (fun t : Nat => (⟨(t : Int), 0⟩ : PickD))) ++ [⟨(t : Int), 0⟩]) := by
              show _ = _
              rw [List.range_succ, List.map_append, List.append_assoc]
              rfl
            have hlt : (LK ++ (List.range t).map (fun t : Nat => (⟨(t : Int), 0⟩ : PickD))).length ≤ 2097152 + 524288 * 5 + 5 := by
              rw [List.length_append]
              simp
              omega
            by_cases htl : t < T
            · obtain ⟨LT, hLT⟩ : ∃ LT, LT = LK ++ (List.range t).map (fun t : Nat => (⟨(t : Int), 0⟩ : PickD)) := ⟨_, rfl⟩
              rw [← hLT] at HRt HSt hlt ⊢
              obtain ⟨OT, hOT⟩ : ∃ OT, OT = LT.flatMap pickCells := ⟨_, rfl⟩
              have HOT : Hid (OT = LT.flatMap pickCells) := hOT
              rw [← hOT] at HRt
              have ht1 : (t : Int) < (T : Int) := by omega
              have hwt : IntKind.i64.wrap ((t : Int) + 1) = (t : Int) + 1 := wrapP _ (by omega) (by omega)
              clear hLT hOT
              go_wp2_with
                (at_builtin;
                 refine wpList_append_lies _ (by rfl) _ _ _ (by rfl) w0.heap.size 48 iP _ 2 16 Try.underlying28 hiP hzP0 hzP1 hzP2 rfl (by omega) (.slice re LT.length rf) LT.length OT (by rfl) ((HRt.out).alloc _)
                   ⟨wr.heap.size, 0, none⟩ 1 1 [.int .i64 (t : Int), .int .i64 0] (by rfl) (by rfl) (World.news_of_block (cs := #[.int .i64 (t : Int), .int .i64 0]) (t := 48) (fr := (0, 0)) (heap_alloc_new wr _)) (by simp [Value.oneCell'])
                   (by omega) (by unfold maxLen; omega) (by omega) (by simp; omega) (wr.heap.size + 1) (by simp) ?_;
                 intro gg cap wz hown1 hgrow hat hlt;
                 have HKz : Hid (Kp [48] w0.heap.size w0.heap.size w0.heap.size wr wz) := ((Kp.below ((Below.refl _ _).alloc (Nat.le_refl _) _) hszt).trans (Kp.grown hgrow (by simp; omega) ((HRt.out).alloc _) (by simp)));
                 have HRz : Hid (wz.ownsRow w0.heap.size 48 2 (.slice (some ⟨gg, 0, none⟩) (LT.length + 1) cap) (LT.length + 1) (OT ++ [.int .i64 (t : Int), .int .i64 0])) := hown1;
                 clear hown1 hgrow hat hlt)
              go_roundg (T + 1 - (t + 1))
              case rel =>
                have hk := HKz.out
                have h := HBt.out
                refine ⟨t + 1, some ⟨gg, 0, none⟩, cap, by rw [HSt.out]; simp, by simp, by omega, by omega, ?_, ⟨hk.os.trans h.os, hk.tape.trans h.tape, hk.output.trans h.output, Nat.le_trans h.size hk.size, fun b hb => (hk.low b hb (by omega) (by omega)).trans (h.block b hb)⟩⟩
                show World.ownsRow _ _ _ _ _ _ _
                rw [HSt.out, List.flatMap_append, ← show OT = _ from HOT.out, List.length_append]
                exact HRz.out
              case measure => omega
            · have hte : t = T := by omega
              subst hte
              have ht2 : ¬ ((t : Int) < (t : Int)) := by omega
              have HRn : Hid (wr.ownsRow w0.heap.size 48 2 (.slice re (rndL ps os t (k + 1)).length rf) (rndL ps os t (k + 1)).length ((rndL ps os t (k + 1)).flatMap pickCells)) := by
                show World.ownsRow _ _ _ _ _ _ _
                rw [HNx.out]
                exact HRt.out
              rw [← show rndL ps os t (k + 1) = _ from HNx.out]
              clear HRt HNx HSt
              go_wp2_with fail
              go_roundg (n + 1 - (k + 1))
              case rel => exact ⟨k + 1, re, rf, rfl, by simp, by omega, by omega, HRn, HBt⟩
              case measure => omega
        · have hob : (os.length : Int) > 0 := by omega
          have hpos : 0 < os.length := by omega
          have hml : k % os.length < os.length := Nat.mod_lt _ hpos
          have HPre : Hid (rndPre os k = [pickAt os (k % os.length)] ∧ dOf os k = (pickAt os (k % os.length)).draw) := ⟨if_neg ho0, if_neg ho0⟩
          obtain ⟨qb, qoff, hqa, hqbl, hqc0, hqc1⟩ := HQ0.out (k % os.length) hml
          have hq0 := (World.cell?_of_block (a := ⟨qb, qoff + (k % os.length) * 2, none⟩) ((HBx.out).block qb hqbl)).trans hqc0
          have hq1 := (World.cell?_of_block (a := ⟨qb, qoff + (k % os.length) * 2 + 1, none⟩) ((HBx.out).block qb hqbl)).trans hqc1
          have hqw : qb < wq.heap.size := by omega
          have hrem : (k : Int).tmod (os.length : Int) = ((k % os.length : Nat) : Int) := by
            rw [Int.tmod_eq_emod_of_nonneg (by omega)]
            exact (Int.natCast_emod k os.length).symm
          obtain ⟨m, hm⟩ : ∃ m, m = k % os.length := ⟨_, rfl⟩
          rw [← hm] at hq0 hq1 hrem HPre hml
          have hm0 : (0 : Int) ≤ (m : Int) := by omega
          have hm1 : (m : Int) < (os.length : Int) := by omega
          have hwm : IntKind.i64.wrap (m : Int) = (m : Int) := wrapP _ (by omega) (by omega)
          have hoz : ((os.length : Int) == 0) = false := by rw [beq_eq_false_iff_ne]; omega
          have hoz' : ¬ (os.length : Int) = 0 := by omega
          obtain ⟨th, hth⟩ : ∃ th, th = (pickAt os m).thread := ⟨_, rfl⟩
          obtain ⟨dr, hdr⟩ : ∃ dr, dr = (pickAt os m).draw := ⟨_, rfl⟩
          rw [← hth] at hq0
          rw [← hdr] at hq1
          have HPk : Hid (pickAt os m = ⟨th, dr⟩) := by show _ = _; rw [hth, hdr]
          subst hqa
          obtain ⟨OT, hOT⟩ : ∃ OT, OT = LK.flatMap pickCells := ⟨_, rfl⟩
          have HOT : Hid (OT = LK.flatMap pickCells) := hOT
          obtain ⟨w8, hw8⟩ : ∃ w8, w8 = wq.alloc (.cells #[.int .i64 th, .int .i64 dr] 48) := ⟨_, rfl⟩
          obtain ⟨n8, hn8⟩ : ∃ n8, n8 = wq.heap.size := ⟨_, rfl⟩
          have hB8 : Below wq.heap.size wq w8 := by rw [hw8]; exact (Below.refl _ _).alloc (Nat.le_refl _) _
          have HRo : Hid (w8.ownsRow w0.heap.size 48 2 (.slice ra LK.length rc) LK.length OT) := by rw [hOT]; exact ownsRow_below HR.out hB8
          have HBk8 : Hid (Blk w8 n8 48 #[.int .i64 th, .int .i64 dr]) := by rw [hw8, hn8]; exact Blk.new wq 48 _
          have hne : (Value.slice ra LK.length rc).ownBlock ≠ some n8 := fun e => by have := (HR.out).lt _ e; omega
          have HB8 : Hid (Below w0.heap.size w0 w8) := (HBx.out).trans (hB8.mono hszq)
          have hsz8 : w0.heap.size ≤ w8.heap.size := (HB8.out).size
          have HNx0 : Hid (rndL ps os T (k + 1) = (LK ++ [⟨th, dr⟩]) ++ (List.range T).map fun t : Nat => (⟨(t : Int), dr⟩ : PickD)) := by
            show _ = _
            rw [rndL_next, ← show LK = _ from HLK.out]
            unfold rndOne
            rw [(HPre.out).1, (HPre.out).2, HPk.out, List.append_assoc]
          clear hqc0 hqc1 hm hth hdr hOT HR ho0 hml HPre HPk HLK HLk hB8 HBx hszq
          go_upto_region 9 with fail
          rw [← hw8, ← hn8]
          clear hw8 hn8
          have hc8 := (HBk8.out).cell
          go_wp2_with
            (at_builtin;
             refine wpList_append_lies _ (by rfl) _ _ _ (by rfl) w0.heap.size 48 iP _ 2 16 Try.underlying28 hiP hzP0 hzP1 hzP2 rfl (by omega) (.slice ra LK.length rc) LK.length OT (by rfl) ((HRo.out).alloc _)
               ⟨w8.heap.size, 0, none⟩ 1 1 [.int .i64 th, .int .i64 dr] (by rfl) (by rfl) (World.news_of_block (cs := #[.int .i64 th, .int .i64 dr]) (t := 48) (fr := (0, 0)) (heap_alloc_new w8 _)) (by simp [Value.oneCell'])
               (by omega) (by unfold maxLen; omega) (by omega) (by simp; omega) (w8.heap.size + 1) (by simp) ?_;
             intro gg cap wz hown1 hgrow hat hlt;
             have HKz : Hid (Kp [48] w0.heap.size w0.heap.size w0.heap.size w8 wz) := ((Kp.below ((Below.refl _ _).alloc (Nat.le_refl _) _) hsz8).trans (Kp.grown hgrow (by simp; omega) ((HRo.out).alloc _) (by simp)));
             have hd8 : wz.cell? ⟨n8, 1, none⟩ = some (.int .i64 dr) := (hgrow.cell_far ⟨n8, 1, none⟩ (by have := (HBk8.out).lt; simp; omega) (Ne.symm hne)).trans (((HBk8.out).alloc (.cells #[.int .i64 th, .int .i64 dr] 48)).cell 1);
             have HRz : Hid (wz.ownsRow w0.heap.size 48 2 (.slice (some ⟨gg, 0, none⟩) (LK.length + 1) cap) (LK.length + 1) (OT ++ [.int .i64 th, .int .i64 dr])) := hown1;
             clear hown1 hgrow hat hlt)
          have HB1 : Hid (Below w0.heap.size w0 wz) := by
            have hk := HKz.out
            have h := HB8.out
            exact ⟨hk.os.trans h.os, hk.tape.trans h.tape, hk.output.trans h.output, Nat.le_trans h.size hk.size, fun b hb => (hk.low b hb (by omega) (by omega)).trans (h.block b hb)⟩
          obtain ⟨LL, hLL⟩ : ∃ LL, LL = LK ++ [(⟨th, dr⟩ : PickD)] := ⟨_, rfl⟩
          have hll : LL.length = LK.length + 1 := by rw [hLL]; simp
          have HR1 : Hid (wz.ownsRow w0.heap.size 48 2 (.slice (some ⟨gg, 0, none⟩) LL.length cap) LL.length (LL.flatMap pickCells)) := by
            show World.ownsRow _ _ _ _ _ _ _
            rw [hll, hLL, List.flatMap_append, ← show OT = _ from HOT.out]
            exact HRz.out
          have HNx : Hid (rndL ps os T (k + 1) = LL ++ (List.range T).map fun t : Nat => (⟨(t : Int), dr⟩ : PickD)) := by rw [hLL]; exact HNx0
          rw [← hll]
          have hll2 : LL.length ≤ 2097152 + 524288 * 5 + 1 := by omega
          clear hLL hll HRz HKz HRo HOT HNx0 hd8 HB8 HBk8 hne hsz8
          have HS0 : Hid (LL ++ (List.range 0).map (fun t : Nat => (⟨(t : Int), dr⟩ : PickD)) = LL) := by show _ = _; simp
          go_wp2_with fail
          go_loopg [9, 13] (T + 1) (fun m t9 t13 wr => ∃ (t : Nat) (re : Option Addr) (rf : Nat), t9 = .slice re (LL ++ (List.range t).map (fun t : Nat => (⟨(t : Int), dr⟩ : PickD))).length rf ∧ t13 = .int .i64 (t : Int) ∧ t ≤ T ∧ m = T + 1 - t ∧ Hid (wr.ownsRow w0.heap.size 48 2 (.slice re (LL ++ (List.range t).map (fun t : Nat => (⟨(t : Int), dr⟩ : PickD))).length rf) (LL ++ (List.range t).map (fun t : Nat => (⟨(t : Int), dr⟩ : PickD))).length ((LL ++ (List.range t).map (fun t : Nat => (⟨(t : Int), dr⟩ : PickD))).flatMap pickCells)) ∧ Hid (Below w0.heap.size w0 wr))
          case atStart => exact ⟨0, some ⟨gg, 0, none⟩, cap, by rw [HS0.out], rfl, by omega, by omega, by rw [HS0.out]; exact HR1, HB1⟩
          case round =>
            obtain ⟨t, re, rf, rfl, rfl, ht, hgt, HRt, HBt⟩ := hrel
            clear HR1 HB1 HS0
            have hszt : w0.heap.size ≤ wr.heap.size := (HBt.out).size
            have hst : wr.cell? ⟨w.heap.size, 0, none⟩ = some (.int .i64 (T : Int)) := by
              rw [((HSb.out).below HBt.out (HSb.out).lt).cell, HT.out]
              rfl
            have HSt : Hid ((LL ++ (List.range (t + 1)).map (fun t : Nat => (⟨(t : Int), dr⟩ : PickD))) = (LL ++ (List.range t).map (fun t : Nat => (⟨(t : Int), dr⟩ : PickD))) ++ [⟨(t : Int), dr⟩]) := by
              show _ = _
              rw [List.range_succ, List.map_append, List.append_assoc]
              rfl
            have hlt : (LL ++ (List.range t).map (fun t : Nat => (⟨(t : Int), dr⟩ : PickD))).length ≤ 2097152 + 524288 * 5 + 5 := by
              rw [List.length_append]
              simp
              omega
            by_cases htl : t < T
            · obtain ⟨LT, hLT⟩ : ∃ LT, LT = LL ++ (List.range t).map (fun t : Nat => (⟨(t : Int), dr⟩ : PickD)) := ⟨_, rfl⟩
              rw [← hLT] at HRt HSt hlt ⊢
              obtain ⟨OT, hOT⟩ : ∃ OT, OT = LT.flatMap pickCells := ⟨_, rfl⟩
              have HOT : Hid (OT = LT.flatMap pickCells) := hOT
              rw [← hOT] at HRt
              have ht1 : (t : Int) < (T : Int) := by omega
              have hwt : IntKind.i64.wrap ((t : Int) + 1) = (t : Int) + 1 := wrapP _ (by omega) (by omega)
              clear hLT hOT
              go_wp2_with
                (at_builtin;
                 refine wpList_append_lies _ (by rfl) _ _ _ (by rfl) w0.heap.size 48 iP _ 2 16 Try.underlying28 hiP hzP0 hzP1 hzP2 rfl (by omega) (.slice re LT.length rf) LT.length OT (by rfl) ((HRt.out).alloc _)
                   ⟨wr.heap.size, 0, none⟩ 1 1 [.int .i64 (t : Int), .int .i64 dr] (by rfl) (by rfl) (World.news_of_block (cs := #[.int .i64 (t : Int), .int .i64 dr]) (t := 48) (fr := (0, 0)) (heap_alloc_new wr _)) (by simp [Value.oneCell'])
                   (by omega) (by unfold maxLen; omega) (by omega) (by simp; omega) (wr.heap.size + 1) (by simp) ?_;
                 intro gg cap wz hown1 hgrow hat hlt;
                 have HKz : Hid (Kp [48] w0.heap.size w0.heap.size w0.heap.size wr wz) := ((Kp.below ((Below.refl _ _).alloc (Nat.le_refl _) _) hszt).trans (Kp.grown hgrow (by simp; omega) ((HRt.out).alloc _) (by simp)));
                 have HRz : Hid (wz.ownsRow w0.heap.size 48 2 (.slice (some ⟨gg, 0, none⟩) (LT.length + 1) cap) (LT.length + 1) (OT ++ [.int .i64 (t : Int), .int .i64 dr])) := hown1;
                 clear hown1 hgrow hat hlt)
              go_roundg (T + 1 - (t + 1))
              case rel =>
                have hk := HKz.out
                have h := HBt.out
                refine ⟨t + 1, some ⟨gg, 0, none⟩, cap, by rw [HSt.out]; simp, by simp, by omega, by omega, ?_, ⟨hk.os.trans h.os, hk.tape.trans h.tape, hk.output.trans h.output, Nat.le_trans h.size hk.size, fun b hb => (hk.low b hb (by omega) (by omega)).trans (h.block b hb)⟩⟩
                show World.ownsRow _ _ _ _ _ _ _
                rw [HSt.out, List.flatMap_append, ← show OT = _ from HOT.out, List.length_append]
                exact HRz.out
              case measure => omega
            · have hte : t = T := by omega
              subst hte
              have ht2 : ¬ ((t : Int) < (t : Int)) := by omega
              have HRn : Hid (wr.ownsRow w0.heap.size 48 2 (.slice re (rndL ps os t (k + 1)).length rf) (rndL ps os t (k + 1)).length ((rndL ps os t (k + 1)).flatMap pickCells)) := by
                show World.ownsRow _ _ _ _ _ _ _
                rw [HNx.out]
                exact HRt.out
              rw [← show rndL ps os t (k + 1) = _ from HNx.out]
              clear HRt HNx HSt
              go_wp2_with fail
              go_roundg (n + 1 - (k + 1))
              case rel => exact ⟨k + 1, re, rf, rfl, by simp, by omega, by omega, HRn, HBt⟩
              case measure => omega
      · have hkn : k = n := by omega
        subst hkn
        have hk2 : ¬ ((k : Int) < (k : Int)) := by omega
        have HF : Hid (PicksIn wq wq.heap.size ra (rndL ps os T k) ∧ Below w.heap.size w wq) := ⟨pick_row HR.out, (HB0.out).trans ((HBx.out).mono (HB0.out).size)⟩
        clear HR HBx
        go_wp2_with fail
        go_ret
        exact ⟨ra, rc, rfl, (HF.out).1, (HF.out).2⟩

end Go.Proofs.Ytejadojilncbjab

namespace Go.Proofs.Ytejadojilncbjab
open Go.RowKit
set_option linter.unusedVariables false
attribute [local go_sem ↓] Go.wp_at_zero Go.wp_at_succ

/-- How a call has answered. -/
def answeredN (want e : Int) (empty : Bool) : Int := if e ≠ want then 0 else if e = 0 then 2 else if empty then 1 else 0

set_option maxRecDepth 100000 in
set_option maxHeartbeats 2000000 in
theorem answered_any (c : Cfg) (mem : List Int) (jobs : List (Int × List InsD)) (er : Int) (em : Bool) (ma ja : Option Addr) (mc jc : Nat) (w : World) (hml : mem.length ≤ maxLen) (hjl : jobs.length ≤ maxLen) (hm : Ints w w.heap.size ma mem) (hj : JobsRep w w.heap.size ja jobs) :
    Calls Try.prog 7 #[.agg #[.int .i64 c.t, .int .i64 c.wd, .int .i64 c.s, .int .i64 c.g, .int .i64 c.r, .int .i64 c.cp, .int .i64 c.f, .slice ma mem.length mc, .slice ja jobs.length jc], .int .i64 er, .bool em] w fun e w' =>
      e = .returned (.int .i64 (answeredN (errS c mem jobs) er em)) ∧ Below w.heap.size w w' := by
  have hB0 : Below w.heap.size w (w.alloc (.cells #[.int .i64 c.t, .int .i64 c.wd, .int .i64 c.s, .int .i64 c.g, .int .i64 c.r, .int .i64 c.cp, .int .i64 c.f, .slice ma mem.length mc, .slice ja jobs.length jc] 27)) := (Below.refl w.heap.size w).alloc (Nat.le_refl _) _
  have HC : Hid _ := refCheck_rep c mem jobs ma ja mc jc _ hml hjl (hm.up hB0) (hj.up2 hB0)
  have HB0 : Hid (Below w.heap.size w (w.alloc (.cells #[.int .i64 c.t, .int .i64 c.wd, .int .i64 c.s, .int .i64 c.g, .int .i64 c.r, .int .i64 c.cp, .int .i64 c.f, .slice ma mem.length mc, .slice ja jobs.length jc] 27))) := hB0
  obtain ⟨N, HNN⟩ : ∃ N, Hid (answeredN (errS c mem jobs) er em = N) := ⟨_, rfl⟩
  rw [show answeredN (errS c mem jobs) er em = N from HNN.out]
  clear hm hj hB0
  go_enter Try.func7, Try.ntmps7
  go_wp2_with fail
  refine Calls.mono HC.out ?_
  rintro e w1 ⟨rfl, hb1⟩
  have HB1 : Hid (Below w.heap.size w w1) := (HB0.out).trans (hb1.mono (HB0.out).size)
  clear hb1 HC HB0
  generalize errS c mem jobs = W at *
  by_cases h1 : er = W
  · have b1 : (er == W) = true := by simp [h1]
    have b1' : (er != W) = false := by simp [h1]
    by_cases h2 : er = 0
    · have b2 : (er == 0) = true := by simp [h2]
      have HA : Hid (N = 2) := by show N = 2; rw [← show answeredN W er em = N from HNN.out]; unfold answeredN; rw [if_neg (by simp [h1]), if_pos h2]
      clear h1 h2 HNN
      go_wp2
      go_ret
      exact ⟨by rw [HA.out]; rfl, HB1.out⟩
    · have b2 : (er == 0) = false := by simp [h2]
      cases em with
      | true =>
        have HA : Hid (N = 1) := by show N = 1; rw [← show answeredN W er true = N from HNN.out]; unfold answeredN; rw [if_neg (by simp [h1]), if_neg h2, if_pos rfl]
        clear h1 h2 HNN
        go_wp2
        go_ret
        exact ⟨by rw [HA.out]; rfl, HB1.out⟩
      | false =>
        have HA : Hid (N = 0) := by show N = 0; rw [← show answeredN W er false = N from HNN.out]; unfold answeredN; rw [if_neg (by simp [h1]), if_neg h2, if_neg (by simp)]
        clear h1 h2 HNN
        go_wp2
        go_ret
        exact ⟨by rw [HA.out]; rfl, HB1.out⟩
  · have b1 : (er == W) = false := by simp [h1]
    have b1' : (er != W) = true := by simp [h1]
    have HA : Hid (N = 0) := by show N = 0; rw [← show answeredN W er em = N from HNN.out]; unfold answeredN; rw [if_pos h1]
    clear h1 HNN
    go_wp2
    go_ret
    exact ⟨by rw [HA.out]; rfl, HB1.out⟩

end Go.Proofs.Ytejadojilncbjab

namespace Go.Proofs.Ytejadojilncbjab
open Go.RowKit
set_option linter.unusedVariables false
attribute [local go_sem ↓] Go.wp_at_zero Go.wp_at_succ

theorem Try.info76 : (Try.prog.info? 76).map (fun i => (i.zero, i.size, i.bytes)) = some (some (.agg zc), 47, 472) := by kernel_rfl

theorem fold_set : ∀ (l : List Value) (j : Nat) (a : Array Value), j + l.length = a.size → (l.zipIdx j).foldl (fun cs x => cs.setIfInBounds x.snd x.fst) a = (a.toList.take j ++ l).toArray
  | [], j, a, h => by
    have : j = a.size := by simpa using h
    subst this
    rw [List.take_of_length_le (by simp)]
    simp
  | v :: l, j, a, h => by
    rw [List.zipIdx_cons, List.foldl_cons, fold_set l (j + 1) (a.setIfInBounds j v) (by simp at h ⊢; omega)]
    congr 1
    have hj : j < a.toList.length := by simp at h ⊢; omega
    rw [Array.toList_setIfInBounds, List.take_set, List.take_add_one, List.getElem?_eq_getElem hj]
    simp only [Option.toList]
    rw [List.set_append_right _ _ (by simp; omega)]
    simp [Nat.min_eq_left (Nat.le_of_lt (by simpa using hj))]

/-- What begin leaves: the threads and the cells at their beginning. -/
def BegunIs (c : Cfg) (mem : List Int) (jobs : List (Int × List InsD)) (w : World) (e : Ending) (w' : World) : Prop :=
  ∃ (nb p cap tcap : Nat) (q : List (PT × Ls)) (Ds : List Int) (X : List Value), e = .returned (.agg #[.slice (some ⟨nb, 0, none⟩) Ds.length cap, .slice (some ⟨p, 0, none⟩) q.length tcap, .int .i64 0]) ∧
    (∀ w2 cb, Below w'.heap.size w' w2 → Blk w2 cb 60 #[.slice (some ⟨nb, 0, none⟩) Ds.length cap, .slice (some ⟨p, 0, none⟩) q.length tcap, .int .i64 0] → w.heap.size ≤ cb → WR w.heap.size p nb cb cap tcap 0 X w2 q Ds) ∧ SimW c jobs 0 (gStart c mem jobs) q Ds ∧ Below w.heap.size w w'

theorem bi_below {wb k tcap : Nat} {ta : Option Addr} {xs : List Value} {w wr w5 w6 w7 : World} (hB : Below w.heap.size w wr) (hb5 : Below wr.heap.size wr w5) (hb6 : Below w5.heap.size w5 w6) (hthr : wr.ownsRow w.heap.size 76 47 (.slice ta k tcap) k xs) (hgr : w6.grownBy w7 (Value.slice ta k tcap).ownBlock) (hwb : w.heap.size ≤ wb) (v : Value) :
    Below w.heap.size w (w7.setCell ⟨wb, 1, none⟩ v) := by
  have h1 : Below w.heap.size w w6 := (hB.trans (hb5.mono hB.size)).trans (hb6.mono (Nat.le_trans hB.size hb5.size))
  have hs : w.heap.size ≤ w6.heap.size := h1.size
  refine below_onto (w' := w7) ⟨hgr.os.trans h1.os, hgr.tape.trans h1.tape, hgr.output.trans h1.output, Nat.le_trans h1.size hgr.size, fun q hq => ?_⟩ ((Only.refl _ _).set) hwb (by have := hgr.size; omega)
  rw [hgr.block q (by omega) (fun e => by have := (hthr.lt q e.symm).1; omega)]
  exact h1.block q hq

theorem begun_of {c : Cfg} {mem : List Int} {jobs : List (Int × List InsD)} {w wr w' : World} {base nb wb sb r2 tcap tn : Nat} {S : Array Value} {Ds : List Int} {ta : Option Addr} {q : List (PT × Ls)} (hc : cfgB c = true) (hmw : (mem.length : Int) = c.wd) (hmb : memB mem = true) (hjl : jobs.length ≤ 8)
    (hbase : (base : Int) = 3 + 2 * c.s + c.t) (htn : (tn : Int) = c.t) (ht1 : 1 ≤ tn) (hDs : Ds = List.replicate base (0 : Int) ++ mem) (I : BI w.heap.size nb wb sb r2 Ds.length Ds.length S c jobs Ds ta tcap tn q wr) (HB : Below w.heap.size w wr) (ho : Only r2 wr w') (hr : w.heap.size ≤ r2) :
    BegunIs c mem jobs w (.returned (.agg #[.slice (some ⟨nb, 0, none⟩) Ds.length Ds.length, .slice ta tn tcap, .int .i64 0])) w' := by
  obtain ⟨g, cap, cur, hv, hbg, hgb, h1, h2, h3, h4⟩ := own_block I.thr ht1
  obtain ⟨rfl, rfl⟩ : ta = some ⟨g, 0, none⟩ ∧ tcap = cap := by injection hv with a b c; exact ⟨a, c⟩
  have hql := I.ql
  have hg2 : Blk w' g 76 cur := hgb.only ho (Blk.ne hgb I.res (by decide))
  have hn2 : Blk w' nb 3 (Ds.map (Value.int .i64 ·)).toArray := I.num.only ho (Blk.ne I.num I.res (by decide))
  have hrows : ∀ i (h : i < q.length), RowsOk w.heap.size w' q[i].1 q[i].2 := fun i h => (I.rows i h).kept (fun k o => ho.block k ((I.rows i h).own k o).2 (fun e => Own_tag (I.rows i h) I.res (by decide) (by decide) (by decide) (by decide) (by decide) (e ▸ o)))
  refine ⟨nb, g, Ds.length, tcap, q, Ds, cur.toList.drop (tn * 47), by rw [hql], ?_, ?_, below_onto HB ho hr HB.size⟩
  · intro w2 cb hb hcb hle
    have hbs : w.heap.size ≤ w2.heap.size := Nat.le_trans HB.size (Nat.le_trans ho.size hb.size)
    refine ⟨?_, fun i h => (hrows i h).kept (fun k o => hb.block k ((hrows i h).own k o).2), I.dis, hn2.below hb hn2.lt, I.nown, hcb, hbg, I.nbb, hle, hbs⟩
    refine (hg2.below hb hg2.lt).congr ?_
    rw [← h4, List.take_append_drop]
  · have hd : ∀ i (h : i < q.length), q[i].1 = tInit c jobs i := I.init
    refine ⟨by rw [hql]; exact htn, ?_, ?_, fun i h => by rw [hd i h]; exact init_sim c jobs i, fun i h => by rw [hd i h]; exact init_own c jobs i hjl, gstart_ok hc hmw hmb jobs⟩
    · rw [hDs, total_eq]
      simp
      omega
    · intro x hx
      show Ds.getD x 0 = startVal c mem x
      unfold startVal wordBase
      rw [hDs] at hx ⊢
      by_cases hxb : x < base
      · rw [if_neg (by omega)]
        simp [List.getD_eq_getElem?_getD, List.getElem?_append_left, hxb]
      · rw [if_pos (by omega)]
        have e : ((x : Int) - (3 + 2 * c.s + c.t)).toNat = x - base := by omega
        rw [e]
        simp [List.getD_eq_getElem?_getD, List.getElem?_append_right, Nat.le_of_not_lt hxb]

end Go.Proofs.Ytejadojilncbjab
