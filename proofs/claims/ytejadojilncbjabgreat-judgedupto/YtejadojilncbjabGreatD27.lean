import Derived.Test.YtejadojilncbjabGreatD23
import Derived.Test.YtejadojilncbjabGreatD24
import Derived.Test.YtejadojilncbjabGreatD26
namespace Go.Proofs.YtejadojilncbjabGreat
open Go.RowKit
set_option linter.unusedVariables false
attribute [local go_sem ↓] Go.wp_at_zero Go.wp_at_succ
theorem below_drew (w : World) : Below w.heap.size w w.drew := ⟨rfl, rfl, rfl, Nat.le_refl _, fun _ _ => rfl⟩
theorem CodeIn.over {w w' : World} {ca : Option Addr} {code : List InsD} {n : Nat} (h : CodeIn w n ca code) (hn : n ≤ w.heap.size) (hb : Below w.heap.size w w') : CodeIn w' w'.heap.size ca code := by
 intro i hi
 obtain ⟨b, off, h1, h2, h3, h4, h5, h6⟩ := h i hi
 have hl : b < w.heap.size := by omega
 refine ⟨b, off, h1, Nat.lt_of_lt_of_le hl hb.size, ?_, ?_, ?_, ?_⟩
 ·exact (World.cell?_of_block (hb.block b hl)).trans h3
 ·exact (World.cell?_of_block (hb.block b hl)).trans h4
 ·exact (World.cell?_of_block (hb.block b hl)).trans h5
 ·exact (World.cell?_of_block (hb.block b hl)).trans h6
theorem lists_finish (t : PT) : Lists t (yFinish t) := by
 unfold yFinish
 split <;> exact ⟨rfl, rfl, rfl, rfl, rfl, rfl⟩
theorem lists_letgo (t : PT) : Lists t (yLetGo t) := by
 unfold yLetGo
 split <;> exact ⟨rfl, rfl, rfl, rfl, rfl, rfl⟩
theorem box_below {w1 : World} {nb : Nat} {a' b' c' d' : Value} : Only nb w1 ((((w1.setCell ⟨nb, 0, none⟩ a').setCell ⟨nb, 1, none⟩ b').setCell ⟨nb, 2, none⟩ c').setCell ⟨nb, 3, none⟩ d') := ((((Only.refl _ _).set).set).set).set
theorem only_boxed {p : Nat} {w w1 : World} {o : Obj} {a' b' c' d' : Value} (o1 : Only p (w.drew.alloc o) w1) :
  Only p w ((((w1.setCell ⟨w.heap.size, 0, none⟩ a').setCell ⟨w.heap.size, 1, none⟩ b').setCell ⟨w.heap.size, 2, none⟩ c').setCell ⟨w.heap.size, 3, none⟩ d') := by
 have oo : Only p w w1 := (Only.below ((below_drew w).alloc (Nat.le_refl _) o)).trans o1
 have ob := box_below (w1 := w1) (nb := w.heap.size) (a' := a') (b' := b') (c' := c') (d' := d')
 refine ⟨ob.os.trans oo.os, ob.tape.trans oo.tape, ob.output.trans oo.output, Nat.le_trans oo.size ob.size, fun k hk hp => ?_⟩
 exact (ob.block k (Nat.lt_of_lt_of_le hk oo.size) (by omega)).trans (oo.block k hk hp)
section
variable (base p z : Nat) (A B : List Value) (t : PT) (L : Ls) (w : World)
theorem box_set {w1 : World} {nb : Nat} {T : TypeId} {a b c d a' b' c' d' : Value} (h : Blk w1 nb T #[a, b, c, d]) :
  Blk ((((w1.setCell ⟨nb, 0, none⟩ a').setCell ⟨nb, 1, none⟩ b').setCell ⟨nb, 2, none⟩ c').setCell ⟨nb, 3, none⟩ d') nb T #[a', b', c', d'] :=
 ((((h.set (i := 0) (v := a')).set (i := 1) (v := b')).set (i := 2) (v := c')).set (i := 3) (v := d')).congr (by simp)
set_option maxRecDepth 100000 in
set_option maxHeartbeats 8000000 in
theorem t_turn (R : TR base p z A B w t L) (ok : TOk t) (hbs : base ≤ w.heap.size) (code : List InsD) (ca : Option Addr) (cc : Nat) (hcd : CodeIn w w.heap.size ca code) (hfar : ∀ b off, ca = some ⟨b, off, none⟩ → code ≠ [] → b ≠ p) (hcl : code.length ≤ 20)
  (hm : MOk t.m) (hbg : (t.m.begun : Int) ≤ t.c.f) (u : TurnD × MS) (hu : pNext t.c.f t.c.wd code yRounds t.m = u) (hu4 : u.2.regs.length = 4) (hua : u.1.fate = 0 → (0 ≤ u.1.addr ∧ u.1.addr ≤ 100) ∧ (u.1.op = 7 → 0 ≤ u.2.into ∧ u.2.into ≤ 3)) :
  Calls Tryz.prog 137 #[.pointer (some ⟨p, z, none⟩), .slice ca code.length cc] w (Dids base p z A B (yTurn code t) L w) := by
 have h1 := R.tt.cWd
 have h6 := R.tt.cF
 have HR : Hid (TR base p z A B w t L) := R
 have HK : Hid (TOk t) := ok
 have HBS : Hid (base ≤ w.heap.size) := hbs
 have hlt : p < w.heap.size := R.tt.lt
 have hz : A.length = z := R.tt.1
 have HU4 : Hid (u.2.regs.length = 4) := hu4
 have HUA : Hid (u.1.fate = 0 → (0 ≤ u.1.addr ∧ u.1.addr ≤ 100) ∧ (u.1.op = 7 → 0 ≤ u.2.into ∧ u.2.into ≤ 3)) := hua
 have HNx : Hid (∀ w', Below w.heap.size w w' → Calls Tryz.prog 113 #[.pointer (some ⟨p, z + 19 + 8, none⟩), .slice ca code.length cc, .int .i64 t.c.f, .int .i64 t.c.wd] w' fun e w'' =>
      e = .returned (.agg #[.int .i64 u.1.fate, .int .i64 u.1.op, .int .i64 u.1.addr, .int .i64 u.1.val]) ∧ TAt w'' p z A B { t with m := u.2 } L ∧ Only p w' w'') := fun w' hb => by
  have hw := ok.cb.2.1
  have hff := ok.cb.2.2.2.2.2.2
  have := z_next_any (z + 19 + 8) 138 (A ++ tHead t L) (tTail t L ++ B) p code ca cc t.c.f t.c.wd t.m w' yRounds (R.tt.below hb).mach hm (hcd.over (Nat.le_refl _) hb) hfar hcl hff.2 hbg (by unfold yRounds; omega) hw.1 hw.2
  rw [hu] at this
  refine this.mono ?_
  rintro e w1 ⟨h1, h2, h3⟩
  exact ⟨h1, TAt.ofMach hz h2, h3⟩
 have hY : yTurn code t = yTurned u t := by unfold yTurn; rw [hu]
 rw [hY]
 clear hY R ok hbs hcd hfar hcl hm hbg hu hu4 hua
 go_enter Tryz.func137, Tryz.ntmps137
 go_wp2_with fail
 go_cut [4] (fun t4 wx => ∃ nb : Nat, t4 = .pointer (some ⟨nb, 0, none⟩) ∧ nb ≠ p ∧ Hid (Blk wx nb 132 #[.int .i64 u.1.fate, .int .i64 u.1.op, .int .i64 u.1.addr, .int .i64 u.1.val]) ∧ Hid (TAt wx p z A B { t with m := u.2 } L) ∧ Hid (Only p w wx))
 case first =>
  have hne : w.heap.size ≠ p := by omega
  go_region_with (go_at_call 113; refine (HNx.out _ (by first | exact below_drew w | exact (below_drew w).alloc (Nat.le_refl _) _)).mono ?_; rintro e w1 ⟨rfl, m1, o1⟩; first | (have hxb : Blk w1 w.heap.size 132 #[.int .i64 0, .int .i64 0, .int .i64 0, .int .i64 0] := Blk.only (by exact Blk.new w 132 _) o1 hne; have hxc := hxb.cell; have hxf := hxb.frozen) | (have hw1 : w.heap.size ≤ w1.heap.size := o1.size))
  all_goals
   go_wp2
   go_meet
   case rel =>
    first
     | (refine ⟨w.heap.size, rfl, hne, box_set hxb, ?_, ?_⟩
        ·exact Seg.only m1 box_below (Ne.symm hne)
        ·exact only_boxed o1)
     | (refine ⟨w1.heap.size, rfl, ?_, ?_, ?_, ?_⟩
        ·omega
        ·exact Blk.new w1 132 _
        ·exact TAt.below m1 ((Below.refl _ _).alloc (Nat.le_refl _) _)
        ·exact Only.trans (o1.quiet (w := w) rfl rfl rfl rfl) (Only.below ((Below.refl _ _).alloc (Nat.le_refl _) _)))
 case rest =>
  obtain ⟨nb, rfl, hnp, HX, HB2, HO2⟩ := hcut
  have hx := (HX.out).cell
  have hnl : nb < wc.heap.size := (HX.out).lt
  have kf := (HB2.out).froz
  have KAt : Hid (wc.cell? ⟨p, z + 19 + 27, none⟩ = some (.int .i64 (t.at_ : Int))) := (HB2.out).cAt
  have k25 : wc.cell? ⟨p, z + 19 + 15, none⟩ = some (.int .i64 t.turn.fate) := (HB2.out).cFate
  have k26 : wc.cell? ⟨p, z + 19 + 15 + 1, none⟩ = some (.int .i64 t.turn.op) := (HB2.out).cOp
  have k27 : wc.cell? ⟨p, z + 19 + 15 + 2, none⟩ = some (.int .i64 t.turn.addr) := (HB2.out).cAddr
  have k28 : wc.cell? ⟨p, z + 19 + 15 + 3, none⟩ = some (.int .i64 t.turn.val) := (HB2.out).cVal
  clear h1 h6 HNx hlt
  have hb3 : TAt ((((wc.setCell ⟨p, z + 19 + 15, none⟩ (.int .i64 u.1.fate)).setCell ⟨p, z + 19 + 15 + 1, none⟩ (.int .i64 u.1.op)).setCell ⟨p, z + 19 + 15 + 2, none⟩ (.int .i64 u.1.addr)).setCell ⟨p, z + 19 + 15 + 3, none⟩ (.int .i64 u.1.val)) p z A B { t with m := u.2, turn := u.1 } L :=
   ((((HB2.out).set (t' := { t with m := u.2, turn := ⟨u.1.fate, t.turn.op, t.turn.addr, t.turn.val⟩ }) 34 (by decide) (.int .i64 u.1.fate) rfl).set (t' := { t with m := u.2, turn := ⟨u.1.fate, u.1.op, t.turn.addr, t.turn.val⟩ }) 35 (by decide) (.int .i64 u.1.op) rfl).set (t' := { t with m := u.2, turn := ⟨u.1.fate, u.1.op, u.1.addr, t.turn.val⟩ }) 36 (by decide) (.int .i64 u.1.addr) rfl).set 37 (by decide) (.int .i64 u.1.val) rfl
  have ho3 : Only p w ((((wc.setCell ⟨p, z + 19 + 15, none⟩ (.int .i64 u.1.fate)).setCell ⟨p, z + 19 + 15 + 1, none⟩ (.int .i64 u.1.op)).setCell ⟨p, z + 19 + 15 + 2, none⟩ (.int .i64 u.1.addr)).setCell ⟨p, z + 19 + 15 + 3, none⟩ (.int .i64 u.1.val)) := ((((HO2.out).set).set).set).set
  have HR3 : Hid (TR base p z A B ((((wc.setCell ⟨p, z + 19 + 15, none⟩ (.int .i64 u.1.fate)).setCell ⟨p, z + 19 + 15 + 1, none⟩ (.int .i64 u.1.op)).setCell ⟨p, z + 19 + 15 + 2, none⟩ (.int .i64 u.1.addr)).setCell ⟨p, z + 19 + 15 + 3, none⟩ (.int .i64 u.1.val)) { t with m := u.2, turn := u.1 } L) := (HR.out).next hb3 ho3 rfl rfl rfl rfl rfl rfl
  have HO3 : Hid (Only p w ((((wc.setCell ⟨p, z + 19 + 15, none⟩ (.int .i64 u.1.fate)).setCell ⟨p, z + 19 + 15 + 1, none⟩ (.int .i64 u.1.op)).setCell ⟨p, z + 19 + 15 + 2, none⟩ (.int .i64 u.1.addr)).setCell ⟨p, z + 19 + 15 + 3, none⟩ (.int .i64 u.1.val))) := ho3
  have HK3 : Hid (TOk { t with m := u.2, turn := u.1 }) := HK.out
  clear hb3 ho3 HB2 HO2 HR
  by_cases f0 : u.1.fate = 0
  ·have HF : Hid (yTurned u t = yTouch { t with m := u.2, turn := u.1 }) := by show _ = _; unfold yTurned; rw [if_pos f0]
   have hfb : (u.1.fate == 0) = true := by simp [f0]
   have HUB : Hid ((0 ≤ u.1.addr ∧ u.1.addr ≤ 100) ∧ (u.1.op = 7 → 0 ≤ u.2.into ∧ u.2.into ≤ 3)) := HUA.out f0
   clear f0
   go_wp2_with fail
   refine (t_touch base p z A B { t with m := u.2, turn := u.1 } L _ HR3.out HK3.out (Nat.le_trans HBS.out (HO3.out).size) (HUB.out).1 HU4.out (HUB.out).2).mono ?_
   rintro e w1 ⟨rfl, L1, a1, a2⟩
   go_wp2
   go_end0
   exact ⟨rfl, L1, by rw [HF.out]; exact a1, (Goes.only HO3.out).trans a2⟩
  ·have hfb : (u.1.fate == 0) = false := by rw [beq_eq_false_iff_ne]; exact f0
   by_cases f1 : u.1.fate = 1
   ·have HF : Hid (yTurned u t = yFinish { t with m := u.2, turn := u.1 }) := by show _ = _; unfold yTurned; rw [if_neg f0, if_pos f1]
    have hfb1 : (u.1.fate == 1) = true := by simp [f1]
    clear f0 f1
    go_wp2_with fail
    refine (t_finish p z A B { t with m := u.2, turn := u.1 } L _ (HR3.out).tt HK3.out).mono ?_
    rintro e w1 ⟨rfl, a1, a2⟩
    go_wp2
    go_end0
    exact ⟨rfl, L, by rw [HF.out]; exact (HR3.out).by a1 a2 (lists_finish _), Goes.only ((HO3.out).trans a2)⟩
   ·have HF : Hid (yTurned u t = yLetGo { t with m := u.2, turn := u.1, at_ := 0 }) := by show _ = _; unfold yTurned; rw [if_neg f0, if_neg f1]
    have hfb1 : (u.1.fate == 1) = false := by rw [beq_eq_false_iff_ne]; exact f1
    have k38 : wc.cell? ⟨p, z + 19 + 27, none⟩ = some (.int .i64 (t.at_ : Int)) := KAt.out
    have hb4 : TAt (((((wc.setCell ⟨p, z + 19 + 15, none⟩ (.int .i64 u.1.fate)).setCell ⟨p, z + 19 + 15 + 1, none⟩ (.int .i64 u.1.op)).setCell ⟨p, z + 19 + 15 + 2, none⟩ (.int .i64 u.1.addr)).setCell ⟨p, z + 19 + 15 + 3, none⟩ (.int .i64 u.1.val)).setCell ⟨p, z + 19 + 27, none⟩ (.int .i64 0)) p z A B { t with m := u.2, turn := u.1, at_ := 0 } L := (HR3.out).tt.set 46 (by decide) _ rfl
    have ho4 : Only p ((((wc.setCell ⟨p, z + 19 + 15, none⟩ (.int .i64 u.1.fate)).setCell ⟨p, z + 19 + 15 + 1, none⟩ (.int .i64 u.1.op)).setCell ⟨p, z + 19 + 15 + 2, none⟩ (.int .i64 u.1.addr)).setCell ⟨p, z + 19 + 15 + 3, none⟩ (.int .i64 u.1.val)) (((((wc.setCell ⟨p, z + 19 + 15, none⟩ (.int .i64 u.1.fate)).setCell ⟨p, z + 19 + 15 + 1, none⟩ (.int .i64 u.1.op)).setCell ⟨p, z + 19 + 15 + 2, none⟩ (.int .i64 u.1.addr)).setCell ⟨p, z + 19 + 15 + 3, none⟩ (.int .i64 u.1.val)).setCell ⟨p, z + 19 + 27, none⟩ (.int .i64 0)) := (Only.refl _ _).set
    have HR4 : Hid (TR base p z A B (((((wc.setCell ⟨p, z + 19 + 15, none⟩ (.int .i64 u.1.fate)).setCell ⟨p, z + 19 + 15 + 1, none⟩ (.int .i64 u.1.op)).setCell ⟨p, z + 19 + 15 + 2, none⟩ (.int .i64 u.1.addr)).setCell ⟨p, z + 19 + 15 + 3, none⟩ (.int .i64 u.1.val)).setCell ⟨p, z + 19 + 27, none⟩ (.int .i64 0)) { t with m := u.2, turn := u.1, at_ := 0 } L) := (HR3.out).next hb4 ho4 rfl rfl rfl rfl rfl rfl
    have HO4 : Hid (Only p w (((((wc.setCell ⟨p, z + 19 + 15, none⟩ (.int .i64 u.1.fate)).setCell ⟨p, z + 19 + 15 + 1, none⟩ (.int .i64 u.1.op)).setCell ⟨p, z + 19 + 15 + 2, none⟩ (.int .i64 u.1.addr)).setCell ⟨p, z + 19 + 15 + 3, none⟩ (.int .i64 u.1.val)).setCell ⟨p, z + 19 + 27, none⟩ (.int .i64 0))) := (HO3.out).trans ho4
    clear f0 f1 hb4 ho4 HR3 HO3
    go_wp2_with fail
    refine (t_letGo base p z A B { t with m := u.2, turn := u.1, at_ := 0 } L _ HR4.out HK3.out).mono ?_
    rintro e w1 ⟨rfl, a1, a2⟩
    go_wp2
    go_end0
    exact ⟨rfl, L, by rw [HF.out]; exact (HR4.out).by a1 a2 (lists_letgo _), Goes.only ((HO4.out).trans a2)⟩
end
end Go.Proofs.YtejadojilncbjabGreat
