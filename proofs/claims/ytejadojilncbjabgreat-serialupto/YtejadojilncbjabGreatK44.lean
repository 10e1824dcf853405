import Derived.Test.YtejadojilncbjabGreatK43
import Derived.Test.YtejadojilncbjabGreatK40
namespace Go.Proofs.YtejadojilncbjabGreat
open Go.RowKit
set_option linter.unusedVariables false
attribute [local go_sem ↓] Go.wp_at_zero Go.wp_at_succ
theorem jobs_code {w : World} {B : Nat} {ja : Option Addr} {jobs : List (Int × List InsD)} (h : JobsRep w B ja jobs) (j : Nat) (hj : j < jobs.length) : ∃ b off ca cc, ja = some ⟨b, off, none⟩ ∧ b < B ∧ w.cell? ⟨b, off + j * 2 + 1, none⟩ = some (.slice ca (jobs.getD j (0, [])).2.length cc) ∧ CodeIn w B ca (jobs.getD j (0, [])).2 := by
 obtain ⟨js, hl, hin, hc⟩ := h
 obtain ⟨b, off, ha, hb, _, h1⟩ := hin j (by omega)
 obtain ⟨_, e2, e3⟩ := hc j (by omega)
 rw [e2] at h1
 exact ⟨b, off, _, _, ha, hb, h1, e3⟩
def SerIs (w : World) (n : Nat) (l : List Int) (e : Ending) (w' : World) : Prop :=
 ∃ (oa : Option Addr) (oc : Nat), e = .returned (.tuple #[.slice oa n oc, .bool true]) ∧ l.length = n ∧ Ints w' w'.heap.size oa l ∧ Below w.heap.size w w'
def AnsL (w : World) (y : ResD) (V : List Int) (n : Nat) (e : Ending) (w' : World) : Prop :=
 ∃ (oa : Option Addr) (oc : Nat), e = .returned (.tuple #[.agg #[.int .i64 y.fate, .int .i64 y.r0, .int .i64 y.r1, .int .i64 y.r2, .int .i64 y.r3], .slice oa n oc, .int .i64 0]) ∧ Ints w' w'.heap.size oa V ∧ Below w.heap.size w w' ∧ ∀ x, oa = some x → w.heap.size ≤ x.block
abbrev ResS (yb xb rb o : Nat) (j : Int) (y z : ResD) (w : World) : Prop :=
 (w.cell? ⟨yb, 0, none⟩ = some (.int .i64 y.fate) ∧ w.cell? ⟨yb, 1, none⟩ = some (.int .i64 y.r0) ∧ w.cell? ⟨yb, 2, none⟩ = some (.int .i64 y.r1) ∧ w.cell? ⟨yb, 3, none⟩ = some (.int .i64 y.r2) ∧ w.cell? ⟨yb, 4, none⟩ = some (.int .i64 y.r3)) ∧ w.cell? ⟨xb, 1, none⟩ = some (.int .i64 j) ∧ w.cell? ⟨rb, o, none⟩ = some (.int .i64 z.fate) ∧ w.cell? ⟨rb, o + 1, none⟩ = some (.int .i64 z.r0) ∧ w.cell? ⟨rb, o + 2, none⟩ = some (.int .i64 z.r1) ∧ w.cell? ⟨rb, o + 3, none⟩ = some (.int .i64 z.r2) ∧ w.cell? ⟨rb, o + 4, none⟩ = some (.int .i64 z.r3)
theorem ans_set {w1 w6 : World} {yb : Nat} {oa : Option Addr} {V : List Int} (hr : Blk w6 yb 47 #[.int .i64 0, .int .i64 0, .int .i64 0, .int .i64 0, .int .i64 0]) (hB : Below w1.heap.size w1 w6) (hy : w1.heap.size ≤ yb) (hO : Ints w6 w6.heap.size oa V) (far : ∀ x, oa = some x → V ≠ [] → x.block ≠ yb) (a b c d e : Value) :
  Blk (((((w6.setCell ⟨yb, 0, none⟩ a).setCell ⟨yb, 1, none⟩ b).setCell ⟨yb, 2, none⟩ c).setCell ⟨yb, 3, none⟩ d).setCell ⟨yb, 4, none⟩ e) yb 47 #[a, b, c, d, e] ∧ Ints (((((w6.setCell ⟨yb, 0, none⟩ a).setCell ⟨yb, 1, none⟩ b).setCell ⟨yb, 2, none⟩ c).setCell ⟨yb, 3, none⟩ d).setCell ⟨yb, 4, none⟩ e) (((((w6.setCell ⟨yb, 0, none⟩ a).setCell ⟨yb, 1, none⟩ b).setCell ⟨yb, 2, none⟩ c).setCell ⟨yb, 3, none⟩ d).setCell ⟨yb, 4, none⟩ e).heap.size oa V ∧ Below w1.heap.size w1 (((((w6.setCell ⟨yb, 0, none⟩ a).setCell ⟨yb, 1, none⟩ b).setCell ⟨yb, 2, none⟩ c).setCell ⟨yb, 3, none⟩ d).setCell ⟨yb, 4, none⟩ e) := by
 obtain ⟨_, _, _, _, _, hfin, honly⟩ := res_end hr rfl hB hy a b c d e
 have hs := hr.set (i := 0) (v := a) |>.set (i := 1) (v := b) |>.set (i := 2) (v := c) |>.set (i := 3) (v := d) |>.set (i := 4) (v := e)
 exact ⟨hs.congr (by simp), (hO.only honly fun b off hb2 hV => far _ hb2 hV).mono honly.size, hfin⟩
theorem ans_first {w1 w6 : World} (hb : Below (w1.alloc (.cells #[.int .i64 0, .int .i64 0, .int .i64 0, .int .i64 0, .int .i64 0] 47)).heap.size (w1.alloc (.cells #[.int .i64 0, .int .i64 0, .int .i64 0, .int .i64 0, .int .i64 0] 47)) w6) : Blk w6 w1.heap.size 47 #[.int .i64 0, .int .i64 0, .int .i64 0, .int .i64 0, .int .i64 0] :=
 (Blk.new w1 47 _).below hb (Blk.new w1 47 _).lt
abbrev SerS (c : Cfg) (ma ja : Option Addr) (ML mc JL jc sb xb : Nat) (j : Int) (jb o : Nat) (cv : Value) (w : World) : Prop :=
 (∀ i, i < 9 → w.cell? ⟨sb, i, none⟩ = (#[.int .i64 c.t, .int .i64 c.wd, .int .i64 c.s, .int .i64 c.g, .int .i64 c.r, .int .i64 c.cp, .int .i64 c.f, .slice ma ML mc, .slice ja JL jc] : Array Value)[i]?) ∧ w.cell? ⟨xb, 1, none⟩ = some (.int .i64 j) ∧ w.cell? ⟨jb, o, none⟩ = some cv
set_option maxRecDepth 100000 in
set_option maxHeartbeats 16000000 in
theorem serial_any (R : Rn) (c : Cfg) (hc : R.c = c) (ML JL : Nat) (hML : R.mem.length = ML) (hmw : ML ≤ 8) (hJL : R.jobs.length = JL) (hj8 : JL ≤ 8) (AN : List (AttD × Value)) (hS : serAll R R.mem (AN.map (·.1))) (hno : ∀ q ∈ AN, ∃ a n c, q.2 = Value.slice a n c) (RS : List ResD) (hRl : RS.length = JL) (hRS : ∀ j, j < JL → RS.getD j noRes = R.res R.ps.length j) (ma ja la ra : Option Addr) (mc jc lc rc base : Nat) (w : World) (hn : AN.length ≤ 1073741824)
  (hm : Ints w w.heap.size ma R.mem) (hj : JobsRep w w.heap.size ja R.jobs) (hr : AttsRow w base la lc AN) (hrs : ResIn w w.heap.size ra RS) :
  Calls Tryz.prog 14 #[.agg #[.int .i64 c.t, .int .i64 c.wd, .int .i64 c.s, .int .i64 c.g, .int .i64 c.r, .int .i64 c.cp, .int .i64 c.f, .slice ma ML mc, .slice ja JL jc], .slice la AN.length lc, .slice ra JL rc] w (SerIs w ML (R.wl (R.clk R.ps.length))) := by
 have HNo : Hid (∀ q ∈ AN, ∃ a n c, q.2 = Value.slice a n c) := hno
 have HRS : Hid (∀ j, j < JL → RS.getD j noRes = R.res R.ps.length j) := hRS
 have HRl : Hid (RS.length = JL) := hRl
 have HJL : Hid (R.jobs.length = JL ∧ R.c = c) := ⟨hJL, hc⟩
 have HS0 : Hid (R.mem.length = ML ∧ serAll R R.mem ((AN.map (·.1)).drop 0)) := ⟨hML, hS⟩
 obtain ⟨WE, HWE⟩ : ∃ WE, Hid (R.wl (R.clk R.ps.length) = WE) := ⟨_, rfl⟩
 rw [show R.wl (R.clk R.ps.length) = WE from HWE.out]
 obtain ⟨w0, hw0⟩ : ∃ w0, w0 = w.alloc (.cells #[.int .i64 c.t, .int .i64 c.wd, .int .i64 c.s, .int .i64 c.g, .int .i64 c.r, .int .i64 c.cp, .int .i64 c.f, .slice ma ML mc, .slice ja JL jc] 27) := ⟨_, rfl⟩
 have hB0 : Below w.heap.size w w0 := by rw [hw0]; exact (Below.refl w.heap.size w).alloc (Nat.le_refl _) _
 have HSb : Hid (Blk w0 w.heap.size 27 #[.int .i64 c.t, .int .i64 c.wd, .int .i64 c.s, .int .i64 c.g, .int .i64 c.r, .int .i64 c.cp, .int .i64 c.f, .slice ma ML mc, .slice ja JL jc]) := by rw [hw0]; exact Blk.new w 27 _
 have HB0 : Hid (Below w.heap.size w w0) := hB0
 have HM : Hid (Ints w0 w0.heap.size ma R.mem) := hm.up hB0
 have HJ : Hid (JobsRep w0 w0.heap.size ja R.jobs) := hj.up2 hB0
 have HA : Hid (AttsRow w0 base la lc AN) := ownsRow_below hr hB0
 have HRi : Hid (ResIn w0 w0.heap.size ra RS) := hrs.up hB0
 clear hno hRS hRl hS hB0 hm hj hr hrs hML hJL hc
 go_enter Tryz.func14, Tryz.ntmps14
 go_upto_region 1 with fail
 rw [← hw0]
 clear hw0
 have hsc := (HSb.out).cell
 go_wp2_with fail
 clear hsc
 obtain ⟨sb, hsb⟩ : ∃ sb, sb = w.heap.size := ⟨_, rfl⟩
 rw [← hsb] at HSb ⊢
 have HSw : Hid (sb = w.heap.size) := hsb
 clear hsb
 go_loopg [8, 9] (AN.length + 1) (fun m t8 t9 wr => ∃ (i : Nat) (ta : Option Addr) (tc : Nat) (W : List Int), t8 = .slice ta ML tc ∧ t9 = .int .i64 (i : Int) ∧ i ≤ AN.length ∧ m = AN.length + 1 - i ∧ Hid (W.length = ML ∧ serAll R W ((AN.map (·.1)).drop i)) ∧ Hid (Ints wr wr.heap.size ta W) ∧ Hid (Below w0.heap.size w0 wr))
 case atStart => exact ⟨0, ma, mc, R.mem, rfl, rfl, by omega, by omega, HS0, HM, Below.refl _ _⟩
 case round =>
  obtain ⟨i, ta, tc, W, rfl, rfl, hi, hgi, HS1, HI1, HBi⟩ := hrel
  clear HS0 HM
  have hszi := (HBi.out).size
  by_cases hil : i < AN.length
  ·obtain ⟨x, hx⟩ : ∃ x, AN[i]? = some x := ⟨_, List.getElem?_eq_getElem hil⟩
   have HAi : Hid (AttsRow wr base la lc AN) := ownsRow_below HA.out HBi.out
   obtain ⟨b, hb, hbl, c0, c1, c2, c3, c4, c5, c6, c7⟩ := AttsRow.at HAi.out i x hx
   obtain ⟨na, nn, nc, hxs⟩ := HNo.out x (List.mem_of_getElem? hx)
   rw [hxs] at c7
   have hdr : (AN.map (·.1)).drop i = x.1 :: (AN.map (·.1)).drop (i + 1) := by
    obtain ⟨h1, h2⟩ := List.getElem?_eq_some_iff.1 (fst_at hx)
    rw [List.drop_eq_getElem_cons h1, h2]
   have hse := (HS1.out).2
   rw [hdr, serAll] at hse
   have hWl := (HS1.out).1
   have i0 : (0 : Int) ≤ (i : Int) := by omega
   have i1 : (i : Int) < (AN.length : Int) := by omega
   have hwi : IntKind.i64.wrap ((i : Int) + 1) = (i : Int) + 1 := wrapF _ (by omega) (by omega)
   obtain ⟨⟨x0, x1, x2, x3, x4, x5, x6, xn⟩, xv⟩ := x
   simp only at c0 c1 c2 c3 c4 c5 c6 c7 hse hxs
   obtain ⟨w1, hw1⟩ : ∃ w1, w1 = wr.alloc (.cells #[.int .i64 x0, .int .i64 x1, .int .i64 x2, .int .i64 x3, .int .i64 x4, .int .i64 x5, .int .i64 x6, .slice na nn nc] 82) := ⟨_, rfl⟩
   have HX1 : Hid (Blk w1 wr.heap.size 82 #[.int .i64 x0, .int .i64 x1, .int .i64 x2, .int .i64 x3, .int .i64 x4, .int .i64 x5, .int .i64 x6, .slice na nn nc]) := by rw [hw1]; exact Blk.new wr _ _
   have hB1 : Below wr.heap.size wr w1 := by rw [hw1]; exact (Below.refl wr.heap.size wr).alloc (Nat.le_refl _) _
   have HB1 : Hid (Below w0.heap.size w0 w1) := (HBi.out).trans (hB1.mono hszi)
   have HI2 : Hid (Ints w1 w1.heap.size ta W) := (HI1.out).up hB1
   subst hb
   clear hx hxs hdr HS1 HAi HI1 hB1
   go_upto_region 6 with fail
   rw [← hw1]
   obtain ⟨xb, hxb⟩ : ∃ xb, xb = wr.heap.size := ⟨_, rfl⟩
   rw [← hxb] at HX1 ⊢
   clear hw1 hxb c0 c1 c2 c3 c4 c5 c6 c7 HBi hszi
   have hxc := (HX1.out).cell
   by_cases h5 : x6 = 5
   ·rw [if_pos (Or.inl h5)] at hse
    have HSn : Hid (W.length = ML ∧ serAll R W ((AN.map (·.1)).drop (i + 1))) := ⟨hWl, hse⟩
    subst h5
    clear hse hWl
    go_wp2_with fail
    go_roundg (AN.length + 1 - (i + 1))
    case rel => exact ⟨i + 1, ta, tc, W, rfl, by simp, by omega, by omega, HSn, HI2, HB1⟩
    case measure => omega
   ·by_cases h0 : x6 = 0 ∧ x5 = 0
    ·rw [if_pos (Or.inr h0)] at hse
     have HSn : Hid (W.length = ML ∧ serAll R W ((AN.map (·.1)).drop (i + 1))) := ⟨hWl, hse⟩
     obtain ⟨rfl, rfl⟩ := h0
     clear hse hWl h5
     go_wp2_with fail
     go_roundg (AN.length + 1 - (i + 1))
     case rel => exact ⟨i + 1, ta, tc, W, rfl, by simp, by omega, by omega, HSn, HI2, HB1⟩
     case measure => omega
    ·rw [if_neg (fun q => q.elim h5 h0)] at hse
     obtain ⟨⟨j0, j1, hER, hOl, hF1, hF2, hF3⟩, hse2⟩ := hse
     obtain ⟨j, hjn⟩ := Int.eq_ofNat_of_zero_le j0
     have hjn' : x1 = (j : Int) := hjn
     clear hjn j0
     subst hjn'
     have j1' : (j : Int) < (R.jobs.length : Int) := j1
     simp only [Int.toNat_natCast] at hER hOl hF1 hF2 hF3 hse2
     obtain ⟨code, hcode⟩ : ∃ code, code = (R.jobs.getD j (0, [])).2 := ⟨_, rfl⟩
     rw [← hcode] at hER hOl hF1 hF2 hF3 hse2
     obtain ⟨y, hy⟩ : ∃ y, y = ansR R.c W code := ⟨_, rfl⟩
     obtain ⟨V, hV⟩ : ∃ V, V = ansO R.c W code := ⟨_, rfl⟩
     rw [← hy] at hF1 hF2
     rw [← hV] at hOl hF3 hse2
     have hVl : V.length = ML := hOl.trans hWl
     have hJe := (HJL.out).1
     have hjl : j < JL := by omega
     have HF1 : Hid (x6 ≠ 0 → y.fate = x6 ∧ y = RS.getD j noRes) := fun h => ⟨(hF1 h).1, (hF1 h).2.trans (HRS.out j hjl).symm⟩
     have HF2 : Hid (x6 = 0 → y.fate = 1) := hF2
     have HF3 : Hid (x5 = 0 → V = W) := hF3
     have HVl : Hid (V.length = ML ∧ W.length = ML) := ⟨hVl, hWl⟩
     have HSn : Hid (V.length = ML ∧ serAll R V ((AN.map (·.1)).drop (i + 1))) := ⟨hVl, hse2⟩
     obtain ⟨jb, joff, ca, cc, hja, hjbl, hjc, hcd⟩ := jobs_code HJ.out j (by omega)
     rw [← hcode] at hjc hcd
     have HAl : Hid (∀ wx, Below w1.heap.size w1 wx → Calls Tryz.prog 37 #[.agg #[.int .i64 c.t, .int .i64 c.wd, .int .i64 c.s, .int .i64 c.g, .int .i64 c.r, .int .i64 c.cp, .int .i64 c.f], .slice ta ML tc, .slice ca code.length cc] wx (AnsL wx y V ML)) := fun wx hb => by
      have hbx : Below w0.heap.size w0 wx := (HB1.out).trans (hb.mono (HB1.out).size)
      have h := alone_far c W code ta ca tc cc wx (by rw [hWl]; exact Nat.le_trans hmw (by decide)) ((HI2.out).up hb) ((hcd.up hbx).mono hbx.size)
      rw [(HJL.out).2] at hy hV hER
      rw [hWl, hER, ← hy, ← hV] at h
      refine h.mono ?_
      rintro e w' ⟨oa, oc, rfl, h1, h2, h3⟩
      exact ⟨oa, oc, by rw [hVl], h1, h2, h3⟩
     have hszb := (HB1.out).size
     have hs1 := ((HSb.out).below HB1.out (HSb.out).lt).cell
     have hsl := Nat.lt_of_lt_of_le (HSb.out).lt hszb
     have hxl := (HX1.out).lt
     have hjc1 : w1.cell? ⟨jb, joff + j * 2 + 1, none⟩ = some (.slice ca code.length cc) := (World.cell?_of_block ((HB1.out).block jb hjbl)).trans hjc
     have hjbl1 : jb < w1.heap.size := Nat.lt_of_lt_of_le hjbl hszb
     subst hja
     obtain ⟨CL, hCL⟩ : ∃ CL, CL = code.length := ⟨_, rfl⟩
     rw [← hCL] at hjc1 HAl
     have HKp : Hid (∀ wx, Below w1.heap.size w1 wx → SerS c ma (some ⟨jb, joff, none⟩) ML mc JL jc sb xb (j : Int) jb (joff + j * 2 + 1) (.slice ca CL cc) wx) := fun wx hb => ⟨fun i _ => (World.cell?_of_block (hb.block _ hsl)).trans (hs1 i), (World.cell?_of_block (hb.block _ hxl)).trans (hxc 1), (World.cell?_of_block (a := ⟨jb, joff + j * 2 + 1, none⟩) (hb.block _ hjbl1)).trans hjc1⟩
     have jn0 : ¬ (j : Int) < 0 := by omega
     have jn1 : ¬ (j : Int) ≥ (JL : Int) := by omega
     have jn2 : ¬ JL ≤ j := by omega
     have jp0 : (0 : Int) ≤ (j : Int) := by omega
     have jp1 : (j : Int) < (JL : Int) := by omega
     clear hse2 hF1 hF2 hF3 hVl hOl hER hy hV hjc hcd hcode hCL hjc1 hs1 hJe j1
     go_cut [40] (fun t wx => t = .bool false ∧ wx = w1)
     case first =>
      by_cases h6 : x6 = 0
      ·have h50 : (x5 == 0) = false := by simp; exact fun h => h0 ⟨h6, h⟩
       subst h6
       go_wp2_with fail
       go_meet
       case rel => exact ⟨by first | rfl | simp [h50], rfl⟩
      ·have h60 : (x6 == 0) = false := by simp [h6]
       have h65 : (x6 == 5) = false := by simp [h5]
       go_wp2_with fail
       go_meet
       case rel => exact ⟨by first | rfl | simp [h60, h65], rfl⟩
     case rest =>
      obtain ⟨rfl, hwc⟩ := hcut
      rw [hwc]
      clear hwc
      go_wp2_with fail
      have HS0 : Hid (SerS c ma (some ⟨jb, joff, none⟩) ML mc JL jc sb xb (j : Int) jb (joff + j * 2 + 1) (.slice ca CL cc) w1.drew) := HKp.out _ (below_drew w1)
      clear hxc
      go_cut [11, 12, 13] (fun t11 t12 t13 wx => ∃ (yb : Nat) (oa : Option Addr) (oc : Nat), t11 = .pointer (some ⟨yb, 0, none⟩) ∧ t12 = .slice oa ML oc ∧ t13 = .int .i64 0 ∧ Hid (Blk wx yb 47 #[.int .i64 y.fate, .int .i64 y.r0, .int .i64 y.r1, .int .i64 y.r2, .int .i64 y.r3] ∧ Ints wx wx.heap.size oa V ∧ Below w1.heap.size w1 wx))
      case first =>
       go_region_held3 (fun w' => SerS c ma (some ⟨jb, joff, none⟩) ML mc JL jc sb xb (j : Int) jb (joff + j * 2 + 1) (.slice ca CL cc) w')
        (first
            | with_reducible exact HS0.out
            | with_reducible exact HS1.out
            | ((refine HKp.out _ ?_; repeat' (first | with_reducible exact HB6.out | with_reducible exact Below.refl _ _ | with_reducible exact below_drew w1 | with_reducible refine Below.setCell ?_ ?_ _ | with_reducible refine Below.alloc ?_ ?_ _ | with_reducible refine Below.drew ?_ | with_reducible exact Nat.le_refl _ | with_reducible exact (HB6.out).size | fail)))
            | fail)
        (first
            | (go_at_call 37; refine (HAl.out _ (by first | with_reducible exact below_drew w1 | with_reducible exact ((Below.refl w1.heap.size w1).alloc (Nat.le_refl _) _).drew | fail)).mono ?_; rintro e w6 ⟨oa, oc, rfl, hO6, hb6, hf6⟩;
               have HB6 : Hid (Below w1.heap.size w1 w6) := (by show Below w1.heap.size w1 w6; first | with_reducible exact of_drew hb6 | with_reducible exact ((Below.refl w1.heap.size w1).alloc (Nat.le_refl _) _).trans ((of_drew hb6).mono (by simp)) | fail);
               have HO6 : Hid (Ints w6 w6.heap.size oa V) := hO6;
               (try (have HYz : Hid (Blk w6 w1.heap.size 47 #[.int .i64 0, .int .i64 0, .int .i64 0, .int .i64 0, .int .i64 0]) := (by show Blk w6 w1.heap.size 47 #[.int .i64 0, .int .i64 0, .int .i64 0, .int .i64 0, .int .i64 0]; with_reducible exact ans_first (of_drew hb6)); have hyz := (HYz.out).cell; have hyf := (HYz.out).frozen; have HFar : Hid (∀ x, oa = some x → V ≠ [] → x.block ≠ w1.heap.size) := (fun x hx _ q => by have h9 := hf6 x hx; simp at h9; omega)));
               clear hb6 hO6 hf6; have HS1 : Hid (SerS c ma (some ⟨jb, joff, none⟩) ML mc JL jc sb xb (j : Int) jb (joff + j * 2 + 1) (.slice ca CL cc) w6) := HKp.out _ HB6.out)
            | fail)
       all_goals
        go_wp2
        go_meet
        case rel =>
         refine ⟨_, oa, oc, rfl, rfl, rfl, ?_⟩
         show Blk _ _ _ _ ∧ Ints _ _ _ _ ∧ Below _ _ _
         first | with_reducible exact ans_set HYz.out HB6.out (Nat.le_refl _) HO6.out HFar.out _ _ _ _ _ | exact ⟨Blk.new w6 47 _, (HO6.out).up ((Below.refl _ _).alloc (Nat.le_refl _) _), (HB6.out).alloc (HB6.out).size _⟩ | fail
      case rest =>
       obtain ⟨yb, oa, oc, rfl, rfl, rfl, HY⟩ := hcut
       obtain ⟨wy, hwy⟩ : ∃ wy, wy = wc := ⟨_, rfl⟩
       subst hwy
       have HYb : Hid (Blk wy yb 47 #[.int .i64 y.fate, .int .i64 y.r0, .int .i64 y.r1, .int .i64 y.r2, .int .i64 y.r3]) := (HY.out).1
       have HB2 : Hid (Below w1.heap.size w1 wy) := (HY.out).2.2
       have HSi : Hid (∀ wx, Below wy.heap.size wy wx → Calls Tryz.prog 39 #[.slice oa ML oc, .slice ta ML tc] wx (KResIs (V = W) wx)) := fun wx hb => by
        have h := keepInts_any oa ta oc tc V W wx (by rw [(HVl.out).1, (HVl.out).2]) (by rw [(HVl.out).1]; exact Nat.le_trans hmw (by decide)) ((HY.out).2.1.up hb) ((HI2.out).up ((HB2.out).trans (hb.mono (HB2.out).size)))
        rw [(HVl.out).1] at h
        exact h
       have HOa : Hid (Ints wy wy.heap.size oa V) := (HY.out).2.1
       obtain ⟨rb, hra, hrbl, r0, r1, r2, r3, r4⟩ := HRi.out j (by rw [HRl.out]; exact hjl)
       obtain ⟨z, hz⟩ : ∃ z, z = RS.getD j noRes := ⟨_, rfl⟩
       rw [← hz] at r0 r1 r2 r3 r4
       have HF1' : Hid (x6 ≠ 0 → y.fate = x6 ∧ y = z) := fun h => by rw [hz]; exact HF1.out h
       have HB02 : Hid (Below w0.heap.size w0 wy) := (HB1.out).trans ((HB2.out).mono hszb)
       have hrbl2 : rb < wy.heap.size := Nat.lt_of_lt_of_le hrbl (HB02.out).size
       have hyl := (HYb.out).lt
       have hxl2 : xb < wy.heap.size := Nat.lt_of_lt_of_le hxl (HB2.out).size
       have hyc := (HYb.out).cell
       have hxd := ((HX1.out).below HB2.out hxl).cell
       have up : ∀ o : Nat, wy.cell? ⟨rb, o, none⟩ = w0.cell? ⟨rb, o, none⟩ := fun o => World.cell?_of_block ((HB02.out).block rb hrbl)
       have HKr : Hid (∀ wx, Below wy.heap.size wy wx → ResS yb xb rb (j * 5) (j : Int) y z wx) := fun wx hb =>
        ⟨⟨(World.cell?_of_block (hb.block _ hyl)).trans (hyc 0), (World.cell?_of_block (hb.block _ hyl)).trans (hyc 1), (World.cell?_of_block (hb.block _ hyl)).trans (hyc 2), (World.cell?_of_block (hb.block _ hyl)).trans (hyc 3), (World.cell?_of_block (hb.block _ hyl)).trans (hyc 4)⟩,
            (World.cell?_of_block (hb.block _ hxl2)).trans (hxd 1), (World.cell?_of_block (hb.block _ hrbl2)).trans ((up _).trans r0), (World.cell?_of_block (hb.block _ hrbl2)).trans ((up _).trans r1), (World.cell?_of_block (hb.block _ hrbl2)).trans ((up _).trans r2), (World.cell?_of_block (hb.block _ hrbl2)).trans ((up _).trans r3), (World.cell?_of_block (hb.block _ hrbl2)).trans ((up _).trans r4)⟩
       have HS2 : Hid (ResS yb xb rb (j * 5) (j : Int) y z wy.drew) := HKr.out _ (below_drew wy)
       subst hra
       clear HS0 HKp HAl HY HI2 HF1 hz r0 r1 r2 r3 r4 up hxd hyc hrbl
       go_wp2_with fail
       go_cut [14] (fun t wx => ∃ b : Bool, t = .bool b ∧ Hid (y = z → b = true) ∧ Hid (Below wy.heap.size wy wx))
       case first =>
        go_region_held3 (fun w' => ResS yb xb rb (j * 5) (j : Int) y z w')
         (first | exact HS3.out | exact HS2.out | fail)
         (first
             | (go_at_call 38; refine (keepRes_any _ _ _ _ _ _ _ _ _ _ _).mono ?_; rintro e w6 ⟨b, rfl, hbb, hb6⟩; have HBB : Hid (y = z → b = true) := fun h => hbb (by rw [h]; exact ⟨rfl, rfl, rfl, rfl, rfl⟩); have HB6 : Hid (Below wy.heap.size wy w6) := of_drew hb6; clear hbb hb6; have HS3 : Hid (ResS yb xb rb (j * 5) (j : Int) y z w6) := HKr.out _ HB6.out))
        all_goals
         go_wp2
         go_meet
         case rel => exact ⟨b, rfl, HBB, HB6⟩
       case rest =>
        obtain ⟨b, rfl, HBB, HB3⟩ := hcut
        have hyd := ((HYb.out).below HB3.out hyl).cell
        have HB13 : Hid (Below w1.heap.size w1 wc) := (HB2.out).trans ((HB3.out).mono (HB2.out).size)
        have hxe := ((HX1.out).below HB13.out hxl).cell
        have HB03 : Hid (Below w0.heap.size w0 wc) := (HB02.out).trans ((HB3.out).mono (HB02.out).size)
        clear HS2 HKr HB02 HB13 HYb
        by_cases h6 : x6 = 0
        ·have h50 : (x5 == 0) = false := by simp; exact fun h => h0 ⟨h6, h⟩
         have h51 : ¬ x5 = 0 := fun h => h0 ⟨h6, h⟩
         have hyf := HF2.out h6
         rw [hyf] at hyd
         subst h6
         clear HF1' HF2 HF3 HBB h0 hyf h5
         go_wp2_with fail
         refine (HSi.out _ HB3.out).mono ?_
         rintro e w9 ⟨b2, rfl, _, hb9⟩
         have HI9 : Hid (Ints w9 w9.heap.size oa V) := (HOa.out).up ((HB3.out).trans (hb9.mono (HB3.out).size))
         have HB9 : Hid (Below w0.heap.size w0 w9) := (HB03.out).trans (hb9.mono (HB03.out).size)
         have hxf := ((HX1.out).below ((HB2.out).trans (((HB3.out).trans (hb9.mono (HB3.out).size)).mono (HB2.out).size)) hxl).cell
         clear hb9 hyd hxe
         go_wp2_with fail
         go_roundg (AN.length + 1 - (i + 1))
         case rel => exact ⟨i + 1, oa, oc, V, rfl, by simp, by omega, by omega, HSn, HI9, HB9⟩
         case measure => omega
        ·have h60 : (x6 == 0) = false := by simp [h6]
         have h61 : (x6 != 0) = true := by simp [h6]
         have hyf := (HF1'.out h6).1
         rw [hyf] at hyd
         obtain rfl : b = true := HBB.out (HF1'.out h6).2
         clear HF1' HF2 HBB hyf h0
         go_wp2_with fail
         refine (HSi.out _ HB3.out).mono ?_
         rintro e w9 ⟨b2, rfl, hb2, hb9⟩
         have HI9 : Hid (Ints w9 w9.heap.size oa V) := (HOa.out).up ((HB3.out).trans (hb9.mono (HB3.out).size))
         have HB9 : Hid (Below w0.heap.size w0 w9) := (HB03.out).trans (hb9.mono (HB03.out).size)
         have hxf := ((HX1.out).below ((HB2.out).trans (((HB3.out).trans (hb9.mono (HB3.out).size)).mono (HB2.out).size)) hxl).cell
         by_cases h50 : x5 = 0
         ·obtain rfl : b2 = true := hb2 (HF3.out h50)
          subst h50
          clear hb2 hb9 hyd hxe HF3
          go_wp2_with fail
          go_roundg (AN.length + 1 - (i + 1))
          case rel => exact ⟨i + 1, oa, oc, V, rfl, by simp, by omega, by omega, HSn, HI9, HB9⟩
          case measure => omega
         ·have h51 : (x5 == 0) = false := by simp [h50]
          clear hb2 hb9 hyd hxe HF3
          go_wp2_with fail
          go_roundg (AN.length + 1 - (i + 1))
          case rel => exact ⟨i + 1, oa, oc, V, rfl, by simp, by omega, by omega, HSn, HI9, HB9⟩
          case measure => omega
  ·have hie : ¬ (i : Int) < (AN.length : Int) := by omega
   have hse := (HS1.out).2
   rw [List.drop_eq_nil_of_le (by rw [List.length_map]; omega), serAll, show R.wl (R.clk R.ps.length) = WE from HWE.out] at hse
   have HF : Hid (WE.length = ML ∧ Ints wr wr.heap.size ta WE ∧ Below w.heap.size w wr) := by
    have h1 := (HS1.out).1
    rw [hse] at h1
    have h2 := HI1.out
    rw [hse] at h2
    exact ⟨h1, h2, (HB0.out).trans ((HBi.out).mono (HB0.out).size)⟩
   clear hse HS1 HI1 HBi
   go_wp2_with fail
   exact bodyPost_ret (v := .tuple #[.slice ta ML tc, .bool true]) (by simp [results, Tryz.results14, go_sem]) rfl ⟨ta, tc, rfl, (HF.out).1, (HF.out).2.1, (HF.out).2.2⟩
end Go.Proofs.YtejadojilncbjabGreat
