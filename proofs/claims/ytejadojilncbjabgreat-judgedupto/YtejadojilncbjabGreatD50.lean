import Derived.Test.YtejadojilncbjabGreatD49
import Derived.Test.YtejadojilncbjabGreatD19
namespace Go.Proofs.YtejadojilncbjabGreat
open Go.RowKit
set_option linter.unusedVariables false
attribute [local go_sem ↓] Go.wp_at_zero Go.wp_at_succ
theorem infoAtt9 : (Tryz.prog.info? 82).map (fun i => (i.zero, i.size, i.bytes)) = some (some (.agg #[.int .i64 0, .int .i64 0, .int .i64 0, .int .i64 0, .int .i64 0, .int .i64 0, .int .i64 0, .slice none 0 0]), 8, 80) := by kernel_rfl
theorem infoNote9 : (Tryz.prog.info? 93).map (fun i => (i.zero, i.size, i.bytes)) = some (some (.agg #[.int .i64 0, .int .i64 0, .int .i64 0]), 3, 24) := by kernel_rfl
theorem blk_grown {w w0 w' : World} {base s n b : Nat} {e t : TypeId} {v : Value} {xs : List Value} {cs : Array Value} (h : Blk w b t cs) (h2 : w.ownsRow base e s v n xs) (hne : t ≠ e) (h0 : Below w.heap.size w w0) (hg : w0.grownBy w' v.ownBlock) : Blk w' b t cs := by
 have hb0 : Blk w0 b t cs := h.below h0 h.lt
 refine (hg.block b hb0.lt fun q => ?_).trans hb0
 rcases h2.2 with ⟨k1, _⟩ | ⟨g2, cap2, cur2, k1, _, k4, _⟩
 ·rw [k1] at q; cases q
 ·rw [k1] at q
  cases q
  have hb2 : Blk w g2 e cur2 := k4
  exact h.ne hb2 hne rfl
theorem own_mono {w : World} {base b e s n : Nat} {v : Value} {xs : List Value} (h : w.ownsRow base e s v n xs) (hb : b ≤ base) : w.ownsRow b e s v n xs := by
 refine ⟨h.1, ?_⟩
 rcases h.2 with q | ⟨g, cap, cur, h1, h2, h3⟩
 ·exact Or.inl q
 ·exact Or.inr ⟨g, cap, cur, h1, Nat.le_trans hb h2, h3⟩
theorem own_ltJ {w : World} {base e s n : Nat} {v : Value} {xs : List Value} (h : w.ownsRow base e s v n xs) : ∀ k, v.ownBlock = some k → k < w.heap.size := fun k hk => by
 rcases h.2 with ⟨rfl, _⟩ | ⟨g, cap, cur, rfl, _, h3, _⟩
 ·cases hk
 ·cases hk
  exact (Array.getElem?_eq_some_iff.1 h3).1
def TrnIs (w : World) (L : List AttD) (N m p : Nat) (e : Ending) (w' : World) : Prop := ∃ (oa : Option Addr) (oc : Nat), e = .returned (.tuple #[.slice oa N oc, .int .i64 (p : Int)]) ∧ HistIn w' w'.heap.size oa (tnL L m N) ∧ Below w.heap.size w w'
set_option maxRecDepth 100000 in
set_option maxHeartbeats 8000000 in
theorem turned_any (L : List AttD) (N : Nat) (hN : L.length = N) (hL : N ≤ 2097152) (hnt : ∀ k, k < N → (atL L k).notes.length ≤ 1073741824) (m p : Nat) (hm : m < rdsL L) (hp : p < N) (hp2 : rdsL (L.take p) ≤ m) (hp3 : m < rdsL (L.take p) + rdc (atL L p).notes) (a : Option Addr) (cp : Nat) (w : World) (h : HistIn w w.heap.size a L) :
  Calls Tryz.prog 21 #[.slice a N cp, .int .i64 (m : Int)] w (TrnIs w L N m p) := by
 obtain ⟨iA, hiA, hzA0, hzA1, hzA2⟩ := info_parts infoAtt9
 obtain ⟨iN, hiN, hzN0, hzN1, hzN2⟩ := info_parts infoNote9
 have HAt : Hid (∀ k, k < N → ∃ b off na nc, a = some ⟨b, off, none⟩ ∧ b < w.heap.size ∧ AttS b (off + k * 8) (atL L k) na (atL L k).notes.length nc w ∧ NotesIn w w.heap.size na (atL L k).notes) := fun k hk => h.att (by omega)
 have hmB : m ≤ 2251799813685248 := by
  have h1 := rdsL_bound (M := 1073741824) (L := L) (fun k hk => hnt k (by omega)) L.length (Nat.le_refl _)
  rw [List.take_length] at h1
  have : L.length * 1073741824 ≤ 2097152 * 1073741824 := Nat.mul_le_mul_right _ (by omega)
  omega
 have HBd : Hid (∀ i, i ≤ N → rdsL (L.take i) ≤ 2251799813685248) := fun i hi => by
  have h1 := rdsL_bound (M := 1073741824) (L := L) (fun k hk => hnt k (by omega)) i (by omega)
  have : i * 1073741824 ≤ 2097152 * 1073741824 := Nat.mul_le_mul_right _ (by omega)
  omega
 have HNt : Hid (∀ k, k < N → (atL L k).notes.length ≤ 1073741824) := hnt
 have HNl : Hid (L.length = N) := hN
 have HWh : Hid (∀ i, i < N → rdsL (L.take i) ≤ m → m < rdsL (L.take i) + rdc (atL L i).notes → i = p) := fun i hi q1 q2 => whr_un (by omega) (by omega) hp2 hp3 q1 q2
 have HTot : Hid (m < rdsL (L.take N)) := by show _ < _; rw [List.take_of_length_le (by omega)]; exact hm
 clear h hnt hN hp2 hp3 hm
 go_enter Tryz.func21, Tryz.ntmps21
 go_wp2_with fail
 go_loopg [1, 6, 7, 8] (N + 1) (fun q t1 t6 t7 t8 wr => ∃ (i : Nat) (z at_ : Int) (oa : Option Addr) (oc : Nat) (AN : List (AttD × Value)), t1 = .int .i64 z ∧ t6 = .slice oa i oc ∧ t7 = .int .i64 at_ ∧ t8 = .int .i64 (i : Int) ∧ i ≤ N ∧ q = N + 1 - i ∧ Hid (z = (m : Int) - (rdsL (L.take i) : Int)) ∧ Hid ((rdsL (L.take i) ≤ m → at_ = -1) ∧ (m < rdsL (L.take i) → at_ = (p : Int))) ∧ Hid (AN.length = i ∧ AN.map (·.1) = tnL L m i) ∧ Hid (wr.ownsRow w.heap.size 82 8 (.slice oa i oc) i (AN.flatMap avCells)) ∧ Hid (∀ q ∈ AN, wr.ownsRow 0 93 3 q.2 q.1.notes.length (q.1.notes.flatMap noteCells) ∧ ∃ na nc, q.2 = Value.slice na q.1.notes.length nc) ∧ Hid (Below w.heap.size w wr))
 case atStart => exact ⟨0, (m : Int), -1, none, 0, [], rfl, rfl, rfl, rfl, by omega, by omega, by show _ = _; simp [rdsL], ⟨fun _ => rfl, fun q => by simp [rdsL] at q⟩, ⟨rfl, rfl⟩, World.ownsRow_nil _ _ _ _, fun q hq => absurd hq (by simp), Below.refl _ _⟩
 case round =>
  obtain ⟨i, z, at_, oa, oc, AN, rfl, rfl, rfl, rfl, hi, hgi, HZ, HA, HAN, HRo, HNo, HB⟩ := hrel
  obtain ⟨wi, hwi⟩ : ∃ wi, wi = wr := ⟨_, rfl⟩
  subst hwi
  have hszi := (HB.out).size
  by_cases hiN2 : i < N
  ·obtain ⟨hb, hoff, na, nc, ha, hbl, hat0, hnn0⟩ := HAt.out i hiN2
   obtain ⟨c0, c1, c2, c3, c4, c5, c6, c7⟩ := AttS.up hat0 HB.out hbl
   have c7w := hat0.2.2.2.2.2.2.2
   obtain ⟨x, hx⟩ : ∃ x, x = atL L i := ⟨_, rfl⟩
   have hns := HNt.out i hiN2
   have hsum : rdsL (L.take (i + 1)) = rdsL (L.take i) + rdc (atL L i).notes := by rw [att_snoc (by rw [HNl.out]; exact hiN2), rdsL_app]; simp [rdsL]
   rw [← hx] at c0 c1 c2 c3 c4 c5 c6 c7 c7w hnn0 hns hsum
   obtain ⟨ns, hnse⟩ : ∃ ns, ns = x.notes := ⟨_, rfl⟩
   rw [← hnse] at c7 c7w hnn0 hns hsum
   have HSum : Hid (rdsL (L.take (i + 1)) = rdsL (L.take i) + rdc ns) := hsum
   have HNn : Hid (NotesIn w w.heap.size na ns) := hnn0
   have HTx : Hid (tnA L m i = { x with notes := tnN ((m : Int) - (rdsL (L.take i) : Int)) ns }) := by rw [hnse, hx]; rfl
   have HWi : Hid (rdsL (L.take i) ≤ m → m < rdsL (L.take i) + rdc ns → i = p) := by rw [hnse, hx]; exact HWh.out i hiN2
   obtain ⟨mi, hmi⟩ : ∃ mi : Int, mi = (m : Int) - (rdsL (L.take i) : Int) := ⟨_, rfl⟩
   rw [← hmi] at HTx
   have HMi : Hid (mi = (m : Int) - (rdsL (L.take i) : Int) ∧ rdsL (L.take i) ≤ 2251799813685248) := ⟨hmi, HBd.out i hi⟩
   obtain ⟨w1, hw1⟩ : ∃ w1, w1 = wi.alloc (.cells #[.int .i64 x.thread, .int .i64 x.job, .int .i64 x.start, .int .i64 x.fin, .int .i64 x.valid, .int .i64 x.stamp, .int .i64 x.fate, .slice na ns.length nc] 82) := ⟨_, rfl⟩
   have hB1 : Below wi.heap.size wi w1 := by rw [hw1]; exact (Below.refl _ _).alloc (Nat.le_refl _) _
   have hX1 : Blk w1 wi.heap.size 82 #[.int .i64 x.thread, .int .i64 x.job, .int .i64 x.start, .int .i64 x.fin, .int .i64 x.valid, .int .i64 x.stamp, .int .i64 x.fate, .slice na ns.length nc] := by rw [hw1]; exact Blk.new wi _ _
   obtain ⟨w2, hw2⟩ : ∃ w2, w2 = w1.setCell ⟨wi.heap.size, 7, none⟩ (.slice none 0 0) := ⟨_, rfl⟩
   have HX2 : Hid (Blk w2 wi.heap.size 82 #[.int .i64 x.thread, .int .i64 x.job, .int .i64 x.start, .int .i64 x.fin, .int .i64 x.valid, .int .i64 x.stamp, .int .i64 x.fate, .slice none 0 0]) := by rw [hw2]; exact (hX1.set).congr (by simp)
   have HB2 : Hid (Below wi.heap.size wi w2) := by rw [hw2]; exact hB1.setCell (Nat.le_refl _) _
   have i0 : (0 : Int) ≤ (i : Int) := by omega
   have i1 : (i : Int) < (N : Int) := by omega
   have hwi1 : IntKind.i64.wrap ((i : Int) + 1) = (i : Int) + 1 := wrapJ9 _ (by omega) (by omega)
   have hx17 := hX1.cell 7
   have hx17f := hX1.frozen 7
   simp at hx17
   subst ha
   clear hat0 hnn0 hsum hB1 hX1 hx hnse hmi
   go_upto_region 7 with fail
   rw [← hw1]
   clear c0 c1 c2 c3 c4 c5 c6 c7 hw1
   obtain ⟨xb, hxb⟩ : ∃ xb, xb = wi.heap.size := ⟨_, rfl⟩
   have hxbl : wi.heap.size ≤ xb := by omega
   rw [← hxb] at HX2 hw2 hx17 hx17f ⊢
   clear hxb
   go_upto_region 8 with fail
   rw [← hw2]
   clear hw2 hx17 hx17f
   go_wp2_with fail
   go_loopg [1, 7, 10] (ns.length + 1) (fun q t1 t7 t10 wx => ∃ (k : Nat) (z at_ : Int) (ra : Option Addr) (rc : Nat), t1 = .int .i64 z ∧ t7 = .int .i64 at_ ∧ t10 = .int .i64 (k : Int) ∧ k ≤ ns.length ∧ q = ns.length + 1 - k ∧ Hid (z = mi - (rdc (ns.take k) : Int)) ∧ Hid ((rdsL (L.take i) + rdc (ns.take k) ≤ m → at_ = -1) ∧ (m < rdsL (L.take i) + rdc (ns.take k) → at_ = (p : Int))) ∧ Hid (Blk wx xb 82 #[.int .i64 x.thread, .int .i64 x.job, .int .i64 x.start, .int .i64 x.fin, .int .i64 x.valid, .int .i64 x.stamp, .int .i64 x.fate, .slice ra k rc]) ∧ Hid (wx.ownsRow wi.heap.size 93 3 (.slice ra k rc) k ((tnN mi (ns.take k)).flatMap noteCells)) ∧ Hid (Below wi.heap.size wi wx))
   case atStart => exact ⟨0, z, at_, none, 0, rfl, rfl, rfl, by omega, by omega, by show _ = _; rw [(HMi.out).1]; simpa [rdc] using HZ.out, by show _ ∧ _; simpa [rdc] using HA.out, HX2, World.ownsRow_nil _ _ _ _, HB2⟩
   case round =>
    obtain ⟨k, z, at_, ra, rc, rfl, rfl, rfl, hk, hgk, HZk, HAk, HXk, HRk, HBk⟩ := hrel
    obtain ⟨wk, hwk⟩ : ∃ wk, wk = wr := ⟨_, rfl⟩
    subst hwk
    clear HZ HA HX2 HB2
    have HBw : Hid (Below w.heap.size w wk) := (HB.out).trans ((HBk.out).mono hszi)
    have c7k : wk.cell? ⟨hb, hoff + i * 8 + 7, none⟩ = some (.slice na ns.length nc) := (World.cell?_of_block ((HBw.out).block hb hbl)).trans c7w
    by_cases hkn : k < ns.length
    ·obtain ⟨nb, noff, hna, hnl, n0, n1, n2⟩ := HNn.out k hkn
     have up : ∀ o, wk.cell? ⟨nb, o, none⟩ = w.cell? ⟨nb, o, none⟩ := fun o => World.cell?_of_block ((HBw.out).block nb hnl)
     have hsn := note_snoc hkn
     obtain ⟨nt, hnt⟩ : ∃ nt, nt = ns.getD k noNt := ⟨_, rfl⟩
     rw [← hnt] at n0 n1 n2 hsn
     have hrc : rdc (ns.take (k + 1)) = rdc (ns.take k) + (if nt.op = 7 then 1 else 0) := by rw [hsn, rdc_app]; simp [rdc]
     have htn : tnN mi (ns.take (k + 1)) = tnN mi (ns.take k) ++ [if nt.op = 7 ∧ mi - (rdc (ns.take k) : Int) = 0 then ⟨nt.op, nt.addr, tnV nt.val⟩ else nt] := by rw [hsn, tnN_snoc]
     have hle := rdc_take (l := ns) (k := k + 1)
     have hb1 := rdc_len (ns.take k)
     have hb2 : (ns.take k).length ≤ k := by simp; omega
     have d0 := (up _).trans n0
     have d1 := (up _).trans n1
     have d2 := (up _).trans n2
     obtain ⟨op, ad, va⟩ := nt
     simp only at d0 d1 d2 hrc htn
     obtain ⟨OT, hOT⟩ : ∃ OT, OT = (tnN mi (ns.take k)).flatMap noteCells := ⟨_, rfl⟩
     rw [← hOT] at HRk
     obtain ⟨w3, hw3⟩ : ∃ w3, w3 = wk.alloc (.cells #[.int .i64 op, .int .i64 ad, .int .i64 va] 93) := ⟨_, rfl⟩
     have hB3 : Below wk.heap.size wk w3 := by rw [hw3]; exact (Below.refl _ _).alloc (Nat.le_refl _) _
     have HY3 : Hid (Blk w3 wk.heap.size 93 #[.int .i64 op, .int .i64 ad, .int .i64 va]) := by rw [hw3]; exact Blk.new wk _ _
     have HX3 : Hid (Blk w3 xb 82 #[.int .i64 x.thread, .int .i64 x.job, .int .i64 x.start, .int .i64 x.fin, .int .i64 x.valid, .int .i64 x.stamp, .int .i64 x.fate, .slice ra k rc]) := (HXk.out).below hB3 (HXk.out).lt
     have HR3 : Hid (w3.ownsRow wi.heap.size 93 3 (.slice ra k rc) k OT) := own_up HRk.out hB3
     have HB3 : Hid (Below wi.heap.size wi w3) := (HBk.out).trans (hB3.mono (HBk.out).size)
     have hyb : wi.heap.size ≤ wk.heap.size := (HBk.out).size
     have hxy : xb ≠ wk.heap.size := by have := (HXk.out).lt; omega
     have hrk2 : rdc (ns.take k) ≤ 1073741824 := by omega
     have hfr : ∀ q : (Value.slice ra k rc).ownBlock = some wk.heap.size, False := fun q => by
      have := own_ltJ HRk.out _ q
      omega
     have hzr : z = mi - (rdc (ns.take k) : Int) := HZk.out
     have hmr := (HMi.out).2
     have hmr1 := (HMi.out).1
     have hzb : -4611686018427387904 ≤ z - 1 ∧ z - 1 ≤ 4611686018427387904 := by omega
     have hwz : IntKind.i64.wrap (z - 1) = z - 1 := wrapJ9 _ hzb.1 hzb.2
     have k0 : (0 : Int) ≤ (k : Int) := by omega
     have k1 : (k : Int) < (ns.length : Int) := by omega
     have hwk1 : IntKind.i64.wrap ((k : Int) + 1) = (k : Int) + 1 := wrapJ9 _ (by omega) (by omega)
     subst hna
     clear n0 n1 n2 up hsn hnt hB3 HRk HXk
     go_upto_region 12 with fail
     rw [← hw3]
     obtain ⟨yb, hybe⟩ : ∃ yb, yb = wk.heap.size := ⟨_, rfl⟩
     rw [← hybe] at HY3 hyb hxy hfr ⊢
     clear hw3 hybe d0 d1 d2 c7k
     have hyc := (HY3.out).cell
     have hyf := (HY3.out).frozen
     by_cases h7 : op = 7
     ·by_cases hz0 : z = 0
      ·have HOn : Hid ((tnN mi (ns.take (k + 1))).flatMap noteCells = OT ++ [.int .i64 op, .int .i64 ad, .int .i64 (tnV va)]) := by
        show _ = _
        rw [htn, if_pos ⟨h7, by omega⟩, List.flatMap_append, ← hOT]
        rfl
       have HZn : Hid (z - 1 = mi - (rdc (ns.take (k + 1)) : Int)) := by show _ = _; rw [hrc, if_pos h7]; omega
       have HAn : Hid ((rdsL (L.take i) + rdc (ns.take (k + 1)) ≤ m → (i : Int) = -1) ∧ (m < rdsL (L.take i) + rdc (ns.take (k + 1)) → (i : Int) = (p : Int))) := by
        rw [if_pos h7] at hrc
        refine ⟨fun q => by omega, fun q => ?_⟩
        have := HWi.out (by omega) (by omega)
        omega
       obtain ⟨w4, hw4⟩ : ∃ w4, w4 = w3.setCell ⟨yb, 2, none⟩ (.int .i64 (tnV va)) := ⟨_, rfl⟩
       have HY4 : Hid (Blk w4 yb 93 #[.int .i64 op, .int .i64 ad, .int .i64 (tnV va)]) := by rw [hw4]; exact ((HY3.out).set).congr (by simp)
       have HX4 : Hid (Blk w4 xb 82 #[.int .i64 x.thread, .int .i64 x.job, .int .i64 x.start, .int .i64 x.fin, .int .i64 x.valid, .int .i64 x.stamp, .int .i64 x.fate, .slice ra k rc]) := by rw [hw4]; exact (HX3.out).only ((Only.refl _ _).set) hxy
       have HR4 : Hid (w4.ownsRow wi.heap.size 93 3 (.slice ra k rc) k OT) := by
        rw [hw4]
        exact own_only HR3.out ((Only.refl _ _).set) (hfr · )
       have HB4 : Hid (Below wi.heap.size wi w4) := by rw [hw4]; exact (HB3.out).setCell hyb _
       have hvw : IntKind.i64.wrap (va + 1) = tnV va := rfl
       subst h7 hz0
       clear hrc htn hle hb1 hb2 HZk HAk hOT hzr hmr hmr1 hrk2
       go_upto_region 15 with fail
       rw [← hw4]
       clear hw4 hyc hyf HX3 HY3 HR3 HB3
       have hx4 := (HX4.out).cell 7
       have hy4 := (HY4.out).cell
       have hxl4 := (HX4.out).lt
       have hx4a := (HX4.out).frozen 7
       simp at hx4
       have hsz4 := (HB4.out).size
       go_wp2_with
        (at_builtin;
            refine wpList_append_lies _ (by rfl) _ _ _ (by rfl) wi.heap.size 93 iN _ 3 24 Tryz.underlying80 hiN hzN0 hzN1 hzN2 rfl (by omega) (.slice ra k rc) k OT (by rfl) ((HR4.out).alloc _)
             ⟨w4.heap.size, 0, none⟩ 1 1 [.int .i64 7, .int .i64 ad, .int .i64 (tnV va)] (by rfl) (by rfl) (World.news_of_block (cs := #[.int .i64 7, .int .i64 ad, .int .i64 (tnV va)]) (t := 93) (fr := (0, 0)) (heap_alloc_new w4 _)) (by simp [Value.oneCell'])
             (by omega) (by unfold maxLen; omega) (by omega) (by simp; omega) (w4.heap.size + 1) (by simp) ?_;
            intro gg cap w7 hown1 hgrow hat hlt;
            have HX7 : Hid (Blk w7 xb 82 #[.int .i64 x.thread, .int .i64 x.job, .int .i64 x.start, .int .i64 x.fin, .int .i64 x.valid, .int .i64 x.stamp, .int .i64 x.fate, .slice ra k rc]) := blk_grown HX4.out HR4.out (by decide) ((Below.refl _ _).alloc (Nat.le_refl _) _) hgrow;
            have HR7 : Hid (w7.ownsRow wi.heap.size 93 3 (.slice (some ⟨gg, 0, none⟩) (k + 1) cap) (k + 1) (OT ++ [.int .i64 7, .int .i64 ad, .int .i64 (tnV va)])) := hown1;
            have HB7 : Hid (Below wi.heap.size wi w7) := Below.grown ((HB4.out).alloc (HB4.out).size _) hgrow (by simp; omega) (own_ge HR4.out);
            have hx7 := (HX7.out).cell 7;
            have hx7f := (HX7.out).frozen 7;
            simp at hx7;
            clear hown1 hgrow hat hlt)
       have HR8 : Hid ((w7.setCell ⟨xb, 7, none⟩ (.slice (some ⟨gg, 0, none⟩) (k + 1) cap)).ownsRow wi.heap.size 93 3 (.slice (some ⟨gg, 0, none⟩) (k + 1) cap) (k + 1) ((tnN mi (ns.take (k + 1))).flatMap noteCells)) := by
        rw [HOn.out]
        exact own_only HR7.out ((Only.refl _ _).set) (own_tag HR7.out HX7.out (by decide) xb · rfl)
       have HX8 : Hid (Blk (w7.setCell ⟨xb, 7, none⟩ (.slice (some ⟨gg, 0, none⟩) (k + 1) cap)) xb 82 #[.int .i64 x.thread, .int .i64 x.job, .int .i64 x.start, .int .i64 x.fin, .int .i64 x.valid, .int .i64 x.stamp, .int .i64 x.fate, .slice (some ⟨gg, 0, none⟩) (k + 1) cap]) := ((HX7.out).set).congr (by simp)
       have HB8 : Hid (Below wi.heap.size wi (w7.setCell ⟨xb, 7, none⟩ (.slice (some ⟨gg, 0, none⟩) (k + 1) cap))) := (HB7.out).setCell hxbl _
       go_roundg (ns.length + 1 - (k + 1))
       case rel => exact ⟨k + 1, _, (i : Int), _, _, rfl, by first | rfl | simp, by simp, by omega, rfl, HZn, HAn, HX8, HR8, HB8⟩
       case measure => omega
      ·have hz1 : (z == 0) = false := by simp [hz0]
       have HOn : Hid ((tnN mi (ns.take (k + 1))).flatMap noteCells = OT ++ [.int .i64 op, .int .i64 ad, .int .i64 va]) := by
        show _ = _
        rw [htn, if_neg (fun q => hz0 (by omega)), List.flatMap_append, ← hOT]
        rfl
       have HZn : Hid (z - 1 = mi - (rdc (ns.take (k + 1)) : Int)) := by show _ = _; rw [hrc, if_pos h7]; omega
       have HAn : Hid ((rdsL (L.take i) + rdc (ns.take (k + 1)) ≤ m → at_ = -1) ∧ (m < rdsL (L.take i) + rdc (ns.take (k + 1)) → at_ = (p : Int))) := by
        rw [if_pos h7] at hrc
        refine ⟨fun q => (HAk.out).1 (by omega), fun q => (HAk.out).2 (by omega)⟩
       obtain ⟨w4, hw4⟩ : ∃ w4, w4 = w3 := ⟨_, rfl⟩
       rw [← hw4] at HY3 HX3 HR3 HB3 hyc hyf ⊢
       clear hw4
       have HY4 := HY3
       have HX4 := HX3
       have HR4 := HR3
       have HB4 := HB3
       subst h7
       clear hrc htn hle hb1 hb2 HZk HAk hOT hzr hmr hmr1 hrk2 hz0 HX3 HY3 HR3 HB3
       have hx4 := (HX4.out).cell 7
       have hy4 := (HY4.out).cell
       have hxl4 := (HX4.out).lt
       have hx4a := (HX4.out).frozen 7
       simp at hx4
       have hsz4 := (HB4.out).size
       go_wp2_with
        (at_builtin;
            refine wpList_append_lies _ (by rfl) _ _ _ (by rfl) wi.heap.size 93 iN _ 3 24 Tryz.underlying80 hiN hzN0 hzN1 hzN2 rfl (by omega) (.slice ra k rc) k OT (by rfl) ((HR4.out).alloc _)
             ⟨w4.heap.size, 0, none⟩ 1 1 [.int .i64 7, .int .i64 ad, .int .i64 va] (by rfl) (by rfl) (World.news_of_block (cs := #[.int .i64 7, .int .i64 ad, .int .i64 va]) (t := 93) (fr := (0, 0)) (heap_alloc_new w4 _)) (by simp [Value.oneCell'])
             (by omega) (by unfold maxLen; omega) (by omega) (by simp; omega) (w4.heap.size + 1) (by simp) ?_;
            intro gg cap w7 hown1 hgrow hat hlt;
            have HX7 : Hid (Blk w7 xb 82 #[.int .i64 x.thread, .int .i64 x.job, .int .i64 x.start, .int .i64 x.fin, .int .i64 x.valid, .int .i64 x.stamp, .int .i64 x.fate, .slice ra k rc]) := blk_grown HX4.out HR4.out (by decide) ((Below.refl _ _).alloc (Nat.le_refl _) _) hgrow;
            have HR7 : Hid (w7.ownsRow wi.heap.size 93 3 (.slice (some ⟨gg, 0, none⟩) (k + 1) cap) (k + 1) (OT ++ [.int .i64 7, .int .i64 ad, .int .i64 va])) := hown1;
            have HB7 : Hid (Below wi.heap.size wi w7) := Below.grown ((HB4.out).alloc (HB4.out).size _) hgrow (by simp; omega) (own_ge HR4.out);
            have hx7 := (HX7.out).cell 7;
            have hx7f := (HX7.out).frozen 7;
            simp at hx7;
            clear hown1 hgrow hat hlt)
       have HR8 : Hid ((w7.setCell ⟨xb, 7, none⟩ (.slice (some ⟨gg, 0, none⟩) (k + 1) cap)).ownsRow wi.heap.size 93 3 (.slice (some ⟨gg, 0, none⟩) (k + 1) cap) (k + 1) ((tnN mi (ns.take (k + 1))).flatMap noteCells)) := by
        rw [HOn.out]
        exact own_only HR7.out ((Only.refl _ _).set) (own_tag HR7.out HX7.out (by decide) xb · rfl)
       have HX8 : Hid (Blk (w7.setCell ⟨xb, 7, none⟩ (.slice (some ⟨gg, 0, none⟩) (k + 1) cap)) xb 82 #[.int .i64 x.thread, .int .i64 x.job, .int .i64 x.start, .int .i64 x.fin, .int .i64 x.valid, .int .i64 x.stamp, .int .i64 x.fate, .slice (some ⟨gg, 0, none⟩) (k + 1) cap]) := ((HX7.out).set).congr (by simp)
       have HB8 : Hid (Below wi.heap.size wi (w7.setCell ⟨xb, 7, none⟩ (.slice (some ⟨gg, 0, none⟩) (k + 1) cap))) := (HB7.out).setCell hxbl _
       go_roundg (ns.length + 1 - (k + 1))
       case rel => exact ⟨k + 1, _, _, _, _, rfl, by first | rfl | simp, by simp, by omega, rfl, HZn, HAn, HX8, HR8, HB8⟩
       case measure => omega
     ·have h7' : (op == 7) = false := by simp [h7]
      have HOn : Hid ((tnN mi (ns.take (k + 1))).flatMap noteCells = OT ++ [.int .i64 op, .int .i64 ad, .int .i64 va]) := by
       show _ = _
       rw [htn, if_neg (fun q => h7 q.1), List.flatMap_append, ← hOT]
       rfl
      have HZn : Hid (z = mi - (rdc (ns.take (k + 1)) : Int)) := by show _ = _; rw [hrc, if_neg h7]; omega
      have HAn : Hid ((rdsL (L.take i) + rdc (ns.take (k + 1)) ≤ m → at_ = -1) ∧ (m < rdsL (L.take i) + rdc (ns.take (k + 1)) → at_ = (p : Int))) := by
       rw [if_neg h7] at hrc
       refine ⟨fun q => (HAk.out).1 (by omega), fun q => (HAk.out).2 (by omega)⟩
      obtain ⟨w4, hw4⟩ : ∃ w4, w4 = w3 := ⟨_, rfl⟩
      rw [← hw4] at HY3 HX3 HR3 HB3 hyc hyf ⊢
      clear hw4
      have HY4 := HY3
      have HX4 := HX3
      have HR4 := HR3
      have HB4 := HB3
      clear hrc htn hle hb1 hb2 HZk HAk hOT hzr hmr hmr1 hrk2 h7 HX3 HY3 HR3 HB3
      have hx4 := (HX4.out).cell 7
      have hy4 := (HY4.out).cell
      have hxl4 := (HX4.out).lt
      have hx4a := (HX4.out).frozen 7
      simp at hx4
      have hsz4 := (HB4.out).size
      go_wp2_with
       (at_builtin;
           refine wpList_append_lies _ (by rfl) _ _ _ (by rfl) wi.heap.size 93 iN _ 3 24 Tryz.underlying80 hiN hzN0 hzN1 hzN2 rfl (by omega) (.slice ra k rc) k OT (by rfl) ((HR4.out).alloc _)
            ⟨w4.heap.size, 0, none⟩ 1 1 [.int .i64 op, .int .i64 ad, .int .i64 va] (by rfl) (by rfl) (World.news_of_block (cs := #[.int .i64 op, .int .i64 ad, .int .i64 va]) (t := 93) (fr := (0, 0)) (heap_alloc_new w4 _)) (by simp [Value.oneCell'])
            (by omega) (by unfold maxLen; omega) (by omega) (by simp; omega) (w4.heap.size + 1) (by simp) ?_;
           intro gg cap w7 hown1 hgrow hat hlt;
           have HX7 : Hid (Blk w7 xb 82 #[.int .i64 x.thread, .int .i64 x.job, .int .i64 x.start, .int .i64 x.fin, .int .i64 x.valid, .int .i64 x.stamp, .int .i64 x.fate, .slice ra k rc]) := blk_grown HX4.out HR4.out (by decide) ((Below.refl _ _).alloc (Nat.le_refl _) _) hgrow;
           have HR7 : Hid (w7.ownsRow wi.heap.size 93 3 (.slice (some ⟨gg, 0, none⟩) (k + 1) cap) (k + 1) (OT ++ [.int .i64 op, .int .i64 ad, .int .i64 va])) := hown1;
           have HB7 : Hid (Below wi.heap.size wi w7) := Below.grown ((HB4.out).alloc (HB4.out).size _) hgrow (by simp; omega) (own_ge HR4.out);
           have hx7 := (HX7.out).cell 7;
           have hx7f := (HX7.out).frozen 7;
           simp at hx7;
           clear hown1 hgrow hat hlt)
      have HR8 : Hid ((w7.setCell ⟨xb, 7, none⟩ (.slice (some ⟨gg, 0, none⟩) (k + 1) cap)).ownsRow wi.heap.size 93 3 (.slice (some ⟨gg, 0, none⟩) (k + 1) cap) (k + 1) ((tnN mi (ns.take (k + 1))).flatMap noteCells)) := by
       rw [HOn.out]
       exact own_only HR7.out ((Only.refl _ _).set) (own_tag HR7.out HX7.out (by decide) xb · rfl)
      have HX8 : Hid (Blk (w7.setCell ⟨xb, 7, none⟩ (.slice (some ⟨gg, 0, none⟩) (k + 1) cap)) xb 82 #[.int .i64 x.thread, .int .i64 x.job, .int .i64 x.start, .int .i64 x.fin, .int .i64 x.valid, .int .i64 x.stamp, .int .i64 x.fate, .slice (some ⟨gg, 0, none⟩) (k + 1) cap]) := ((HX7.out).set).congr (by simp)
      have HB8 : Hid (Below wi.heap.size wi (w7.setCell ⟨xb, 7, none⟩ (.slice (some ⟨gg, 0, none⟩) (k + 1) cap))) := (HB7.out).setCell hxbl _
      go_roundg (ns.length + 1 - (k + 1))
      case rel => exact ⟨k + 1, _, _, _, _, rfl, by first | rfl | simp, by simp, by omega, rfl, HZn, HAn, HX8, HR8, HB8⟩
      case measure => omega
    ·obtain rfl : k = ns.length := by omega
     have hkI : ¬ (ns.length : Int) < (ns.length : Int) := by omega
     have hzk := HZk.out
     have hak := HAk.out
     have hrk := HRk.out
     rw [List.take_of_length_le (Nat.le_refl _)] at hzk hak hrk
     have HZe : Hid (z = (m : Int) - (rdsL (L.take (i + 1)) : Int)) := by show _ = _; rw [HSum.out, hzk, (HMi.out).1]; omega
     have HAe : Hid ((rdsL (L.take (i + 1)) ≤ m → at_ = -1) ∧ (m < rdsL (L.take (i + 1)) → at_ = (p : Int))) := by rw [HSum.out]; exact hak
     obtain ⟨y, hy⟩ : ∃ y : AttD, y = { x with notes := tnN mi ns } := ⟨_, rfl⟩
     have hyl : y.notes.length = ns.length := by rw [hy]; exact tnN_len _ _
     have HRy : Hid (wk.ownsRow wi.heap.size 93 3 (.slice ra ns.length rc) ns.length (y.notes.flatMap noteCells)) := by rw [hy]; exact hrk
     obtain ⟨OA, hOA⟩ : ∃ OA, OA = AN.flatMap avCells := ⟨_, rfl⟩
     have HRa : Hid (wk.ownsRow w.heap.size 82 8 (.slice oa i oc) i OA) := by rw [hOA]; exact own_up HRo.out HBk.out
     have HOA : Hid ((AN ++ [(y, Value.slice ra ns.length rc)]).flatMap avCells = OA ++ [.int .i64 x.thread, .int .i64 x.job, .int .i64 x.start, .int .i64 x.fin, .int .i64 x.valid, .int .i64 x.stamp, .int .i64 x.fate, .slice ra ns.length rc]) := by
      show _ = _
      rw [List.flatMap_append, ← hOA, hy]
      rfl
     have HANn : Hid ((AN ++ [(y, Value.slice ra ns.length rc)]).length = i + 1 ∧ (AN ++ [(y, Value.slice ra ns.length rc)]).map (·.1) = tnL L m (i + 1)) := by
      refine ⟨by rw [List.length_append, (HAN.out).1]; rfl, ?_⟩
      rw [List.map_append, (HAN.out).2, tnL_succ, HTx.out, hy]
      rfl
     have HNk : Hid (∀ q ∈ AN ++ [(y, Value.slice ra ns.length rc)], wk.ownsRow 0 93 3 q.2 q.1.notes.length (q.1.notes.flatMap noteCells) ∧ ∃ na nc, q.2 = Value.slice na q.1.notes.length nc) := fun q hq => by
      rcases List.mem_append.1 hq with r | r
      ·exact ⟨own_up ((HNo.out q r).1) HBk.out, (HNo.out q r).2⟩
      ·simp at r
       subst r
       refine ⟨?_, ra, rc, by rw [hyl]⟩
       have h9 := own_mono HRy.out (Nat.zero_le _)
       simp only [hyl]
       exact h9
     have hxk := (HXk.out).cell
     have hxkl := (HXk.out).lt
     have hszk := (HBw.out).size
     clear hzk hak hrk HZk HAk HRk hOA hy hyl HRo
     go_wp2_with
      (at_builtin;
          refine wpList_append_lies _ (by rfl) _ _ _ (by rfl) w.heap.size 82 iA _ 8 80 Tryz.underlying29 hiA hzA0 hzA1 hzA2 rfl (by omega) (.slice oa i oc) i OA (by rfl) ((HRa.out).alloc _)
           ⟨wk.heap.size, 0, none⟩ 1 1 [.int .i64 x.thread, .int .i64 x.job, .int .i64 x.start, .int .i64 x.fin, .int .i64 x.valid, .int .i64 x.stamp, .int .i64 x.fate, .slice ra ns.length rc] (by rfl) (by rfl) (World.news_of_block (cs := #[.int .i64 x.thread, .int .i64 x.job, .int .i64 x.start, .int .i64 x.fin, .int .i64 x.valid, .int .i64 x.stamp, .int .i64 x.fate, .slice ra ns.length rc]) (t := 82) (fr := (0, 0)) (heap_alloc_new wk _)) (by simp [Value.oneCell'])
           (by omega) (by unfold maxLen; omega) (by omega) (by simp; omega) (wk.heap.size + 1) (by simp) ?_;
          intro gg cap w7 hown1 hgrow hat hlt;
          have HNz : Hid (∀ q ∈ AN ++ [(y, Value.slice ra ns.length rc)], w7.ownsRow 0 93 3 q.2 q.1.notes.length (q.1.notes.flatMap noteCells) ∧ ∃ na nc, q.2 = Value.slice na q.1.notes.length nc) := (fun q hq => ⟨own_grown (HNk.out q hq).1 HRa.out (by decide) ((Below.refl _ _).alloc (Nat.le_refl _) _) hgrow, (HNk.out q hq).2⟩);
          have HRz : Hid (w7.ownsRow w.heap.size 82 8 (.slice (some ⟨gg, 0, none⟩) (i + 1) cap) (i + 1) (OA ++ [.int .i64 x.thread, .int .i64 x.job, .int .i64 x.start, .int .i64 x.fin, .int .i64 x.valid, .int .i64 x.stamp, .int .i64 x.fate, .slice ra ns.length rc])) := hown1;
          have HBz : Hid (Below w.heap.size w w7) := Below.grown ((HBw.out).alloc (HBw.out).size _) hgrow (by simp; omega) (own_ge HRa.out);
          clear hown1 hgrow hat hlt)
     go_roundg (N + 1 - (i + 1))
     case rel => exact ⟨i + 1, z, at_, _, _, AN ++ [(y, Value.slice ra ns.length rc)], rfl, rfl, rfl, by simp, by omega, rfl, HZe, HAe, HANn, by rw [HOA.out]; exact HRz, HNz, HBz⟩
     case measure => omega
  ·obtain rfl : i = N := by omega
   have hiI : ¬ (i : Int) < (i : Int) := by omega
   have hat : at_ = (p : Int) := (HA.out).2 HTot.out
   have HHi : Hid (HistIn wi wi.heap.size oa (tnL L m i)) := by
    rw [← (HAN.out).2]
    have hr : AttsRow wi w.heap.size oa oc AN := by
     have h9 := HRo.out
     show wi.ownsRow _ _ _ _ _ _
     rw [(HAN.out).1]
     exact h9
    exact histIn_row hr (fun q hq => (HNo.out q hq).1) (fun q hq => (HNo.out q hq).2)
   subst hat
   clear HA HZ HAN HRo HNo
   go_wp2_with fail
   exact bodyPost_ret (v := .tuple #[.slice oa i oc, .int .i64 (p : Int)]) (by simp [results, Tryz.results21, go_sem]) rfl ⟨oa, oc, rfl, HHi.out, HB.out⟩
end Go.Proofs.YtejadojilncbjabGreat
