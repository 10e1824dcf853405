import Derived.Test.YtejadojilncbjabGreatD31
import Derived.Test.YtejadojilncbjabGreatD30
namespace Go.Proofs.YtejadojilncbjabGreat
open Go.RowKit
set_option linter.unusedVariables false
attribute [local go_sem ↓] Go.wp_at_zero Go.wp_at_succ
theorem box4 {w w' : World} {rb : Nat} {T : TypeId} {a b c d a' b' c' d' : Value} (h : Blk w rb T #[a, b, c, d]) (e : w' = (((w.setCell ⟨rb, 0, none⟩ a').setCell ⟨rb, 1, none⟩ b').setCell ⟨rb, 2, none⟩ c').setCell ⟨rb, 3, none⟩ d') :
  w'.cell? ⟨rb, 0, none⟩ = some a' ∧ w'.cell? ⟨rb, 1, none⟩ = some b' ∧ w'.cell? ⟨rb, 2, none⟩ = some c' ∧ w'.cell? ⟨rb, 3, none⟩ = some d' ∧ Only rb w w' := by
 have hs := box_set (a' := a') (b' := b') (c' := c') (d' := d') h
 rw [← e] at hs
 refine ⟨by rw [hs.cell]; rfl, by rw [hs.cell]; rfl, by rw [hs.cell]; rfl, by rw [hs.cell]; rfl, ?_⟩
 rw [e]; exact box_below
theorem Blk.goes {p : Nat} {L L' : Ls} {w w' : World} {b : Nat} {T : TypeId} {cs : Array Value} (h : Blk w b T cs) (g : Goes p L w L' w') (hp : b ≠ p) (ho : ¬ Own L b) : Blk w' b T cs := (g.block b h.lt hp ho).trans h
section
variable (base p nb z : Nat) (A B : List Value) (t : PT) (L : Ls) (w : World)
set_option maxRecDepth 100000 in
set_option maxHeartbeats 8000000 in
theorem t_pickGo {K : Cx} {k : Int} (hcf : cfgB K.c = true) (R : TR base p z A B w t L) (hs : t.step ≠ 0) (hr : t.rest = 0) (hbs : base ≤ w.heap.size) (hpb : base ≤ p) (hnbb : base ≤ nb) (hpn : p ≠ nb) (hno : ¬ Own L nb)
  (Ds : List Int) (hN : Blk w nb 3 (Ds.map (Value.int .i64 ·)).toArray) (ja : Option Addr) (jc cb co cap : Nat) (num draw : Int) (hcc : w.cell? ⟨cb, co, none⟩ = some (.slice (some ⟨nb, 0, none⟩) Ds.length cap)) (hcn : cb ≠ nb)
  (j : Nat) (hcur : t.cur < t.mine.length) (hj : t.mine.getD t.cur 0 = (j : Int)) (hjl : j < K.jobs.length) (hjr : JobsRep w base ja K.jobs) (code : List InsD) (hcode : (K.jobs.getD j (0, [])).2 = code) (hcl : code.length ≤ 20)
  (kind frm into : Int) (c : Nat) (hord : t.order = ⟨kind, c, frm, into⟩) (hkd : 1 ≤ kind ∧ kind ≤ 4) (hcD : c < Ds.length) (sv pv : Int) (hsv : Ds.getD c 0 = sv) (hpv : putV ⟨kind, c, frm, into⟩ sv = pv) (hv1 : -1 ≤ sv) (hv2 : sv ≤ 1125899906842624)
  (F : FAll t sv pv draw) (hrun : (yFollow sv pv num draw t).step = 1 → ∃ h1, RunI K code k (yFollow sv pv num draw t) h1) (hside : Side K k (yFollow sv pv num draw t)) (hnl : (yFollow sv pv num draw t).notes.length + 50 ≤ 2 ^ 37) :
  Calls Tryz.prog 122 #[.pointer (some ⟨p, z, none⟩), .slice ja K.jobs.length jc, .pointer (some ⟨cb, co, none⟩), .int .i64 num, .int .i64 draw] w
   (Picked base p nb z A B t.step (yTurns code yRounds (yFollow sv pv num draw t)) L w (Ds.set c pv) ⟨kind, c, sv, pv⟩) := by
 obtain ⟨Z, hZ⟩ : ∃ Z : Obj, Z = .cells #[.int .i64 0, .int .i64 0, .int .i64 0, .int .i64 0] 158 := ⟨_, rfl⟩
 have hB1 : Below w.heap.size w (w.alloc Z) := (Below.refl _ _).alloc (Nat.le_refl _) _
 have R1 := R.below hB1
 have hlt := R.tt.lt
 have HRb : Hid (Blk (w.alloc Z) w.heap.size 158 #[.int .i64 0, .int .i64 0, .int .i64 0, .int .i64 0]) := by rw [hZ]; exact Blk.new w 158 _
 have HN1 : Hid (Blk (w.alloc Z) nb 3 (Ds.map (Value.int .i64 ·)).toArray) := hN.below hB1 hN.lt
 have hcbl : cb < w.heap.size := block_lt hcc
 have hcc1 : (w.alloc Z).cell? ⟨cb, co, none⟩ = some (.slice (some ⟨nb, 0, none⟩) Ds.length cap) := (World.cell?_of_block (hB1.block cb hcbl)).trans hcc
 obtain ⟨js, hj1, hj2, hj3⟩ := hjr.up (hB1.mono hbs)
 obtain ⟨jb, joff, hja, hjb, hjc0, hjc1⟩ := hj2 j (by omega)
 have hcd := (hj3 j (by omega)).2.2
 have hcdl := (hj3 j (by omega)).2.1
 rw [hcode] at hcd hcdl
 rw [hcdl] at hjc1
 obtain ⟨mg, hmg, hmc⟩ := nums_at R1.mi t.cur hcur
 rw [hj] at hmc
 have k8 := R1.tt.cMine
 rw [hmg] at k8
 have k9 := R1.tt.cCur
 have k12 := R1.tt.cRest
 rw [hr] at k12
 have k13 := R1.tt.cStep
 have q13 := R.tt.cStep
 have q12 := R.tt.cRest
 rw [hr] at q12
 have hltw : p < w.heap.size := hlt
 have hnew : p ≠ w.heap.size := by omega
 have hsb : (t.step == 0) = false := by rw [beq_eq_false_iff_ne]; exact hs
 have i0 : (0 : Int) ≤ (t.cur : Int) := by omega
 have i1 : (t.cur : Int) < (t.mine.length : Int) := by omega
 have i2 : (0 : Int) ≤ (j : Int) := by omega
 have i3 : (j : Int) < (K.jobs.length : Int) := by omega
 have HR1 : Hid (TR base p z A B (w.alloc Z) t L) := R1
 have HCd : Hid (CodeIn (w.alloc Z) base (jobAt js j).a code) := hcd
 have HB1 : Hid (Below w.heap.size w (w.alloc Z)) := hB1
 have HF : Hid (FAll t sv pv draw) := F
 have HRun : Hid ((yFollow sv pv num draw t).step = 1 → ∃ h1, RunI K code k (yFollow sv pv num draw t) h1) := hrun
 have HSd : Hid (Side K k (yFollow sv pv num draw t)) := hside
 have HCl : Hid (code.length ≤ 20) := hcl
 have HCfg : Hid (cfgB K.c = true) := hcf
 have HNl : Hid ((yFollow sv pv num draw t).notes.length + 50 ≤ 2 ^ 37) := hnl
 have HCur : Hid (t.cur < t.mine.length) := hcur
 have HNaL : Hid (∀ q, oB L.na = some q → q < w.heap.size ∧ q ≠ p ∧ q ≠ nb) := fun q hq => ⟨(R.own q (Or.inr (Or.inr (Or.inr (Or.inr (Or.inl hq)))))).2.1, (R.own q (Or.inr (Or.inr (Or.inr (Or.inr (Or.inl hq)))))).2.2, fun e => hno (e ▸ Or.inr (Or.inr (Or.inr (Or.inr (Or.inl hq)))))⟩
 have HOw : Hid (∀ q, Own L q → base ≤ q ∧ q < w.heap.size ∧ q ≠ p) := R.own
 have HPb : Hid (base ≤ p ∧ base ≤ w.heap.size ∧ p < w.heap.size ∧ nb < w.heap.size ∧ p ≠ nb ∧ ¬ Own L nb ∧ cb ≠ nb ∧ cb < w.heap.size) := ⟨hpb, hbs, hlt, hN.lt, hpn, hno, hcn, hcbl⟩
 have HNbb : Hid (base ≤ nb) := hnbb
 have HKd : Hid (1 ≤ kind ∧ kind ≤ 4) := hkd
 have HOr : Hid (t.order = ⟨kind, c, frm, into⟩ ∧ (1 ≤ kind ∧ kind ≤ 4) ∧ c < Ds.length ∧ Ds.getD c 0 = sv ∧ putV ⟨kind, c, frm, into⟩ sv = pv ∧ -1 ≤ sv ∧ sv ≤ 1125899906842624) := ⟨hord, hkd, hcD, hsv, hpv, hv1, hv2⟩
 subst hja
 clear R R1 hs hr hbs hpb hpn hno hN hcc hcn hcur hj hjl hjr hcode hcl hord hkd hcD hsv hpv hv1 hv2 F hrun hside hnl hcf hj1 hj2 hj3 hcd hcdl hB1 hlt hcbl hmg
 subst hZ
 go_enter Tryz.func122, Tryz.ntmps122
 go_wp2_with fail
 obtain ⟨rb, hrb⟩ : ∃ rb, rb = w.heap.size := ⟨_, rfl⟩
 have HRbe : Hid (rb = w.heap.size) := hrb
 rw [← hrb] at HRb ⊢
 generalize w.alloc (.cells #[.int .i64 0, .int .i64 0, .int .i64 0, .int .i64 0] 158) = w1 at *
 clear q13 q12 hltw hnew hrb k12 k13 hsb
 go_quiet (fail)
 obtain ⟨hord, hkd, hcD, hsv, hpv, hv1, hv2⟩ := HOr.out
 have HR2 : Hid (TR base p z A B (w1.drewN nq) t L) := (HR1.out).drewN nq
 have HRb2 : Hid (Blk (w1.drewN nq) rb 158 #[.int .i64 0, .int .i64 0, .int .i64 0, .int .i64 0]) := HRb.out
 have HN2 : Hid (Blk (w1.drewN nq) nb 3 (Ds.map (Value.int .i64 ·)).toArray) := HN1.out
 have HB2 : Hid (Below w.heap.size w (w1.drewN nq)) := (HB1.out).trans ⟨rfl, rfl, rfl, Nat.le_refl _, fun _ _ => rfl⟩
 have HCd2 : Hid (CodeIn (w1.drewN nq) base (jobAt js j).a code) := HCd.out
 have hcc2 : (w1.drewN nq).cell? ⟨cb, co, none⟩ = some (.slice (some ⟨nb, 0, none⟩) Ds.length cap) := hcc1
 clear HR1 HRb HN1 HB1 HCd hcc1 k8 k9 hmc hjc0 hjc1 i0 i1 i2 i3 HOr
 generalize w1.drewN nq = w2 at *
 have m14 := (HR2.out).tt.cKind
 have m15 := (HR2.out).tt.cCell
 have m16 := (HR2.out).tt.cFrm
 have m17 := (HR2.out).tt.cTo
 rw [hord] at m14 m15 m16 m17
 have HMk : Hid (Calls Tryz.prog 135 #[.pointer (some ⟨cb, co, none⟩), .agg #[.int .i64 kind, .int .i64 (c : Int), .int .i64 frm, .int .i64 into]] w2 fun e w' => e = .returned (.agg #[.int .i64 kind, .int .i64 (c : Int), .int .i64 sv, .int .i64 pv]) ∧ Blk w' nb 3 ((Ds.set c pv).map (Value.int .i64 ·)).toArray ∧ Only nb w2 w') := by
  obtain ⟨_, _, _, _, _, _, hcn, hcbl⟩ := HPb.out
  refine (make_any cb co nb cap c Ds kind frm into w2 hcc2 (Nat.lt_of_lt_of_le hcbl (HB2.out).size) hcn HN2.out hcD (by rw [hsv]; exact hv1) (by rw [hsv]; exact hv2) hkd).mono ?_
  rintro e w' ⟨h1, h2, h3⟩
  rw [hsv] at h1 h2
  rw [hpv] at h1 h2
  exact ⟨h1, h2, h3⟩
 clear hord hkd hcD hsv hpv hv1 hv2 hcc2
 go_wp2_with fail
 refine (HMk.out).mono ?_
 rintro e w3 ⟨rfl, hN3, hO3⟩
 obtain ⟨hpb, hbs, hlt, hnl, hpn, hno, hcn, hcbl⟩ := HPb.out
 have hrbe := HRbe.out
 have hown := HOw.out
 have hrbL : ¬ Own L rb := fun q => by have := hown rb q; omega
 have hrbp : rb ≠ p := by omega
 have hrbn : rb ≠ nb := by omega
 have HR3 : Hid (TR base p z A B w3 t L) := (HR2.out).apart hO3 hpn hno
 have HRb3 : Hid (Blk w3 rb 158 #[.int .i64 0, .int .i64 0, .int .i64 0, .int .i64 0]) := (HRb2.out).only hO3 hrbn
 have HN3 : Hid (Blk w3 nb 3 ((Ds.set c pv).map (Value.int .i64 ·)).toArray) := hN3
 have HG3 : Hid (GoesN p nb L w L w3) := (GoesN.below HB2.out).trans (GoesN.only hO3)
 have HNb3 : Hid (∀ q, oB L.na = some q → w3.heap[q]? = w.heap[q]?) := fun q hq => by
  obtain ⟨g1, g2, g3⟩ := HNaL.out q hq
  exact (hO3.block q (Nat.lt_of_lt_of_le g1 (HB2.out).size) g3).trans ((HB2.out).block q g1)
 have HCd3 : Hid (CodeIn w3 base (jobAt js j).a code) := by
  obtain ⟨_, hbs2⟩ := And.intro hbs (HB2.out).size
  intro i hi
  obtain ⟨b, off, h1, h2, h3, h4, h5, h6⟩ := HCd2.out i hi
  have hne : b ≠ nb := by have := HNbb.out; omega
  have hbl : b < w2.heap.size := by omega
  exact ⟨b, off, h1, h2, (World.cell?_of_block (hO3.block b hbl hne)).trans h3, (World.cell?_of_block (hO3.block b hbl hne)).trans h4, (World.cell?_of_block (hO3.block b hbl hne)).trans h5, (World.cell?_of_block (hO3.block b hbl hne)).trans h6⟩
 have hrb3 : rb < w3.heap.size := (HRb3.out).lt
 clear HR2 HRb2 HN2 HB2 HCd2 HMk hN3 hO3 m14 m15 m16 m17
 go_wp2_with fail
 have hB4 : Below w3.heap.size w3 (w3.alloc (.cells #[.int .i64 kind, .int .i64 (c : Int), .int .i64 sv, .int .i64 pv] 158)) := (Below.refl _ _).alloc (Nat.le_refl _) _
 have HX4 : Hid (Blk (w3.alloc (.cells #[.int .i64 kind, .int .i64 (c : Int), .int .i64 sv, .int .i64 pv] 158)) w3.heap.size 158 #[.int .i64 kind, .int .i64 (c : Int), .int .i64 sv, .int .i64 pv]) := Blk.new w3 158 _
 have HR4 : Hid (TR base p z A B (w3.alloc (.cells #[.int .i64 kind, .int .i64 (c : Int), .int .i64 sv, .int .i64 pv] 158)) t L) := (HR3.out).below hB4
 have HRb4 : Hid (Blk (w3.alloc (.cells #[.int .i64 kind, .int .i64 (c : Int), .int .i64 sv, .int .i64 pv] 158)) rb 158 #[.int .i64 0, .int .i64 0, .int .i64 0, .int .i64 0]) := (HRb3.out).below hB4 (HRb3.out).lt
 have HN4 : Hid (Blk (w3.alloc (.cells #[.int .i64 kind, .int .i64 (c : Int), .int .i64 sv, .int .i64 pv] 158)) nb 3 ((Ds.set c pv).map (Value.int .i64 ·)).toArray) := (HN3.out).below hB4 (HN3.out).lt
 have HG4 : Hid (GoesN p nb L w L (w3.alloc (.cells #[.int .i64 kind, .int .i64 (c : Int), .int .i64 sv, .int .i64 pv] 158))) := (HG3.out).trans (GoesN.below hB4)
 have HCd4 : Hid (CodeIn (w3.alloc (.cells #[.int .i64 kind, .int .i64 (c : Int), .int .i64 sv, .int .i64 pv] 158)) base (jobAt js j).a code) := CodeIn.up HCd3.out (hB4.mono (by have := (HG3.out).size; omega))
 have HNb4 : Hid (∀ q, oB L.na = some q → (w3.alloc (.cells #[.int .i64 kind, .int .i64 (c : Int), .int .i64 sv, .int .i64 pv] 158)).heap[q]? = w.heap[q]? ∧ q < (w3.alloc (.cells #[.int .i64 kind, .int .i64 (c : Int), .int .i64 sv, .int .i64 pv] 158)).heap.size) := fun q hq => by
  obtain ⟨g1, g2, g3⟩ := HNaL.out q hq
  have g4 : q < w3.heap.size := Nat.lt_of_lt_of_le g1 (HG3.out).size
  exact ⟨(hB4.block q g4).trans (HNb3.out q hq), Nat.lt_of_lt_of_le g4 hB4.size⟩
 have hbs4 : base ≤ (w3.alloc (.cells #[.int .i64 kind, .int .i64 (c : Int), .int .i64 sv, .int .i64 pv] 158)).heap.size := by have := (HG4.out).size; omega
 obtain ⟨xb, hxb⟩ : ∃ xb, xb = w3.heap.size := ⟨_, rfl⟩
 rw [← hxb] at HX4 ⊢
 have hxbp : xb ≠ p := by have := (HG3.out).size; omega
 have hxbr : xb ≠ rb := by omega
 have hxbL : ¬ Own L xb := fun q => by have := hown xb q; have := (HG3.out).size; omega
 clear HR3 HRb3 HN3 HG3 HCd3 hrb3 hB4 hxb
 generalize w3.alloc (.cells #[.int .i64 kind, .int .i64 (c : Int), .int .i64 sv, .int .i64 pv] 158) = w4 at *
 refine (t_followX base p z A B t L _ HR4.out hbs4 kind c sv pv num draw HF.out HCur.out).mono ?_
 rintro e w5 ⟨rfl, L1, R5, G5, N5⟩
 have HN5 : Hid (t.step = 2 → ∀ k, oB L.na = some k → ¬ Own L1 k ∧ w5.heap[k]? = w.heap[k]? ∧ k < w5.heap.size ∧ k ≠ p) := fun q k hk => ⟨(N5 q k hk).1, (N5 q k hk).2.trans (HNb4.out k hk).1, Nat.lt_of_lt_of_le (HNb4.out k hk).2 G5.size, (HNaL.out k hk).2.1⟩
 obtain ⟨RR, HRR⟩ : ∃ RR, Hid (yTurns code yRounds (yFollow sv pv num draw t) = RR) := ⟨_, rfl⟩
 have HD : Hid (∀ e w', Picked base p nb z A B t.step RR L w (Ds.set c pv) ⟨kind, c, sv, pv⟩ e w' → Picked base p nb z A B t.step (yTurns code yRounds (yFollow sv pv num draw t)) L w (Ds.set c pv) ⟨kind, c, sv, pv⟩ e w') := fun e w' h => by rw [HRR.out]; exact h
 have HR5 : Hid (TR base p z A B w5 (yFollow sv pv num draw t) L1) := R5
 have HG5 : Hid (Goes p L w4 L1 w5) := G5
 have HNos : Hid (¬ Own L rb ∧ rb ≠ p ∧ rb ≠ nb ∧ xb ≠ p ∧ xb ≠ rb ∧ ¬ Own L xb ∧ base ≤ w4.heap.size ∧ rb = w.heap.size) := ⟨hrbL, hrbp, hrbn, hxbp, hxbr, hxbL, hbs4, hrbe⟩
 have hff : K.c.f ≤ 40 := (cfgB_true HCfg.out).2.2.2.2.2.2.2
 clear R5 G5 N5 HNb3 HNb4 hrbL hrbp hrbn hxbp hxbr hxbL hbs4 hpb hbs hlt hnl hpn hno hcn hcbl hrbe hown HR4 HF
 generalize yFollow sv pv num draw t = t1 at *
 go_wp2_with fail
 go_loopg [61] (yRounds + 1) (fun m t61 wr => ∃ (n : Nat) (tk : PT) (Lk : Ls), m = n + 1 ∧ Hid (yTurns code n tk = RR) ∧ Hid (TR base p z A B wr tk Lk) ∧ Hid (Goes p L w4 Lk wr) ∧ Hid (Goes p L1 w5 Lk wr) ∧ Hid (tk.notes.length + n ≤ 2 ^ 37) ∧ Hid (Side K k tk) ∧ Hid (tk.step = 1 → ∃ h1, RunI K code k tk h1 ∧ K.c.f < h1.x.begun + n))
 case atStart =>
  refine ⟨yRounds, t1, L1, rfl, HRR, HR5, HG5, Goes.refl _ _ _, by unfold yRounds; exact HNl.out, HSd, fun hs1 => ?_⟩
  obtain ⟨h1, r1⟩ := HRun.out hs1
  exact ⟨h1, r1, by unfold yRounds; omega⟩
 case round =>
  obtain ⟨n, tk, Lk, hgm, HY, HRk, HGk, HGk5, HNk5, HSk, HRn⟩ := hrel
  have k13 := (HRk.out).tt.cStep
  clear HR5 HG5 HRun HSd HRR
  by_cases hs1 : tk.step = 1
  ·obtain ⟨h1, r1, hfn⟩ := HRn.out hs1
   obtain ⟨⟨hM, hBg, hPl⟩, u, hu, hu4, hua, hnext, e1, e2, e3, e4⟩ := w_turn HCfg.out r1 hs1
   have ok1 := tok_of HCfg.out r1.b r1.a HSk.out
   have hbg := r1.a.x.bg
   obtain ⟨n', rfl⟩ : ∃ n', n = n' + 1 := ⟨n - 1, by omega⟩
   have HY2 : Hid (yTurns code n' (yTurn code tk) = RR) := by
    have := HY.out
    unfold yTurns at this
    rw [if_pos hs1] at this
    exact this
   have HS2 : Hid (Side K k (yTurn code tk)) := ⟨(HSk.out).kb, (HSk.out).me, by rw [e1]; exact (HSk.out).fails, by rw [e2]; exact (HSk.out).mine, by rw [e2, e3]; exact (HSk.out).cur, by have := HNk5.out; omega⟩
   have HNk6 : Hid ((yTurn code tk).notes.length + n' ≤ 2 ^ 37) := by have := HNk5.out; show _ ≤ _; omega
   have HRn2 : Hid ((yTurn code tk).step = 1 → ∃ h', RunI K code k (yTurn code tk) h' ∧ K.c.f < h'.x.begun + n') := fun q => by
    rcases hnext with q' | ⟨h', r', hb'⟩
    ·exact absurd q q'
    ·exact ⟨h', r', by push_cast at hfn; omega⟩
   have HLow : Hid (Below base w4 wr) := by
    obtain ⟨_, _, _, _, _, _, hb4, _⟩ := HNos.out
    exact (HGk.out).toN (nb := nb) |>.low hb4 (HPb.out).1 HNbb.out (fun q hq => ((HOw.out) q hq).1)
   have HCk : Hid (CodeIn wr wr.heap.size (jobAt js j).a code) := by
    intro i hi
    obtain ⟨b, off, g1, g2, g3⟩ := (CodeIn.up HCd4.out HLow.out) i hi
    obtain ⟨_, _, _, _, _, _, hb4, _⟩ := HNos.out
    exact ⟨b, off, g1, by have := (HGk.out).size; omega, g3⟩
   have HFar : Hid (∀ b off, (jobAt js j).a = some ⟨b, off, none⟩ → code ≠ [] → b ≠ p) := by
    intro b off hb hne
    have hl : 0 < code.length := List.length_pos_iff.2 hne
    obtain ⟨b', off', g1, g2, _⟩ := HCd4.out 0 hl
    rw [hb] at g1
    simp at g1
    have := (HPb.out).1
    omega
   have HTn : Hid (Calls Tryz.prog 137 #[.pointer (some ⟨p, z, none⟩), .slice (jobAt js j).a code.length (jobAt js j).cap] wr (Dids base p z A B (yTurn code tk) Lk wr)) := by
    obtain ⟨_, _, _, _, _, _, hb4, _⟩ := HNos.out
    exact t_turn base p z A B tk Lk wr HRk.out ok1 (Nat.le_trans hb4 (HGk.out).size) code _ _ HCk.out HFar.out HCl.out hM hBg u hu hu4 hua
   rw [hs1] at k13
   clear HY HSk HRn hs1 h1 r1 hfn hM hBg hPl hu hu4 hua hnext e1 e2 e3 e4 ok1 hbg HLow HCk HFar HRk
   go_wp2_with fail
   refine (HTn.out).mono ?_
   rintro e w6 ⟨rfl, L2, R6, G6⟩
   go_wp2_with fail
   go_roundg (gk - 1)
   case rel => exact ⟨n', yTurn code tk, L2, by omega, HY2, R6, (HGk.out).trans G6, (HGk5.out).trans G6, HNk6, HS2, HRn2⟩
   case measure => omega
  ·have HF : Hid (RR = tk) := by
    show RR = tk
    rw [← HY.out]
    exact turns_stop _ _ _ hs1
   have hsb : (tk.step == 1) = false := by rw [beq_eq_false_iff_ne]; exact hs1
   have hrbe := HRbe.out
   subst hrbe
   have hrbL := (HNos.out).1
   have hrbp := (HNos.out).2.1
   have hrbn := (HNos.out).2.2.1
   have hxbp := (HNos.out).2.2.2.1
   have hxbr := (HNos.out).2.2.2.2.1
   have hxbL := (HNos.out).2.2.2.2.2.1
   have HXk : Hid (Blk wr xb 158 #[.int .i64 kind, .int .i64 (c : Int), .int .i64 sv, .int .i64 pv]) := (HX4.out).goes HGk.out hxbp hxbL
   have HRbk : Hid (Blk wr w.heap.size 158 #[.int .i64 0, .int .i64 0, .int .i64 0, .int .i64 0]) := (HRb4.out).goes HGk.out hrbp hrbL
   have HNk : Hid (Blk wr nb 3 ((Ds.set c pv).map (Value.int .i64 ·)).toArray) := (HN4.out).goes HGk.out (Ne.symm (HPb.out).2.2.2.2.1) (HPb.out).2.2.2.2.2.1
   have HRl : Hid (w.heap.size < w4.heap.size) := (HRb4.out).lt
   have hxc := (HXk.out).cell
   have hrc := (HRbk.out).cell
   have hrf := (HRbk.out).frozen
   clear HY HSk HRn hs1 HX4 HRb4 HN4 hrbL hxbL hxbp
   go_wp2
   obtain ⟨r0, r1, r2, r3, hob⟩ := box4 (a' := .int .i64 kind) (b' := .int .i64 (c : Int)) (c' := .int .i64 sv) (d' := .int .i64 pv) HRbk.out rfl
   (try simp only [Exit.inBlock, Exit.then])
   refine bodyPost_ret (v := .agg #[.int .i64 kind, .int .i64 (c : Int), .int .i64 sv, .int .i64 pv]) ?_ rfl (HD.out _ _ ⟨rfl, ⟨Lk, ?_, ?_, ?_, ?_⟩, ?_⟩)
   ·simp [results, Tryz.results122, go_sem, r0, r1, r2, r3]
   ·rw [HF.out]
    refine (HRk.out).apart hob (Ne.symm hrbp) (fun q => ?_)
    rcases (HGk.out).own w.heap.size q with q | q
    ·exact (HNos.out).1 q
    ·exact absurd q (by have := HRl.out; omega)
   ·exact GoesN.fresh ((HG4.out).trans (HGk.out).toN) hob (Nat.le_refl _)
   ·intro q
    exact absurd q (by have := HKd.out; show ¬ kind = 0; omega)
   ·intro _ q k' hk'
    obtain ⟨g1, g2, g3, g4⟩ := HN5.out q k' hk'
    have g5 : k' < w.heap.size := (HNaL.out k' hk').1
    refine ⟨fun o => ?_, ?_⟩
    ·rcases (HGk5.out).own k' o with o | o
     ·exact g1 o
     ·omega
    ·rw [hob.block k' (Nat.lt_of_lt_of_le g3 (HGk5.out).size) (by omega), (HGk5.out).block k' g3 g4 g1, g2]
   ·exact (HNk.out).only hob (Ne.symm hrbn)
end
structure RowsOk (base : Nat) (w : World) (t : PT) (L : Ls) : Prop where
 rd : w.ownsRow base 222 2 (.slice L.ra t.reads.length L.rc) t.reads.length (t.reads.flatMap entCells)
 wr : w.ownsRow base 230 2 (.slice L.wa t.writes.length L.wc) t.writes.length (t.writes.flatMap entCells)
 hd : w.ownsRow base 3 1 (.slice L.ha t.held.length L.hc) t.held.length (intCells t.held)
 mi : w.ownsRow base 3 1 (.slice L.ma t.mine.length L.mc) t.mine.length (intCells t.mine)
 ne : ∀ k, (Value.slice L.ha t.held.length L.hc).ownBlock = some k → (Value.slice L.ma t.mine.length L.mc).ownBlock ≠ some k
 nt : w.ownsRow base 93 3 (.slice L.na t.notes.length L.nc) t.notes.length (t.notes.flatMap noteCells)
 sr : w.ownsRow base 47 5 (.slice L.sa t.res.length L.sc) t.res.length (t.res.flatMap resCells)
theorem TR.rows {base p z : Nat} {A B : List Value} {w : World} {t : PT} {L : Ls} (R : TR base p z A B w t L) : RowsOk base w t L := ⟨R.rd, R.wr, R.hd, R.mi, R.ne, R.nt, R.sr⟩
theorem RowsOk.tr {base p z : Nat} {A B : List Value} {w : World} {t : PT} {L : Ls} (R : RowsOk base w t L) (h : TAt w p z A B t L) : TR base p z A B w t L := ⟨h, R.rd, R.wr, R.hd, R.mi, R.ne, R.nt, R.sr⟩
theorem RowsOk.own {base : Nat} {w : World} {t : PT} {L : Ls} (R : RowsOk base w t L) (k : Nat) (h : Own L k) : base ≤ k ∧ k < w.heap.size := by
 unfold Own at h
 rcases h with q | q | q | q | q | q
 ·rw [← oB_eq L.ra t.reads.length L.rc] at q; exact R.rd.lt k q
 ·rw [← oB_eq L.wa t.writes.length L.wc] at q; exact R.wr.lt k q
 ·rw [← oB_eq L.ha t.held.length L.hc] at q; exact R.hd.lt k q
 ·rw [← oB_eq L.ma t.mine.length L.mc] at q; exact R.mi.lt k q
 ·rw [← oB_eq L.na t.notes.length L.nc] at q; exact R.nt.lt k q
 ·rw [← oB_eq L.sa t.res.length L.sc] at q; exact R.sr.lt k q
theorem ownsRow_same {w w' : World} {base : Nat} {e : TypeId} {size n : Nat} {v : Value} {xs : List Value} (h : w.ownsRow base e size v n xs) (hk : ∀ k, v.ownBlock = some k → w'.heap[k]? = w.heap[k]?) : w'.ownsRow base e size v n xs := by
 refine ⟨h.1, ?_⟩
 rcases h.2 with hn | ⟨g, cap, cur, rfl, hb, hg, rest⟩
 ·exact .inl hn
 ·exact .inr ⟨g, cap, cur, rfl, hb, (hk g (by simp [Value.ownBlock])).trans hg, rest⟩
theorem RowsOk.kept {base : Nat} {w w' : World} {t : PT} {L : Ls} (R : RowsOk base w t L) (h : ∀ k, Own L k → w'.heap[k]? = w.heap[k]?) : RowsOk base w' t L :=
 ⟨ownsRow_same R.rd (fun k q => h k (Or.inl (by rw [← q, oB_eq]))), ownsRow_same R.wr (fun k q => h k (Or.inr (Or.inl (by rw [← q, oB_eq])))), ownsRow_same R.hd (fun k q => h k (Or.inr (Or.inr (Or.inl (by rw [← q, oB_eq]))))), ownsRow_same R.mi (fun k q => h k (Or.inr (Or.inr (Or.inr (Or.inl (by rw [← q, oB_eq])))))), R.ne, ownsRow_same R.nt (fun k q => h k (Or.inr (Or.inr (Or.inr (Or.inr (Or.inl (by rw [← q, oB_eq]))))))), ownsRow_same R.sr (fun k q => h k (Or.inr (Or.inr (Or.inr (Or.inr (Or.inr (by rw [← q, oB_eq])))))))⟩
theorem below_onto {n rb : Nat} {w w' w'' : World} (h : Below n w w') (o : Only rb w' w'') (hr : n ≤ rb) (hn : n ≤ w'.heap.size) : Below n w w'' :=
 ⟨o.os.trans h.os, o.tape.trans h.tape, o.output.trans h.output, Nat.le_trans h.size o.size, fun k hk => (o.block k (by omega) (by omega)).trans (h.block k hk)⟩
def rowsOf (q : List (PT × Ls)) : List (List Value) := q.map fun a => tArr a.1 a.2
theorem rowsOf_len (q : List (PT × Ls)) : ∀ L ∈ rowsOf q, L.length = 47 := by
 intro L hL
 obtain ⟨a, _, rfl⟩ := List.mem_map.1 hL
 rfl
theorem rowsOf_set (q : List (PT × Ls)) (i : Nat) (a : PT × Ls) : rowsOf (q.set i a) = (rowsOf q).set i (tArr a.1 a.2) := by
 unfold rowsOf
 rw [List.map_set]
structure WR (base p nb cb cap tcap : Nat) (pn : Int) (X : List Value) (w : World) (q : List (PT × Ls)) (Ds : List Int) : Prop where
 thr : Blk w p 138 ((rowsOf q).flatten ++ X).toArray
 rows : ∀ i (h : i < q.length), RowsOk base w q[i].1 q[i].2
 dis : ∀ i j (hi : i < q.length) (hj : j < q.length), i ≠ j → ∀ k, Own q[i].2 k → ¬ Own q[j].2 k
 num : Blk w nb 3 (Ds.map (Value.int .i64 ·)).toArray
 nown : ∀ i (h : i < q.length), ¬ Own q[i].2 nb
 wst : Blk w cb 125 #[.slice (some ⟨nb, 0, none⟩) Ds.length cap, .slice (some ⟨p, 0, none⟩) q.length tcap, .int .i64 pn]
 pb : base ≤ p
 nbb : base ≤ nb
 cbb : base ≤ cb
 bs : base ≤ w.heap.size
theorem Own_tag {base : Nat} {w : World} {t : PT} {L : Ls} (R : RowsOk base w t L) {b : Nat} {T : TypeId} {cs : Array Value} (h : Blk w b T cs) (h1 : (222 : Nat) ≠ T) (h2 : (230 : Nat) ≠ T) (h3 : (3 : Nat) ≠ T) (h4 : (93 : Nat) ≠ T) (h5 : (47 : Nat) ≠ T) : ¬ Own L b := by
 intro o
 unfold Own at o
 rcases o with q | q | q | q | q | q
 ·rw [← oB_eq L.ra t.reads.length L.rc] at q; exact own_tag R.rd h h1 b q rfl
 ·rw [← oB_eq L.wa t.writes.length L.wc] at q; exact own_tag R.wr h h2 b q rfl
 ·rw [← oB_eq L.ha t.held.length L.hc] at q; exact own_tag R.hd h h3 b q rfl
 ·rw [← oB_eq L.ma t.mine.length L.mc] at q; exact own_tag R.mi h h3 b q rfl
 ·rw [← oB_eq L.na t.notes.length L.nc] at q; exact own_tag R.nt h h4 b q rfl
 ·rw [← oB_eq L.sa t.res.length L.sc] at q; exact own_tag R.sr h h5 b q rfl
theorem WR.tr {base p nb cb cap tcap : Nat} {pn : Int} {X : List Value} {w : World} {q : List (PT × Ls)} {Ds : List Int} (W : WR base p nb cb cap tcap pn X w q Ds) (i : Nat) (hi : i < q.length) :
  TR base p (i * 47) ((rowsOf q).take i).flatten (((rowsOf q).drop (i + 1)).flatten ++ X) w q[i].1 q[i].2 := by
 have hl : i < (rowsOf q).length := by unfold rowsOf; simpa using hi
 have e : (rowsOf q)[i] = tArr q[i].1 q[i].2 := List.getElem_map (fun a : PT × Ls => tArr a.1 a.2)
 refine (W.rows i hi).tr ⟨?_, W.thr.congr ?_⟩
 ·rw [rows_len (n := 47) (fun L hL => rowsOf_len q L (List.mem_of_mem_take hL)), List.length_take, Nat.min_eq_left (by omega)]
 ·rw [rows_split hl, e]
  simp
theorem rows_set {R : List (List Value)} {L : List Value} {i : Nat} (hi : i < R.length) : (R.set i L).flatten = (R.take i).flatten ++ (L ++ (R.drop (i + 1)).flatten) := by
 have hi2 : i < (R.set i L).length := by simpa using hi
 have e1 : (R.set i L).take i = R.take i := by
  apply List.ext_getElem?
  intro j
  by_cases hj : j < i
  ·rw [List.getElem?_take_of_lt hj, List.getElem?_take_of_lt hj, List.getElem?_set_ne (by omega)]
  ·rw [List.getElem?_eq_none (by simp; omega), List.getElem?_eq_none (by simp; omega)]
 have e2 : (R.set i L).drop (i + 1) = R.drop (i + 1) := by
  apply List.ext_getElem?
  intro j
  rw [List.getElem?_drop, List.getElem?_drop, List.getElem?_set_ne (by omega)]
 rw [rows_split hi2, e1, e2]
 simp
theorem WR.below {base p nb cb cap tcap : Nat} {pn : Int} {X : List Value} {w w' : World} {q : List (PT × Ls)} {Ds : List Int} (W : WR base p nb cb cap tcap pn X w q Ds) (h : Below w.heap.size w w') : WR base p nb cb cap tcap pn X w' q Ds :=
 ⟨W.thr.below h W.thr.lt, fun i hi => (W.rows i hi).kept (fun k o => h.block k ((W.rows i hi).own k o).2), W.dis, W.num.below h W.num.lt, W.nown, W.wst.below h W.wst.lt, W.pb, W.nbb, W.cbb, Nat.le_trans W.bs h.size⟩
theorem WR.picked {base p nb cb cap tcap : Nat} {pn : Int} {X : List Value} {w w' : World} {q : List (PT × Ls)} {Ds Ds' : List Int} (W : WR base p nb cb cap tcap pn X w q Ds) (i : Nat) (hi : i < q.length) {t' : PT} {L' : Ls}
  (R : TR base p (i * 47) ((rowsOf q).take i).flatten (((rowsOf q).drop (i + 1)).flatten ++ X) w' t' L') (G : GoesN p nb q[i].2 w L' w') (hN : Blk w' nb 3 (Ds'.map (Value.int .i64 ·)).toArray) (hl : Ds'.length = Ds.length) :
  WR base p nb cb cap tcap pn X w' (q.set i (t', L')) Ds' := by
 have hil : i < (rowsOf q).length := by unfold rowsOf; simpa using hi
 have hpn : p ≠ nb := Blk.ne W.thr W.num (by decide)
 have hcp : cb ≠ p := Blk.ne W.wst W.thr (by decide)
 have hcn : cb ≠ nb := Blk.ne W.wst W.num (by decide)
 have hco : ¬ Own q[i].2 cb := Own_tag (W.rows i hi) W.wst (by decide) (by decide) (by decide) (by decide) (by decide)
 have hown : ∀ k, Own L' k → Own q[i].2 k ∨ w.heap.size ≤ k := G.own
 refine ⟨?_, ?_, ?_, hN, ?_, ?_, W.pb, W.nbb, W.cbb, Nat.le_trans W.bs G.size⟩
 ·rw [rowsOf_set, rows_set hil]
  exact R.tt.2.congr (by simp)
 ·intro j hj
  by_cases e : i = j
  ·subst e
   simpa using R.rows
  ·have hj' : j < q.length := by simpa using hj
   rw [List.getElem_set_ne e]
   refine (W.rows j hj').kept (fun k o => ?_)
   have := (W.rows j hj').own k o
   refine G.block k this.2 ?_ ?_ ?_
   ·intro e2; subst e2; exact Own_tag (W.rows j hj') W.thr (by decide) (by decide) (by decide) (by decide) (by decide) o
   ·intro e2; subst e2; exact W.nown j hj' o
   ·intro o2; exact W.dis i j hi hj' e k o2 o
 ·intro a b ha hb hab k oa ob
  have ha' : a < q.length := by simpa using ha
  have hb' : b < q.length := by simpa using hb
  by_cases ea : i = a
  ·subst ea
   rw [List.getElem_set_self] at oa
   rw [List.getElem_set_ne hab] at ob
   rcases hown k oa with o | o
   ·exact W.dis i b hi hb' hab k o ob
   ·have := (W.rows b hb').own k ob; omega
  ·rw [List.getElem_set_ne ea] at oa
   by_cases eb : i = b
   ·subst eb
    rw [List.getElem_set_self] at ob
    rcases hown k ob with o | o
    ·exact W.dis a i ha' hi hab k oa o
    ·have := (W.rows a ha').own k oa; omega
   ·rw [List.getElem_set_ne eb] at ob
    exact W.dis a b ha' hb' hab k oa ob
 ·intro j hj o
  have hj' : j < q.length := by simpa using hj
  by_cases e : i = j
  ·subst e
   rw [List.getElem_set_self] at o
   rcases hown nb o with o | o
   ·exact W.nown i hi o
   ·have := W.num.lt; omega
  ·rw [List.getElem_set_ne e] at o
   exact W.nown j hj' o
 ·have := (G.block cb W.wst.lt hcp hcn hco).trans W.wst
  rw [List.length_set, hl]
  exact this
end Go.Proofs.YtejadojilncbjabGreat
namespace Go.Proofs.YtejadojilncbjabGreat
set_option linter.unusedVariables false
def KeptY (t t' : PT) : Prop := t'.mine = t.mine ∧ t'.cur = t.cur ∧ t'.rest = t.rest ∧ (t'.fails = t.fails ∨ t'.fails = t.fails + 1) ∧ t'.notes.length ≤ t.notes.length + 1
theorem KeptY.same {t t' : PT} (h1 : t'.mine = t.mine) (h2 : t'.cur = t.cur) (h3 : t'.rest = t.rest) (h4 : t'.fails = t.fails) (h5 : t'.notes = t.notes := by rfl) : KeptY t t' := ⟨h1, h2, h3, Or.inl h4, by rw [h5]; omega⟩
theorem KeptY.one {t t' : PT} (h1 : t'.mine = t.mine) (h2 : t'.cur = t.cur) (h3 : t'.rest = t.rest) (h4 : t'.fails = t.fails) (h5 : t'.notes.length = t.notes.length + 1) : KeptY t t' := ⟨h1, h2, h3, Or.inl h4, by omega⟩
theorem kept_count (t : PT) : KeptY t (yCount t) := by
 unfold yCount yShow
 split <;> exact ⟨rfl, rfl, rfl, Or.inr rfl, Nat.le_succ _⟩
theorem kept_undo (t : PT) : KeptY t (yUndo t) := by
 unfold yUndo
 split
 ·exact .same rfl rfl rfl rfl
 ·exact kept_count t
theorem kept_fail (t : PT) : KeptY t (yFail t) := kept_undo { t with at_ := 0 }
theorem kept_begin (t : PT) : KeptY t (yBegin t) := by
 unfold yBegin
 split <;> exact .same rfl rfl rfl rfl
theorem kept_letgo (t : PT) : KeptY t (yLetGo t) := by
 unfold yLetGo
 split <;> exact .same rfl rfl rfl rfl
theorem kept_ffail (q : Int) (t : PT) : KeptY t (yFollowFail q t) := by
 unfold yFollowFail
 split
 ·exact kept_fail t
 split
 ·exact kept_undo { t with at_ := t.at_ + 1 }
 split <;> exact .same rfl rfl rfl rfl
theorem kept_await (s : Int) (t : PT) : KeptY t (yAwait s t) := by
 unfold yAwait
 split
 ·exact kept_begin t
 ·exact .same rfl rfl rfl rfl
theorem kept_store (t : PT) : KeptY t (yFollowStore t) := by
 unfold yFollowStore yShut yPut yRelease
 repeat' split
 all_goals exact .same rfl rfl rfl rfl
theorem kept_check : ∀ (n : Nat) (t : PT), KeptY t (yCheckN n t)
 | 0, t => by unfold yCheckN yShut; split <;> exact .same rfl rfl rfl rfl
 | n + 1, t => by
  unfold yCheckN
  split
  ·split
   ·exact kept_check n { t with at_ := t.at_ + 1 }
   ·exact .same rfl rfl rfl rfl
  ·unfold yShut; split <;> exact .same rfl rfl rfl rfl
theorem kept_commit (s : Int) (t : PT) : KeptY t (yFollowCommit s t) := by
 unfold yFollowCommit
 split
 ·split
  ·exact kept_fail t
  ·exact .same rfl rfl rfl rfl
 split
 ·split <;> exact .same rfl rfl rfl rfl
 split
 ·exact kept_check _ { t with clock := s, at_ := 0 }
 split
 ·split
  ·exact .same rfl rfl rfl rfl
  ·exact kept_check _ { t with at_ := t.at_ + 1 }
 ·exact .same rfl rfl rfl rfl
theorem kept_ticket (s q : Int) (t : PT) : KeptY t (yFollowTicket s q t) := by
 unfold yFollowTicket
 split
 ·exact .same rfl rfl rfl rfl
 split
 ·split
  ·exact kept_fail t
  ·exact .same rfl rfl rfl rfl
 ·exact .same rfl rfl rfl rfl
theorem kept_wgot (t : PT) : KeptY t (yWriteGot t) := by
 unfold yWriteGot
 split <;> exact .one rfl rfl rfl rfl (by simp [yTake, yLog])
theorem kept_endext (t : PT) : KeptY t (yEndExt t) := by
 unfold yEndExt
 split
 ·exact .one rfl rfl rfl rfl (by simp [yGive])
 ·exact kept_wgot t
theorem kept_extnext (t : PT) : KeptY t (yExtNext t) := by
 unfold yExtNext
 split
 ·exact .same rfl rfl rfl rfl
 ·exact kept_endext { t with valid := t.clock }
theorem kept_ext (s : Int) (t : PT) : KeptY t (yFollowExt s t) := by
 unfold yFollowExt
 split
 ·exact kept_extnext { t with clock := s, at_ := 0 }
 split
 ·split
  ·exact kept_fail t
  ·exact kept_extnext { t with at_ := t.at_ + 1 }
 ·exact kept_extnext t
theorem kept_meet (u : Int) (t : PT) : KeptY t (yMeet u t) := by
 unfold yMeet
 split
 ·exact kept_fail t
 ·exact .same rfl rfl rfl rfl
theorem kept_weigh (u : Int) (t : PT) : KeptY t (yWeigh u t) := by
 unfold yWeigh
 split
 ·exact kept_fail { t with wayTo := t.rival }
 split <;> exact .same rfl rfl rfl rfl
theorem kept_get (s : Int) (t : PT) : KeptY t (yFollowGet s t) := by
 unfold yFollowGet
 split
 ·split
  ·exact kept_fail t
  ·exact .same rfl rfl rfl rfl
 split
 ·split
  ·exact kept_meet s t
  ·exact .same rfl rfl rfl rfl
 split
 ·exact kept_weigh s t
 split
 ·exact .same rfl rfl rfl rfl
 split
 ·split
  ·exact .same rfl rfl rfl rfl
  ·exact kept_wgot t
 ·exact .same rfl rfl rfl rfl
theorem kept_trust (s : Int) (t : PT) : KeptY t (yTrust s t) := by
 unfold yTrust yLook
 repeat' split
 all_goals first | exact .same rfl rfl rfl rfl | exact .one rfl rfl rfl rfl (by simp [yGive])
theorem kept_read (s : Int) (t : PT) : KeptY t (yFollowRead s t) := by
 unfold yFollowRead
 split
 ·exact .one rfl rfl rfl rfl (by simp [yGive])
 split
 ·split <;> exact .same rfl rfl rfl rfl
 split
 ·exact .same rfl rfl rfl rfl
 split
 ·exact kept_trust s t
 ·exact .same rfl rfl rfl rfl
theorem kept_turned (u : TurnD × MS) (t : PT) : (yTurned u t).mine = t.mine ∧ (yTurned u t).cur = t.cur ∧ (yTurned u t).rest = t.rest ∧ (yTurned u t).fails = t.fails ∧ (yTurned u t).notes.length ≤ t.notes.length + 1 := by
 unfold yTurned yTouch yRead yWrite yFinish yLetGo
 repeat' split
 all_goals exact ⟨rfl, rfl, rfl, rfl, by first | exact Nat.le_succ _ | (simp [yGive, yLog])⟩
theorem kept_turns (code : List InsD) : ∀ (n : Nat) (t : PT), (yTurns code n t).mine = t.mine ∧ (yTurns code n t).cur = t.cur ∧ (yTurns code n t).rest = t.rest ∧ (yTurns code n t).fails = t.fails ∧ (yTurns code n t).notes.length ≤ t.notes.length + n
 | 0, t => ⟨rfl, rfl, rfl, rfl, Nat.le_refl _⟩
 | n + 1, t => by
  unfold yTurns
  split
  ·have h1 := kept_turns code n (yTurn code t)
   have h2 := kept_turned (pNext t.c.f t.c.wd code yRounds t.m) t
   refine ⟨h1.1.trans h2.1, h1.2.1.trans h2.2.1, h1.2.2.1.trans h2.2.2.1, h1.2.2.2.1.trans h2.2.2.2.1, ?_⟩
   have h3 := h1.2.2.2.2
   have h4 : (yTurn code t).notes.length ≤ t.notes.length + 1 := h2.2.2.2.2
   omega
  ·exact ⟨rfl, rfl, rfl, rfl, Nat.le_add_right _ _⟩
structure Own5 (k : Int) (t : PT) : Prop where
 fails : 0 ≤ t.fails ∧ t.fails ≤ k
 mine : t.mine.length ≤ 100
 cur : t.cur ≤ t.mine.length
 rest : t.rest ≤ 8
 notes : (t.notes.length : Int) ≤ 60 * k
structure Own6 (k : Int) (t : PT) : Prop where
 fails : 0 ≤ t.fails ∧ t.fails ≤ k
 mine : t.mine.length ≤ 100
 cur : t.cur ≤ t.mine.length
 rest : t.rest ≤ 8
 notes : (t.notes.length : Int) + 50 ≤ 60 * k
theorem own5_kept {k : Int} {t t' : PT} (O : Own5 k t) (h : KeptY t t') : Own6 (k + 1) t' := by
 obtain ⟨h1, h2, h3, h4, h5⟩ := h
 have := O.fails
 have := O.notes
 exact ⟨by rcases h4 with h4 | h4 <;> omega, by rw [h1]; exact O.mine, by rw [h1, h2]; exact O.cur, by rw [h3]; exact O.rest, by omega⟩
set_option maxHeartbeats 4000000 in
theorem own5_follow {k : Int} {t : PT} (O : Own5 k t) (hk : 0 ≤ k) (seen put num draw : Int) (hcp : 0 ≤ t.c.cp ∧ t.c.cp ≤ 8) (hcur : t.step = 27 → t.cur < t.mine.length) : Own6 (k + 1) (yFollow seen put num draw t) := by
 have hf := O.fails
 have hn := O.notes
 unfold yFollow
 by_cases hc0 : t.step = 2
 ·rw [if_pos hc0]
  exact own5_kept O ⟨rfl, rfl, rfl, Or.inl rfl, Nat.zero_le _⟩
 rw [if_neg hc0]
 by_cases hc1 : 3 ≤ t.step ∧ t.step ≤ 6
 ·rw [if_pos hc1]
  exact own5_kept O (kept_read seen t)
 rw [if_neg hc1]
 by_cases hc2 : 7 ≤ t.step ∧ t.step ≤ 11
 ·rw [if_pos hc2]
  exact own5_kept O (kept_get seen t)
 rw [if_neg hc2]
 by_cases hc3 : 12 ≤ t.step ∧ t.step ≤ 13
 ·rw [if_pos hc3]
  exact own5_kept O (kept_ext seen t)
 rw [if_neg hc3]
 by_cases hc4 : 14 ≤ t.step ∧ t.step ≤ 15
 ·rw [if_pos hc4]
  exact own5_kept O (kept_ticket seen put t)
 rw [if_neg hc4]
 by_cases hc5 : 16 ≤ t.step ∧ t.step ≤ 19
 ·rw [if_pos hc5]
  exact own5_kept O (kept_commit seen t)
 rw [if_neg hc5]
 by_cases hc6 : 20 ≤ t.step ∧ t.step ≤ 25
 ·rw [if_pos hc6]
  exact own5_kept O (kept_store t)
 rw [if_neg hc6]
 by_cases hc7 : t.step = 26
 ·rw [if_pos hc7]
  exact own5_kept O (kept_letgo { t with at_ := t.at_ + 1 })
 rw [if_neg hc7]
 by_cases hc8 : t.step = 27
 ·rw [if_pos hc8]
  have h27 := hc8
  have hc := hcur h27
  have hb := kept_begin { t with aFate := t.turn.fate, aEnd := num, res := t.res ++ [yRes t], cur := t.cur + 1, rank := 0, fails := 0 }
  unfold yNextJob
  have hb5 := hb.2.2.2.2
  have hb6 : ({ t with aFate := t.turn.fate, aEnd := num, res := t.res ++ [yRes t], cur := t.cur + 1, rank := 0, fails := 0 } : PT).notes.length = t.notes.length := rfl
  exact ⟨by rcases hb.2.2.2.1 with q | q <;> (rw [q]; show 0 ≤ _ ∧ _ ≤ _; simp; omega), by rw [hb.1]; exact O.mine, by rw [hb.1, hb.2.1]; exact hc, by rw [hb.2.2.1]; exact O.rest, by omega⟩
 rw [if_neg hc8]
 by_cases hc9 : 28 ≤ t.step ∧ t.step ≤ 30
 ·rw [if_pos hc9]
  exact own5_kept O (kept_ffail put t)
 rw [if_neg hc9]
 by_cases hc10 : t.step = 31
 ·rw [if_pos hc10]
  unfold yLose
  split
  ·exact own5_kept O (.same rfl rfl rfl rfl)
  ·obtain ⟨tx, htx⟩ : ∃ tx : PT, tx = { yConc 5 num t with rest := yRestBy (yConc 5 num t) draw } := ⟨_, rfl⟩
   have x1 : tx.mine = t.mine := by rw [htx]; rfl
   have x2 : tx.cur = t.cur := by rw [htx]; rfl
   have x3 : tx.fails = t.fails := by rw [htx]; rfl
   have x4 : tx.notes.length = t.notes.length := by rw [htx]; rfl
   have x5 : tx.rest = yRestBy t draw := by rw [htx]; rfl
   rw [← htx]
   have hb := kept_begin tx
   have hb5 := hb.2.2.2.2
   refine ⟨by rcases hb.2.2.2.1 with q | q <;> (rw [q, x3]; omega), by rw [hb.1, x1]; exact O.mine, by rw [hb.1, hb.2.1, x1, x2]; exact O.cur, ?_, by omega⟩
   rw [hb.2.2.1, x5]
   unfold yRestBy
   split
   ·omega
   ·have hn : 0 < 1 + (if t.c.cp < t.fails then t.c.cp else t.fails) := by split <;> omega
    have := Int.tmod_lt_of_pos draw hn
    have : (if t.c.cp < t.fails then t.c.cp else t.fails) ≤ 8 := by split <;> omega
    omega
 rw [if_neg hc10]
 by_cases hc11 : t.step = 32
 ·rw [if_pos hc11]
  exact own5_kept O (kept_await seen t)
 ·rw [if_neg hc11]
  exact own5_kept O (.same rfl rfl rfl rfl)
theorem own5_turns {k : Int} {code : List InsD} {t : PT} (O : Own6 k t) : Own5 k (yTurns code yRounds t) := by
 obtain ⟨h1, h2, h3, h4, h5⟩ := kept_turns code yRounds t
 have := O.notes
 exact ⟨by rw [h4]; exact O.fails, by rw [h1]; exact O.mine, by rw [h1, h2]; exact O.cur, by rw [h3]; exact O.rest, by unfold yRounds at h5 ⊢; omega⟩
end Go.Proofs.YtejadojilncbjabGreat
