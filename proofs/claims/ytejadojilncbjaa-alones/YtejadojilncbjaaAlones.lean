import Derived.Test.YtejadojilncbjaaPr
import Derived.Test.YtejadojilncbjaaRows
import Derived.ShutString
import Derived.ChangeOld
namespace Go.Proofs.Ytejadojilncbjaa
open Go.ChangeShapes Go.WideShapes Go.ChangeAt Go.RowKit Go.Deep
set_option linter.unusedVariables false
attribute [local go_sem ↓] Go.wp_at_zero Go.wp_at_succ

set_option maxRecDepth 100000 in
set_option maxHeartbeats 8000000 in
theorem alone_any (c : Cfg) (mem : List Int) (code : List InsD) (ma ca : Option Addr) (mc cc : Nat) (w : World) (hm : mem.length ≤ maxLen) (h : Ints w w.heap.size ma mem) (hcd : CodeIn w w.heap.size ca code) :
    Calls Try.prog 11 #[.agg #[.int .i64 c.t, .int .i64 c.wd, .int .i64 c.s, .int .i64 c.g, .int .i64 c.r, .int .i64 c.cp, .int .i64 c.f], .slice ma mem.length mc, .slice ca code.length cc] w (AnsIs w (ansR c mem code) (ansO c mem code) (errN c mem code)) := by
  have HI : Hid (Ints w w.heap.size ma mem) := h
  have HCD : Hid (CodeIn w w.heap.size ca code) := hcd
  obtain ⟨A, HA⟩ : ∃ A, Hid (ansR c mem code = A) := ⟨_, rfl⟩
  obtain ⟨O, HO⟩ : ∃ O, Hid (ansO c mem code = O) := ⟨_, rfl⟩
  obtain ⟨ER, HER⟩ : ∃ ER, Hid (errN c mem code = ER) := ⟨_, rfl⟩
  rw [show ansR c mem code = A from HA.out, show ansO c mem code = O from HO.out, show errN c mem code = ER from HER.out]
  clear h hcd
  go_enter Try.func11, Try.ntmps11
  go_wp2_with fail
  obtain ⟨w0, hw0⟩ : ∃ w0, w0 = (w.alloc (.cells #[.int .i64 c.t, .int .i64 c.wd, .int .i64 c.s, .int .i64 c.g, .int .i64 c.r, .int .i64 c.cp, .int .i64 c.f] 23)).alloc (.cells #[.int .i64 0, .int .i64 0, .int .i64 0, .int .i64 0, .int .i64 0] 35) := ⟨_, rfl⟩
  have hbc0 : Blk w0 w.heap.size 23 #[.int .i64 c.t, .int .i64 c.wd, .int .i64 c.s, .int .i64 c.g, .int .i64 c.r, .int .i64 c.cp, .int .i64 c.f] := by rw [hw0]; exact (Blk.new w 23 _).alloc _
  have hbr0 : Blk w0 (w.heap.size + 1) 35 #[.int .i64 0, .int .i64 0, .int .i64 0, .int .i64 0, .int .i64 0] := by
    rw [hw0]
    have := Blk.new (w.alloc (.cells #[.int .i64 c.t, .int .i64 c.wd, .int .i64 c.s, .int .i64 c.g, .int .i64 c.r, .int .i64 c.cp, .int .i64 c.f] 23)) 35 #[.int .i64 0, .int .i64 0, .int .i64 0, .int .i64 0, .int .i64 0]
    simpa using this
  have hB0 : Below w.heap.size w w0 := by rw [hw0]; exact ((Below.refl w.heap.size w).alloc (Nat.le_refl _) _).alloc (by simp) _
  have hs0 : w0.heap.size = w.heap.size + 2 := by rw [hw0]; simp
  rw [← hw0]
  clear hw0
  refine (single_any c ma ca mc cc mem code w0 hm ((HI.out).up hB0)).mono ?_
  rintro e w1 ⟨rfl, hb1⟩
  have HB1 : Hid (Below w.heap.size w w1) := hB0.trans (hb1.mono (by omega))
  have HBc : Hid (Blk w1 w.heap.size 23 #[.int .i64 c.t, .int .i64 c.wd, .int .i64 c.s, .int .i64 c.g, .int .i64 c.r, .int .i64 c.cp, .int .i64 c.f]) := hbc0.below hb1 (by omega)
  have HBr : Hid (Blk w1 (w.heap.size + 1) 35 #[.int .i64 0, .int .i64 0, .int .i64 0, .int .i64 0, .int .i64 0]) := hbr0.below hb1 (by omega)
  have hs1 : w.heap.size + 2 ≤ w1.heap.size := by have := hb1.size; omega
  clear hb1 hB0 hbc0 hbr0 hs0
  rw [show errN c mem code = ER from HER.out]
  by_cases he : ER = 0
  · subst he
    have hcc := (HBc.out).cell
    go_wp2_with fail
    refine (run_any c mem code ma ca mc cc w1 HER.out ((HI.out).up (HB1.out)) (((HCD.out).up HB1.out).mono (HB1.out).size)).mono ?_
    rintro e w2 ⟨oa, oc, rfl, hO2, hb2, hfar⟩
    have HFar : Hid (∀ x, oa = some x → w1.heap.size ≤ x.block) := hfar
    clear hfar
    rw [show ansR c mem code = A from HA.out, show ansO c mem code = O from HO.out] at *
    have HO2 : Hid (Ints w2 w2.heap.size oa O) := hO2
    have HR2 : Hid (Blk w2 (w.heap.size + 1) 35 #[.int .i64 0, .int .i64 0, .int .i64 0, .int .i64 0, .int .i64 0]) := (HBr.out).below hb2 (by omega)
    have HB2 : Hid (Below w.heap.size w w2) := (HB1.out).trans (hb2.mono (by omega))
    have HFo : Hid (Below w1.heap.size w1 w2) := hb2
    clear hO2 hb2 hcc
    have hrc := (HR2.out).cell
    have hrf := (HR2.out).frozen
    have hrl := (HR2.out).lt
    go_wp2
    have hX : Blk (((((w2.setCell ⟨w.heap.size + 1, 0, none⟩ (.int .i64 A.fate)).setCell ⟨w.heap.size + 1, 1, none⟩ (.int .i64 A.r0)).setCell ⟨w.heap.size + 1, 2, none⟩ (.int .i64 A.r1)).setCell ⟨w.heap.size + 1, 3, none⟩ (.int .i64 A.r2)).setCell ⟨w.heap.size + 1, 4, none⟩ (.int .i64 A.r3)) (w.heap.size + 1) 35 #[.int .i64 A.fate, .int .i64 A.r0, .int .i64 A.r1, .int .i64 A.r2, .int .i64 A.r3] := ((HR2.out).set.set.set.set.set).congr (by simp)
    obtain ⟨_, _, _, _, _, hfin, honly⟩ := res_end HR2.out rfl HB2.out (by omega) (.int .i64 A.fate) (.int .i64 A.r0) (.int .i64 A.r1) (.int .i64 A.r2) (.int .i64 A.r3)
    have hXa := hX.alloc (.cells #[.int .i64 A.fate, .int .i64 A.r0, .int .i64 A.r1, .int .i64 A.r2, .int .i64 A.r3] 35)
    have e0 := hXa.cell 0
    have e1 := hXa.cell 1
    have e2 := hXa.cell 2
    have e3 := hXa.cell 3
    have e4 := hXa.cell 4
    have hIo : Ints (((((w2.setCell ⟨w.heap.size + 1, 0, none⟩ (.int .i64 A.fate)).setCell ⟨w.heap.size + 1, 1, none⟩ (.int .i64 A.r0)).setCell ⟨w.heap.size + 1, 2, none⟩ (.int .i64 A.r1)).setCell ⟨w.heap.size + 1, 3, none⟩ (.int .i64 A.r2)).setCell ⟨w.heap.size + 1, 4, none⟩ (.int .i64 A.r3)) _ oa O := ((HO2.out).only honly (fun b off hb _ => by have := HFar.out _ hb; simp only at this; omega)).mono honly.size
    exact bodyPost_ret (v := .tuple #[.agg #[.int .i64 A.fate, .int .i64 A.r0, .int .i64 A.r1, .int .i64 A.r2, .int .i64 A.r3], .slice oa O.length oc, .int .i64 0]) (by simp at e0 e1 e2 e3 e4; simp [results, Try.results11, go_sem, e0, e1, e2, e3, e4]) rfl ⟨oa, oc, rfl, hIo.up ((Below.refl _ _).alloc (Nat.le_refl _) _), hfin.alloc hfin.size _⟩
  · have hbn : (ER != 0) = true := by simpa using he
    have hA : A = ⟨0, 0, 0, 0, 0⟩ := by rw [← HA.out]; exact if_neg (by rw [HER.out]; exact he)
    have hO : O = [] := by rw [← HO.out]; exact if_neg (by rw [HER.out]; exact he)
    subst hA hO
    have hrc := (HBr.out).cell
    have hrf := (HBr.out).frozen
    clear HA HO HER he
    go_wp2
    obtain ⟨e0, e1', e2, e3, e4, hfin, _⟩ := res_end HBr.out rfl HB1.out (by omega) (.int .i64 0) (.int .i64 0) (.int .i64 0) (.int .i64 0) (.int .i64 0)
    exact bodyPost_ret (v := .tuple #[.agg #[.int .i64 0, .int .i64 0, .int .i64 0, .int .i64 0, .int .i64 0], .slice none 0 0, .int .i64 ER]) (by simp [results, Try.results11, go_sem, e0, e1', e2, e3, e4]) rfl ⟨none, 0, rfl, fun i hi => absurd hi (by simp), hfin⟩

theorem ownA : ownKnob Try.prog.godebug = none := by kernel_rfl
theorem laidOutA : laidOutB Try.prog = true := by kernel_rfl

theorem ansO_len (c : Cfg) (mem : List Int) (code : List InsD) : (ansO c mem code).length ≤ 8 := by
  unfold ansO
  split
  · rename_i h
    obtain ⟨h1, h2, _, _⟩ := errN_ok h
    have := (cfgB_true h1).2.1
    simp
    omega
  · simp

set_option maxRecDepth 100000 in
set_option maxHeartbeats 8000000 in
theorem alones_walk (c : Cfg) (mem : List Int) (code : List InsD) (ma ca : Option Addr) (mc cc : Nat) (w : World) (hm : mem.length ≤ maxLen) (h : Ints w w.heap.size ma mem) (hcd : CodeIn w w.heap.size ca code) :
    Calls Try.prog 4 #[.agg #[.int .i64 c.t, .int .i64 c.wd, .int .i64 c.s, .int .i64 c.g, .int .i64 c.r, .int .i64 c.cp, .int .i64 c.f], .slice ma mem.length mc, .slice ca code.length cc] w fun e w' =>
      e = .returned (.bool true) ∧ Below w.heap.size w w' := by
  have HI : Hid (Ints w w.heap.size ma mem) := h
  have HCD : Hid (CodeIn w w.heap.size ca code) := hcd
  obtain ⟨A, HA⟩ : ∃ A, Hid (ansR c mem code = A) := ⟨_, rfl⟩
  obtain ⟨O, HO⟩ : ∃ O, Hid (ansO c mem code = O) := ⟨_, rfl⟩
  obtain ⟨ER, HER⟩ : ∃ ER, Hid (errN c mem code = ER) := ⟨_, rfl⟩
  have hOl : O.length ≤ 2 ^ 40 := by rw [← HO.out]; have := ansO_len c mem code; omega
  clear h hcd
  go_enter Try.func4, Try.ntmps4
  go_wp2_with fail
  obtain ⟨w0, hw0⟩ : ∃ w0, w0 = w.alloc (.cells #[.int .i64 c.t, .int .i64 c.wd, .int .i64 c.s, .int .i64 c.g, .int .i64 c.r, .int .i64 c.cp, .int .i64 c.f] 23) := ⟨_, rfl⟩
  have hbc0 : Blk w0 w.heap.size 23 #[.int .i64 c.t, .int .i64 c.wd, .int .i64 c.s, .int .i64 c.g, .int .i64 c.r, .int .i64 c.cp, .int .i64 c.f] := by rw [hw0]; exact Blk.new w 23 _
  have hB0 : Below w.heap.size w w0 := by rw [hw0]; exact (Below.refl w.heap.size w).alloc (Nat.le_refl _) _
  rw [← hw0]
  clear hw0
  refine (alone_any c mem code ma ca mc cc w0 hm ((HI.out).up hB0) (((HCD.out).up hB0).mono hB0.size)).mono ?_
  rintro e w1 ⟨oa, oc, rfl, hO1, hb1⟩
  rw [show ansO c mem code = O from HO.out] at hO1
  rw [show ansR c mem code = A from HA.out, show ansO c mem code = O from HO.out, show errN c mem code = ER from HER.out]
  have HB1 : Hid (Below w.heap.size w w1) := hB0.trans (hb1.mono hB0.size)
  have HC1 : Hid (Blk w1 w.heap.size 23 #[.int .i64 c.t, .int .i64 c.wd, .int .i64 c.s, .int .i64 c.g, .int .i64 c.r, .int .i64 c.cp, .int .i64 c.f]) := hbc0.below hb1 hbc0.lt
  have HO1 : Hid (Ints w1 w1.heap.size oa O) := hO1
  have hc1 := (HC1.out).cell
  have hcl1 := (HC1.out).lt
  clear hO1 hb1 hB0 hbc0
  go_wp2_with fail
  obtain ⟨w2, hw2⟩ : ∃ w2, w2 = w1.alloc (.cells #[.int .i64 A.fate, .int .i64 A.r0, .int .i64 A.r1, .int .i64 A.r2, .int .i64 A.r3] 35) := ⟨_, rfl⟩
  obtain ⟨rb, hrb⟩ : ∃ rb, rb = w1.heap.size := ⟨_, rfl⟩
  have hR2 : Blk w2 rb 35 #[.int .i64 A.fate, .int .i64 A.r0, .int .i64 A.r1, .int .i64 A.r2, .int .i64 A.r3] := by rw [hw2, hrb]; exact Blk.new w1 35 _
  have hB12 : Below w1.heap.size w1 w2 := by rw [hw2]; exact (Below.refl _ _).alloc (Nat.le_refl _) _
  have hB2 : Below w.heap.size w w2 := (HB1.out).trans (hB12.mono (HB1.out).size)
  have HO2 : Hid (Ints w2 w2.heap.size oa O) := (HO1.out).up hB12
  rw [← hw2, ← hrb]
  clear hw2 hrb hB12 HO1 HB1 hc1 hcl1
  refine (refAlone_any c mem code ma ca mc cc w2 hm ((HI.out).up hB2) (((HCD.out).up hB2).mono hB2.size)).mono ?_
  rintro e w3 ⟨ob, od, rfl, hO3, hb3⟩
  rw [show ansO c mem code = O from HO.out] at hO3
  rw [show ansR c mem code = A from HA.out, show ansO c mem code = O from HO.out, show errN c mem code = ER from HER.out]
  have HB3 : Hid (Below w.heap.size w w3) := hB2.trans (hb3.mono hB2.size)
  have hR3 := (hR2.below hb3 hR2.lt).cell
  have hrl3 := (hR2.below hb3 hR2.lt).lt
  have HOa : Hid (Ints w3 w3.heap.size oa O) := (HO2.out).up hb3
  have HOb : Hid (Ints w3 w3.heap.size ob O) := hO3
  clear hO3 hb3 hB2 hR2 HO2 HC1 HA HO HER HI HCD
  go_wp2_with fail
  refine (sameResult_any _ _ _ _ _ _).mono ?_
  rintro e w5 ⟨rfl, hb5⟩
  have HB35 : Hid (Below w3.heap.size w3 w5) := ((Below.refl w3.heap.size w3).alloc (Nat.le_refl _) _).trans (hb5.mono (by simp))
  clear hb5 hR3 hrl3
  go_wp2_with fail
  refine (sameInts_any oa ob oc od O w5 hOl ((HOa.out).up HB35.out) ((HOb.out).up HB35.out)).mono ?_
  rintro e w6 ⟨rfl, hb6⟩
  have HB6 : Hid (Below w.heap.size w w6) := (HB3.out).trans (((HB35.out).trans (hb6.mono (HB35.out).size)).mono (HB3.out).size)
  clear hb6
  go_wp2_with (go_at_call 10; refine (num_any _ _).mono ?_; rintro e w' ⟨rfl, rfl⟩)
  go_ret
  exact ⟨by simp, HB6.out⟩

set_option maxRecDepth 100000 in
theorem alones_lifted (os : Os) (started : os.Started) (H : Type) (enc : TypeId × Value → H) :
    ReturnsInHanded {} Try.checked os 4 .any (Rows.alonesSpec.pre6 enc Try.prog Try.f4 Rows.alonesRow.domain false) (Rows.alonesSpec.post enc Try.prog Try.f4 false true false false) := by
  refine returnsInHanded_of_change (C := Try.checked) ownA started (by kernel_rfl) Try.func4
    (ChangeSpec.witness6 (enc := enc) (C := Try.checked) false ⟨#[], #[.agg #[.int .i64 0, .int .i64 0, .int .i64 0, .int .i64 0, .int .i64 0, .int .i64 0, .int .i64 0], .slice none 0 0, .slice none 0 0], []⟩ 8 (by kernel_rfl) (by kernel_rfl) (by kernel_rfl) (by kernel_rfl)) ?_
  intro W base args ds gs before hval0 hW hcnd _
  have hval : ∀ (j : Nat) t v, Try.f4.params[j]? = some t → args[j]? = some v → Value.okWide Try.prog W .any base t v := hval0
  have hW' := hW
  obtain ⟨p, q, hA0, hV, rfl, hfz, hnd⟩ := hW
  have hA : DataW.TrodAll enc Try.prog W 0 (fun _ => true) true Try.f4.params.toList args.toList ds p := hA0
  rw [Try.params4] at hA hval
  obtain ⟨v0, vs0, d0, ds0, p0, q0, hargs, rfl, rfl, h0, r0⟩ := trodAll_cons hA
  obtain ⟨v1, vs1, d1, ds1, p1, q1, hvs0, rfl, rfl, h1, r1⟩ := trodAll_cons r0
  obtain ⟨v2, vs2, d2, ds2, p2, q2, hvs1, rfl, rfl, h2, r2⟩ := trodAll_cons r1
  obtain ⟨rfl, rfl, rfl⟩ := trodAll_nil r2
  obtain rfl : args = #[v0, v1, v2] := by cases args; simp_all
  obtain ⟨rfl, rfl⟩ := trodVars_none hV
  obtain ⟨cs, rfl, hsz⟩ := okWide_struct Try.underlying23 (hval 0 23 v0 rfl rfl)
  obtain ⟨ma, ml, mc, rfl⟩ := okWide_slice Try.underlying24 (hval 1 24 v1 rfl rfl)
  obtain ⟨ca, cl, cc, rfl⟩ := okWide_slice Try.underlying32 (hval 2 32 v2 rfl rfl)
  have k0 := h0
  have k1 := h1
  have k2 := h2
  have lt0 : ∀ x ∈ p0, x.block < W.heap.size := by obtain ⟨m, hm⟩ := k0; exact DataW.trod_lt m _ _ _ hm
  have lt1 : ∀ x ∈ p1, x.block < W.heap.size := by obtain ⟨m, hm⟩ := k1; exact DataW.trod_lt m _ _ _ hm
  have lt2 : ∀ x ∈ p2, x.block < W.heap.size := by obtain ⟨m, hm⟩ := k2; exact DataW.trod_lt m _ _ _ hm
  obtain ⟨f0, hf0⟩ := h0
  obtain ⟨f1, hf1⟩ := h1
  obtain ⟨f2, hf2⟩ := h2
  obtain ⟨t, wd, s, g, r, cp, f, hcs, _⟩ := cfg_open hf0
  obtain ⟨a, len, cap, zs, e1, e2, e3, e4, _⟩ := ints_open hf1
  obtain ⟨b, blen, bcap, is, e5, e6, e7, e8, _⟩ := code_open hf2
  obtain rfl : cs = #[.int .i64 t, .int .i64 wd, .int .i64 s, .int .i64 g, .int .i64 r, .int .i64 cp, .int .i64 f] := by
    cases cs; simpa [Value.cells] using hcs
  have e1' : Value.slice ma ml mc = Value.slice a len cap := by simpa [Value.cells] using e1
  have e5' : Value.slice ca cl cc = Value.slice b blen bcap := by simpa [Value.cells] using e5
  cases e1'
  cases e5'
  subst e2 e6
  clear hA0 hval0
  refine (alones_walk ⟨t, wd, s, g, r, cp, f⟩ zs is ma ca mc cc W e3 e4 e8).mono fun e W' ⟨he, bel⟩ => ?_
  subst he
  exact ⟨_, rfl, _, _, _, [], _, [], hW', trodAll_mk1 (shut_bool Try.underlying4 _), (trodAll_cons_mk (Below.trod laidOutA (by kernel_rfl) (of_decide_eq_true (by kernel_rfl)) k0 bel lt0) (trodAll_cons_mk (Below.trod laidOutA (by kernel_rfl) (of_decide_eq_true (by kernel_rfl)) k1 bel lt1) (trodAll_cons_mk (Below.trod laidOutA (by kernel_rfl) (of_decide_eq_true (by kernel_rfl)) k2 bel lt2) trodAll_mk0))), rfl, bel.frame _, fun h => by cases h⟩

theorem alones_over : Rows.alonesRow.holds Try.pinned (OpenSpec.ofChange Rows.alonesSpec) :=
  OpenClaim.holds_of_wide 4 Try.f4 rfl rfl rfl rfl rfl rfl rfl ⟨rfl, rfl, rfl, rfl, rfl⟩ rfl rfl rfl rfl rfl (by kernel_rfl) Try.func4 (by kernel_rfl)
    (of_decide_eq_true (by kernel_rfl)) (by unfold Func.isWrapper; first | (rw [if_pos (by decide +kernel)]; kernel_rfl) | (rw [if_neg (by decide +kernel)]; exact ⟨rfl, rfl⟩))
    (fun os started H enc _ => alones_lifted os started H enc)

/-- THE STATEMENT. -/
theorem alones_holds : Rows.AlonesSaid := alones_over
#print axioms alones_holds

end Go.Proofs.Ytejadojilncbjaa
