import Derived.Test.YtejadojilncbjaaOpen
import Derived.Test.YtejadojilncbjaaRows
import Derived.ShutString
import Derived.ChangeOld
namespace Go.Proofs.Ytejadojilncbjaa
open Go.ChangeShapes Go.WideShapes Go.ChangeAt Go.RowKit Go.Deep
set_option linter.unusedVariables false

theorem own : ownKnob Try.prog.godebug = none := by kernel_rfl
theorem laidOut : laidOutB Try.prog = true := by kernel_rfl

set_option maxHeartbeats 1000000 in
theorem check_core (t wd s g r cp f : Int) (a : Option Addr) (len cap : Nat) (zs : List Int) (ja : Option Addr) (jlen jcap : Nat) (js : List JobD) (w : World)
    (hl : zs.length = len) (hm : len ≤ maxLen) (h : Ints w w.heap.size a zs) (hjl : js.length = jlen) (hjm : jlen ≤ maxLen) (hj : JobsIn w w.heap.size ja js) :
    Calls Try.prog 8 #[.agg #[.int .i64 t, .int .i64 wd, .int .i64 s, .int .i64 g, .int .i64 r, .int .i64 cp, .int .i64 f, .slice a len cap, .slice ja jlen jcap]] w fun e w' =>
      e = .returned (.int .i64 (checkN ⟨t, wd, s, g, r, cp, f⟩ zs js)) ∧ Below w.heap.size w w' := by
  have HI : Hid (Ints w w.heap.size a zs) := h
  have HJ : Hid (JobsIn w w.heap.size ja js) := hj
  have HL : Hid (zs.length = len) := hl
  have HM : Hid (js.length = jlen) := hjl
  clear h hj hl hjl
  go_enter Try.func8, Try.ntmps8
  go_wp2_with fail
  refine (setup_core _ _ _ _ _ _ _ _ _ _ zs _ _ _ js _ HL.out hm (by exact (HI.out).alloc _) HM.out hjm (by exact (HJ.out).alloc _)).mono ?_
  rintro e w1 ⟨rfl, hb1⟩
  go_wp2_with fail
  go_ret
  exact ⟨rfl, ((Below.refl _ _).alloc (Nat.le_refl _) _).trans (hb1.mono (by simp))⟩

set_option maxHeartbeats 1000000 in
theorem checks_walk (t wd s g r cp f : Int) (a : Option Addr) (len cap : Nat) (zs : List Int) (ja : Option Addr) (jlen jcap : Nat) (js : List JobD) (w : World)
    (hl : zs.length = len) (hm : len ≤ maxLen) (h : Ints w w.heap.size a zs) (hjl : js.length = jlen) (hjm : jlen ≤ maxLen) (hj : JobsIn w w.heap.size ja js) :
    Calls Try.prog 3 #[.agg #[.int .i64 t, .int .i64 wd, .int .i64 s, .int .i64 g, .int .i64 r, .int .i64 cp, .int .i64 f, .slice a len cap, .slice ja jlen jcap]] w fun e w' =>
      e = .returned (.bool true) ∧ Below w.heap.size w w' := by
  have HI : Hid (Ints w w.heap.size a zs) := h
  have HJ : Hid (JobsIn w w.heap.size ja js) := hj
  have HL : Hid (zs.length = len) := hl
  have HM : Hid (js.length = jlen) := hjl
  clear h hj hl hjl
  go_enter Try.func3, Try.ntmps3
  go_wp2_with fail
  refine (check_core _ _ _ _ _ _ _ _ _ _ zs _ _ _ js _ HL.out hm (by exact (HI.out).alloc _) HM.out hjm (by exact (HJ.out).alloc _)).mono ?_
  rintro e w1 ⟨rfl, hb1⟩
  obtain ⟨hc1, hf1⟩ := bcell hb1
  have hsz : w.heap.size < w1.heap.size := by have := hb1.size; simp at this; omega
  have hB : Below w.heap.size w w1 := ((Below.refl _ _).alloc (Nat.le_refl _) _).trans (hb1.mono (by simp))
  have HI1 : Hid (Ints w1 w1.heap.size a zs) := ((HI.out).below hB (Nat.le_refl _)).mono (by omega)
  have HJ1 : Hid (JobsIn w1 w1.heap.size ja js) := ((HJ.out).below hB (Nat.le_refl _)).mono (by omega)
  clear hb1
  go_wp2_with fail
  refine (refCheck_core _ _ _ _ _ _ _ _ _ _ zs _ _ _ js _ HL.out hm HI1.out HM.out hjm HJ1.out).mono ?_
  rintro e w2 ⟨rfl, hb2⟩
  have hB2 : Below w.heap.size w w2 := hB.trans (hb2.mono (by omega))
  clear hb2
  generalize checkN ⟨t, wd, s, g, r, cp, f⟩ zs js = cn
  go_wp2_with (go_at_call 10; refine (num_any _ _).mono ?_; rintro e w' ⟨rfl, rfl⟩)
  go_ret
  exact ⟨by simp, hB2⟩

set_option maxRecDepth 100000 in
theorem checks_lifted (os : Os) (started : os.Started) (H : Type) (enc : TypeId × Value → H) :
    ReturnsInHanded {} Try.checked os 3 .any (Rows.checksSpec.pre6 enc Try.prog Try.f3 Rows.checksRow.domain false) (Rows.checksSpec.post enc Try.prog Try.f3 false true false false) := by
  refine returnsInHanded_of_change (C := Try.checked) own started (by kernel_rfl) Try.func3
    (ChangeSpec.witness6 (enc := enc) (C := Try.checked) false ⟨#[], #[.agg #[.int .i64 0, .int .i64 0, .int .i64 0, .int .i64 0, .int .i64 0, .int .i64 0, .int .i64 0, .slice none 0 0, .slice none 0 0]], []⟩ 8 (by kernel_rfl) (by kernel_rfl) (by kernel_rfl) (by kernel_rfl)) ?_
  intro W base args ds gs before hval0 hW hcnd _
  have hval : ∀ (j : Nat) t v, Try.f3.params[j]? = some t → args[j]? = some v → Value.okWide Try.prog W .any base t v := hval0
  have hW' := hW
  obtain ⟨p, q, hA0, hV, rfl, hfz, hnd⟩ := hW
  have hA : DataW.TrodAll enc Try.prog W 0 (fun _ => true) true Try.f3.params.toList args.toList ds p := hA0
  rw [Try.params3] at hA hval
  obtain ⟨v0, vs0, d0, ds0, p0, q0, hargs, rfl, rfl, h0, r0⟩ := trodAll_cons hA
  obtain ⟨rfl, rfl, rfl⟩ := trodAll_nil r0
  obtain rfl : args = #[v0] := by cases args; simp_all
  obtain ⟨rfl, rfl⟩ := trodVars_none hV
  obtain ⟨cs, rfl, hsz⟩ := okWide_struct Try.underlying27 (hval 0 27 v0 rfl rfl)
  have k0 := h0
  have lt0 : ∀ x ∈ p0, x.block < W.heap.size := by obtain ⟨m, hm⟩ := k0; exact DataW.trod_lt m _ _ _ hm
  obtain ⟨fuel, hf⟩ := h0
  obtain ⟨t, wd, s, g, r, cp, f, a, len, cap, zs, ja, jlen, jcap, js, hcs, e1, e2, e3, e4, e5, e6, e7, e8⟩ := setup_open hf
  obtain rfl : cs = #[.int .i64 t, .int .i64 wd, .int .i64 s, .int .i64 g, .int .i64 r, .int .i64 cp, .int .i64 f, .slice a len cap, .slice ja jlen jcap] := by
    cases cs; simpa [Value.cells] using hcs
  clear hA0 hval0
  refine (checks_walk t wd s g r cp f a len cap zs ja jlen jcap js W e1 e2 e3 e5 e6 e7).mono fun e W' ⟨he, bel⟩ => ?_
  subst he
  exact ⟨_, rfl, _, _, _, [], _, [], hW', trodAll_mk1 (shut_bool Try.underlying4 _), (trodAll_cons_mk (Below.trod laidOut (by kernel_rfl) (of_decide_eq_true (by kernel_rfl)) k0 bel lt0) trodAll_mk0), rfl, bel.frame _, fun h => by cases h⟩

theorem checks_over : Rows.checksRow.holds Try.pinned (OpenSpec.ofChange Rows.checksSpec) :=
  OpenClaim.holds_of_wide 3 Try.f3 rfl rfl rfl rfl rfl rfl rfl ⟨rfl, rfl, rfl, rfl, rfl⟩ rfl rfl rfl rfl rfl (by kernel_rfl) Try.func3 (by kernel_rfl)
    (of_decide_eq_true (by kernel_rfl)) (by unfold Func.isWrapper; first | (rw [if_pos (by decide +kernel)]; kernel_rfl) | (rw [if_neg (by decide +kernel)]; exact ⟨rfl, rfl⟩))
    (fun os started H enc _ => checks_lifted os started H enc)

/-- THE STATEMENT. -/
theorem checks_holds : Rows.ChecksSaid := checks_over
#print axioms checks_holds

end Go.Proofs.Ytejadojilncbjaa
