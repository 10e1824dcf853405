import Derived.Test.YtejadojilncbjabH50
import Derived.Test.YtejadojilncbjabH51
namespace Go.Proofs.Ytejadojilncbjab
open Go.ChangeShapes Go.WideShapes Go.ChangeAt Go.RowKit Go.Deep
set_option linter.unusedVariables false

set_option maxRecDepth 100000 in
theorem calm_lifted (G : JobsGood) (os : Os) (started : os.Started) (H : Type) (enc : TypeId × Value → H) (F : Stop.Interp) :
    ReturnsInHanded {} Try.checked os 3 .any ((Rows.OpenSpec.upto Rows.calmSpec).pre6 enc Try.prog Try.f3 Rows.calmUptoRow.domain false) (((Rows.OpenSpec.upto Rows.calmSpec).at F).post enc Try.prog Try.f3 false true false false) := by
  refine returnsInHanded_of_cond (C := Try.checked) (s := Rows.OpenSpec.upto Rows.calmSpec) (k := Rows.uptoSmall) rfl ownP started (by kernel_rfl) Try.func3
    (OpenSpec.witness (enc := enc) (C := Try.checked) (s := Rows.OpenSpec.upto Rows.calmSpec) (k := Rows.uptoSmall) rfl false ⟨#[], #[.agg #[.int .i64 0, .int .i64 0, .int .i64 0, .int .i64 0, .int .i64 0, .int .i64 0, .int .i64 0, .slice none 0 0, .slice none 0 0], .slice none 0 0, .slice none 0 0], []⟩ 8 (by kernel_rfl) (by kernel_rfl) (by kernel_rfl)
      (x := ([.agg [.agg [.lit (.int .i64 0), .lit (.int .i64 0), .lit (.int .i64 0), .lit (.int .i64 0), .lit (.int .i64 0), .lit (.int .i64 0), .lit (.int .i64 0)], .nil, .nil], .nil, .nil], [], [])) (by kernel_rfl) rfl (by kernel_rfl)) ?_
  intro W base args ds gs before hval0 hW hcnd hk _
  have hval : ∀ (j : Nat) t v, Try.f3.params[j]? = some t → args[j]? = some v → Value.okWide Try.prog W .any base t v := hval0
  have hW' := hW
  obtain ⟨p, q, hA0, hV, rfl, hfz, hnd⟩ := hW
  have hA : DataW.TrodAll enc Try.prog W 0 (fun _ => true) true Try.f3.params.toList args.toList ds p := hA0
  rw [Try.params3] at hA hval
  obtain ⟨v0, vs0, d0, ds0, p0, q0, hargs, rfl, rfl, h0, r0⟩ := trodAll_cons hA
  obtain ⟨v1, vs1, d1, ds1, p1, q1, hvs0, rfl, rfl, h1, r1⟩ := trodAll_cons r0
  obtain ⟨v2, vs2, d2, ds2, p2, q2, hvs1, rfl, rfl, h2, r2⟩ := trodAll_cons r1
  obtain ⟨rfl, rfl, rfl⟩ := trodAll_nil r2
  obtain rfl : args = #[v0, v1, v2] := by cases args; simp_all
  obtain ⟨rfl, rfl⟩ := trodVars_none hV
  obtain ⟨cs, rfl, hsz⟩ := okWide_struct Try.underlying27 (hval 0 27 v0 rfl rfl)
  obtain ⟨pa, pl, pc, rfl⟩ := okWide_slice Try.underlying28 (hval 1 28 v1 rfl rfl)
  obtain ⟨qa, ql, qc, rfl⟩ := okWide_slice Try.underlying28 (hval 2 28 v2 rfl rfl)
  have k0 := h0
  have k1 := h1
  have k2 := h2
  have lt0 : ∀ x ∈ p0, x.block < W.heap.size := by obtain ⟨m, hm⟩ := k0; exact DataW.trod_lt m _ _ _ hm
  have lt1 : ∀ x ∈ p1, x.block < W.heap.size := by obtain ⟨m, hm⟩ := k1; exact DataW.trod_lt m _ _ _ hm
  have lt2 : ∀ x ∈ p2, x.block < W.heap.size := by obtain ⟨m, hm⟩ := k2; exact DataW.trod_lt m _ _ _ hm
  obtain ⟨f0, hf0⟩ := h0
  obtain ⟨f1, hf1⟩ := h1
  obtain ⟨f2, hf2⟩ := h2
  obtain ⟨t, wd, s, g, r, cp, f, a, len, cap, zs, ja, jlen, jcap, js, hcs, e1, e2, e3, e4, e5, e6, e7, e8⟩ := setup_open hf0
  obtain ⟨b, blen, bcap, ps, e9, e10, e11, e12⟩ := picks_open hf1
  obtain ⟨b2, blen2, bcap2, os2, e13, e14, e15, e16⟩ := picks_open hf2
  obtain rfl : cs = #[.int .i64 t, .int .i64 wd, .int .i64 s, .int .i64 g, .int .i64 r, .int .i64 cp, .int .i64 f, .slice a len cap, .slice ja jlen jcap] := by
    cases cs; simpa [Value.cells] using hcs
  have e9' : Value.slice pa pl pc = Value.slice b blen bcap := by simpa [Value.cells] using e9
  cases e9'
  have e13' : Value.slice qa ql qc = Value.slice b2 blen2 bcap2 := by simpa [Value.cells] using e13
  cases e13'
  obtain ⟨jobs, hjb, hjr⟩ := jobs_rep e7 e8
  have hps : ps.length ≤ 2 ^ 21 := by
    have h := of_decide_eq_true hk
    simp only [List.append_nil, Rows.uptoBulkAll] at h
    rw [e10]
    simp only at e12
    omega
  have hos : os2.length ≤ 2 ^ 40 := by
    have h := of_decide_eq_true hk
    simp only [List.append_nil, Rows.uptoBulkAll] at h
    rw [e14]
    simp only at e16
    omega
  subst e1 e5 e10 e14
  have hjl : jobs.length ≤ maxLen := by rw [hjb]; exact e6
  rw [← hjb]
  clear hA0 hval0
  refine (calm_walk G ⟨t, wd, s, g, r, cp, f⟩ zs jobs ps os2 a ja pa qa cap jcap pc qc W hps hos e2 hjl e3 hjr e11 e15).mono fun e W' ⟨he, bel⟩ => ?_
  subst he
  rw [hjb]
  exact ⟨_, rfl, _, _, _, [], _, [], hW', trodAll_mk1 (shut_bool Try.underlying4 _), (trodAll_cons_mk (Below.trod laidOutP (by kernel_rfl) (of_decide_eq_true (by kernel_rfl)) k0 bel lt0) (trodAll_cons_mk (Below.trod laidOutP (by kernel_rfl) (of_decide_eq_true (by kernel_rfl)) k1 bel lt1) (trodAll_cons_mk (Below.trod laidOutP (by kernel_rfl) (of_decide_eq_true (by kernel_rfl)) k2 bel lt2) trodAll_mk0))), rfl, bel.frame _, fun h => by cases h⟩

set_option maxRecDepth 100000 in
theorem calm_over (G : JobsGood) : Rows.calmUptoRow.holds Try.pinned (Rows.OpenSpec.upto Rows.calmSpec) :=
  OpenClaim.holds_of_cond 3 Try.f3 rfl rfl rfl rfl rfl rfl rfl ⟨rfl, rfl, rfl, rfl, rfl⟩ rfl rfl rfl rfl rfl (by kernel_rfl) Try.func3 (by kernel_rfl)
    (of_decide_eq_true (by kernel_rfl)) (by unfold Func.isWrapper; first | (rw [if_pos (by decide +kernel)]; kernel_rfl) | (rw [if_neg (by decide +kernel)]; exact ⟨rfl, rfl⟩))
    (fun os started H enc _ F => calm_lifted G os started H enc F)

/-- The statement, if the program's call is as it should be. -/
theorem calm_if (G : JobsGood) : Rows.CalmUptoSaid := calm_over G

theorem calm_all : Rows.CalmUptoSaid := calm_if jobsGood

end Go.Proofs.Ytejadojilncbjab
