import Derived.Test.YtejadojilncbjabJ15
import Derived.Test.YtejadojilncbjabJ20
namespace Go.Proofs.Ytejadojilncbjab
open Go.ChangeShapes Go.WideShapes Go.ChangeAt Go.RowKit Go.Deep
set_option linter.unusedVariables false

set_option maxHeartbeats 1000000 in
theorem judges_walk (L : List AttD) (N : Nat) (hN : L.length = N) (hL : N ≤ 2097152) (mem : List Int) (hm : mem.length ≤ 2097152) (hnt : ∀ k, k < N → (atL L k).notes.length ≤ 2097152) (ma a : Option Addr) (mc cp : Nat) (w : World) (hmi : Ints w w.heap.size ma mem) (h : HistIn w w.heap.size a L) :
    Calls Try.prog 4 #[.slice ma mem.length mc, .slice a N cp] w fun e w' => e = .returned (.bool true) ∧ Below w.heap.size w w' := by
  have H1 : Hid (Calls Try.prog 10 #[.slice ma mem.length mc, .slice a N cp] w (JdgIs w (Bad (atL L) N mem) N)) := judge_any L N hN hL mem hm hnt ma a mc cp w hmi h
  have H2 : Hid (∀ wx, Below w.heap.size w wx → Calls Try.prog 11 #[.slice ma mem.length mc, .slice a N cp] wx (JdgIs wx (Bad (atL L) N mem) N)) := fun wx hb => refJudge_any L N hN hL mem hm hnt ma a mc cp wx (hmi.up hb) ((h.up hb).mono hb.size)
  clear hN hL hm hnt hmi h
  go_enter Try.func4, Try.ntmps4
  go_wp2_with fail
  refine (H1.out).mono ?_
  rintro e w1 ⟨x, rfl, hx, hb1⟩
  have HX : Hid (Lst (Bad (atL L) N mem) N x) := hx
  have HB1 : Hid (Below w.heap.size w w1) := hb1
  obtain ⟨z, hz⟩ : ∃ z, z = jRes N x := ⟨_, rfl⟩
  rw [← hz]
  have HZ : Hid (z = jRes N x) := hz
  clear hx hb1 hz H1
  go_wp2_with fail
  refine (H2.out _ HB1.out).mono ?_
  rintro e w2 ⟨y, rfl, hy, hb2⟩
  have hxy : jRes N y = z := by rw [HZ.out, (HX.out).uniq hy]
  have HB2 : Hid (Below w.heap.size w w2) := (HB1.out).trans (hb2.mono (HB1.out).size)
  rw [hxy]
  clear hy hb2 hxy
  go_wp2_with fail
  go_ret
  exact ⟨by first | rfl | simp, HB2.out⟩

set_option maxRecDepth 100000 in
theorem judges_lifted (os : Os) (started : os.Started) (H : Type) (enc : TypeId × Value → H) (F : Stop.Interp) :
    ReturnsInHanded {} Try.checked os 4 .any ((Rows.OpenSpec.upto Rows.judgesSpec).pre6 enc Try.prog Try.f4 Rows.judgesUptoRow.domain false) (((Rows.OpenSpec.upto Rows.judgesSpec).at F).post enc Try.prog Try.f4 false true false false) := by
  refine returnsInHanded_of_cond (C := Try.checked) (s := Rows.OpenSpec.upto Rows.judgesSpec) (k := Rows.uptoSmall) rfl ownP started (by kernel_rfl) Try.func4
    (OpenSpec.witness (enc := enc) (C := Try.checked) (s := Rows.OpenSpec.upto Rows.judgesSpec) (k := Rows.uptoSmall) rfl false ⟨#[], #[.slice none 0 0, .slice none 0 0], []⟩ 8 (by kernel_rfl) (by kernel_rfl) (by kernel_rfl)
      (x := ([.nil, .nil], [], [])) (by kernel_rfl) rfl (by kernel_rfl)) ?_
  intro W base args ds gs before hval0 hW hcnd hk _
  have hval : ∀ (j : Nat) t v, Try.f4.params[j]? = some t → args[j]? = some v → Value.okWide Try.prog W .any base t v := hval0
  have hW' := hW
  obtain ⟨p, q, hA0, hV, rfl, hfz, hnd⟩ := hW
  have hA : DataW.TrodAll enc Try.prog W 0 (fun _ => true) true Try.f4.params.toList args.toList ds p := hA0
  rw [Try.params4] at hA hval
  obtain ⟨v0, vs0, d0, ds0, p0, q0, hargs, rfl, rfl, h0, r0⟩ := trodAll_cons hA
  obtain ⟨v1, vs1, d1, ds1, p1, q1, hvs0, rfl, rfl, h1, r1⟩ := trodAll_cons r0
  obtain ⟨rfl, rfl, rfl⟩ := trodAll_nil r1
  obtain rfl : args = #[v0, v1] := by cases args; simp_all
  obtain ⟨rfl, rfl⟩ := trodVars_none hV
  obtain ⟨ma, ml, mc, rfl⟩ := okWide_slice Try.underlying24 (hval 0 24 v0 rfl rfl)
  obtain ⟨pa, pl, pc, rfl⟩ := okWide_slice Try.underlying38 (hval 1 38 v1 rfl rfl)
  have k0 := h0
  have k1 := h1
  have lt0 : ∀ x ∈ p0, x.block < W.heap.size := by obtain ⟨m, hm⟩ := k0; exact DataW.trod_lt m _ _ _ hm
  have lt1 : ∀ x ∈ p1, x.block < W.heap.size := by obtain ⟨m, hm⟩ := k1; exact DataW.trod_lt m _ _ _ hm
  obtain ⟨f0, hf0⟩ := h0
  obtain ⟨f1, hf1⟩ := h1
  obtain ⟨a, len, cap, zs, e1, e2, _, e3, _⟩ := ints_open hf0
  have hb0 := bulk_slice Try.underlying24 hf0 a len cap e1
  obtain ⟨b, blen, bcap, L, e4, e5, e6, e7, e8⟩ := atts_open hf1
  have e1' : Value.slice ma ml mc = Value.slice a len cap := by simpa [Value.cells] using e1
  cases e1'
  have e4' : Value.slice pa pl pc = Value.slice b blen bcap := by simpa [Value.cells] using e4
  cases e4'
  have hk2 : Rows.uptoBulk d0 + Rows.uptoBulk d1 ≤ 1048576 := by
    have h9 := of_decide_eq_true hk
    simp only [List.append_nil, Rows.uptoBulkAll] at h9
    omega
  simp only at hb0 e7 e8
  subst e2
  clear hA0 hval0
  refine (judges_walk L pl e5 (by omega) zs (by omega) (fun k hk3 => by have := e8 k hk3; omega) ma pa mc pc W e3 e6).mono fun e W' ⟨he, bel⟩ => ?_
  subst he
  exact ⟨_, rfl, _, _, _, [], _, [], hW', trodAll_mk1 (shut_bool Try.underlying4 _), (trodAll_cons_mk (Below.trod laidOutP (by kernel_rfl) (of_decide_eq_true (by kernel_rfl)) k0 bel lt0) (trodAll_cons_mk (Below.trod laidOutP (by kernel_rfl) (of_decide_eq_true (by kernel_rfl)) k1 bel lt1) trodAll_mk0)), rfl, bel.frame _, fun h => by cases h⟩

set_option maxRecDepth 100000 in
theorem judges_over : Rows.judgesUptoRow.holds Try.pinned (Rows.OpenSpec.upto Rows.judgesSpec) :=
  OpenClaim.holds_of_cond 4 Try.f4 rfl rfl rfl rfl rfl rfl rfl ⟨rfl, rfl, rfl, rfl, rfl⟩ rfl rfl rfl rfl rfl (by kernel_rfl) Try.func4 (by kernel_rfl)
    (of_decide_eq_true (by kernel_rfl)) (by unfold Func.isWrapper; first | (rw [if_pos (by decide +kernel)]; kernel_rfl) | (rw [if_neg (by decide +kernel)]; exact ⟨rfl, rfl⟩))
    (fun os started H enc _ F => judges_lifted os started H enc F)

theorem judges_done : Rows.JudgesUptoSaid := judges_over

end Go.Proofs.Ytejadojilncbjab
