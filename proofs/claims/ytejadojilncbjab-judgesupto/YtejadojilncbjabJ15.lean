import Derived.Test.YtejadojilncbjabJ13
import Derived.Test.YtejadojilncbjabJ14
import Derived.Test.YtejadojilncbjabJ11
namespace Go.Proofs.Ytejadojilncbjab
open Go.RowKit
set_option linter.unusedVariables false
attribute [local go_sem ↓] Go.wp_at_zero Go.wp_at_succ

/-- What Judge tells. -/
def jRes (N x : Nat) : Int := if x = N then -1 else (x : Int)

def JdgIs (w : World) (P : Nat → Prop) (N : Nat) (e : Ending) (w' : World) : Prop := ∃ x : Nat, e = .returned (.int .i64 (jRes N x)) ∧ Lst P N x ∧ Below w.heap.size w w'

set_option maxRecDepth 100000 in
set_option maxHeartbeats 4000000 in
theorem first_any (L : List AttD) (N : Nat) (hN : L.length = N) (hL : N ≤ 2097152) (mem : List Int) (hm : mem.length ≤ 2097152) (hnt : ∀ k, k < N → (atL L k).notes.length ≤ 2097152) (ma a : Option Addr) (mc cp : Nat) (w : World) (hmi : Ints w w.heap.size ma mem) (h : HistIn w w.heap.size a L) :
    Calls Try.prog 16 #[.slice ma mem.length mc, .slice a N cp] w (JdgIs w (Bad (atL L) N mem) N) := by
  have HH : Hid (HistIn w w.heap.size a L) := h
  have HM : Hid (Ints w w.heap.size ma mem) := hmi
  have HNt : Hid (∀ k, k < N → (atL L k).notes.length ≤ 2097152) := hnt
  have HNl : Hid (L.length = N) := hN
  have HIn : Hid (Calls Try.prog 24 #[.slice a N cp] w (InOrd w N (atL L))) := by
    have h9 := inOrder_any L (by omega) a cp w h
    rw [hN] at h9
    exact h9
  clear h hmi hnt hN
  go_enter Try.func16, Try.ntmps16
  go_wp2_with fail
  refine (HIn.out).mono ?_
  rintro e w1 ⟨o, oa, oc, rfl, hol, hO, hoi, hb1⟩
  have HO : Hid (o.length = N ∧ IsOrd (atL L) N o) := ⟨hol, hO⟩
  have HI1 : Hid (NatsIn w1 w1.heap.size oa o) := hoi
  have HB1 : Hid (Below w.heap.size w w1) := hb1
  clear hol hO hoi hb1 HIn
  go_wp2_with fail
  refine (double_any L N HNl.out hL o (HO.out).2 (HO.out).1 a oa cp oc w1 (((HH.out).up HB1.out).mono (HB1.out).size) HI1.out).mono ?_
  rintro e w2 ⟨x1, rfl, hx1, hb2⟩
  have HX1 : Hid (Lst (fun j => j < N ∧ Dbl (atL L) j) N x1) := hx1
  have HB2 : Hid (Below w.heap.size w w2) := (HB1.out).trans (hb2.mono (HB1.out).size)
  have HI2 : Hid (NatsIn w2 w2.heap.size oa o) := fun i hi => by
    obtain ⟨b, h1, h2, h3⟩ := (HI1.out).up hb2 i hi
    exact ⟨b, h1, Nat.lt_of_lt_of_le h2 hb2.size, h3⟩
  clear hx1 hb2 HI1 HB1
  go_wp2_with fail
  refine (late_any L N HNl.out hL o (HO.out).2 (HO.out).1 a oa cp oc w2 (((HH.out).up HB2.out).mono (HB2.out).size) HI2.out).mono ?_
  rintro e w3 ⟨x2, rfl, hx2, hb3⟩
  have HX2 : Hid (Lst (fun j => j < N ∧ Late (atL L) N j) N x2) := hx2
  have HB3 : Hid (Below w.heap.size w w3) := (HB2.out).trans (hb3.mono (HB2.out).size)
  have HI3 : Hid (NatsIn w3 w3.heap.size oa o) := fun i hi => by
    obtain ⟨b, h1, h2, h3⟩ := (HI2.out).up hb3 i hi
    exact ⟨b, h1, Nat.lt_of_lt_of_le h2 hb3.size, h3⟩
  clear hx2 hb3 HI2 HB2
  go_wp2_with fail
  refine (least_any x1 x2 _).mono ?_
  rintro e w4 ⟨rfl, rfl⟩
  have HX3 : Hid (Lst (fun j => (j < N ∧ Dbl (atL L) j) ∨ (j < N ∧ Late (atL L) N j)) N (if x1 < x2 then x1 else x2)) := (HX1.out).or HX2.out
  obtain ⟨x3, hx3⟩ : ∃ x3, x3 = (if x1 < x2 then x1 else x2) := ⟨_, rfl⟩
  rw [← hx3] at HX3 ⊢
  clear hx3 HX1 HX2
  go_wp2_with fail
  refine (misled_any L N HNl.out hL mem hm HNt.out o (HO.out).2 (HO.out).1 ma a oa mc cp oc w4 ((HM.out).up HB3.out) (((HH.out).up HB3.out).mono (HB3.out).size) HI3.out).mono ?_
  rintro e w5 ⟨x4, rfl, hx4, hb5⟩
  have HB5 : Hid (Below w.heap.size w w5) := (HB3.out).trans (hb5.mono (HB3.out).size)
  have HX5 : Hid (Lst (Bad (atL L) N mem) N (if x3 < x4 then x3 else x4)) := ((HX3.out).or hx4).congr fun j => by
    unfold Bad
    constructor
    · rintro ((⟨h1, h2⟩ | ⟨h1, h2⟩) | ⟨h1, h2⟩)
      · exact ⟨h1, Or.inl h2⟩
      · exact ⟨h1, Or.inr (Or.inl h2)⟩
      · exact ⟨h1, Or.inr (Or.inr h2)⟩
    · rintro ⟨h1, h2 | h2 | h2⟩
      · exact Or.inl (Or.inl ⟨h1, h2⟩)
      · exact Or.inl (Or.inr ⟨h1, h2⟩)
      · exact Or.inr ⟨h1, h2⟩
  clear hx4 hb5 HX3 HI3 HB3
  go_wp2_with fail
  refine (least_any x3 x4 _).mono ?_
  rintro e w6 ⟨rfl, rfl⟩
  obtain ⟨x5, hx5⟩ : ∃ x5, x5 = (if x3 < x4 then x3 else x4) := ⟨_, rfl⟩
  rw [← hx5] at HX5 ⊢
  clear hx5
  by_cases hx : x5 = N
  · have hxb : ((x5 : Int) == (N : Int)) = true := by simp [hx]
    have HJ : Hid (jRes N x5 = -1) := if_pos hx
    clear hx
    go_wp2_with fail
    go_ret
    exact ⟨x5, by rw [HJ.out]; rfl, HX5.out, HB5.out⟩
  · have hxb : ((x5 : Int) == (N : Int)) = false := by simp; omega
    have HJ : Hid (jRes N x5 = (x5 : Int)) := if_neg hx
    clear hx
    go_wp2_with fail
    go_ret
    exact ⟨x5, by rw [HJ.out]; rfl, HX5.out, HB5.out⟩

set_option maxHeartbeats 1000000 in
/-- The program's Judge. -/
theorem judge_any (L : List AttD) (N : Nat) (hN : L.length = N) (hL : N ≤ 2097152) (mem : List Int) (hm : mem.length ≤ 2097152) (hnt : ∀ k, k < N → (atL L k).notes.length ≤ 2097152) (ma a : Option Addr) (mc cp : Nat) (w : World) (hmi : Ints w w.heap.size ma mem) (h : HistIn w w.heap.size a L) :
    Calls Try.prog 10 #[.slice ma mem.length mc, .slice a N cp] w (JdgIs w (Bad (atL L) N mem) N) := by
  have HF : Hid (Calls Try.prog 16 #[.slice ma mem.length mc, .slice a N cp] w (JdgIs w (Bad (atL L) N mem) N)) := first_any L N hN hL mem hm hnt ma a mc cp w hmi h
  clear hN hL hm hnt hmi h
  go_enter Try.func10, Try.ntmps10
  go_wp2_with fail
  refine (HF.out).mono ?_
  rintro e w1 ⟨x, rfl, hx, hb⟩
  have HX : Hid (Lst (Bad (atL L) N mem) N x ∧ Below w.heap.size w w1) := ⟨hx, hb⟩
  obtain ⟨z, hz⟩ : ∃ z, z = jRes N x := ⟨_, rfl⟩
  rw [← hz]
  have HZ : Hid (z = jRes N x) := hz
  clear hx hb hz
  go_wp2_with fail
  go_ret
  exact ⟨x, by rw [← HZ.out]; rfl, (HX.out).1, (HX.out).2⟩

end Go.Proofs.Ytejadojilncbjab

namespace Go.Proofs.Ytejadojilncbjab
open Go.RowKit
set_option linter.unusedVariables false
attribute [local go_sem ↓] Go.wp_at_zero Go.wp_at_succ

/-- What Sound tells. -/
def SndIs (w : World) (f : Nat → AttD) (N : Nat) (mem : List Int) (j : Nat) (e : Ending) (w' : World) : Prop := ∃ b : Bool, e = .returned (.bool b) ∧ (b = false ↔ Bad f N mem j) ∧ Below w.heap.size w w'

theorem misled_of {f : Nat → AttD} {N : Nat} {mem : List Int} {j : Nat} {l : List Nat} (h1 : l.Pairwise (Kl f)) (h2 : ∀ i, i ∈ l ↔ (i < N ∧ Kl f i j ∧ 0 < (f i).stamp)) : rdN (f j).notes (wrL f l mem) = false ↔ Misled f N mem j := by
  constructor
  · intro h l' k1 k2
    rw [pw_eq k1 h1 fun x => (k2 x).trans (h2 x).symm]
    exact h
  · intro h
    exact h l h1 h2

set_option maxRecDepth 100000 in
set_option maxHeartbeats 4000000 in
/-- The document's Sound. -/
theorem sound_any (L : List AttD) (N : Nat) (hN : L.length = N) (hL : N ≤ 2097152) (mem : List Int) (hm : mem.length ≤ 2097152) (hnt : ∀ k, k < N → (atL L k).notes.length ≤ 2097152) (j : Nat) (hj : j < N) (ma a : Option Addr) (mc cp : Nat) (w : World) (hmi : Ints w w.heap.size ma mem) (h : HistIn w w.heap.size a L) :
    Calls Try.prog 17 #[.slice ma mem.length mc, .slice a N cp, .int .i64 (j : Int)] w (SndIs w (atL L) N mem j) := by
  have HRg : Hid (∀ wx, Below w.heap.size w wx → Calls Try.prog 30 #[.slice ma mem.length mc, .slice a N cp, .int .i64 (j : Int)] wx (RgtIs wx (atL L) N j mem)) := fun wx hb => right_any L N hN hL mem hm hnt j hj ma a mc cp wx (hmi.up hb) ((h.up hb).mono hb.size)
  have HAh : Hid (∀ (x : Nat) (wx : World), x < N → Below w.heap.size w wx → Calls Try.prog 29 #[.slice a N cp, .int .i64 (x : Int), .int .i64 (j : Int)] wx fun e w' => e = .returned (.bool (decide (Kl (atL L) x j))) ∧ Below wx.heap.size wx w') := fun x wx hx hb => dahead_any L N hN x j hx hj (by omega) a cp wx ((h.up hb).mono hb.size)
  obtain ⟨f, hf⟩ : ∃ f, f = atL L := ⟨_, rfl⟩
  have HAt : Hid (∀ k, k < N → ∃ b off, a = some ⟨b, off, none⟩ ∧ b < w.heap.size ∧ w.cell? ⟨b, off + k * 8 + 2, none⟩ = some (.int .i64 (f k).start) ∧ w.cell? ⟨b, off + k * 8 + 3, none⟩ = some (.int .i64 (f k).fin) ∧ w.cell? ⟨b, off + k * 8 + 5, none⟩ = some (.int .i64 (f k).stamp)) := fun k hk => by
    obtain ⟨b, off, na, nc, ha, hl, c0, c1, c2, c3, c4, c5, _⟩ := h k (by omega)
    exact ⟨b, off, ha, hl, by rw [hf]; exact c2, by rw [hf]; exact c3, by rw [hf]; exact c5⟩
  rw [← hf] at HRg HAh ⊢
  obtain ⟨hb, hoff, ha, hbl, s2, _, s5⟩ := HAt.out j hj
  obtain ⟨SJ, hSJ⟩ : ∃ SJ, SJ = (f j).stamp := ⟨_, rfl⟩
  obtain ⟨TJ, hTJ⟩ : ∃ TJ, TJ = (f j).start := ⟨_, rfl⟩
  rw [← hSJ] at s5
  rw [← hTJ] at s2
  have HSJ : Hid (SJ = (f j).stamp ∧ TJ = (f j).start) := ⟨hSJ, hTJ⟩
  have j0 : (0 : Int) ≤ (j : Int) := by omega
  have j1 : (j : Int) < (N : Int) := by omega
  subst ha
  clear hmi h hN hf hm hnt hSJ hTJ
  go_enter Try.func17, Try.ntmps17
  go_wp2_with fail
  go_loopg [7] (N + 1) (fun m t7 wr => ∃ i : Nat, t7 = .int .i64 (i : Int) ∧ i ≤ N ∧ m = N + 1 - i ∧ Hid (∀ x, x < i → ¬ (x < j ∧ 0 < (f j).stamp ∧ (f x).stamp = (f j).stamp) ∧ ¬ (x ≠ j ∧ 0 < (f x).fin ∧ (f x).fin < (f j).start ∧ ¬ Kl f x j)) ∧ Hid (Below w.heap.size w wr))
  case atStart => exact ⟨0, rfl, by omega, by omega, fun x hx => absurd hx (by omega), Below.refl _ _⟩
  case round =>
    obtain ⟨i, rfl, hi, hgi, HQ, HB⟩ := hrel
    obtain ⟨wi, hwi⟩ : ∃ wi, wi = wr := ⟨_, rfl⟩
    subst hwi
    have hszi := (HB.out).size
    by_cases hiN : i < N
    · obtain ⟨hb', hoff', ha', _, _, c3, c5⟩ := HAt.out i hiN
      cases ha'
      have up : ∀ o, wi.cell? ⟨hb, o, none⟩ = w.cell? ⟨hb, o, none⟩ := fun o => World.cell?_of_block ((HB.out).block hb hbl)
      have d2 := (up _).trans s2
      have d5 := (up _).trans s5
      have e3 := (up _).trans c3
      have e5 := (up _).trans c5
      obtain ⟨SI, hSI⟩ : ∃ SI, SI = (f i).stamp := ⟨_, rfl⟩
      obtain ⟨FI, hFI⟩ : ∃ FI, FI = (f i).fin := ⟨_, rfl⟩
      rw [← hSI] at e5
      rw [← hFI] at e3
      have i0 : (0 : Int) ≤ (i : Int) := by omega
      have i1 : (i : Int) < (N : Int) := by omega
      have hwi1 : IntKind.i64.wrap ((i : Int) + 1) = (i : Int) + 1 := wrapJ9 _ (by omega) (by omega)
      obtain ⟨C1, hC1⟩ : ∃ C1, C1 = decide (i < j ∧ SJ > 0 ∧ SI = SJ) := ⟨_, rfl⟩
      obtain ⟨C2, hC2⟩ : ∃ C2, C2 = decide (i ≠ j ∧ FI > 0 ∧ FI < TJ ∧ ¬ Kl f i j) := ⟨_, rfl⟩
      have HC1 : Hid (C1 = decide (i < j ∧ SJ > 0 ∧ SI = SJ)) := hC1
      have HC2 : Hid (C2 = decide (i ≠ j ∧ FI > 0 ∧ FI < TJ ∧ ¬ Kl f i j)) := hC2
      have HBad1 : Hid (C1 = true → Bad f N mem j) := fun q => by
        rw [hC1] at q
        have q2 := of_decide_eq_true q
        exact ⟨hj, Or.inl ⟨i, q2.1, by rw [← (HSJ.out).1]; exact q2.2.1, by rw [← hSI, ← (HSJ.out).1]; exact q2.2.2⟩⟩
      have HBad2 : Hid (C2 = true → Bad f N mem j) := fun q => by
        rw [hC2] at q
        have q2 := of_decide_eq_true q
        exact ⟨hj, Or.inr (Or.inl ⟨i, hiN, q2.1, by rw [← hFI]; exact q2.2.1, by rw [← hFI, ← (HSJ.out).2]; exact q2.2.2.1, q2.2.2.2⟩)⟩
      have HQn : Hid (C1 = false → C2 = false → ∀ x, x < i + 1 → ¬ (x < j ∧ 0 < (f j).stamp ∧ (f x).stamp = (f j).stamp) ∧ ¬ (x ≠ j ∧ 0 < (f x).fin ∧ (f x).fin < (f j).start ∧ ¬ Kl f x j)) := fun q1 q2 x hx => by
        rw [hC1] at q1
        rw [hC2] at q2
        by_cases hxi : x = i
        · subst hxi
          refine ⟨fun q => of_decide_eq_false q1 ⟨q.1, by rw [(HSJ.out).1]; exact q.2.1, by rw [hSI, (HSJ.out).1]; exact q.2.2⟩, fun q => of_decide_eq_false q2 ⟨q.1, by rw [hFI]; exact q.2.1, by rw [hFI, (HSJ.out).2]; exact q.2.2.1, q.2.2.2⟩⟩
        · exact HQ.out x (by omega)
      have HFI : Hid (FI = (f i).fin) := hFI
      clear hC1 hC2 c3 c5 hSI hFI HQ up
      go_wp2_with fail
      go_cut [38] (fun t wx => t = .bool C1 ∧ Hid (Below wi.heap.size wi wx))
      case first =>
        by_cases g1 : i < j
        · have g1' : (i : Int) < (j : Int) := by omega
          by_cases g2 : SJ > 0
          · by_cases g3 : SI = SJ
            · obtain rfl : C1 = true := (HC1.out).trans (by simp [g1, g2, g3])
              subst g3
              go_quiet (fail)
              go_wp2
              go_meet
              case rel => exact ⟨by first | rfl | simp, belowQ nq⟩
            · obtain rfl : C1 = false := (HC1.out).trans (by simp [g3])
              have g3' : (SI == SJ) = false := by simp [g3]
              go_quiet (fail)
              go_wp2
              go_meet
              case rel => exact ⟨by first | rfl | simp, belowQ nq⟩
          · obtain rfl : C1 = false := (HC1.out).trans (by simp [g2])
            have g2' : decide (SJ > 0) = false := by simpa using g2
            go_quiet (fail)
            go_wp2
            go_meet
            case rel => exact ⟨by first | rfl | simp, belowQ nq⟩
        · have g1' : ¬ (i : Int) < (j : Int) := by omega
          obtain rfl : C1 = false := (HC1.out).trans (by simp [g1])
          go_quiet (fail)
          go_wp2
          go_meet
          case rel => exact ⟨by first | rfl | simp, belowQ nq⟩
      case rest =>
        obtain ⟨rfl, HBc⟩ := hcut
        obtain ⟨wv, hwv⟩ : ∃ wv, wv = wc := ⟨_, rfl⟩
        subst hwv
        have HBv : Hid (Below w.heap.size w wv) := (HB.out).trans ((HBc.out).mono hszi)
        clear d2 d5 e3 e5 HC1
        cases C1 with
        | true =>
          have HX := HBad1.out rfl
          have HX2 : Hid (Bad f N mem j) := HX
          clear HX HBad1 HBad2 HQn
          go_wp2_with fail
          go_ret
          exact ⟨false, rfl, ⟨fun _ => HX2.out, fun _ => rfl⟩, HBv.out⟩
        | false =>
          clear HBad1
          go_wp2_with fail
          refine (HAh.out i _ hiN HBv.out).mono ?_
          rintro e w2 ⟨rfl, hb2⟩
          have HB2 : Hid (Below w.heap.size w w2) := (HBv.out).trans (hb2.mono (HBv.out).size)
          have hsz2 := (HB2.out).size
          obtain ⟨K, hK⟩ : ∃ K, K = decide (Kl f i j) := ⟨_, rfl⟩
          rw [← hK]
          have HK : Hid (K = decide (Kl f i j)) := hK
          have up2 : ∀ o, w2.cell? ⟨hb, o, none⟩ = w.cell? ⟨hb, o, none⟩ := fun o => World.cell?_of_block ((HB2.out).block hb hbl)
          obtain ⟨hb', hoff', ha', _, _, c3, c5⟩ := HAt.out i hiN
          cases ha'
          have d2 := (up2 _).trans s2
          have e3 := (up2 _).trans c3
          rw [← show FI = _ from HFI.out] at e3
          clear c3 c5 up2 hK
          go_wp2_with fail
          go_cut [70] (fun t wx => t = .bool C2 ∧ Hid (Below w2.heap.size w2 wx))
          case first =>
            by_cases g1 : i = j
            · obtain rfl : C2 = false := (HC2.out).trans (by simp [g1])
              have g1' : ((i : Int) != (j : Int)) = false := by simp [g1]
              clear g1
              go_quiet (fail)
              go_wp2
              go_meet
              case rel => exact ⟨by first | rfl | simp, belowQ nq⟩
            · have g1' : ((i : Int) != (j : Int)) = true := by simp; omega
              by_cases g2 : FI > 0
              · by_cases g3 : FI < TJ
                · cases K with
                  | true =>
                    have hKt : Kl f i j := of_decide_eq_true (HK.out).symm
                    obtain rfl : C2 = false := (HC2.out).trans (by simp [hKt])
                    clear hKt g1
                    go_quiet (fail)
                    go_wp2
                    go_meet
                    case rel => exact ⟨by first | rfl | simp, belowQ nq⟩
                  | false =>
                    have hKf : ¬ Kl f i j := of_decide_eq_false (HK.out).symm
                    obtain rfl : C2 = true := (HC2.out).trans (by simp [hKf, g1, g2, g3])
                    clear hKf g1
                    go_quiet (fail)
                    go_wp2
                    go_meet
                    case rel => exact ⟨by first | rfl | simp, belowQ nq⟩
                · obtain rfl : C2 = false := (HC2.out).trans (by simp [g3])
                  have g3' : decide (FI < TJ) = false := by simpa using g3
                  clear g1
                  go_quiet (fail)
                  go_wp2
                  go_meet
                  case rel => exact ⟨by first | rfl | simp, belowQ nq⟩
              · obtain rfl : C2 = false := (HC2.out).trans (by simp [g2])
                have g2' : decide (FI > 0) = false := by simpa using g2
                clear g1
                go_quiet (fail)
                go_wp2
                go_meet
                case rel => exact ⟨by first | rfl | simp, belowQ nq⟩
          case rest =>
            obtain ⟨rfl, HBd⟩ := hcut
            have HBe : Hid (Below w.heap.size w wc) := (HB2.out).trans ((HBd.out).mono hsz2)
            clear d2 e3 HC2
            cases C2 with
            | true =>
              have HX2 : Hid (Bad f N mem j) := HBad2.out rfl
              clear HBad2 HQn
              go_wp2_with fail
              go_ret
              exact ⟨false, rfl, ⟨fun _ => HX2.out, fun _ => rfl⟩, HBe.out⟩
            | false =>
              have HQ2 : Hid (∀ x, x < i + 1 → ¬ (x < j ∧ 0 < (f j).stamp ∧ (f x).stamp = (f j).stamp) ∧ ¬ (x ≠ j ∧ 0 < (f x).fin ∧ (f x).fin < (f j).start ∧ ¬ Kl f x j)) := HQn.out (by first | rfl | trivial) (by first | rfl | trivial)
              clear HBad2 HQn
              go_wp2_with fail
              go_roundg (N + 1 - (i + 1))
              case rel => exact ⟨i + 1, by simp, by omega, rfl, HQ2, HBe⟩
              case measure => omega
    · obtain rfl : i = N := by omega
      have hiI : ¬ (i : Int) < (i : Int) := by omega
      have HNo : Hid (¬ Dbl f j ∧ ¬ Late f i j) := ⟨fun ⟨x, q1, q2, q3⟩ => (HQ.out x (by omega)).1 ⟨q1, q2, q3⟩, fun ⟨x, q0, q⟩ => (HQ.out x q0).2 q⟩
      clear HQ
      go_wp2_with fail
      refine (HRg.out _ HB.out).mono ?_
      rintro e w2 ⟨l, h1, h2, rfl, hb2⟩
      have HMs : Hid (rdN (f j).notes (wrL f l mem) = false ↔ Misled f i mem j) := misled_of h1 h2
      have HB2 : Hid (Below w.heap.size w w2) := (HB.out).trans (hb2.mono hszi)
      obtain ⟨b, hbb⟩ : ∃ b, b = rdN (f j).notes (wrL f l mem) := ⟨_, rfl⟩
      rw [← hbb] at HMs ⊢
      clear h1 h2 hb2 hbb
      go_wp2_with fail
      go_ret
      refine ⟨b, rfl, ?_, HB2.out⟩
      rw [HMs.out]
      exact ⟨fun q => ⟨hj, Or.inr (Or.inr q)⟩, fun q => q.2.elim (fun r => absurd r (HNo.out).1) fun r => r.elim (fun r => absurd r (HNo.out).2) id⟩

set_option maxRecDepth 100000 in
set_option maxHeartbeats 2000000 in
/-- The document's Judge. -/
theorem refJudge_any (L : List AttD) (N : Nat) (hN : L.length = N) (hL : N ≤ 2097152) (mem : List Int) (hm : mem.length ≤ 2097152) (hnt : ∀ k, k < N → (atL L k).notes.length ≤ 2097152) (ma a : Option Addr) (mc cp : Nat) (w : World) (hmi : Ints w w.heap.size ma mem) (h : HistIn w w.heap.size a L) :
    Calls Try.prog 11 #[.slice ma mem.length mc, .slice a N cp] w (JdgIs w (Bad (atL L) N mem) N) := by
  have HSd : Hid (∀ (j : Nat) (wx : World), j < N → Below w.heap.size w wx → Calls Try.prog 17 #[.slice ma mem.length mc, .slice a N cp, .int .i64 (j : Int)] wx (SndIs wx (atL L) N mem j)) := fun j wx hj hb => sound_any L N hN hL mem hm hnt j hj ma a mc cp wx (hmi.up hb) ((h.up hb).mono hb.size)
  obtain ⟨f, hf⟩ : ∃ f, f = atL L := ⟨_, rfl⟩
  rw [← hf] at HSd ⊢
  clear hmi h hN hm hnt hf
  go_enter Try.func11, Try.ntmps11
  go_wp2_with fail
  go_loopg [5] (N + 1) (fun m t5 wr => ∃ j : Nat, t5 = .int .i64 (j : Int) ∧ j ≤ N ∧ m = N + 1 - j ∧ Hid (∀ k, k < j → ¬ Bad f N mem k) ∧ Hid (Below w.heap.size w wr))
  case atStart => exact ⟨0, rfl, by omega, by omega, fun k hk => absurd hk (by omega), Below.refl _ _⟩
  case round =>
    obtain ⟨j, rfl, hj, hgj, HQ, HB⟩ := hrel
    obtain ⟨wi, hwi⟩ : ∃ wi, wi = wr := ⟨_, rfl⟩
    subst hwi
    by_cases hjN : j < N
    · have hji : (j : Int) < (N : Int) := by omega
      have hwj : IntKind.i64.wrap ((j : Int) + 1) = (j : Int) + 1 := wrapJ9 _ (by omega) (by omega)
      go_wp2_with fail
      refine (HSd.out j _ hjN HB.out).mono ?_
      rintro e w2 ⟨b, rfl, hbb, hb2⟩
      have HB2 : Hid (Below w.heap.size w w2) := (HB.out).trans (hb2.mono (HB.out).size)
      have HBb : Hid (b = false ↔ Bad f N mem j) := hbb
      clear hbb hb2
      cases b with
      | true =>
        have HQn : Hid (∀ k, k < j + 1 → ¬ Bad f N mem k) := fun k hk => by
          by_cases hkj : k = j
          · subst hkj
            intro q
            have := HBb.out.2 q
            cases this
          · exact HQ.out k (by omega)
        clear HQ HBb
        go_wp2_with fail
        go_roundg (N + 1 - (j + 1))
        case rel => exact ⟨j + 1, by simp, by omega, rfl, HQn, HB2⟩
        case measure => omega
      | false =>
        have HE : Hid (Lst (Bad f N mem) N j ∧ jRes N j = (j : Int)) := ⟨⟨by omega, Or.inr (HBb.out.1 rfl), fun k hk => by
          rcases Nat.lt_or_ge k j with q | q
          · exact absurd hk (HQ.out k q)
          · exact q⟩, if_neg (by omega)⟩
        clear HQ HBb
        go_wp2_with fail
        go_ret
        exact ⟨j, by rw [(HE.out).2]; rfl, (HE.out).1, HB2.out⟩
    · obtain rfl : j = N := by omega
      have hji : ¬ (j : Int) < (j : Int) := by omega
      have HE : Hid (Lst (Bad f j mem) j j ∧ jRes j j = -1) := ⟨⟨Nat.le_refl _, Or.inl rfl, fun k hk => absurd hk (HQ.out k hk.1)⟩, if_pos rfl⟩
      clear HQ
      go_wp2_with fail
      go_ret
      exact ⟨j, by rw [(HE.out).2]; rfl, (HE.out).1, HB.out⟩

end Go.Proofs.Ytejadojilncbjab
