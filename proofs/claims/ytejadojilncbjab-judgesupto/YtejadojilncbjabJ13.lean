import Derived.Test.YtejadojilncbjabJ12
import Derived.Test.YtejadojilncbjabJ04
import Derived.Deep.LoopGhost
namespace Go.Proofs.Ytejadojilncbjab
open Go.RowKit
set_option linter.unusedVariables false
attribute [local go_sem ↓] Go.wp_at_zero Go.wp_at_succ

set_option maxRecDepth 100000 in
set_option maxHeartbeats 4000000 in
/-- firstMisled. -/
theorem misled_any (L : List AttD) (N : Nat) (hN : L.length = N) (hL : N ≤ 2097152) (mem : List Int) (hm : mem.length ≤ 2097152) (hnt : ∀ k, k < N → (atL L k).notes.length ≤ 2097152) (o : List Nat) (O : IsOrd (atL L) N o) (ho : o.length = N) (ma a oa : Option Addr) (mc cp oc : Nat) (w : World) (hmi : Ints w w.heap.size ma mem) (h : HistIn w w.heap.size a L) (hoi : NatsIn w w.heap.size oa o) :
    Calls Try.prog 28 #[.slice ma mem.length mc, .slice a N cp, .slice oa N oc] w (LstIs w (fun j => j < N ∧ Misled (atL L) N mem j) N) := by
  obtain ⟨f, hf⟩ : ∃ f, f = atL L := ⟨_, rfl⟩
  rw [← hf] at O hnt ⊢
  have HH : Hid (∀ k, k < N → ∃ b off na nc, a = some ⟨b, off, none⟩ ∧ b < w.heap.size ∧ AttS b (off + k * 8) (f k) na (f k).notes.length nc w ∧ NotesIn w w.heap.size na (f k).notes) := fun k hk => by
    obtain ⟨b, off, na, nc, ha, hl, hx, hn⟩ := h.att (k := k) (by omega)
    exact ⟨b, off, na, nc, ha, hl, by rw [hf]; exact hx, by rw [hf]; exact hn⟩
  have HO : Hid (IsOrd f N o) := O
  have HOl : Hid (o.length = N) := ho
  have HI : Hid (NatsIn w w.heap.size oa o) := hoi
  have HNt : Hid (∀ k, k < N → (f k).notes.length ≤ 2097152) := hnt
  have HNw : Hid (Calls Try.prog 37 #[.slice ma mem.length mc] w (NewJ w mem)) := newWords_any mem hm ma mc w hmi
  clear h hoi O ho hf hN hnt hmi
  go_enter Try.func28, Try.ntmps28
  go_wp2_with fail
  refine (HNw.out).mono ?_
  rintro e w2 ⟨vb, rfl, hv2, hvb, hb2⟩
  obtain ⟨w3, hw3⟩ : ∃ w3, w3 = w2.alloc (.cells #[.slice (some ⟨vb, 0, none⟩) mem.length mem.length, .slice none 0 0] 92) := ⟨_, rfl⟩
  have HR3 : Hid (WdR w3 w.heap.size w2.heap.size vb mem none 0 []) := by
    rw [hw3]
    exact ⟨Blk.new w2 _ _, hv2.alloc _, World.ownsRow_nil _ _ _ _, hb2.size, hvb⟩
  have HB3 : Hid (Below w.heap.size w w3) := by rw [hw3]; exact hb2.alloc hb2.size _
  clear hv2 hvb hb2 HNw
  go_upto_region 3 with fail
  rw [← hw3]
  obtain ⟨p, hp⟩ : ∃ p, p = w2.heap.size := ⟨_, rfl⟩
  rw [← hp] at HR3 ⊢
  clear hw3 hp
  go_wp2_with fail
  go_loopg [7, 18] (N + 1) (fun m t7 t18 wr => ∃ (x k : Nat) (y : List Int) (ua : Option Addr) (uc : Nat) (U : List (Nat × Int)), t7 = .int .i64 (x : Int) ∧ t18 = .int .i64 (k : Int) ∧ k ≤ N ∧ m = N + 1 - k ∧ Hid (y = wrP f (o.take k) mem) ∧ Hid (Lst (PosIn (fun p => p < k) o (Misled f N mem)) N x) ∧ Hid (WdR wr w.heap.size p vb y ua uc U) ∧ Hid (Below w.heap.size w wr))
  case atStart => exact ⟨N, 0, mem, none, 0, [], rfl, rfl, by omega, by omega, rfl, posN fun p _ q => by omega, HR3, HB3⟩
  case round =>
    obtain ⟨x, k, y, ua, uc, U, rfl, rfl, hk, hgk, HY, HLs, HR, HB⟩ := hrel
    obtain ⟨wi, hwi⟩ : ∃ wi, wi = wr := ⟨_, rfl⟩
    subst hwi
    clear HR3 HB3
    by_cases hkN : k < N
    · have hol := HOl.out
      obtain ⟨ob, hoa, hobl, hc⟩ := HI.out k (by omega)
      have hxl := ord_lt HO.out (i := k) (by omega)
      have hmi := misled_iff (mem := mem) HO.out (ord_at (o := o) (i := k) (by omega))
      have htk := takSn (o := o) (i := k) (by omega)
      have HT := fun hq => posT (R2 := fun p => p < k + 1) (i := k) HLs.out (fun p => by omega) (by omega) hq (Nat.le_of_lt hxl)
      have HFf := fun hq => posF (R2 := fun p => p < k + 1) (i := k) HLs.out (fun p => by omega) hq
      rw [hmi, ← show y = _ from HY.out] at HT HFf
      obtain ⟨X, hX⟩ : ∃ X, X = o.getD k 0 := ⟨_, rfl⟩
      rw [← hX] at hc hxl HT HFf htk
      have HYn : Hid ((if 0 < (f X).stamp then wrN (f X).notes y else y) = wrP f (o.take (k + 1)) mem) := by
        show _ = _
        rw [htk, wrP_snoc, ← show y = _ from HY.out]
      have hyl : y.length = mem.length := by rw [HY.out, wrP_len]
      obtain ⟨hb, hoff, na, nc, ha, hbl, hat, hnn⟩ := HH.out X hxl
      obtain ⟨c0, c1, c2, c3, c4, c5, c6, c7⟩ := AttS.up hat HB.out hbl
      have hc2 : wi.cell? ⟨ob, k, none⟩ = some (.int .i64 (X : Int)) := (World.cell?_of_block ((HB.out).block ob hobl)).trans hc
      obtain ⟨Z, hZ⟩ : ∃ Z, Z = f X := ⟨_, rfl⟩
      have hZn := HNt.out X hxl
      rw [← hZ] at c0 c1 c2 c3 c4 c5 c6 c7 HT HFf HYn hnn hZn
      have HRp : Hid (Calls Try.prog 38 #[.pointer (some ⟨p, 0, none⟩), .agg #[.int .i64 Z.thread, .int .i64 Z.job, .int .i64 Z.start, .int .i64 Z.fin, .int .i64 Z.valid, .int .i64 Z.stamp, .int .i64 Z.fate, .slice na Z.notes.length nc]] wi (RepIs wi w.heap.size p vb (if 0 < Z.stamp then wrN Z.notes y else y) (rdN Z.notes y))) :=
        replay_any w.heap.size p vb y ua uc U Z na nc (by omega) hZn wi (HB.out).size HR.out (hnn.up HB.out)
      obtain ⟨y2, hy2⟩ : ∃ y2, y2 = (if 0 < Z.stamp then wrN Z.notes y else y) := ⟨_, rfl⟩
      obtain ⟨b, hbb⟩ : ∃ b, b = rdN Z.notes y := ⟨_, rfl⟩
      rw [← hy2] at HYn HRp
      rw [← hbb] at HRp HT HFf
      have k0 : (0 : Int) ≤ (k : Int) := by omega
      have k1 : (k : Int) < (N : Int) := by omega
      have x0 : (0 : Int) ≤ (X : Int) := by omega
      have x1 : (X : Int) < (N : Int) := by omega
      have hwk : IntKind.i64.wrap ((k : Int) + 1) = (k : Int) + 1 := wrapJ9 _ (by omega) (by omega)
      have HLe : Hid (∀ wx, Calls Try.prog 26 #[.int .i64 (x : Int), .int .i64 (X : Int)] wx fun e w' => e = .returned (.int .i64 ((if x < X then x else X : Nat) : Int)) ∧ w' = wx) := least_any x X
      subst hoa ha
      clear hX hZ hmi htk hol hc hat hnn hy2 hbb HLs HR
      go_wp2_with fail
      refine (HRp.out).mono ?_
      rintro e wz ⟨rfl, ua2, uc2, U2, hRz, hBz⟩
      have HRz : Hid (WdR wz w.heap.size p vb y2 ua2 uc2 U2) := hRz
      have HBz : Hid (Below w.heap.size w wz) := (HB.out).trans hBz
      clear hRz hBz HRp c0 c1 c2 c3 c4 c5 c6 c7 hc2
      cases b with
      | true =>
        have HNn : Hid (Lst (PosIn (fun p => p < k + 1) o (Misled f N mem)) N x) := HFf (by simp)
        clear HT HFf HLe
        go_wp2_with fail
        go_roundg (N + 1 - (k + 1))
        case rel => exact ⟨x, k + 1, y2, ua2, uc2, U2, rfl, by simp, by omega, rfl, HYn, HNn, HRz, HBz⟩
        case measure => omega
      | false =>
        have HNn : Hid (Lst (PosIn (fun p => p < k + 1) o (Misled f N mem)) N (if x < X then x else X)) := HT rfl
        obtain ⟨xn, hxn⟩ : ∃ xn, xn = (if x < X then x else X) := ⟨_, rfl⟩
        rw [← hxn] at HNn HLe
        clear HT HFf hxn
        go_wp2_with fail
        refine (HLe.out _).mono ?_
        rintro e w1 ⟨rfl, rfl⟩
        go_wp2_with fail
        go_roundg (N + 1 - (k + 1))
        case rel => exact ⟨xn, k + 1, y2, ua2, uc2, U2, rfl, by simp, by omega, rfl, HYn, HNn, HRz, HBz⟩
        case measure => omega
    · have hkI : ¬ (k : Int) < (N : Int) := by omega
      have HE : Hid (Lst (fun j => j < N ∧ Misled f N mem j) N x) := posE HLs.out HO.out fun p hp => by have := HOl.out; omega
      clear HLs
      go_wp2_with fail
      go_ret
      exact ⟨x, rfl, HE.out, HB.out⟩

end Go.Proofs.Ytejadojilncbjab

namespace Go.Proofs.Ytejadojilncbjab
open Go.RowKit
set_option linter.unusedVariables false
attribute [local go_sem ↓] Go.wp_at_zero Go.wp_at_succ

/-- A number of a life is stored. -/
theorem LifeR.set {E : Env} {H : Hd} {B p eb i : Nat} {w : World} {s s' : LS} {v : Value} (hL : LifeR E H B p eb w s) (h1 : s'.list = s.list) (h2 : s'.ends = s.ends) (ha : ∀ la lc, (lifeArr E H la lc s).setIfInBounds i v = lifeArr E H la lc s') :
    LifeR E H B p eb (w.setCell ⟨p, i, none⟩ v) s' ∧ Kp [75] B p eb w (w.setCell ⟨p, i, none⟩ v) := by
  obtain ⟨la, lc, hb, hl⟩ := hL.life
  have hk : Kp [75] B p eb w (w.setCell ⟨p, i, none⟩ v) := Kp.only (Only.refl _ _).set hL.stat.size hb (by simp) (Or.inl rfl)
  refine ⟨⟨hL.stat.keep hk, ⟨la, lc, hb.set.congr (ha la lc), by rw [h1]; exact hl.keep hk (by simp) (by simp)⟩, ?_, hL.pB, hL.eB, hL.pe⟩, hk⟩
  rw [h2]
  exact hL.ends.imp id (fun ⟨a, b⟩ => ⟨a, b.keep hk (by simp)⟩)

end Go.Proofs.Ytejadojilncbjab
