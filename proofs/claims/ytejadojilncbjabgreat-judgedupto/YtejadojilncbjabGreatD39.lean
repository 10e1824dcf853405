import Derived.Test.YtejadojilncbjabGreatD38
import Derived.Test.YtejadojilncbjabGreatD01
import Derived.Test.YtejadojilncbjabGreatD00
import Derived.Deep.RegionHeld3
import Derived.Deep.DeepCutAuto
namespace Go.Proofs.YtejadojilncbjabGreat
open Go.RowKit
set_option linter.unusedVariables false
attribute [local go_sem ↓] Go.wp_at_zero Go.wp_at_succ
def KToldIs (w : World) (l : List AttD) (how : Int) (e : Ending) (w' : World) : Prop :=
 ∃ (la : Option Addr) (lc : Nat) (AN : List (AttD × Value)), AN.map (·.1) = l ∧ e = .returned (.tuple #[.slice la AN.length lc, .int .i64 how]) ∧ AttsRow w' w.heap.size la lc AN ∧ NotesOf w' AN ∧ Below w.heap.size w w'
set_option maxRecDepth 100000 in
set_option maxHeartbeats 1000000 in
theorem ktold_any (G : HistoryGood) (c : Cfg) (mem : List Int) (jobs : List (Int × List InsD)) (ps : List PickD) (ma ja pa : Option Addr) (mc jc pc : Nat) (w : World) (hps : ps.length ≤ 2 ^ 21) (hml : mem.length ≤ maxLen) (hjl : jobs.length ≤ maxLen)
  (hm : Ints w w.heap.size ma mem) (hj : JobsRep w w.heap.size ja jobs) (hp : PicksIn w w.heap.size pa ps) :
  Calls Tryz.prog 8 #[.agg #[.int .i64 c.t, .int .i64 c.wd, .int .i64 c.s, .int .i64 c.g, .int .i64 c.r, .int .i64 c.cp, .int .i64 c.f, .slice ma mem.length mc, .slice ja jobs.length jc], .slice pa ps.length pc] w (KToldIs w (histA c mem jobs ps) (howN c mem jobs)) := by
 have HM : Hid (Ints w w.heap.size ma mem) := hm
 have HJ : Hid (JobsRep w w.heap.size ja jobs) := hj
 have HP : Hid (PicksIn w w.heap.size pa ps) := hp
 have HG : Hid HistoryGood := G
 have HN : Hid (ps.length ≤ 2 ^ 21) := hps
 have hps' : ps.length ≤ 2097152 := hps
 obtain ⟨ER, HER⟩ : ∃ ER, Hid (errS c mem jobs = ER) := ⟨_, rfl⟩
 obtain ⟨HW, HHW⟩ : ∃ HW, Hid (howN c mem jobs = HW) := ⟨_, rfl⟩
 obtain ⟨L, HL⟩ : ∃ L, Hid (histA c mem jobs ps = L) := ⟨_, rfl⟩
 rw [show histA c mem jobs ps = L from HL.out, show howN c mem jobs = HW from HHW.out]
 clear hm hj hp G hps
 go_enter Tryz.func8, Tryz.ntmps8
 go_wp2_with fail
 obtain ⟨w0, hw0⟩ : ∃ w0, w0 = w.alloc (.cells #[.int .i64 c.t, .int .i64 c.wd, .int .i64 c.s, .int .i64 c.g, .int .i64 c.r, .int .i64 c.cp, .int .i64 c.f, .slice ma mem.length mc, .slice ja jobs.length jc] 27) := ⟨_, rfl⟩
 have hB0 : Below w.heap.size w w0 := by rw [hw0]; exact (Below.refl w.heap.size w).alloc (Nat.le_refl _) _
 have hSb : Blk w0 w.heap.size 27 #[.int .i64 c.t, .int .i64 c.wd, .int .i64 c.s, .int .i64 c.g, .int .i64 c.r, .int .i64 c.cp, .int .i64 c.f, .slice ma mem.length mc, .slice ja jobs.length jc] := by rw [hw0]; exact Blk.new w 27 _
 rw [← hw0]
 clear hw0
 refine (HG.out c mem jobs ps ma ja pa mc jc pc w0 (Nat.le_trans HN.out (by decide)) hml hjl ((HM.out).up hB0) ((HJ.out).up2 hB0) ((HP.out).up2 hB0)).mono ?_
 rintro e w1 ⟨la, lc, AN, hAN, rfl, hl1, hn1, hb1⟩
 rw [show errS c mem jobs = ER from HER.out]
 have hB1 : Below w.heap.size w w1 := hB0.trans (hb1.mono hB0.size)
 have HSb1 : Hid (Blk w1 w.heap.size 27 #[.int .i64 c.t, .int .i64 c.wd, .int .i64 c.s, .int .i64 c.g, .int .i64 c.r, .int .i64 c.cp, .int .i64 c.f, .slice ma mem.length mc, .slice ja jobs.length jc]) := hSb.below hb1 hSb.lt
 have hsc := (HSb1.out).cell
 have HB1 : Hid (Below w.heap.size w w1) := hB1
 have HA1 : Hid (AN.map (·.1) = histA c mem jobs ps ∧ AttsRow w1 w.heap.size la lc AN ∧ NotesOf w1 AN) := ⟨hAN, ownsRow_low hl1 hB0.size, hn1⟩
 have HM1 : Hid (Ints w1 w1.heap.size ma mem) := (HM.out).up hB1
 have HJ1 : Hid (JobsRep w1 w1.heap.size ja jobs) := (HJ.out).up2 hB1
 have HP1 : Hid (PicksIn w1 w1.heap.size pa ps) := (HP.out).up2 hB1
 clear hB0 hSb hl1 hb1 hB1 HM HJ HP hAN hn1 HG
 go_wp2_with fail
 refine (answered_any c mem jobs ER _ ma ja mc jc w1 hml hjl HM1.out HJ1.out).mono ?_
 rintro e w2 ⟨rfl, hb2⟩
 rw [show errS c mem jobs = ER from HER.out]
 have HB2 : Hid (Below w.heap.size w w2) := (HB1.out).trans (hb2.mono (HB1.out).size)
 have HSb2 : Hid (Blk w2 w.heap.size 27 #[.int .i64 c.t, .int .i64 c.wd, .int .i64 c.s, .int .i64 c.g, .int .i64 c.r, .int .i64 c.cp, .int .i64 c.f, .slice ma mem.length mc, .slice ja jobs.length jc]) := (HSb1.out).below hb2 (HSb1.out).lt
 have HA2 : Hid (AN.map (·.1) = histA c mem jobs ps ∧ AttsRow w2 w.heap.size la lc AN ∧ NotesOf w2 AN) := ⟨(HA1.out).1, ownsRow_below (HA1.out).2.1 hb2, ((HA1.out).2.2).below hb2⟩
 have HJ2 : Hid (JobsRep w2 w2.heap.size ja jobs) := (HJ1.out).up2 hb2
 have HP2 : Hid (PicksIn w2 w2.heap.size pa ps) := (HP1.out).up2 hb2
 clear hb2 hsc HSb1 HM1 HJ1 HP1 HB1 HA1
 by_cases he : ER = 0
 ·have HSo : Hid (SetupOk c mem jobs ∧ ∀ j ∈ jobs, 0 ≤ j.1 ∧ j.1 < c.t) := errS_ok ((HER.out).trans he)
  have HWe : Hid (HW = 2) := (HHW.out).symm.trans (if_pos ((HER.out).trans he))
  have hAn : answeredN ER ER ((AN.length : Int) == 0) = 2 := by unfold answeredN; rw [if_neg (by simp), if_pos he]
  have HNe : Hid (∀ k, k < ps.length → worksB jobs (pickAt ps k).thread = true → AN.length ≠ 0) := fun k hk hw e => by
   have h1 := hist_some (R := ⟨c, mem, jobs, ps⟩) ⟨(HSo.out).1.cfg, (HSo.out).1.mw, (HSo.out).1.mb⟩ (HSo.out).2 hk hw
   have h2 := (HA2.out).1
   rw [show histA c mem jobs ps = (⟨c, mem, jobs, ps⟩ : Rn).hist from if_pos ((HER.out).trans he)] at h2
   rw [List.length_eq_zero_iff.1 e] at h2
   exact h1 h2.symm
  have HJ8 : Hid (jobs.length ≤ 2 ^ 40) := Nat.le_trans (HSo.out).1.j8 (by decide)
  rw [hAn]
  clear hAn he
  go_wp2_with fail
  go_loopg [9] (ps.length + 1) (fun m t9 wr => ∃ (k : Nat), t9 = .int .i64 (k : Int) ∧ k ≤ ps.length ∧ m = ps.length + 1 - k ∧ Hid (Below w2.heap.size w2 wr))
  case atStart => exact ⟨0, rfl, by omega, by omega, Below.refl _ _⟩
  case round =>
   obtain ⟨k, rfl, hk, hgk, HBx⟩ := hrel
   by_cases hkl : k < ps.length
   ·obtain ⟨pb, poff, hpa, hpb, hpc0, _⟩ := HP2.out k hkl
    have hq0 := (World.cell?_of_block (a := ⟨pb, poff + k * 2, none⟩) ((HBx.out).block pb hpb)).trans hpc0
    have hk0 : (0 : Int) ≤ (k : Int) := by omega
    have hk1 : (k : Int) < (ps.length : Int) := by omega
    have hwk : IntKind.i64.wrap ((k : Int) + 1) = (k : Int) + 1 := wrapF _ (by omega) (by omega)
    have hszx : w2.heap.size ≤ wr.heap.size := (HBx.out).size
    have hsx : ∀ i, wr.cell? ⟨w.heap.size, i, none⟩ = (#[.int .i64 c.t, .int .i64 c.wd, .int .i64 c.s, .int .i64 c.g, .int .i64 c.r, .int .i64 c.cp, .int .i64 c.f, .slice ma mem.length mc, .slice ja jobs.length jc] : Array Value)[i]? := ((HSb2.out).below HBx.out (HSb2.out).lt).cell
    subst hpa
    have HNk : Hid (worksB jobs (pickAt ps k).thread = true → AN.length ≠ 0) := HNe.out k hkl
    obtain ⟨th, hth⟩ : ∃ th, th = (pickAt ps k).thread := ⟨_, rfl⟩
    rw [← hth] at hq0 HNk
    have HWK : Hid (∀ wx, Below wr.heap.size wr wx → Calls Tryz.prog 31 #[.agg #[.int .i64 c.t, .int .i64 c.wd, .int .i64 c.s, .int .i64 c.g, .int .i64 c.r, .int .i64 c.cp, .int .i64 c.f, .slice ma mem.length mc, .slice ja jobs.length jc], .int .i64 th] wx fun e w' => e = .returned (.bool (worksB jobs th)) ∧ Below wx.heap.size wx w') := fun wx hb => works_any c mem jobs th ma ja mem.length mc jc wx HJ8.out ((((HJ2.out).up HBx.out).mono hszx).up2 hb)
    clear hpc0 hth
    go_wp2_with fail
    go_cut [10] (fun t wx => t = .bool (worksB jobs th) ∧ Hid (Below wr.heap.size wr wx))
    case first =>
     go_region_with (go_at_call 31; refine (HWK.out _ (by first | exact Below.refl _ _ | exact below_drew wr)).mono ?_; rintro e w4 ⟨rfl, hb4⟩)
     all_goals
      go_wp2
      go_meet
      case rel => exact ⟨rfl, by first | assumption | exact of_drew (by assumption)⟩
    case rest =>
     obtain ⟨rfl, HBc⟩ := hcut
     clear hq0 hsx HWK
     cases hwj : worksB jobs th with
     | false =>
      clear HNk
      go_wp2_with fail
      go_roundg (gk - 1)
      case rel => exact ⟨k + 1, by simp, by omega, by omega, (HBx.out).trans ((HBc.out).mono hszx)⟩
      case measure => omega
     | true =>
      have hn0 := HNk.out hwj
      have hnb : ((AN.length : Int) == 0) = false := by rw [beq_eq_false_iff_ne]; omega
      go_wp2_with fail
      go_roundg (gk - 1)
      case rel => exact ⟨k + 1, by simp, by omega, by omega, (HBx.out).trans ((HBc.out).mono hszx)⟩
      case measure => omega
   ·have hke : ¬ (k : Int) < (ps.length : Int) := by omega
    have HF : Hid (AN.map (·.1) = L ∧ AttsRow wr w.heap.size la lc AN ∧ NotesOf wr AN ∧ Below w.heap.size w wr) := ⟨(HA2.out).1.trans HL.out, ownsRow_below (HA2.out).2.1 HBx.out, ((HA2.out).2.2).below HBx.out, (HB2.out).trans ((HBx.out).mono (HB2.out).size)⟩
    clear HA2 HL HBx HB2 HNe HP2 HJ2 HSb2
    go_wp2_with fail
    exact bodyPost_ret (v := .tuple #[.slice la AN.length lc, .int .i64 2]) (by simp [results, Tryz.results8, go_sem]) rfl ⟨la, lc, AN, (HF.out).1, by rw [HWe.out], (HF.out).2⟩
 ·have hA : AN = [] := by
   have h2 := (HA2.out).1
   rw [show histA c mem jobs ps = [] from if_neg (by rw [HER.out]; exact he)] at h2
   exact List.map_eq_nil_iff.1 h2
  have HLe : Hid (L = []) := (HL.out).symm.trans (if_neg (by rw [HER.out]; exact he))
  have HWe : Hid (HW = 1) := (HHW.out).symm.trans (if_neg (by rw [HER.out]; exact he))
  have hAn : answeredN ER ER ((AN.length : Int) == 0) = 1 := by unfold answeredN; rw [if_neg (by simp), if_neg he, hA]; rfl
  rw [hAn]
  clear hA hAn he HL HER HHW HA2
  go_wp2_with fail
  exact bodyPost_ret (v := .tuple #[.slice none 0 0, .int .i64 1]) (by simp [results, Tryz.results8, go_sem]) rfl ⟨none, 0, [], by rw [HLe.out]; rfl, by rw [HWe.out]; rfl, World.ownsRow_nil _ _ _ _, fun q hq => absurd hq (by simp), HB2.out⟩
end Go.Proofs.YtejadojilncbjabGreat
namespace Go.Proofs.YtejadojilncbjabGreat
set_option linter.unusedVariables false
def pT (a : AttD) : Int := if 0 < a.stamp then a.stamp else a.valid
def pA (a : AttD) : Int := if 0 < a.stamp then 0 else 1
def BefJ (a b : AttD) : Prop := pT a < pT b ∨ (pT a = pT b ∧ pA a < pA b)
def Kl (f : Nat → AttD) (i j : Nat) : Prop := pT (f i) < pT (f j) ∨ (pT (f i) = pT (f j) ∧ (pA (f i) < pA (f j) ∨ (pA (f i) = pA (f j) ∧ i < j)))
instance (a b : AttD) : Decidable (BefJ a b) := by unfold BefJ; infer_instance
instance (f : Nat → AttD) (i j : Nat) : Decidable (Kl f i j) := by unfold Kl; infer_instance
theorem kl_irr {f : Nat → AttD} {i : Nat} : ¬ Kl f i i := by unfold Kl; omega
theorem kl_trans {f : Nat → AttD} {i j k : Nat} (h1 : Kl f i j) (h2 : Kl f j k) : Kl f i k := by unfold Kl at *; omega
theorem kl_asym {f : Nat → AttD} {i j : Nat} (h : Kl f i j) : ¬ Kl f j i := by unfold Kl at *; omega
theorem kl_tri {f : Nat → AttD} {i j : Nat} (h : i ≠ j) : Kl f i j ∨ Kl f j i := by unfold Kl; omega
theorem pw_eq {f : Nat → AttD} : ∀ {l l' : List Nat}, l.Pairwise (Kl f) → l'.Pairwise (Kl f) → (∀ x, x ∈ l ↔ x ∈ l') → l = l'
 | [], [], _, _, _ => rfl
 | [], b :: r', _, _, h => absurd ((h b).2 List.mem_cons_self) (by simp)
 | a :: r, [], _, _, h => absurd ((h a).1 List.mem_cons_self) (by simp)
 | a :: r, b :: r', h1, h2, h => by
  obtain ⟨g1, k1⟩ := List.pairwise_cons.1 h1
  obtain ⟨g2, k2⟩ := List.pairwise_cons.1 h2
  have hab : a = b := by
   rcases List.mem_cons.1 ((h a).1 List.mem_cons_self) with e | ha
   ·exact e
   ·rcases List.mem_cons.1 ((h b).2 List.mem_cons_self) with e | hb
    ·exact e.symm
    ·exact absurd (g1 b hb) (kl_asym (g2 a ha))
  subst hab
  rw [pw_eq k1 k2 fun x => ⟨fun hx => ?_, fun hx => ?_⟩]
  ·rcases List.mem_cons.1 ((h x).1 (List.mem_cons_of_mem _ hx)) with e | h3
   ·subst e
    exact absurd (g1 _ hx) kl_irr
   ·exact h3
  ·rcases List.mem_cons.1 ((h x).2 (List.mem_cons_of_mem _ hx)) with e | h3
   ·subst e
    exact absurd (g2 _ hx) kl_irr
   ·exact h3
def nStep (n : NoteD) (v : List Int) : List Int := if n.op = 8 ∧ 0 ≤ n.addr ∧ n.addr < (v.length : Int) then v.set n.addr.toNat n.val else v
def nRead (n : NoteD) (v : List Int) : Bool := if n.op = 7 then decide (0 ≤ n.addr ∧ n.addr < (v.length : Int) ∧ v.getD n.addr.toNat 0 = n.val) else true
def wrN : List NoteD → List Int → List Int
 | [], v => v
 | n :: r, v => wrN r (nStep n v)
def rdN : List NoteD → List Int → Bool
 | [], _ => true
 | n :: r, v => nRead n v && rdN r (nStep n v)
theorem nStep_len (n : NoteD) (v : List Int) : (nStep n v).length = v.length := by unfold nStep; split <;> simp
theorem wrN_len : ∀ (l : List NoteD) (v : List Int), (wrN l v).length = v.length
 | [], _ => rfl
 | n :: r, v => (wrN_len r (nStep n v)).trans (nStep_len n v)
theorem wrN_snoc (n : NoteD) : ∀ (l : List NoteD) (v : List Int), wrN (l ++ [n]) v = nStep n (wrN l v)
 | [], _ => rfl
 | m :: r, v => wrN_snoc n r (nStep m v)
theorem rdN_snoc (n : NoteD) : ∀ (l : List NoteD) (v : List Int), rdN (l ++ [n]) v = (rdN l v && nRead n (wrN l v))
 | [], v => by simp [rdN, wrN]
 | m :: r, v => by
  show (nRead m v && rdN (r ++ [n]) (nStep m v)) = (nRead m v && rdN r (nStep m v) && nRead n (wrN r (nStep m v)))
  rw [rdN_snoc n r, Bool.and_assoc]
def wrL (f : Nat → AttD) : List Nat → List Int → List Int
 | [], v => v
 | i :: r, v => wrL f r (wrN (f i).notes v)
def wrP (f : Nat → AttD) : List Nat → List Int → List Int
 | [], v => v
 | i :: r, v => wrP f r (if 0 < (f i).stamp then wrN (f i).notes v else v)
theorem wrP_len (f : Nat → AttD) : ∀ (l : List Nat) (v : List Int), (wrP f l v).length = v.length
 | [], _ => rfl
 | i :: r, v => (wrP_len f r _).trans (by split; exact wrN_len _ _; rfl)
theorem wrP_eq (f : Nat → AttD) : ∀ (l : List Nat) (v : List Int), wrP f l v = wrL f (l.filter fun i => decide (0 < (f i).stamp)) v
 | [], _ => rfl
 | i :: r, v => by
  show wrP f r _ = _
  rw [wrP_eq f r]
  by_cases h : 0 < (f i).stamp
  ·rw [if_pos h, List.filter_cons_of_pos (by simpa using h)]; rfl
  ·rw [if_neg h, List.filter_cons_of_neg (by simpa using h)]
theorem wrP_snoc (f : Nat → AttD) (i : Nat) : ∀ (l : List Nat) (v : List Int), wrP f (l ++ [i]) v = (if 0 < (f i).stamp then wrN (f i).notes (wrP f l v) else wrP f l v)
 | [], _ => rfl
 | m :: r, v => wrP_snoc f i r _
def Lst (P : Nat → Prop) (n x : Nat) : Prop := x ≤ n ∧ (x = n ∨ P x) ∧ ∀ j, P j → x ≤ j
theorem Lst.none (n : Nat) : Lst (fun _ => False) n n := ⟨Nat.le_refl _, Or.inl rfl, fun _ h => h.elim⟩
theorem Lst.congr {P Q : Nat → Prop} {n x : Nat} (h : Lst P n x) (e : ∀ j, P j ↔ Q j) : Lst Q n x := ⟨h.1, h.2.1.imp id (e x).1, fun j hj => h.2.2 j ((e j).2 hj)⟩
theorem Lst.or {P Q : Nat → Prop} {n x y : Nat} (h : Lst P n x) (k : Lst Q n y) : Lst (fun j => P j ∨ Q j) n (if x < y then x else y) := by
 obtain ⟨h1, h2, h3⟩ := h
 obtain ⟨k1, k2, k3⟩ := k
 split
 ·refine ⟨h1, h2.imp id Or.inl, fun j hj => ?_⟩
  rcases hj with hj | hj
  ·exact h3 j hj
  ·have := k3 j hj; omega
 ·refine ⟨k1, k2.imp id Or.inr, fun j hj => ?_⟩
  rcases hj with hj | hj
  ·have := h3 j hj; omega
  ·exact k3 j hj
theorem Lst.one (n m : Nat) (h : m ≤ n) : Lst (fun j => j = m) n m := ⟨h, Or.inr rfl, fun j hj => Nat.le_of_eq hj.symm⟩
structure IsOrd (f : Nat → AttD) (n : Nat) (o : List Nat) : Prop where
 mem : ∀ i, i ∈ o ↔ i < n
 pw : o.Pairwise (Kl f)
theorem IsOrd.split {f : Nat → AttD} {n : Nat} {o A B : List Nat} {j : Nat} (O : IsOrd f n o) (e : o = A ++ j :: B) :
  (∀ i, i ∈ A ↔ (i < n ∧ Kl f i j)) ∧ (∀ i, i ∈ B ↔ (i < n ∧ Kl f j i)) := by
 have hp := O.pw
 rw [e] at hp
 obtain ⟨p1, p2, p3⟩ := List.pairwise_append.1 hp
 obtain ⟨p4, p5⟩ := List.pairwise_cons.1 p2
 have hm : ∀ i, (i ∈ A ∨ i = j ∨ i ∈ B) ↔ i < n := fun i => by rw [← O.mem, e]; simp
 refine ⟨fun i => ⟨fun h => ⟨(hm i).1 (Or.inl h), p3 i h j List.mem_cons_self⟩, fun h => ?_⟩, fun i => ⟨fun h => ⟨(hm i).1 (Or.inr (Or.inr h)), p4 i h⟩, fun h => ?_⟩⟩
 ·rcases (hm i).2 h.1 with q | q | q
  ·exact q
  ·exact absurd (q ▸ h.2) kl_irr
  ·exact absurd (p4 i q) (kl_asym h.2)
 ·rcases (hm i).2 h.1 with q | q | q
  ·exact absurd (p3 i q j List.mem_cons_self) (kl_asym h.2)
  ·exact absurd (q ▸ h.2) kl_irr
  ·exact q
def Dbl (f : Nat → AttD) (j : Nat) : Prop := ∃ i, i < j ∧ 0 < (f j).stamp ∧ (f i).stamp = (f j).stamp
def Late (f : Nat → AttD) (n j : Nat) : Prop := ∃ i, i < n ∧ i ≠ j ∧ 0 < (f i).fin ∧ (f i).fin < (f j).start ∧ ¬ Kl f i j
def Misled (f : Nat → AttD) (n : Nat) (mem : List Int) (j : Nat) : Prop := ∀ l : List Nat, l.Pairwise (Kl f) → (∀ i, i ∈ l ↔ (i < n ∧ Kl f i j ∧ 0 < (f i).stamp)) → rdN (f j).notes (wrL f l mem) = false
def Bad (f : Nat → AttD) (n : Nat) (mem : List Int) (j : Nat) : Prop := j < n ∧ (Dbl f j ∨ Late f n j ∨ Misled f n mem j)
theorem stamp_pl {f : Nat → AttD} {i j : Nat} (h : 0 < (f j).stamp) : (pT (f i) = pT (f j) ∧ pA (f i) = pA (f j)) ↔ (f i).stamp = (f j).stamp := by
 unfold pT pA
 rw [if_pos h, if_pos h]
 by_cases hi : 0 < (f i).stamp
 ·simp [hi]
 ·simp only [if_neg hi]; omega
theorem dbl_iff {f : Nat → AttD} {n : Nat} {o A B : List Nat} {j : Nat} (O : IsOrd f n o) (e : o = A ++ j :: B) : Dbl f j ↔ ∃ A' i, A = A' ++ [i] ∧ 0 < (f j).stamp ∧ (f j).stamp = (f i).stamp := by
 obtain ⟨hA, hB⟩ := O.split e
 have hjn : j < n := (O.mem j).1 (by rw [e]; simp)
 constructor
 ·rintro ⟨i, hi, hj, hs⟩
  have hp := (stamp_pl hj).2 hs
  have hiA : i ∈ A := (hA i).2 ⟨by omega, by unfold Kl; omega⟩
  rcases List.eq_nil_or_concat A with h0 | ⟨A', m, hm⟩
  ·rw [h0] at hiA; simp at hiA
  ·rw [List.concat_eq_append] at hm
   refine ⟨A', m, hm, hj, ?_⟩
   have hmj := (hA m).1 (by rw [hm]; simp)
   have him : i = m ∨ Kl f i m := by
    have hp2 := O.pw
    rw [e, hm] at hp2
    have hp3 := (List.pairwise_append.1 hp2).1
    rw [hm] at hiA
    rcases List.mem_append.1 hiA with q | q
    ·exact Or.inr ((List.pairwise_append.1 hp3).2.2 i q m (by simp))
    ·exact Or.inl (by simpa using q)
   refine (((stamp_pl hj).1 ?_)).symm
   rcases him with rfl | him
   ·exact hp
   ·have h2 := hmj.2
    unfold Kl at him h2
    omega
 ·rintro ⟨A', i, hm, hj, hs⟩
  have h1 := ((hA i).1 (by rw [hm]; simp)).2
  have hp := (stamp_pl hj).2 hs.symm
  refine ⟨i, ?_, hj, hs.symm⟩
  unfold Kl at h1
  omega
theorem late_iff {f : Nat → AttD} {n : Nat} {o A B : List Nat} {j : Nat} (O : IsOrd f n o) (e : o = A ++ j :: B) : Late f n j ↔ ∃ i ∈ B, 0 < (f i).fin ∧ (f i).fin < (f j).start := by
 obtain ⟨hA, hB⟩ := O.split e
 constructor
 ·rintro ⟨i, hi, hne, h1, h2, h3⟩
  exact ⟨i, (hB i).2 ⟨hi, (kl_tri hne).resolve_left h3⟩, h1, h2⟩
 ·rintro ⟨i, hi, h1, h2⟩
  obtain ⟨h3, h4⟩ := (hB i).1 hi
  exact ⟨i, h3, fun q => kl_irr (q ▸ h4), h1, h2, kl_asym h4⟩
theorem misled_iff {f : Nat → AttD} {n : Nat} {mem : List Int} {o A B : List Nat} {j : Nat} (O : IsOrd f n o) (e : o = A ++ j :: B) : Misled f n mem j ↔ rdN (f j).notes (wrP f A mem) = false := by
 obtain ⟨hA, hB⟩ := O.split e
 have hp := O.pw
 rw [e] at hp
 have hpA := (List.pairwise_append.1 hp).1
 have hF : (A.filter fun i => decide (0 < (f i).stamp)).Pairwise (Kl f) := hpA.filter _
 have hM : ∀ i, i ∈ (A.filter fun i => decide (0 < (f i).stamp)) ↔ (i < n ∧ Kl f i j ∧ 0 < (f i).stamp) := fun i => by
  rw [List.mem_filter, hA, decide_eq_true_iff, and_assoc]
 constructor
 ·intro h
  rw [wrP_eq]
  exact h _ hF hM
 ·intro h l h1 h2
  rw [pw_eq h1 hF fun x => (h2 x).trans (hM x).symm, ← wrP_eq]
  exact h
def Soon (f : Nat → AttD) (l : List Nat) (s : Int) : Prop := (s = 0 ∧ ∀ i ∈ l, (f i).fin ≤ 0) ∨ (0 < s ∧ (∃ i ∈ l, (f i).fin = s) ∧ ∀ i ∈ l, 0 < (f i).fin → s ≤ (f i).fin)
theorem Soon.nil (f : Nat → AttD) : Soon f [] 0 := Or.inl ⟨rfl, fun i h => absurd h (by simp)⟩
theorem Soon.cons {f : Nat → AttD} {l : List Nat} {s : Int} (h : Soon f l s) (i : Nat) : Soon f (i :: l) (if 0 < (f i).fin ∧ (s = 0 ∨ (f i).fin < s) then (f i).fin else s) := by
 rcases h with ⟨rfl, h⟩ | ⟨h0, ⟨k, hk, hks⟩, h⟩
 ·by_cases hi : 0 < (f i).fin
  ·rw [if_pos ⟨hi, Or.inl rfl⟩]
   refine Or.inr ⟨hi, ⟨i, by simp, rfl⟩, fun m hm hm0 => ?_⟩
   rcases List.mem_cons.1 hm with rfl | hm
   ·omega
   ·have := h m hm; omega
  ·rw [if_neg (fun q => hi q.1)]
   refine Or.inl ⟨rfl, fun m hm => ?_⟩
   rcases List.mem_cons.1 hm with rfl | hm
   ·omega
   ·exact h m hm
 ·by_cases hi : 0 < (f i).fin ∧ (s = 0 ∨ (f i).fin < s)
  ·rw [if_pos hi]
   refine Or.inr ⟨hi.1, ⟨i, by simp, rfl⟩, fun m hm hm0 => ?_⟩
   rcases List.mem_cons.1 hm with rfl | hm
   ·omega
   ·have := h m hm hm0; omega
  ·rw [if_neg hi]
   refine Or.inr ⟨h0, ⟨k, List.mem_cons_of_mem _ hk, hks⟩, fun m hm hm0 => ?_⟩
   rcases List.mem_cons.1 hm with rfl | hm
   ·omega
   ·exact h m hm hm0
theorem Soon.hit {f : Nat → AttD} {l : List Nat} {s : Int} (h : Soon f l s) (t : Int) : (0 < s ∧ s < t) ↔ ∃ i ∈ l, 0 < (f i).fin ∧ (f i).fin < t := by
 rcases h with ⟨rfl, h⟩ | ⟨h0, ⟨k, hk, hks⟩, h⟩
 ·constructor
  ·intro q; omega
  ·rintro ⟨i, hi, h1, h2⟩; have := h i hi; omega
 ·constructor
  ·intro q; exact ⟨k, hk, by omega, by omega⟩
  ·rintro ⟨i, hi, h1, h2⟩; have := h i hi h1; omega
def mrg (f : Nat → AttD) : List Nat → List Nat → List Nat
 | [], r => r
 | a :: l, [] => a :: l
 | a :: l, b :: r => if Kl f a b then a :: mrg f l (b :: r) else b :: mrg f (a :: l) r
termination_by l r => l.length + r.length
theorem mrg_nil (f : Nat → AttD) (r : List Nat) : mrg f [] r = r := by rw [mrg]
theorem mrg_nil' (f : Nat → AttD) : ∀ l : List Nat, mrg f l [] = l
 | [] => by rw [mrg]
 | a :: l => by rw [mrg]
theorem mrg_pos {f : Nat → AttD} {a b : Nat} {l r : List Nat} (h : Kl f a b) : mrg f (a :: l) (b :: r) = a :: mrg f l (b :: r) := by rw [mrg, if_pos h]
theorem mrg_neg {f : Nat → AttD} {a b : Nat} {l r : List Nat} (h : ¬ Kl f a b) : mrg f (a :: l) (b :: r) = b :: mrg f (a :: l) r := by rw [mrg, if_neg h]
theorem mrg_perm (f : Nat → AttD) : ∀ (n : Nat) (l r : List Nat), l.length + r.length ≤ n → (mrg f l r).Perm (l ++ r)
 | n, [], r, _ => by rw [mrg_nil]; exact List.Perm.refl _
 | n, a :: l, [], _ => by rw [mrg_nil', List.append_nil]
 | 0, a :: l, b :: r, h => by simp at h
 | n + 1, a :: l, b :: r, h => by
  by_cases hk : Kl f a b
  ·rw [mrg_pos hk]
   exact (mrg_perm f n l (b :: r) (by simp at h ⊢; omega)).cons a
  ·rw [mrg_neg hk]
   have h1 := (mrg_perm f n (a :: l) r (by simp at h ⊢; omega)).cons b
   exact h1.trans (List.perm_middle (l₁ := a :: l) (l₂ := r) (a := b)).symm
theorem mrg_len (f : Nat → AttD) (l r : List Nat) : (mrg f l r).length = l.length + r.length := by
 rw [(mrg_perm f _ l r (Nat.le_refl _)).length_eq, List.length_append]
theorem mrg_pw (f : Nat → AttD) : ∀ (n : Nat) (l r : List Nat), l.length + r.length ≤ n → l.Pairwise (Kl f) → r.Pairwise (Kl f) → (∀ x ∈ l, ∀ y ∈ r, x ≠ y) → (mrg f l r).Pairwise (Kl f)
 | n, [], r, _, _, hr, _ => by rw [mrg_nil]; exact hr
 | n, a :: l, [], _, hl, _, _ => by rw [mrg_nil']; exact hl
 | 0, a :: l, b :: r, h, _, _, _ => by simp at h
 | n + 1, a :: l, b :: r, h, hl, hr, hd => by
  obtain ⟨g1, k1⟩ := List.pairwise_cons.1 hl
  obtain ⟨g2, k2⟩ := List.pairwise_cons.1 hr
  by_cases hk : Kl f a b
  ·rw [mrg_pos hk]
   refine List.pairwise_cons.2 ⟨fun x hx => ?_, mrg_pw f n l (b :: r) (by simp at h ⊢; omega) k1 hr fun x hx y hy => hd x (List.mem_cons_of_mem _ hx) y hy⟩
   have hx' := (mrg_perm f _ l (b :: r) (Nat.le_refl _)).mem_iff.1 hx
   rcases List.mem_append.1 hx' with q | q
   ·exact g1 x q
   ·rcases List.mem_cons.1 q with rfl | q
    ·exact hk
    ·exact kl_trans hk (g2 x q)
  ·rw [mrg_neg hk]
   have hba : Kl f b a := (kl_tri (hd a List.mem_cons_self b List.mem_cons_self)).resolve_left hk
   refine List.pairwise_cons.2 ⟨fun x hx => ?_, mrg_pw f n (a :: l) r (by simp at h ⊢; omega) hl k2 fun x hx y hy => hd x hx y (List.mem_cons_of_mem _ hy)⟩
   have hx' := (mrg_perm f _ (a :: l) r (Nat.le_refl _)).mem_iff.1 hx
   rcases List.mem_append.1 hx' with q | q
   ·rcases List.mem_cons.1 q with rfl | q
    ·exact hba
    ·exact kl_trans hba (g1 x q)
   ·exact g2 x q
def RunsJ (f : Nat → AttD) (w : Nat) (o : List Nat) : Prop := ∀ q, ((o.drop (q * w)).take w).Pairwise (Kl f)
theorem runs_one (f : Nat → AttD) (o : List Nat) : RunsJ f 1 o := fun q => by
 rcases h : (o.drop (q * 1)) with _ | ⟨a, r⟩
 ·simp
 ·simp
theorem runs_all {f : Nat → AttD} {w : Nat} {o : List Nat} (h : RunsJ f w o) (hw : o.length ≤ w) : o.Pairwise (Kl f) := by
 have := h 0
 rw [Nat.zero_mul, List.drop_zero, List.take_of_length_le hw] at this
 exact this
def pass (f : Nat → AttD) (w : Nat) (o : List Nat) : Nat → List Nat
 | 0 => []
 | q + 1 => pass f w o q ++ mrg f ((o.drop (q * (2 * w))).take w) ((o.drop (q * (2 * w) + w)).take w)
theorem blk_len {w : Nat} {o : List Nat} {p : Nat} : ((o.drop p).take w).length + ((o.drop (p + w)).take w).length = min (2 * w) (o.length - p) := by
 simp only [List.length_take, List.length_drop]
 omega
theorem pass_len (f : Nat → AttD) (w : Nat) (o : List Nat) : ∀ q, (pass f w o q).length = min (q * (2 * w)) o.length
 | 0 => by simp [pass]
 | q + 1 => by
  rw [pass, List.length_append, mrg_len, blk_len, pass_len f w o q, Nat.add_mul, Nat.one_mul]
  omega
theorem take_two {w : Nat} (o : List Nat) (p : Nat) : o.take (p + 2 * w) = o.take p ++ ((o.drop p).take w ++ (o.drop (p + w)).take w) := by
 rw [List.take_add, Nat.two_mul, List.take_add, List.drop_drop]
theorem pass_perm (f : Nat → AttD) (w : Nat) (o : List Nat) : ∀ q, (pass f w o q).Perm (o.take (q * (2 * w)))
 | 0 => by simp [pass]
 | q + 1 => by
  rw [pass, Nat.add_mul, Nat.one_mul, take_two]
  exact (pass_perm f w o q).append (mrg_perm f _ _ _ (Nat.le_refl _))
theorem pass_runs {f : Nat → AttD} {w : Nat} {o : List Nat} (hw : 1 ≤ w) (h : RunsJ f w o) (hn : o.Nodup) : ∀ q, RunsJ f (2 * w) (pass f w o q)
 | 0 => fun k => by simp [pass]
 | q + 1 => fun k => by
  have ih := pass_runs hw h hn q
  have hl := pass_len f w o q
  obtain ⟨A, hA⟩ : ∃ A, A = (o.drop (q * (2 * w))).take w := ⟨_, rfl⟩
  obtain ⟨B, hB⟩ : ∃ B, B = (o.drop (q * (2 * w) + w)).take w := ⟨_, rfl⟩
  have hlen : A.length + B.length = min (2 * w) (o.length - q * (2 * w)) := by rw [hA, hB]; exact blk_len
  have hpA : A.Pairwise (Kl f) := by
   have := h (2 * q)
   rw [show 2 * q * w = q * (2 * w) by rw [Nat.mul_comm 2 q, Nat.mul_assoc]] at this
   rw [hA]; exact this
  have hpB : B.Pairwise (Kl f) := by
   have := h (2 * q + 1)
   rw [show (2 * q + 1) * w = q * (2 * w) + w by rw [Nat.add_mul, Nat.one_mul, Nat.mul_comm 2 q, Nat.mul_assoc]] at this
   rw [hB]; exact this
  have hd : ∀ x ∈ A, ∀ y ∈ B, x ≠ y := by
   have h1 : (o.drop (q * (2 * w))).Nodup := hn.sublist (List.drop_sublist _ _)
   rw [← List.take_append_drop w (o.drop (q * (2 * w))), List.drop_drop] at h1
   have h2 := (List.nodup_append.1 h1).2.2
   intro x hx y hy
   rw [hA] at hx
   rw [hB] at hy
   exact h2 x hx y (List.mem_of_mem_take hy)
  have hX := mrg_pw f _ A B (Nat.le_refl _) hpA hpB hd
  rw [pass, ← hA, ← hB]
  have hXl := mrg_len f A B
  generalize mrg f A B = X at *
  by_cases hk : k < q
  ·have hkq : k * (2 * w) + 2 * w ≤ q * (2 * w) := by
    have := Nat.mul_le_mul_right (2 * w) (show k + 1 ≤ q from hk)
    rw [Nat.add_mul, Nat.one_mul] at this
    exact this
   by_cases hq : q * (2 * w) ≤ o.length
   ·rw [Nat.min_eq_left hq] at hl
    rw [List.drop_append_of_le_length (by omega), List.take_append_of_le_length (by rw [List.length_drop]; omega)]
    exact ih k
   ·have hX0 : X = [] := List.length_eq_zero_iff.1 (by omega)
    rw [hX0, List.append_nil]
    exact ih k
  ·have hkq : q * (2 * w) ≤ k * (2 * w) := Nat.mul_le_mul_right _ (by omega)
   rw [List.drop_append, List.drop_eq_nil_of_le (by rw [hl]; omega), List.nil_append]
   exact (hX.sublist (List.drop_sublist _ _)).sublist (List.take_sublist _ _)
end Go.Proofs.YtejadojilncbjabGreat
namespace Go.Proofs.YtejadojilncbjabGreat
open Go.RowKit
set_option linter.unusedVariables false
attribute [local go_sem ↓] Go.wp_at_zero Go.wp_at_succ
theorem jbDrew (w : World) : Below w.heap.size w w.drew := ⟨rfl, rfl, rfl, Nat.le_refl _, fun _ _ => rfl⟩
theorem jbOf {w w' : World} (h : Below w.drew.heap.size w.drew w') : Below w.heap.size w w' := ⟨h.os, h.tape, h.output, h.size, h.block⟩
def noNt : NoteD := ⟨0, 0, 0⟩
def noAtt : AttD := ⟨0, 0, 0, 0, 0, 0, 0, []⟩
def atL (L : List AttD) (k : Nat) : AttD := L.getD k noAtt
def NotesIn (w : World) (B : Nat) (a : Option Addr) (ns : List NoteD) : Prop :=
 ∀ i, i < ns.length → ∃ b off, a = some ⟨b, off, none⟩ ∧ b < B ∧ w.cell? ⟨b, off + i * 3, none⟩ = some (.int .i64 (ns.getD i noNt).op) ∧ w.cell? ⟨b, off + i * 3 + 1, none⟩ = some (.int .i64 (ns.getD i noNt).addr) ∧ w.cell? ⟨b, off + i * 3 + 2, none⟩ = some (.int .i64 (ns.getD i noNt).val)
def HistIn (w : World) (B : Nat) (a : Option Addr) (L : List AttD) : Prop :=
 ∀ k, k < L.length → ∃ b off na nc, a = some ⟨b, off, none⟩ ∧ b < B ∧ w.cell? ⟨b, off + k * 8, none⟩ = some (.int .i64 (atL L k).thread) ∧ w.cell? ⟨b, off + k * 8 + 1, none⟩ = some (.int .i64 (atL L k).job) ∧ w.cell? ⟨b, off + k * 8 + 2, none⟩ = some (.int .i64 (atL L k).start) ∧ w.cell? ⟨b, off + k * 8 + 3, none⟩ = some (.int .i64 (atL L k).fin) ∧ w.cell? ⟨b, off + k * 8 + 4, none⟩ = some (.int .i64 (atL L k).valid) ∧ w.cell? ⟨b, off + k * 8 + 5, none⟩ = some (.int .i64 (atL L k).stamp) ∧ w.cell? ⟨b, off + k * 8 + 6, none⟩ = some (.int .i64 (atL L k).fate) ∧ w.cell? ⟨b, off + k * 8 + 7, none⟩ = some (.slice na (atL L k).notes.length nc) ∧ NotesIn w B na (atL L k).notes
theorem NotesIn.up {w w' : World} {B : Nat} {a : Option Addr} {ns : List NoteD} (h : NotesIn w B a ns) (hb : Below B w w') : NotesIn w' B a ns := fun i hi => by
 obtain ⟨b, off, ha, hl, c0, c1, c2⟩ := h i hi
 have up : ∀ o, w'.cell? ⟨b, o, none⟩ = w.cell? ⟨b, o, none⟩ := fun o => World.cell?_of_block (hb.block b hl)
 exact ⟨b, off, ha, hl, (up _).trans c0, (up _).trans c1, (up _).trans c2⟩
theorem HistIn.up {w w' : World} {B : Nat} {a : Option Addr} {L : List AttD} (h : HistIn w B a L) (hb : Below B w w') : HistIn w' B a L := fun i hi => by
 obtain ⟨b, off, na, nc, ha, hl, c0, c1, c2, c3, c4, c5, c6, c7, hn⟩ := h i hi
 have up : ∀ o, w'.cell? ⟨b, o, none⟩ = w.cell? ⟨b, o, none⟩ := fun o => World.cell?_of_block (hb.block b hl)
 exact ⟨b, off, na, nc, ha, hl, (up _).trans c0, (up _).trans c1, (up _).trans c2, (up _).trans c3, (up _).trans c4, (up _).trans c5, (up _).trans c6, (up _).trans c7, hn.up hb⟩
theorem least_any (a b : Nat) (w : World) : Calls Tryz.prog 86 #[.int .i64 (a : Int), .int .i64 (b : Int)] w fun e w' => e = .returned (.int .i64 ((if a < b then a else b : Nat) : Int)) ∧ w' = w := by
 by_cases h : a < b
 ·have h1 : (a : Int) < (b : Int) := by omega
  rw [if_pos h]
  go_enter Tryz.func86, Tryz.ntmps86
  go_wp2_with fail
  go_ret
  exact ⟨rfl, rfl⟩
 ·have h1 : ¬ (a : Int) < (b : Int) := by omega
  rw [if_neg h]
  go_enter Tryz.func86, Tryz.ntmps86
  go_wp2_with fail
  go_ret
  exact ⟨rfl, rfl⟩
theorem place_any (x0 x1 x2 x3 x4 x5 x6 : Int) (ns : List NoteD) (na : Option Addr) (nn nc : Nat) (w : World) : Calls Tryz.prog 141 #[.agg #[.int .i64 x0, .int .i64 x1, .int .i64 x2, .int .i64 x3, .int .i64 x4, .int .i64 x5, .int .i64 x6, .slice na nn nc]] w fun e w' => e = .returned (.agg #[.int .i64 (pT ⟨x0, x1, x2, x3, x4, x5, x6, ns⟩), .int .i64 (pA ⟨x0, x1, x2, x3, x4, x5, x6, ns⟩)]) ∧ Below w.heap.size w w' := by
 unfold pT pA
 simp only
 by_cases h : 0 < x5
 ·rw [if_pos h, if_pos h]
  have hd : decide (x5 > 0) = true := by simpa using h
  have hd2 : x5 > 0 := h
  go_enter Tryz.func141, Tryz.ntmps141
  go_wp2_with fail
  have e0 : ((w.alloc (.cells #[.int .i64 x0, .int .i64 x1, .int .i64 x2, .int .i64 x3, .int .i64 x4, .int .i64 x5, .int .i64 x6, .slice na nn nc] 82)).alloc (.cells #[.int .i64 x5, .int .i64 0] 201)).cell? ⟨w.heap.size + 1, 0, none⟩ = some (.int .i64 x5) := by
   simp
  have e1 : ((w.alloc (.cells #[.int .i64 x0, .int .i64 x1, .int .i64 x2, .int .i64 x3, .int .i64 x4, .int .i64 x5, .int .i64 x6, .slice na nn nc] 82)).alloc (.cells #[.int .i64 x5, .int .i64 0] 201)).cell? ⟨w.heap.size + 1, 1, none⟩ = some (.int .i64 0) := by
   simp
  exact bodyPost_ret (v := .agg #[.int .i64 x5, .int .i64 0]) (by simp [results, Tryz.results141, go_sem, e0, e1]) rfl ⟨rfl, ((Below.refl w.heap.size w).alloc (Nat.le_refl _) _).alloc (by simp) _⟩
 ·rw [if_neg h, if_neg h]
  have hd : decide (x5 > 0) = false := by simpa using h
  have hd2 : ¬ x5 > 0 := h
  go_enter Tryz.func141, Tryz.ntmps141
  go_wp2_with fail
  have e0 : ((w.alloc (.cells #[.int .i64 x0, .int .i64 x1, .int .i64 x2, .int .i64 x3, .int .i64 x4, .int .i64 x5, .int .i64 x6, .slice na nn nc] 82)).alloc (.cells #[.int .i64 x4, .int .i64 1] 201)).cell? ⟨w.heap.size + 1, 0, none⟩ = some (.int .i64 x4) := by
   simp
  have e1 : ((w.alloc (.cells #[.int .i64 x0, .int .i64 x1, .int .i64 x2, .int .i64 x3, .int .i64 x4, .int .i64 x5, .int .i64 x6, .slice na nn nc] 82)).alloc (.cells #[.int .i64 x4, .int .i64 1] 201)).cell? ⟨w.heap.size + 1, 1, none⟩ = some (.int .i64 1) := by
   simp
  exact bodyPost_ret (v := .agg #[.int .i64 x4, .int .i64 1]) (by simp [results, Tryz.results141, go_sem, e0, e1]) rfl ⟨rfl, ((Below.refl w.heap.size w).alloc (Nat.le_refl _) _).alloc (by simp) _⟩
theorem placeX (x : AttD) (na : Option Addr) (nn nc : Nat) (w : World) : Calls Tryz.prog 141 #[.agg #[.int .i64 x.thread, .int .i64 x.job, .int .i64 x.start, .int .i64 x.fin, .int .i64 x.valid, .int .i64 x.stamp, .int .i64 x.fate, .slice na nn nc]] w fun e w' => e = .returned (.agg #[.int .i64 (pT x), .int .i64 (pA x)]) ∧ Below w.heap.size w w' :=
 place_any x.thread x.job x.start x.fin x.valid x.stamp x.fate x.notes na nn nc w
abbrev AttS (b o : Nat) (x : AttD) (na : Option Addr) (nn nc : Nat) (w : World) : Prop :=
 w.cell? ⟨b, o, none⟩ = some (.int .i64 x.thread) ∧ w.cell? ⟨b, o + 1, none⟩ = some (.int .i64 x.job) ∧ w.cell? ⟨b, o + 2, none⟩ = some (.int .i64 x.start) ∧ w.cell? ⟨b, o + 3, none⟩ = some (.int .i64 x.fin) ∧ w.cell? ⟨b, o + 4, none⟩ = some (.int .i64 x.valid) ∧ w.cell? ⟨b, o + 5, none⟩ = some (.int .i64 x.stamp) ∧ w.cell? ⟨b, o + 6, none⟩ = some (.int .i64 x.fate) ∧ w.cell? ⟨b, o + 7, none⟩ = some (.slice na nn nc)
theorem HistIn.att {w : World} {B : Nat} {a : Option Addr} {L : List AttD} (h : HistIn w B a L) {k : Nat} (hk : k < L.length) : ∃ b off na nc, a = some ⟨b, off, none⟩ ∧ b < B ∧ AttS b (off + k * 8) (atL L k) na (atL L k).notes.length nc w ∧ NotesIn w B na (atL L k).notes := by
 obtain ⟨b, off, na, nc, ha, hl, c0, c1, c2, c3, c4, c5, c6, c7, hn⟩ := h k hk
 exact ⟨b, off, na, nc, ha, hl, ⟨c0, c1, c2, c3, c4, c5, c6, c7⟩, hn⟩
theorem AttS.up {b o : Nat} {x : AttD} {na : Option Addr} {nn nc : Nat} {B : Nat} {w w' : World} (h : AttS b o x na nn nc w) (hb : Below B w w') (hl : b < B) : AttS b o x na nn nc w' := by
 have up : ∀ o, w'.cell? ⟨b, o, none⟩ = w.cell? ⟨b, o, none⟩ := fun o => World.cell?_of_block (hb.block b hl)
 obtain ⟨c0, c1, c2, c3, c4, c5, c6, c7⟩ := h
 exact ⟨(up _).trans c0, (up _).trans c1, (up _).trans c2, (up _).trans c3, (up _).trans c4, (up _).trans c5, (up _).trans c6, (up _).trans c7⟩
set_option maxRecDepth 100000 in
set_option maxHeartbeats 2000000 in
theorem jahead_any (L : List AttD) (i j : Nat) (hi : i < L.length) (hj : j < L.length) (hn : L.length ≤ 2 ^ 40) (a : Option Addr) (cp : Nat) (w : World) (h : HistIn w w.heap.size a L) :
  Calls Tryz.prog 126 #[.slice a L.length cp, .int .i64 (i : Int), .int .i64 (j : Int)] w fun e w' => e = .returned (.bool (decide (Kl (atL L) i j))) ∧ Below w.heap.size w w' := by
 obtain ⟨b, off, na, nc, ha, hbl, hx, _⟩ := h.att hi
 obtain ⟨b', off', na', nc', ha', hbl', hy, _⟩ := h.att hj
 rw [ha] at ha'
 cases ha'
 subst ha
 obtain ⟨D, hD⟩ : ∃ D, D = decide (Kl (atL L) i j) := ⟨_, rfl⟩
 rw [← hD]
 unfold Kl at hD
 have HD : Hid (D = decide (pT (atL L i) < pT (atL L j) ∨ (pT (atL L i) = pT (atL L j) ∧ (pA (atL L i) < pA (atL L j) ∨ (pA (atL L i) = pA (atL L j) ∧ i < j))))) := hD
 obtain ⟨x, hxx⟩ : ∃ x, x = atL L i := ⟨_, rfl⟩
 obtain ⟨y, hyy⟩ : ∃ y, y = atL L j := ⟨_, rfl⟩
 rw [← hxx] at hx HD
 rw [← hyy] at hy HD
 obtain ⟨c0, c1, c2, c3, c4, c5, c6, c7⟩ := hx
 have HY : Hid (AttS b (off + j * 8) y na' y.notes.length nc' w) := hy
 have i0 : (0 : Int) ≤ (i : Int) := by omega
 have i1 : (i : Int) < (L.length : Int) := by omega
 have j0 : (0 : Int) ≤ (j : Int) := by omega
 have j1 : (j : Int) < (L.length : Int) := by omega
 clear hD hxx hyy hy h
 go_enter Tryz.func126, Tryz.ntmps126
 go_wp2_with fail
 refine (placeX x na _ nc _).mono ?_
 rintro e w1 ⟨rfl, hb1⟩
 obtain ⟨px, hpx⟩ : ∃ px, px = pT x := ⟨_, rfl⟩
 obtain ⟨qx, hqx⟩ : ∃ qx, qx = pA x := ⟨_, rfl⟩
 rw [← hpx, ← hqx]
 obtain ⟨w2, hw2⟩ : ∃ w2, w2 = w1.alloc (.cells #[.int .i64 px, .int .i64 qx] 201) := ⟨_, rfl⟩
 have HP2 : Hid (Blk w2 w1.heap.size 201 #[.int .i64 px, .int .i64 qx]) := by rw [hw2]; exact Blk.new w1 _ _
 have HB2 : Hid (Below w.heap.size w w2) := by rw [hw2]; exact hb1.alloc hb1.size _
 rw [← hpx, ← hqx] at HD
 clear c0 c1 c2 c3 c4 c5 c6 c7 hpx hqx hb1
 go_upto_region 2 with fail
 rw [← hw2]
 obtain ⟨pb, hpb⟩ : ∃ pb, pb = w1.heap.size := ⟨_, rfl⟩
 rw [← hpb] at HP2 ⊢
 clear hw2 hpb
 obtain ⟨c0, c1, c2, c3, c4, c5, c6, c7⟩ := AttS.up HY.out HB2.out hbl
 go_wp2_with fail
 refine (placeX y na' _ nc' _).mono ?_
 rintro e w3 ⟨rfl, hb3⟩
 obtain ⟨py, hpy⟩ : ∃ py, py = pT y := ⟨_, rfl⟩
 obtain ⟨qy, hqy⟩ : ∃ qy, qy = pA y := ⟨_, rfl⟩
 rw [← hpy, ← hqy]
 obtain ⟨w4, hw4⟩ : ∃ w4, w4 = w3.alloc (.cells #[.int .i64 py, .int .i64 qy] 201) := ⟨_, rfl⟩
 have HQ4 : Hid (Blk w4 w3.heap.size 201 #[.int .i64 py, .int .i64 qy]) := by rw [hw4]; exact Blk.new w3 _ _
 have hB24 : Below w2.heap.size w2 w4 := by rw [hw4]; exact hb3.alloc hb3.size _
 have HP4 : Hid (Blk w4 pb 201 #[.int .i64 px, .int .i64 qx]) := (HP2.out).below hB24 (HP2.out).lt
 have HB4 : Hid (Below w.heap.size w w4) := (HB2.out).trans (hB24.mono (HB2.out).size)
 rw [← hpy, ← hqy] at HD
 clear c0 c1 c2 c3 c4 c5 c6 c7 hpy hqy hb3 hB24 HP2 HB2 HY
 go_upto_region 3 with fail
 rw [← hw4]
 obtain ⟨qb, hqb⟩ : ∃ qb, qb = w3.heap.size := ⟨_, rfl⟩
 rw [← hqb] at HQ4 ⊢
 clear hw4 hqb
 have hp := (HP4.out).cell
 have hq := (HQ4.out).cell
 by_cases h1 : px = py
 ·subst h1
  by_cases h2 : qx = qy
  ·subst h2
   by_cases h3 : i < j
   ·obtain rfl : D = true := (HD.out).trans (by simp [h3])
    have h3' : (i : Int) < (j : Int) := by omega
    go_wp2_with fail
    go_ret
    exact ⟨by first | rfl | simp, HB4.out⟩
   ·obtain rfl : D = false := (HD.out).trans (by simp [h3])
    have h3' : ¬ (i : Int) < (j : Int) := by omega
    go_wp2_with fail
    go_ret
    exact ⟨by first | rfl | simp, HB4.out⟩
  ·have hb2 : (qx != qy) = true := by simp [h2]
   obtain rfl : D = decide (qx < qy) := (HD.out).trans (by simp [h2])
   clear HD
   go_wp2_with fail
   go_ret
   exact ⟨by first | rfl | simp, HB4.out⟩
 ·have hb2 : (px != py) = true := by simp [h1]
  obtain rfl : D = decide (px < py) := (HD.out).trans (by simp [h1])
  clear HD
  go_wp2_with fail
  go_ret
  exact ⟨by first | rfl | simp, HB4.out⟩
end Go.Proofs.YtejadojilncbjabGreat
