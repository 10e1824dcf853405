import Derived.Test.YtejadojilncbjaaGreatE05
import Derived.Test.YtejadojilncbjaaGreatE02
import Derived.Test.YtejadojilncbjaaGreatE03
import Derived.OneCell
import Derived.Deep.LoopGhost
namespace Go.Proofs.YtejadojilncbjaaGreat
open Go.RowKit
set_option linter.unusedVariables false
attribute [local go_sem ↓] Go.wp_at_zero Go.wp_at_succ

section
variable (base p z : Nat) (A B : List Value) (t : PT) (L : Ls) (w : World)

set_option maxHeartbeats 4000000 in
theorem t_followCommit (R : TR base p z A B w t L) (ok : TOk t) (hfl : t.fails + 1 ≤ 2 ^ 40) (seen : Int) (hsn : -1 ≤ seen ∧ seen ≤ 2 ^ 50) (hcl : -1 ≤ t.clock ∧ t.clock ≤ 2 ^ 50)
    (hs : t.step = 19 ∨ False) (hat : t.step = 19 → t.at_ < t.reads.length) :
    Calls Tryz.prog 109 #[.pointer (some ⟨p, z, none⟩), .int .i64 seen] w (DidT p z A B (yFollowCommit seen t) L w) := by
  have hb := R.tt
  have h13 := hb.cStep
  have h38 := hb.cAt
  have h37 := hb.cClock
  have hf := hb.froz
  have HR : Hid (TR base p z A B w t L) := R
  have HB : Hid (TAt w p z A B t L) := hb
  have HK : Hid (TOk t) := ok
  have HF : Hid (t.fails + 1 ≤ 2 ^ 40) := hfl
  have HC : Hid (-1 ≤ t.clock ∧ t.clock ≤ 2 ^ 50) := hcl
  have HS : Hid (-1 ≤ seen ∧ seen ≤ 2 ^ 50) := hsn
  unfold yFollowCommit
  rcases hs with hs | hs
  · rw [if_neg (by omega), if_neg (by omega), if_neg (by omega), if_pos hs]
    have hlt := hat hs
    rw [hs] at h13
    have h30 := hb.cReads
    have hrl := ok.rl
    obtain ⟨g, hg, hg1, hg2, _⟩ := ents_at R.rd t.at_ hlt
    rw [hg] at h30
    have hkl : (t.at_ : Int) < (t.reads.length : Int) := by omega
    have hk0 : (0 : Int) ≤ (t.at_ : Int) := by omega
    obtain ⟨v, hv⟩ : ∃ v, v = (t.reads.getD t.at_ ⟨0, 0⟩).val := ⟨_, rfl⟩
    rw [← hv] at hg2 ⊢
    have hwk : IntKind.i64.wrap ((t.at_ : Int) + 1) = ((t.at_ + 1 : Nat) : Int) := by rw [wrapP _ (by omega) (by omega)]; omega
    by_cases hm : seen = v
    · rw [if_neg (fun q => q hm)]
      have hmb : (seen != v) = false := by simp [hm]
      have hmb2 : (seen == v) = true := by simp [hm]
      have hb1 : ∀ n, TAt ((w.drewN n).setCell ⟨p, z + 19 + 27, none⟩ (.int .i64 ((t.at_ + 1 : Nat) : Int))) p z A B { t with at_ := t.at_ + 1 } L := fun n => (hb.drewN n).set 46 (by decide) _ rfl
      have hO1 : ∀ n, Only p w ((w.drewN n).setCell ⟨p, z + 19 + 27, none⟩ (.int .i64 ((t.at_ + 1 : Nat) : Int))) := fun n => ((Only.refl _ _).drewN n).set
      have HR1 : Hid (∀ n, TR base p z A B ((w.drewN n).setCell ⟨p, z + 19 + 27, none⟩ (.int .i64 ((t.at_ + 1 : Nat) : Int))) { t with at_ := t.at_ + 1 } L) := fun n => R.next (hb1 n) (hO1 n) rfl rfl rfl rfl rfl rfl
      have HO1 : Hid (∀ n, Only p w ((w.drewN n).setCell ⟨p, z + 19 + 27, none⟩ (.int .i64 ((t.at_ + 1 : Nat) : Int)))) := hO1
      have HL : Hid (t.at_ + 1 ≤ t.reads.length) := hlt
      clear hb ok R hfl hs hat hcl hsn hb1 hO1 HR HB hg1 hlt hrl hg hv h37 hm
      go_enter Tryz.func109, Tryz.ntmps109
      go_wp2_with fail
      go_quiet (fail)
      go_wp2_with fail
      refine (t_check base p z A B { t with at_ := t.at_ + 1 } L _ (HR1.out _) HK.out HC.out HL.out).mono ?_
      rintro e w1 ⟨rfl, a1, a2⟩
      go_wp2
      go_end0
      exact ⟨rfl, a1, (HO1.out _).trans a2⟩
    · rw [if_pos hm]
      have hmb : (seen != v) = true := by simpa using hm
      have hmb2 : (seen == v) = false := by simpa using hm
      clear hb ok R hfl hs hat hcl hsn HR hg1 hlt hrl hg hv h37 hm
      go_enter Tryz.func109, Tryz.ntmps109
      go_wp2_with fail
      go_quiet (fail)
      go_wp2_with fail
      refine (t_failGate p z A B t L _ (by exact HB.out)).mono ?_
      rintro e w1 ⟨rfl, a1, a2⟩
      go_wp2
      refine bodyPost_ret (results_none rfl _ _ _) rfl ?_
      exact ⟨rfl, a1, a2.quiet rfl rfl rfl rfl⟩
  · exact hs.elim

set_option maxHeartbeats 4000000 in
theorem t_followStore (R : TR base p z A B w t L) (ok : TOk t) (hcl : -1 ≤ t.clock ∧ t.clock ≤ 2 ^ 50)
    (hs : t.step = 20 ∨ t.step = 23 ∨ t.step = 24 ∨ t.step = 25) (hat : t.at_ ≤ 1000) (hat2 : t.step = 24 → t.at_ < t.held.length) :
    Calls Tryz.prog 110 #[.pointer (some ⟨p, z, none⟩)] w (DidT p z A B (yFollowStore t) L w) := by
  have hb := R.tt
  have h13 := hb.cStep
  have h38 := hb.cAt
  have hf := hb.froz
  have HB : Hid (TAt w p z A B t L) := hb
  have HK : Hid (TOk t) := ok
  have HC : Hid (-1 ≤ t.clock ∧ t.clock ≤ 2 ^ 50) := hcl
  have hwk : IntKind.i64.wrap ((t.at_ : Int) + 1) = ((t.at_ + 1 : Nat) : Int) := by rw [wrapP _ (by omega) (by omega)]; omega
  have hb1 : TAt (w.setCell ⟨p, z + 19 + 27, none⟩ (.int .i64 ((t.at_ + 1 : Nat) : Int))) p z A B { t with at_ := t.at_ + 1 } L := hb.set 46 (by decide) _ rfl
  have hO1 : Only p w (w.setCell ⟨p, z + 19 + 27, none⟩ (.int .i64 ((t.at_ + 1 : Nat) : Int))) := (Only.refl _ _).set
  have HR1 : Hid (TR base p z A B (w.setCell ⟨p, z + 19 + 27, none⟩ (.int .i64 ((t.at_ + 1 : Nat) : Int))) { t with at_ := t.at_ + 1 } L) := R.next hb1 hO1 rfl rfl rfl rfl rfl rfl
  have HO1 : Hid (Only p w (w.setCell ⟨p, z + 19 + 27, none⟩ (.int .i64 ((t.at_ + 1 : Nat) : Int)))) := hO1
  unfold yFollowStore
  rcases hs with hs | hs | hs | hs
  · rw [if_pos hs]
    rw [hs] at h13
    clear hb ok R hs hat hat2 hcl hb1 hO1
    go_enter Tryz.func110, Tryz.ntmps110
    go_wp2_with fail
    refine (t_shut base p z A B { t with at_ := t.at_ + 1 } L _ HR1.out HK.out HC.out).mono ?_
    rintro e w1 ⟨rfl, a1, a2⟩
    go_wp2
    go_end0
    exact ⟨rfl, a1, (HO1.out).trans a2⟩
  · rw [if_neg (by omega), if_neg (by omega), if_neg (by omega), if_pos hs]
    rw [hs] at h13
    clear hb ok R hs hat hat2 hcl hb1 hO1
    go_enter Tryz.func110, Tryz.ntmps110
    go_wp2_with fail
    refine (t_put base p z A B { t with at_ := t.at_ + 1 } L _ HR1.out HK.out HC.out).mono ?_
    rintro e w1 ⟨rfl, a1, a2⟩
    go_wp2
    go_end0
    exact ⟨rfl, a1, (HO1.out).trans a2⟩
  · rw [if_neg (by omega), if_neg (by omega), if_neg (by omega), if_neg (by omega), if_pos hs]
    have hlt := hat2 hs
    rw [hs] at h13
    have h32 := hb.cHeld
    have h0 := hb.cT
    have h1 := hb.cWd
    have h2 := hb.cS
    have h3 := hb.cG
    have h4 := hb.cR
    have h5 := hb.cCp
    have h6 := hb.cF
    obtain ⟨g, hg, hgc⟩ := nums_at R.hd t.at_ hlt
    rw [hg] at h32
    have hm : t.held.getD t.at_ 0 ∈ t.held := by rw [show t.held.getD t.at_ 0 = t.held[t.at_] from by simp [List.getD, List.getElem?_eq_getElem hlt]]; exact List.getElem_mem hlt
    have hsr := ok.hd _ hm
    have hs8 := ok.cb.2.2.1
    have hkl : (t.at_ : Int) < (t.held.length : Int) := by omega
    have hk0 : (0 : Int) ≤ (t.at_ : Int) := by omega
    obtain ⟨s, hse⟩ : ∃ s, s = t.held.getD t.at_ 0 := ⟨_, rfl⟩
    rw [← hse] at hgc hsr ⊢
    have HS8 : Hid (0 ≤ s ∧ s ≤ 100) := ⟨hsr.1, by omega⟩
    clear hb ok R hs hat hat2 hcl hb1 hO1 HR1 HO1 hm hsr hs8 hse hlt hwk
    go_enter Tryz.func110, Tryz.ntmps110
    go_wp2_with fail
    go_region_with (first
      | (go_at_call 132; refine (t_owner p z A B t L _ (by exact HB.out) HK.out s (HS8.out).1 (HS8.out).2).mono ?_; rintro e w3 ⟨rfl, hB⟩; have hb3 : TAt w3 p z A B t L := TAt.below (by exact HB.out) hB)
      | (go_at_call 145; refine (t_store p z A B t L 25 (cOwnOf t.c s) 0 _ (by assumption)).mono ?_; rintro e w4 ⟨rfl, a1, a2⟩))
    all_goals
      go_wp2
      go_end0
      exact ⟨rfl, a1, Only.trans (by first | exact Only.below hB | exact ((Only.refl _ _).drew).trans (Only.below hB)) a2⟩
  · rw [if_neg (by omega), if_neg (by omega), if_neg (by omega), if_neg (by omega), if_neg (by omega), if_pos hs]
    rw [hs] at h13
    clear hb ok R hs hat hat2 hcl hb1 hO1
    go_enter Tryz.func110, Tryz.ntmps110
    go_wp2_with fail
    refine (t_release base p z A B { t with at_ := t.at_ + 1 } L _ HR1.out HK.out HC.out).mono ?_
    rintro e w1 ⟨rfl, a1, a2⟩
    go_wp2
    go_end0
    exact ⟨rfl, a1, (HO1.out).trans a2⟩
end

end Go.Proofs.YtejadojilncbjaaGreat

namespace Go.Proofs.YtejadojilncbjaaGreat
set_option linter.unusedVariables false

/-! The document's life asks what the machine asks: part 2: instructions, the commit. -/

/-- One instruction more. -/
theorem hStep_begun (K : Cx) (h : Th) (hb : (hStep K h).1 = true) : (h.x.begun : Int) ≠ K.c.f ∧ (hStep K h).2.x.begun = h.x.begun + 1 := by
  unfold hStep at hb ⊢
  by_cases h1 : h.x.place = h.x.code.length
  · rw [if_pos h1] at hb; cases hb
  rw [if_neg h1] at hb ⊢
  by_cases h2 : (h.x.begun : Int) = K.c.f
  · rw [if_pos h2] at hb; cases hb
  rw [if_neg h2] at hb ⊢
  refine ⟨h2, ?_⟩
  simp only at hb ⊢
  generalize insAt h.x.code h.x.place = i at *
  by_cases h3 : formedB i h.x.code.length = false
  · rw [if_pos h3] at hb; cases hb
  rw [if_neg h3] at hb ⊢
  by_cases o0 : i.op = 0
  · rw [if_pos o0] at hb; cases hb
  rw [if_neg o0] at hb ⊢
  by_cases o1 : i.op = 1
  · rw [if_pos o1] at hb; cases hb
  rw [if_neg o1] at hb ⊢
  by_cases o2 : i.op = 2
  · rw [if_pos o2]; rfl
  rw [if_neg o2] at hb ⊢
  by_cases o3 : i.op = 3
  · rw [if_pos o3]; rfl
  rw [if_neg o3] at hb ⊢
  by_cases o4 : i.op = 4
  · rw [if_pos o4]; rfl
  rw [if_neg o4] at hb ⊢
  by_cases o5 : i.op = 5
  · rw [if_pos o5]
  rw [if_neg o5] at hb ⊢
  by_cases o6 : i.op = 6
  · rw [if_pos o6]
    show (if _ then _ else _ : TS).begun = _
    split <;> rfl
  rw [if_neg o6] at hb ⊢
  by_cases o7 : i.op = 7
  · rw [if_pos o7] at hb ⊢
    unfold hRead at hb ⊢
    simp only at hb ⊢
    split at hb
    · cases hb
    · rename_i hw
      rw [if_neg hw]
      cases hk : entIdx h.x.writes (regOf { h.x with begun := h.x.begun + 1, place := h.x.place + 1 } i.b) with
      | none => rw [hk] at hb; cases hb
      | some k => rfl
  · rw [if_neg o7] at hb ⊢
    unfold hWrite at hb ⊢
    simp only at hb ⊢
    split at hb
    · cases hb
    · rename_i hw
      rw [if_neg hw]
      split at hb
      · rename_i hh
        rw [if_pos hh]
        rfl
      · cases hb

theorem hGo_eq (K : Cx) (h : Th) (hb : (h.x.begun : Int) ≤ K.c.f) : hGo K h = if (hStep K h).1 then hGo K (hStep K h).2 else (hStep K h).2 := by
  have e : K.c.f.toNat + 1 - h.x.begun = (K.c.f.toNat - h.x.begun) + 1 := by omega
  unfold hGo
  rw [e]
  show (if (hStep K h).1 then hAdv K _ (hStep K h).2 else (hStep K h).2) = _
  by_cases hs : (hStep K h).1 = true
  · obtain ⟨h1, h2⟩ := hStep_begun K h hs
    rw [if_pos hs, if_pos hs, h2]
    congr 1
    omega
  · rw [if_neg hs, if_neg hs]

end Go.Proofs.YtejadojilncbjaaGreat

namespace Go.Proofs.YtejadojilncbjaaGreat
open Go.RowKit
set_option linter.unusedVariables false

theorem Tryz.info3 : (Tryz.prog.info? 3).map (fun i => (i.zero, i.size, i.bytes)) = some (some (.int .i64 0), 1, 8) := by kernel_rfl

section
variable {B p eb xb : Nat} {w w0 w1 : World} {x : TS} {ca ra wa ha : Option Addr} {cc rc wc hc g cap : Nat}

end

/-- Enough rounds for a loop that asks in each. -/
def enough (E : Env) (s : LS) (n : Nat) : Prop := 1 ≤ n ∧ (s.over = false → E.seen.length - s.pos + 2 ≤ n)
end Go.Proofs.YtejadojilncbjaaGreat

namespace Go.Proofs.YtejadojilncbjaaGreat
open Go.RowKit
set_option linter.unusedVariables false
attribute [local go_sem ↓] Go.wp_at_zero Go.wp_at_succ

theorem wrapF (n : Int) (h1 : -1152921504606846976 ≤ n) (h2 : n ≤ 1152921504606846976) : IntKind.i64.wrap n = n := by rw [IntKind.wrap_i64]; omega

end Go.Proofs.YtejadojilncbjaaGreat
