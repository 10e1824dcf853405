import Derived.Test.YtgdfmmfkdmhdgaaG27
import Derived.Test.YtgdfmmfkdmhdgaaG28
import Derived.Test.YtgdfmmfkdmhdgaaG21
import Derived.Test.YtgdfmmfkdmhdgaaG11
import Derived.Laws.CopyOwn
namespace Go.Proofs.Ytgdfmmfkdmhdgaa
open Go.RowKit
set_option linter.unusedVariables false

theorem drop_lt {α : Type} {l r : List α} {a : α} {j : Nat} (h : l.drop j = a :: r) : j < l.length := (drop_cons3 h).2.1

theorem fall_of {K : Cx} (hc : cfgB K.c = true) {k : Int} {t : PT} {h : Th} (A : ThOk K k h) (S : Sim K t h) (D : Side K k t) (h1 : h.st ≠ .idle) (h2 : ∀ n, h.st ≠ .rest n) (v : AnsD) (hv : VOk K.c k (hOut K h).cell v.seen)
    (hr : 0 ≤ (hOut K h).cell ∧ (hOut K h).cell < total K.c) : FAll t v.seen (putV (hOut K h) v.seen) v.draw := by
  have hcb := cfgB_true hc
  obtain ⟨⟨t1, t2⟩, ⟨w1, w2⟩, ⟨s1, s2⟩, ⟨g1, g2⟩, _, _, ⟨f1, f2⟩⟩ := hcb
  have hk := D.kb
  have hme := D.me
  have hfa := D.fails
  have hbd := VOk.bd hc hk.1 hv hr.1 hr.2
  rcases S with ⟨hst, q⟩ | ⟨hst, b, hrs, hs, ho⟩ | ⟨n, hst, b, hrs, hn, hs, ho⟩ | ⟨win, hst, b, hrs, hs, ho⟩ | ⟨b, ho, q⟩
  · exact absurd hst h1
  · exact ⟨by omega, fun q => by omega, fun q => absurd hs q, fun q => absurd hs q, fun q => by omega, fun q => absurd hs q, by omega, fun q => by omega⟩
  · exact absurd hst (h2 n)
  · have hx : 0 ≤ win ∧ win < K.c.t := by have := A.step; unfold StepOk at this; rw [hst] at this; exact this
    have hcell : (hOut K h).cell = hSta K win := by unfold hOut; rw [hst]
    rw [hcell] at hv
    have h0 := (hv.sta (by unfold hSta; omega) (by unfold hSta; omega)).1
    exact ⟨by omega, fun _ => by omega, fun _ q => absurd hs q, fun _ q => absurd hs q, fun q => by omega, fun q => by omega, by omega, fun q => by omega⟩
  · have hon := A.on
    have ok := tok_of hc b hon D
    have X := hon.x
    obtain ⟨l1, l2, l3⟩ := xlens hc X
    have hrg : t.m.regs.length = 4 := by rw [b.2.regs]; exact X.four
    have lr : t.reads.length ≤ 8 := by rw [b.2.reads]; exact l1
    have lw : t.writes.length ≤ 8 := by rw [b.2.writes]; exact l2
    have lh : t.held.length ≤ 8 := by rw [b.2.held]; exact l3
    have hwy : t.wayTo = h.x.way + 1 := b.2.way
    have hwx := X.way
    have hx := A.step
    obtain ⟨hrank, hfails, hlist, hends, hjob, x, st⟩ := h
    have hvs : (hOut K ⟨hrank, hfails, hlist, hends, hjob, x, st⟩).cell = hSta K K.me → 0 ≤ v.seen := fun e => by
      rw [e] at hv
      exact (hv.sta (by unfold hSta; omega) (by unfold hSta; omega)).1
    cases st with
    | idle => exact q.elim
    | start => exact q.elim
    | rest n => exact q.elim
    | wait n => exact q.elim
    | rHeld i a =>
      obtain ⟨hg, hs, hrd⟩ := q
      obtain ⟨a0, a1, i0, i1, _⟩ := (show AOk K i a from hx)
      have ha := hrd.2.1
      have hi := hrd.2.2
      exact ⟨by omega, fun q => by omega, fun _ _ => ok, fun _ _ _ _ _ _ _ _ _ => ⟨by omega, by omega, hrg, by omega, fun _ => by omega, fun _ => by omega, fun _ => by omega, fun _ => by omega, fun _ => by omega, fun _ => by omega, fun _ => by omega, fun _ => by omega, fun _ => by omega, fun _ => by omega, fun _ => by omega, fun _ => by omega⟩, fun _ => by omega, fun _ => by omega, by omega, fun _ => by omega⟩
    | rVer i a =>
      obtain ⟨hg, hs, hrd⟩ := q
      obtain ⟨a0, a1, i0, i1, _⟩ := (show AOk K i a from hx)
      have ha := hrd.2.1
      have hi := hrd.2.2
      exact ⟨by omega, fun q => by omega, fun _ _ => ok, fun _ _ _ _ _ _ _ _ _ => ⟨by omega, by omega, hrg, by omega, fun _ => by omega, fun _ => by omega, fun _ => by omega, fun _ => by omega, fun _ => by omega, fun _ => by omega, fun _ => by omega, fun _ => by omega, fun _ => by omega, fun _ => by omega, fun _ => by omega, fun _ => by omega⟩, fun _ => by omega, fun _ => by omega, by omega, fun _ => by omega⟩
    | rWord i a one =>
      obtain ⟨hg, hs, hrd, _⟩ := q
      obtain ⟨⟨a0, a1, i0, i1, _⟩, _⟩ := (show AOk K i a ∧ 0 ≤ one ∧ one ≤ k from hx)
      have ha := hrd.2.1
      have hi := hrd.2.2
      exact ⟨by omega, fun q => by omega, fun _ _ => ok, fun _ _ _ _ _ _ _ _ _ => ⟨by omega, by omega, hrg, by omega, fun _ => by omega, fun _ => by omega, fun _ => by omega, fun _ => by omega, fun _ => by omega, fun _ => by omega, fun _ => by omega, fun _ => by omega, fun _ => by omega, fun _ => by omega, fun _ => by omega, fun _ => by omega⟩, fun _ => by omega, fun _ => by omega, by omega, fun _ => by omega⟩
    | rAgain i a one u =>
      obtain ⟨hg, hs, hrd, _⟩ := q
      obtain ⟨⟨a0, a1, i0, i1, _⟩, _⟩ := (show AOk K i a ∧ (0 ≤ one ∧ one ≤ k) ∧ 0 ≤ u ∧ u ≤ 65535 from hx)
      have ha := hrd.2.1
      have hi := hrd.2.2
      exact ⟨by omega, fun q => by omega, fun _ _ => ok, fun _ _ _ _ _ _ _ _ _ => ⟨by omega, by omega, hrg, by omega, fun _ => by omega, fun _ => by omega, fun _ => by omega, fun _ => by omega, fun _ => by omega, fun _ => by omega, fun _ => by omega, fun _ => by omega, fun _ => by omega, fun _ => by omega, fun _ => by omega, fun _ => by omega⟩, fun _ => by omega, fun _ => by omega, by omega, fun _ => by omega⟩
    | xClock e =>
      obtain ⟨hg, hs, he⟩ := q
      have hx' : ExOk K e := hx
      have hin : t.turn.op = 7 → 0 ≤ t.m.into ∧ t.m.into ≤ 3 := fun o => by
        cases e with
        | rd i a u => obtain ⟨⟨a0, a1, i0, i1, _⟩, _⟩ := (show AOk K i a ∧ 0 ≤ u ∧ u ≤ 65535 from hx'); have := he.1.2.2; omega
        | wr i a => have := he.1; omega
      exact ⟨by omega, fun q => by omega, fun _ _ => ok, fun _ _ _ _ _ _ _ _ _ => ⟨by omega, by omega, hrg, by omega, fun _ => by omega, fun q => by (rcases q with q | q; omega; exact hin q.2), fun _ => by omega, fun _ => by omega, fun _ => by omega, fun _ => by omega, fun _ => by omega, fun _ => by omega, fun _ => by omega, fun _ => by omega, fun _ => by omega, fun _ => by omega⟩, fun _ => by omega, fun _ => by omega, by omega, fun _ => by omega⟩
    | xVer e c r =>
      obtain ⟨hg, hs, he, hcl, hr'⟩ := q
      obtain ⟨hx', _, h3⟩ := (show ExOk K e ∧ (0 ≤ c ∧ c ≤ k) ∧ RdOk K r from hx)
      have hin : t.turn.op = 7 → 0 ≤ t.m.into ∧ t.m.into ≤ 3 := fun o => by
        cases e with
        | rd i a u => obtain ⟨⟨a0, a1, i0, i1, _⟩, _⟩ := (show AOk K i a ∧ 0 ≤ u ∧ u ≤ 65535 from hx'); have := he.1.2.2; omega
        | wr i a => have := he.1; omega
      have hlt : t.at_ < t.reads.length := by
        cases r with
        | nil => exact absurd rfl h3.1
        | cons y r => exact drop_lt hr'
      exact ⟨by omega, fun q => by omega, fun _ _ => ok, fun _ _ _ _ _ _ _ _ _ => ⟨by omega, by omega, hrg, by omega, fun _ => by omega, fun q => by (rcases q with q | q; omega; exact hin q.2), fun _ => by omega, fun _ => by omega, fun _ => by omega, fun _ => by omega, fun _ => by omega, fun _ => by omega, fun _ => by omega, fun _ => by omega, fun _ => by omega, fun _ => by omega⟩, fun _ => by omega, fun _ => by omega, by omega, fun _ => by omega⟩
    | gStat i a =>
      obtain ⟨hg, hs, hw⟩ := q
      obtain ⟨⟨a0, a1, i0, i1, _⟩, _⟩ := (show AOk K i a ∧ heldB x (a.tmod K.c.s) = false from hx)
      have h0 := hvs rfl
      have ha := hw.2.1
      exact ⟨by omega, fun q => by omega, fun _ _ => ok, fun _ _ _ _ _ _ _ _ _ => ⟨by omega, by omega, hrg, by omega, fun _ => by omega, fun _ => by omega, fun _ => by omega, fun _ => by omega, fun _ => by omega, fun _ => by omega, fun _ => by omega, fun _ => by omega, fun _ => by omega, fun _ => by omega, fun _ => by omega, fun _ => by omega⟩, fun _ => by omega, fun _ => by omega, by omega, fun _ => by omega⟩
    | gOwn i a =>
      obtain ⟨hg, hs, hw⟩ := q
      obtain ⟨⟨a0, a1, i0, i1, _⟩, _⟩ := (show AOk K i a ∧ heldB x (a.tmod K.c.s) = false from hx)
      have hm1 := tmodP s1 a0
      have h0 := (show VOk K.c k (hOwn K (a.tmod K.c.s)) v.seen from hv).own (by unfold hOwn; omega) (by unfold hOwn; omega)
      have ha := hw.2.1
      exact ⟨by omega, fun q => by omega, fun _ _ => ok, fun _ _ _ _ _ _ _ _ _ => ⟨by omega, by omega, hrg, by omega, fun _ => by omega, fun _ => by omega, fun _ => by omega, fun _ => by omega, fun _ => by omega, fun _ => by omega, fun _ => by omega, fun _ => by omega, fun _ => by omega, fun _ => by omega, fun _ => by omega, fun _ => by omega⟩, fun _ => by omega, fun _ => by omega, by omega, fun _ => by omega⟩
    | gTheir i a u =>
      obtain ⟨hg, hs, hw, hriv⟩ := q
      obtain ⟨⟨⟨a0, a1, i0, i1, _⟩, _⟩, hu⟩ := (show (AOk K i a ∧ heldB x (a.tmod K.c.s) = false) ∧ 1 ≤ u ∧ u ≤ K.c.t from hx)
      have h0 := ((show VOk K.c k (hSta K (u - 1)) v.seen from hv).sta (by unfold hSta; omega) (by unfold hSta; omega)).1
      have ha := hw.2.1
      exact ⟨by omega, fun q => by omega, fun _ _ => ok, fun _ _ _ _ _ _ _ _ _ => ⟨by omega, by omega, hrg, by omega, fun _ => by omega, fun _ => by omega, fun _ => by omega, fun _ => by omega, fun _ => by omega, fun _ => by omega, fun _ => by omega, fun _ => by omega, fun _ => by omega, fun _ => by omega, fun _ => by omega, fun _ => by omega⟩, fun _ => by omega, fun _ => by omega, by omega, fun _ => by omega⟩
    | gMark i a u th =>
      obtain ⟨hg, hs, hw⟩ := q
      obtain ⟨⟨⟨a0, a1, i0, i1, _⟩, _⟩, hu, _⟩ := (show (AOk K i a ∧ heldB x (a.tmod K.c.s) = false) ∧ (1 ≤ u ∧ u ≤ K.c.t) ∧ SOk K.c k th ∧ th % 8 = 0 from hx)
      have ha := hw.2.1
      exact ⟨by omega, fun q => by omega, fun _ _ => ok, fun _ _ _ _ _ _ _ _ _ => ⟨by omega, by omega, hrg, by omega, fun _ => by omega, fun _ => by omega, fun _ => by omega, fun _ => by omega, fun _ => by omega, fun _ => by omega, fun _ => by omega, fun _ => by omega, fun _ => by omega, fun _ => by omega, fun _ => by omega, fun _ => by omega⟩, fun _ => by omega, fun _ => by omega, by omega, fun _ => by omega⟩
    | gVer i a =>
      obtain ⟨hg, hs, hw⟩ := q
      obtain ⟨a0, a1, i0, i1, _⟩ := (show AOk K i a from hx)
      have ha := hw.2.1
      exact ⟨by omega, fun q => by omega, fun _ _ => ok, fun _ _ _ _ _ _ _ _ _ => ⟨by omega, by omega, hrg, by omega, fun _ => by omega, fun _ => by omega, fun _ => by omega, fun _ => by omega, fun _ => by omega, fun _ => by omega, fun _ => by omega, fun _ => by omega, fun _ => by omega, fun _ => by omega, fun _ => by omega, fun _ => by omega⟩, fun _ => by omega, fun _ => by omega, by omega, fun _ => by omega⟩
    | tTake =>
      obtain ⟨hg, hs⟩ := q
      have hcn := (show VOk K.c k 1 v.seen from hv).cnt (Or.inr rfl)
      have hp : putV (hOut K ⟨hrank, hfails, hlist, hends, hjob, x, .tTake⟩) v.seen = v.seen + 1 := rfl
      exact ⟨by omega, fun q => by omega, fun _ _ => ok, fun _ _ _ _ _ _ _ _ _ => ⟨by omega, by omega, hrg, by omega, fun _ => by omega, fun _ => by omega, fun _ => by omega, fun _ => by omega, fun _ => by omega, fun _ => by omega, fun _ => by omega, fun _ => by omega, fun _ => by omega, fun _ => by omega, fun _ => by omega, fun _ => by omega⟩, fun _ => by omega, fun _ => by omega, by omega, fun _ => by omega⟩
    | tShow =>
      obtain ⟨hg, hs⟩ := q
      exact ⟨by omega, fun q => by omega, fun _ _ => ok, fun _ _ _ _ _ _ _ _ _ => ⟨by omega, by omega, hrg, by omega, fun _ => by omega, fun _ => by omega, fun _ => by omega, fun _ => by omega, fun _ => by omega, fun _ => by omega, fun _ => by omega, fun _ => by omega, fun _ => by omega, fun _ => by omega, fun _ => by omega, fun _ => by omega⟩, fun _ => by omega, fun _ => by omega, by omega, fun _ => by omega⟩
    | cStat =>
      obtain ⟨hg, hs⟩ := q
      exact ⟨by omega, fun q => by omega, fun _ _ => ok, fun _ _ _ _ _ _ a b c => by omega, fun _ => by omega, fun _ => by omega, by omega, fun _ => by omega⟩
    | cGate =>
      obtain ⟨hg, hs⟩ := q
      exact ⟨by omega, fun q => by omega, fun _ _ => ok, fun _ _ _ _ _ _ a b c => by omega, fun _ => by omega, fun _ => by omega, by omega, fun _ => by omega⟩
    | cClock =>
      obtain ⟨hg, hs⟩ := q
      exact ⟨by omega, fun q => by omega, fun _ _ => ok, fun _ _ _ _ _ _ a b c => by omega, fun _ => by omega, fun _ => by omega, by omega, fun _ => by omega⟩
    | cVer c r =>
      obtain ⟨hg, hs, hcl, _, hr'⟩ := q
      obtain ⟨hcb', h3⟩ := (show (0 ≤ c ∧ c ≤ k) ∧ RdOk K r from hx)
      have hlt : t.at_ < t.reads.length := by
        cases r with
        | nil => exact absurd rfl h3.1
        | cons y r => exact drop_lt hr'
      exact ⟨by omega, fun q => by omega, fun _ _ => ok, fun _ _ _ _ _ _ _ _ _ => ⟨by omega, by omega, hrg, by omega, fun _ => by omega, fun _ => by omega, fun _ => by omega, fun _ => by omega, fun _ => by omega, fun _ => by omega, fun _ => by omega, fun _ => by omega, fun _ => by omega, fun _ => by omega, fun _ => by omega, fun _ => by omega⟩, fun _ => by omega, fun _ => by omega, by omega, fun _ => by omega⟩
    | cShut c r =>
      obtain ⟨hs, hcl, hr'⟩ := q
      obtain ⟨hcb', h3⟩ := (show (0 ≤ c ∧ c ≤ k) ∧ HdOk K r from hx)
      have hlt : t.at_ < t.held.length := by
        cases r with
        | nil => exact absurd rfl h3.1
        | cons y r => exact drop_lt hr'
      exact ⟨by omega, fun q => by omega, fun _ _ => ok, fun _ _ _ _ _ _ _ _ _ => ⟨by omega, by omega, hrg, by omega, fun _ => by omega, fun _ => by omega, fun _ => by omega, fun _ => by omega, fun _ => by omega, fun _ => by omega, fun _ => by omega, fun _ => by omega, fun _ => by omega, fun _ => by omega, fun _ => by omega, fun _ => by omega⟩, fun _ => by omega, fun _ => by omega, by omega, fun _ => by omega⟩
    | cOpen c r =>
      obtain ⟨hs, hcl, hr'⟩ := q
      obtain ⟨hcb', h3⟩ := (show (0 ≤ c ∧ c ≤ k) ∧ HdOk K r from hx)
      have hlt : t.at_ < t.held.length := by
        cases r with
        | nil => exact absurd rfl h3.1
        | cons y r => exact drop_lt hr'
      exact ⟨by omega, fun q => by omega, fun _ _ => ok, fun _ _ _ _ _ _ _ _ _ => ⟨by omega, by omega, hrg, by omega, fun _ => by omega, fun _ => by omega, fun _ => by omega, fun _ => by omega, fun _ => by omega, fun _ => by omega, fun _ => by omega, fun _ => by omega, fun _ => by omega, fun _ => by omega, fun _ => by omega, fun _ => by omega⟩, fun _ => by omega, fun _ => by omega, by omega, fun _ => by omega⟩
    | cOwn c r =>
      obtain ⟨hs, hcl, hr'⟩ := q
      obtain ⟨hcb', h3⟩ := (show (0 ≤ c ∧ c ≤ k) ∧ HdOk K r from hx)
      have hlt : t.at_ < t.held.length := by
        cases r with
        | nil => exact absurd rfl h3.1
        | cons y r => exact drop_lt hr'
      exact ⟨by omega, fun q => by omega, fun _ _ => ok, fun _ _ _ _ _ _ _ _ _ => ⟨by omega, by omega, hrg, by omega, fun _ => by omega, fun _ => by omega, fun _ => by omega, fun _ => by omega, fun _ => by omega, fun _ => by omega, fun _ => by omega, fun _ => by omega, fun _ => by omega, fun _ => by omega, fun _ => by omega, fun _ => by omega⟩, fun _ => by omega, fun _ => by omega, by omega, fun _ => by omega⟩
    | cWord c r =>
      obtain ⟨hs, hcl, hr'⟩ := q
      obtain ⟨hcb', h3⟩ := (show (0 ≤ c ∧ c ≤ k) ∧ WrOk K r from hx)
      have hlt : t.at_ < t.writes.length := by
        cases r with
        | nil => exact absurd rfl h3.1
        | cons y r => exact drop_lt hr'
      exact ⟨by omega, fun q => by omega, fun _ _ => ok, fun _ _ _ _ _ _ _ _ _ => ⟨by omega, by omega, hrg, by omega, fun _ => by omega, fun _ => by omega, fun _ => by omega, fun _ => by omega, fun _ => by omega, fun _ => by omega, fun _ => by omega, fun _ => by omega, fun _ => by omega, fun _ => by omega, fun _ => by omega, fun _ => by omega⟩, fun _ => by omega, fun _ => by omega, by omega, fun _ => by omega⟩
    | cStamp c =>
      obtain ⟨hs, hcl⟩ := q
      have hcb' : 0 ≤ c ∧ c ≤ k := hx
      exact ⟨by omega, fun q => by omega, fun _ _ => ok, fun _ _ a b c d _ _ _ => by omega, fun _ => by omega, fun _ => by omega, by omega, fun _ => by omega⟩
    | cLeave c =>
      obtain ⟨hs, hcl⟩ := q
      have hcb' : 0 ≤ c ∧ c ≤ k := hx
      exact ⟨by omega, fun q => by omega, fun _ _ => ok, fun _ _ a b c d _ _ _ => by omega, fun _ => by omega, fun _ => by omega, by omega, fun _ => by omega⟩
    | free e r =>
      obtain ⟨hs, hr'⟩ := q
      have h3 : HdOk K r := hx
      have hlt : t.at_ < t.held.length := by
        cases r with
        | nil => exact absurd rfl h3.1
        | cons y r => exact drop_lt hr'
      exact ⟨by omega, fun q => by omega, fun _ _ => ok, fun _ _ _ _ _ _ _ _ _ => ⟨by omega, by omega, hrg, by omega, fun _ => by omega, fun _ => by omega, fun _ => by omega, fun _ => by omega, fun _ => by omega, fun _ => by omega, fun _ => by omega, fun _ => by omega, fun _ => by omega, fun _ => by omega, fun _ => by omega, fun _ => by omega⟩, fun _ => by omega, fun _ => by omega, by omega, fun _ => by omega⟩
    | fin e =>
      have hs : t.step = 27 := q
      exact ⟨by omega, fun q => by omega, fun _ _ => ok, fun _ _ _ _ _ _ _ _ _ => ⟨by omega, by omega, hrg, by omega, fun _ => by omega, fun _ => by omega, fun _ => by omega, fun _ => by omega, fun _ => by omega, fun _ => by omega, fun _ => by omega, fun _ => by omega, fun _ => by omega, fun _ => by omega, fun _ => by omega, fun _ => by omega⟩, fun _ => by omega, fun _ => by omega, by omega, fun _ => by omega⟩
    | fGate =>
      have hs : t.step = 28 := q
      exact ⟨by omega, fun q => by omega, fun _ _ => ok, fun _ _ a b c d _ _ _ => by omega, fun _ => by omega, fun _ => by omega, by omega, fun _ => by omega⟩
    | fOwn r =>
      obtain ⟨hs, hr'⟩ := q
      have h3 : HdOk K r := hx
      have hlt : t.at_ < t.held.length ∧ putV (hOut K ⟨hrank, hfails, hlist, hends, hjob, x, .fOwn r⟩) v.seen = 0 := by
        cases r with
        | nil => exact absurd rfl h3.1
        | cons y r => exact ⟨drop_lt hr', rfl⟩
      exact ⟨by omega, fun q => by omega, fun _ _ => ok, fun _ _ _ _ _ _ _ _ _ => ⟨by omega, by omega, hrg, by omega, fun _ => by omega, fun _ => by omega, fun _ => by omega, fun _ => by omega, fun _ => by omega, fun _ => by omega, fun _ => by omega, fun _ => by omega, fun _ => by omega, fun _ => by omega, fun _ => by omega, fun _ => by omega⟩, fun _ => by omega, fun _ => by omega, by omega, fun _ => by omega⟩
    | fTake =>
      have hs : t.step = 30 := q
      have hcn := (show VOk K.c k 1 v.seen from hv).cnt (Or.inr rfl)
      have hp : putV (hOut K ⟨hrank, hfails, hlist, hends, hjob, x, .fTake⟩) v.seen = v.seen + 1 := rfl
      exact ⟨by omega, fun q => by omega, fun _ _ => ok, fun _ _ a b c d _ _ _ => by omega, fun _ => by omega, fun _ => by omega, by omega, fun _ => by omega⟩
    | fStat =>
      have hs : t.step = 31 := q
      have h0 := hvs rfl
      have hwx' : -1 ≤ x.way ∧ x.way < K.c.t := hwx
      have hwy' : t.wayTo = x.way + 1 := hwy
      exact ⟨by omega, fun q => by omega, fun _ _ => ok, fun _ _ _ _ _ _ _ _ _ => ⟨by omega, by omega, hrg, by omega, fun _ => by omega, fun _ => by omega, fun _ => by omega, fun _ => by omega, fun _ => by omega, fun _ => by omega, fun _ => by omega, fun _ => by omega, fun _ => by omega, fun _ => by omega, fun _ => by omega, fun _ => by omega⟩, fun _ => by omega, fun _ => by omega, by omega, fun _ => by omega⟩

end Go.Proofs.Ytgdfmmfkdmhdgaa

namespace Go.Proofs.Ytgdfmmfkdmhdgaa
open Go.RowKit
set_option linter.unusedVariables false
attribute [local go_sem ↓] Go.wp_at_zero Go.wp_at_succ

theorem run_make3 (n : Nat) (hn : n ≤ 1000) (w : World) : (Instr.makeSlice 24 (Value.int .i64 (n : Int)) (Value.int .i64 (n : Int))).run Try.prog w =
    .ok (.slice (some ⟨w.heap.size, 0, none⟩) n n) (w.alloc (.cells (List.replicate n (.int .i64 0)).toArray 3)) := by
  obtain ⟨i0, h1, h2, h3, h4⟩ := info_parts Try.info3
  have := run_make (P := Try.prog) w 24 3 i0 _ Try.underlying24 h1 h2 .i64 .i64 n n (by omega) (by omega) (by rw [h4]; omega) (by omega)
  rw [h3] at this
  simp only [Int.toNat_natCast, Nat.mul_one] at this
  have e : madeCells (Value.int .i64 0).cells n = (List.replicate n (Value.int .i64 0)).toArray := by
    apply Array.ext'
    rw [show (Value.int .i64 0).cells = #[.int .i64 0] from rfl, toList_madeCells_one]
  rw [e] at this
  exact this

theorem below_only {n p : Nat} {w w1 w2 : World} (h : Below n w w1) (ho : Only p w1 w2) (hp : n ≤ p) (hn : n ≤ w1.heap.size) : Below n w w2 :=
  ⟨ho.os.trans h.os, ho.tape.trans h.tape, ho.output.trans h.output, Nat.le_trans h.size ho.size, fun k hk => (ho.block k (by omega) (by omega)).trans (h.block k hk)⟩
theorem ints_blk {w : World} {b : Nat} {D : List Int} (h : Blk w b 3 (D.map (Value.int .i64 ·)).toArray) : Ints w w.heap.size (some ⟨b, 0, none⟩) D := fun i hi =>
  ⟨b, 0, rfl, h.lt, by rw [h.cell]; simp [List.getElem?_eq_getElem hi, List.getD]⟩
theorem blk_set {w : World} {b k : Nat} {D : List Int} {v : Int} (h : Blk w b 3 (D.map (Value.int .i64 ·)).toArray) : Blk (w.setCell ⟨b, k, none⟩ (.int .i64 v)) b 3 ((D.set k v).map (Value.int .i64 ·)).toArray :=
  h.set.congr (by rw [List.setIfInBounds_toArray, List.map_set])

end Go.Proofs.Ytgdfmmfkdmhdgaa
