import Derived.Test.YtejadojilncbjabGreatD30
import Derived.Test.YtejadojilncbjabGreatD25
import Derived.Test.YtejadojilncbjabGreatD02
import Derived.Laws.CopyOwn
import Derived.Test.YtejadojilncbjabGreatD08
import Derived.Test.YtejadojilncbjabGreatD18
import Derived.Test.YtejadojilncbjabGreatD07
namespace Go.Proofs.YtejadojilncbjabGreat
open Go.RowKit
set_option linter.unusedVariables false
theorem drop_lt {α : Type} {l r : List α} {a : α} {j : Nat} (h : l.drop j = a :: r) : j < l.length := (drop_cons3 h).2.1
theorem fall_of {K : Cx} (hc : cfgB K.c = true) {k : Int} {t : PT} {h : Th} (A : ThOk K k h) (S : Sim K t h) (D : Side K k t) (h1 : h.st ≠ .idle) (h2 : ∀ n, h.st ≠ .rest n) (v : AnsD) (hv : VOk K.c k (hOut K h).cell v.seen)
  (hr : 0 ≤ (hOut K h).cell ∧ (hOut K h).cell < total K.c) : FAll t v.seen (putV (hOut K h) v.seen) v.draw := by
 have hcb := cfgB_true hc
 obtain ⟨⟨t1, t2⟩, ⟨w1, w2⟩, ⟨s1, s2⟩, ⟨g1, g2⟩, _, _, ⟨f1, f2⟩⟩ := hcb
 have hk := D.kb
 have hme := D.me
 have hfa := D.fails
 have hbd := VOk.bd hc hk.1 hv hr.1 hr.2
 rcases S with ⟨hst, q, _⟩ | ⟨hst, b, hrs, hs, ho⟩ | ⟨n, hst, b, hrs, hn, hs, ho⟩ | ⟨win, hst, b, hrs, hs, ho⟩ | ⟨b, ho, q⟩
 ·exact absurd hst h1
 ·exact ⟨by omega, fun q => by omega, fun q => absurd hs q, fun q => absurd hs q, fun q => by omega, fun q => absurd hs q, by omega, fun q => by omega⟩
 ·exact absurd hst (h2 n)
 ·have hx : 0 ≤ win ∧ win < K.c.t := by have := A.step; unfold StepOk at this; rw [hst] at this; exact this
  have hcell : (hOut K h).cell = hSta K win := by unfold hOut; rw [hst]
  rw [hcell] at hv
  have h0 := (hv.sta (by unfold hSta; omega) (by unfold hSta; omega)).1
  exact ⟨by omega, fun _ => by omega, fun _ q => absurd hs q, fun _ q => absurd hs q, fun q => by omega, fun q => by omega, by omega, fun q => by omega⟩
 ·have hon := A.on
  have ok := tok_of hc b hon D
  have X := hon.x
  obtain ⟨l1, l2, l3⟩ := xlens hc X
  have hrg : t.m.regs.length = 4 := by rw [b.2.regs]; exact X.four
  have lr : t.reads.length ≤ 8 := by rw [b.2.reads]; exact l1
  have lw : t.writes.length ≤ 8 := by rw [b.2.writes]; exact l2
  have lh : t.held.length ≤ 8 := by rw [b.2.held]; exact l3
  have hwy : t.wayTo = h.x.way + 1 := b.2.way
  have hwx := X.way
  have hx := A.step
  obtain ⟨hrank, hfails, hlist, hends, hjob, x, st⟩ := h
  have hvs : (hOut K ⟨hrank, hfails, hlist, hends, hjob, x, st⟩).cell = hSta K K.me → 0 ≤ v.seen := fun e => by
   rw [e] at hv
   exact (hv.sta (by unfold hSta; omega) (by unfold hSta; omega)).1
  cases st with
  | idle => exact q.elim
  | start => exact q.elim
  | rest n => exact q.elim
  | wait n => exact q.elim
  | rHeld i a =>
   obtain ⟨hg, hs, hrd⟩ := q
   obtain ⟨a0, a1, i0, i1, _⟩ := (show AOk K i a from hx)
   have ha := hrd.2.1
   have hi := hrd.2.2
   exact ⟨by omega, fun q => by omega, fun _ _ => ok, fun _ _ _ _ _ _ _ _ _ => (by constructor <;> first | exact hrg | omega), fun _ => by omega, fun _ => by omega, by omega, fun _ => by omega⟩
  | rVer i a =>
   obtain ⟨hg, hs, hrd⟩ := q
   obtain ⟨a0, a1, i0, i1, _⟩ := (show AOk K i a from hx)
   have ha := hrd.2.1
   have hi := hrd.2.2
   exact ⟨by omega, fun q => by omega, fun _ _ => ok, fun _ _ _ _ _ _ _ _ _ => (by constructor <;> first | exact hrg | omega), fun _ => by omega, fun _ => by omega, by omega, fun _ => by omega⟩
  | rWord i a one =>
   obtain ⟨hg, hs, hrd, _⟩ := q
   obtain ⟨⟨a0, a1, i0, i1, _⟩, _⟩ := (show AOk K i a ∧ 0 ≤ one ∧ one ≤ k from hx)
   have ha := hrd.2.1
   have hi := hrd.2.2
   exact ⟨by omega, fun q => by omega, fun _ _ => ok, fun _ _ _ _ _ _ _ _ _ => (by constructor <;> first | exact hrg | omega), fun _ => by omega, fun _ => by omega, by omega, fun _ => by omega⟩
  | rAgain i a one u =>
   obtain ⟨hg, hs, hrd, _⟩ := q
   obtain ⟨⟨a0, a1, i0, i1, _⟩, _⟩ := (show AOk K i a ∧ (0 ≤ one ∧ one ≤ k) ∧ 0 ≤ u ∧ u ≤ 65535 from hx)
   have ha := hrd.2.1
   have hi := hrd.2.2
   exact ⟨by omega, fun q => by omega, fun _ _ => ok, fun _ _ _ _ _ _ _ _ _ => (by constructor <;> first | exact hrg | omega), fun _ => by omega, fun _ => by omega, by omega, fun _ => by omega⟩
  | xClock e =>
   obtain ⟨hg, hs, he⟩ := q
   have hx' : ExOk K e := hx
   have hin : t.turn.op = 7 → 0 ≤ t.m.into ∧ t.m.into ≤ 3 := fun o => by
    cases e with
    | rd i a u => obtain ⟨⟨a0, a1, i0, i1, _⟩, _⟩ := (show AOk K i a ∧ 0 ≤ u ∧ u ≤ 65535 from hx'); have := he.1.2.2; omega
    | wr i a => have := he.1; omega
   exact ⟨by omega, fun q => by omega, fun _ _ => ok, fun _ _ _ _ _ _ _ _ _ => ⟨by omega, by omega, hrg, by omega, fun _ => by omega, fun q => by (rcases q with q | q; omega; exact hin q.2), fun _ => by omega, fun _ => by omega, fun _ => by omega, fun _ => by omega, fun _ => by omega, fun _ => by omega, fun _ => by omega, fun _ => by omega, fun _ => by omega, fun _ => by omega⟩, fun _ => by omega, fun _ => by omega, by omega, fun _ => by omega⟩
  | xVer e c r =>
   obtain ⟨hg, hs, he, hcl, hr'⟩ := q
   obtain ⟨hx', _, h3⟩ := (show ExOk K e ∧ (0 ≤ c ∧ c ≤ k) ∧ RdOk K r from hx)
   have hin : t.turn.op = 7 → 0 ≤ t.m.into ∧ t.m.into ≤ 3 := fun o => by
    cases e with
    | rd i a u => obtain ⟨⟨a0, a1, i0, i1, _⟩, _⟩ := (show AOk K i a ∧ 0 ≤ u ∧ u ≤ 65535 from hx'); have := he.1.2.2; omega
    | wr i a => have := he.1; omega
   have hlt : t.at_ < t.reads.length := by
    cases r with
    | nil => exact absurd rfl h3.1
    | cons y r => exact drop_lt hr'
   exact ⟨by omega, fun q => by omega, fun _ _ => ok, fun _ _ _ _ _ _ _ _ _ => ⟨by omega, by omega, hrg, by omega, fun _ => by omega, fun q => by (rcases q with q | q; omega; exact hin q.2), fun _ => by omega, fun _ => by omega, fun _ => by omega, fun _ => by omega, fun _ => by omega, fun _ => by omega, fun _ => by omega, fun _ => by omega, fun _ => by omega, fun _ => by omega⟩, fun _ => by omega, fun _ => by omega, by omega, fun _ => by omega⟩
  | gStat i a =>
   obtain ⟨hg, hs, hw⟩ := q
   obtain ⟨⟨a0, a1, i0, i1, _⟩, _⟩ := (show AOk K i a ∧ heldB x (a.tmod K.c.s) = false from hx)
   have h0 := hvs rfl
   have ha := hw.2.1
   exact ⟨by omega, fun q => by omega, fun _ _ => ok, fun _ _ _ _ _ _ _ _ _ => (by constructor <;> first | exact hrg | omega), fun _ => by omega, fun _ => by omega, by omega, fun _ => by omega⟩
  | gOwn i a =>
   obtain ⟨hg, hs, hw⟩ := q
   obtain ⟨⟨a0, a1, i0, i1, _⟩, _⟩ := (show AOk K i a ∧ heldB x (a.tmod K.c.s) = false from hx)
   have hm1 := tmodP s1 a0
   have h0 := (show VOk K.c k (hOwn K (a.tmod K.c.s)) v.seen from hv).own (by unfold hOwn; omega) (by unfold hOwn; omega)
   have ha := hw.2.1
   exact ⟨by omega, fun q => by omega, fun _ _ => ok, fun _ _ _ _ _ _ _ _ _ => (by constructor <;> first | exact hrg | omega), fun _ => by omega, fun _ => by omega, by omega, fun _ => by omega⟩
  | gTheir i a u =>
   obtain ⟨hg, hs, hw, hriv⟩ := q
   obtain ⟨⟨⟨a0, a1, i0, i1, _⟩, _⟩, hu⟩ := (show (AOk K i a ∧ heldB x (a.tmod K.c.s) = false) ∧ 1 ≤ u ∧ u ≤ K.c.t from hx)
   have h0 := ((show VOk K.c k (hSta K (u - 1)) v.seen from hv).sta (by unfold hSta; omega) (by unfold hSta; omega)).1
   have ha := hw.2.1
   exact ⟨by omega, fun q => by omega, fun _ _ => ok, fun _ _ _ _ _ _ _ _ _ => (by constructor <;> first | exact hrg | omega), fun _ => by omega, fun _ => by omega, by omega, fun _ => by omega⟩
  | gMark i a u th =>
   obtain ⟨hg, hs, hw⟩ := q
   obtain ⟨⟨⟨a0, a1, i0, i1, _⟩, _⟩, hu, _⟩ := (show (AOk K i a ∧ heldB x (a.tmod K.c.s) = false) ∧ (1 ≤ u ∧ u ≤ K.c.t) ∧ SOk K.c k th ∧ th % 8 = 0 from hx)
   have ha := hw.2.1
   exact ⟨by omega, fun q => by omega, fun _ _ => ok, fun _ _ _ _ _ _ _ _ _ => (by constructor <;> first | exact hrg | omega), fun _ => by omega, fun _ => by omega, by omega, fun _ => by omega⟩
  | gVer i a =>
   obtain ⟨hg, hs, hw⟩ := q
   obtain ⟨a0, a1, i0, i1, _⟩ := (show AOk K i a from hx)
   have ha := hw.2.1
   exact ⟨by omega, fun q => by omega, fun _ _ => ok, fun _ _ _ _ _ _ _ _ _ => (by constructor <;> first | exact hrg | omega), fun _ => by omega, fun _ => by omega, by omega, fun _ => by omega⟩
  | tTake =>
   obtain ⟨hg, hs⟩ := q
   have hcn := (show VOk K.c k 1 v.seen from hv).cnt (Or.inr rfl)
   have hp : putV (hOut K ⟨hrank, hfails, hlist, hends, hjob, x, .tTake⟩) v.seen = v.seen + 1 := rfl
   exact ⟨by omega, fun q => by omega, fun _ _ => ok, fun _ _ _ _ _ _ _ _ _ => (by constructor <;> first | exact hrg | omega), fun _ => by omega, fun _ => by omega, by omega, fun _ => by omega⟩
  | tShow =>
   obtain ⟨hg, hs⟩ := q
   exact ⟨by omega, fun q => by omega, fun _ _ => ok, fun _ _ _ _ _ _ _ _ _ => (by constructor <;> first | exact hrg | omega), fun _ => by omega, fun _ => by omega, by omega, fun _ => by omega⟩
  | cStat =>
   obtain ⟨hg, hs, hfe⟩ := q
   exact ⟨by omega, fun q => by omega, fun _ _ => ok, fun _ _ _ _ _ _ a b c => by omega, fun _ => by omega, fun _ => by omega, by omega, fun _ => by omega⟩
  | cGate =>
   obtain ⟨hg, hs, hfe⟩ := q
   exact ⟨by omega, fun q => by omega, fun _ _ => ok, fun _ _ _ _ _ _ a b c => by omega, fun _ => by omega, fun _ => by omega, by omega, fun _ => by omega⟩
  | cClock =>
   obtain ⟨hg, hs, hfe⟩ := q
   exact ⟨by omega, fun q => by omega, fun _ _ => ok, fun _ _ _ _ _ _ a b c => by omega, fun _ => by omega, fun _ => by omega, by omega, fun _ => by omega⟩
  | cVer c r =>
   obtain ⟨hg, hs, hfe, hcl, _, hr'⟩ := q
   obtain ⟨hcb', h3⟩ := (show (0 ≤ c ∧ c ≤ k) ∧ RdOk K r from hx)
   have hlt : t.at_ < t.reads.length := by
    cases r with
    | nil => exact absurd rfl h3.1
    | cons y r => exact drop_lt hr'
   exact ⟨by omega, fun q => by omega, fun _ _ => ok, fun _ _ _ _ _ _ _ _ _ => (by constructor <;> first | exact hrg | omega), fun _ => by omega, fun _ => by omega, by omega, fun _ => by omega⟩
  | cShut c r =>
   obtain ⟨hs, hfe, hcl, hr'⟩ := q
   obtain ⟨hcb', h3⟩ := (show (0 ≤ c ∧ c ≤ k) ∧ HdOk K r from hx)
   have hlt : t.at_ < t.held.length := by
    cases r with
    | nil => exact absurd rfl h3.1
    | cons y r => exact drop_lt hr'
   exact ⟨by omega, fun q => by omega, fun _ _ => ok, fun _ _ _ _ _ _ _ _ _ => (by constructor <;> first | exact hrg | omega), fun _ => by omega, fun _ => by omega, by omega, fun _ => by omega⟩
  | cOpen c r =>
   obtain ⟨hs, hfe, hcl, hr'⟩ := q
   obtain ⟨hcb', h3⟩ := (show (0 ≤ c ∧ c ≤ k) ∧ HdOk K r from hx)
   have hlt : t.at_ < t.held.length := by
    cases r with
    | nil => exact absurd rfl h3.1
    | cons y r => exact drop_lt hr'
   exact ⟨by omega, fun q => by omega, fun _ _ => ok, fun _ _ _ _ _ _ _ _ _ => (by constructor <;> first | exact hrg | omega), fun _ => by omega, fun _ => by omega, by omega, fun _ => by omega⟩
  | cOwn c r =>
   obtain ⟨hs, hfe, hcl, hr'⟩ := q
   obtain ⟨hcb', h3⟩ := (show (0 ≤ c ∧ c ≤ k) ∧ HdOk K r from hx)
   have hlt : t.at_ < t.held.length := by
    cases r with
    | nil => exact absurd rfl h3.1
    | cons y r => exact drop_lt hr'
   exact ⟨by omega, fun q => by omega, fun _ _ => ok, fun _ _ _ _ _ _ _ _ _ => (by constructor <;> first | exact hrg | omega), fun _ => by omega, fun _ => by omega, by omega, fun _ => by omega⟩
  | cWord c r =>
   obtain ⟨hs, hfe, hcl, hr'⟩ := q
   obtain ⟨hcb', h3⟩ := (show (0 ≤ c ∧ c ≤ k) ∧ WrOk K r from hx)
   have hlt : t.at_ < t.writes.length := by
    cases r with
    | nil => exact absurd rfl h3.1
    | cons y r => exact drop_lt hr'
   exact ⟨by omega, fun q => by omega, fun _ _ => ok, fun _ _ _ _ _ _ _ _ _ => (by constructor <;> first | exact hrg | omega), fun _ => by omega, fun _ => by omega, by omega, fun _ => by omega⟩
  | cStamp c =>
   obtain ⟨hs, hfe, hcl⟩ := q
   have hcb' : 0 ≤ c ∧ c ≤ k := hx
   exact ⟨by omega, fun q => by omega, fun _ _ => ok, fun _ _ a b c d _ _ _ => by omega, fun _ => by omega, fun _ => by omega, by omega, fun _ => by omega⟩
  | cLeave c =>
   obtain ⟨hs, hfe, hcl⟩ := q
   have hcb' : 0 ≤ c ∧ c ≤ k := hx
   exact ⟨by omega, fun q => by omega, fun _ _ => ok, fun _ _ a b c d _ _ _ => by omega, fun _ => by omega, fun _ => by omega, by omega, fun _ => by omega⟩
  | free e r =>
   obtain ⟨hs, hfe, hr'⟩ := q
   have h3 : HdOk K r := hx
   have hlt : t.at_ < t.held.length := by
    cases r with
    | nil => exact absurd rfl h3.1
    | cons y r => exact drop_lt hr'
   exact ⟨by omega, fun q => by omega, fun _ _ => ok, fun _ _ _ _ _ _ _ _ _ => (by constructor <;> first | exact hrg | omega), fun _ => by omega, fun _ => by omega, by omega, fun _ => by omega⟩
  | fin e =>
   obtain ⟨hs, hfe⟩ : t.step = 27 ∧ t.turn.fate = e := q
   exact ⟨by omega, fun q => by omega, fun _ _ => ok, fun _ _ _ _ _ _ _ _ _ => (by constructor <;> first | exact hrg | omega), fun _ => by omega, fun _ => by omega, by omega, fun _ => by omega⟩
  | fGate =>
   have hs : t.step = 28 := q
   exact ⟨by omega, fun q => by omega, fun _ _ => ok, fun _ _ a b c d _ _ _ => by omega, fun _ => by omega, fun _ => by omega, by omega, fun _ => by omega⟩
  | fOwn r =>
   obtain ⟨hs, hr'⟩ := q
   have h3 : HdOk K r := hx
   have hlt : t.at_ < t.held.length ∧ putV (hOut K ⟨hrank, hfails, hlist, hends, hjob, x, .fOwn r⟩) v.seen = 0 := by
    cases r with
    | nil => exact absurd rfl h3.1
    | cons y r => exact ⟨drop_lt hr', rfl⟩
   exact ⟨by omega, fun q => by omega, fun _ _ => ok, fun _ _ _ _ _ _ _ _ _ => (by constructor <;> first | exact hrg | omega), fun _ => by omega, fun _ => by omega, by omega, fun _ => by omega⟩
  | fTake =>
   have hs : t.step = 30 := q
   have hcn := (show VOk K.c k 1 v.seen from hv).cnt (Or.inr rfl)
   have hp : putV (hOut K ⟨hrank, hfails, hlist, hends, hjob, x, .fTake⟩) v.seen = v.seen + 1 := rfl
   exact ⟨by omega, fun q => by omega, fun _ _ => ok, fun _ _ a b c d _ _ _ => by omega, fun _ => by omega, fun _ => by omega, by omega, fun _ => by omega⟩
  | fStat =>
   have hs : t.step = 31 := q
   have h0 := hvs rfl
   have hwx' : -1 ≤ x.way ∧ x.way < K.c.t := hwx
   have hwy' : t.wayTo = x.way + 1 := hwy
   exact ⟨by omega, fun q => by omega, fun _ _ => ok, fun _ _ _ _ _ _ _ _ _ => (by constructor <;> first | exact hrg | omega), fun _ => by omega, fun _ => by omega, by omega, fun _ => by omega⟩
end Go.Proofs.YtejadojilncbjabGreat
namespace Go.Proofs.YtejadojilncbjabGreat
open Go.RowKit
set_option linter.unusedVariables false
attribute [local go_sem ↓] Go.wp_at_zero Go.wp_at_succ
theorem run_make3 (n : Nat) (hn : n ≤ 1000) (w : World) : (Instr.makeSlice 24 (Value.int .i64 (n : Int)) (Value.int .i64 (n : Int))).run Tryz.prog w =
  .ok (.slice (some ⟨w.heap.size, 0, none⟩) n n) (w.alloc (.cells (List.replicate n (.int .i64 0)).toArray 3)) := by
 obtain ⟨i0, h1, h2, h3, h4⟩ := info_parts Tryz.info3
 have := run_make (P := Tryz.prog) w 24 3 i0 _ Tryz.underlying24 h1 h2 .i64 .i64 n n (by omega) (by omega) (by rw [h4]; omega) (by omega)
 rw [h3] at this
 simp only [Int.toNat_natCast, Nat.mul_one] at this
 have e : madeCells (Value.int .i64 0).cells n = (List.replicate n (Value.int .i64 0)).toArray := by
  apply Array.ext'
  rw [show (Value.int .i64 0).cells = #[.int .i64 0] from rfl, toList_madeCells_one]
 rw [e] at this
 exact this
theorem CodeIn.mono {w : World} {n m : Nat} {a : Option Addr} {is : List InsD} (h : CodeIn w n a is) (hm : n ≤ m) : CodeIn w m a is := fun i hi => by
 obtain ⟨b, off, g1, g2, g3⟩ := h i hi
 exact ⟨b, off, g1, by omega, g3⟩
theorem below_only {n p : Nat} {w w1 w2 : World} (h : Below n w w1) (ho : Only p w1 w2) (hp : n ≤ p) (hn : n ≤ w1.heap.size) : Below n w w2 :=
 ⟨ho.os.trans h.os, ho.tape.trans h.tape, ho.output.trans h.output, Nat.le_trans h.size ho.size, fun k hk => (ho.block k (by omega) (by omega)).trans (h.block k hk)⟩
theorem blk_set {w : World} {b k : Nat} {D : List Int} {v : Int} (h : Blk w b 3 (D.map (Value.int .i64 ·)).toArray) : Blk (w.setCell ⟨b, k, none⟩ (.int .i64 v)) b 3 ((D.set k v).map (Value.int .i64 ·)).toArray :=
 h.set.congr (by rw [List.setIfInBounds_toArray, List.map_set])
theorem make_end {w wr : World} {rb nb : Nat} {cs : Array Value} {D : List Int} (hne : nb ≠ rb) (hr : Blk wr rb 158 cs) (hcs : cs.size = 4) (hO : Only nb w wr) (hrb : w.heap.size ≤ rb) (hp : Blk wr nb 3 (D.map (Value.int .i64 ·)).toArray) (a b c d : Value) :
  ((((wr.setCell ⟨rb, 0, none⟩ a).setCell ⟨rb, 1, none⟩ b).setCell ⟨rb, 2, none⟩ c).setCell ⟨rb, 3, none⟩ d).cell? ⟨rb, 0, none⟩ = some a ∧
  ((((wr.setCell ⟨rb, 0, none⟩ a).setCell ⟨rb, 1, none⟩ b).setCell ⟨rb, 2, none⟩ c).setCell ⟨rb, 3, none⟩ d).cell? ⟨rb, 1, none⟩ = some b ∧
  ((((wr.setCell ⟨rb, 0, none⟩ a).setCell ⟨rb, 1, none⟩ b).setCell ⟨rb, 2, none⟩ c).setCell ⟨rb, 3, none⟩ d).cell? ⟨rb, 2, none⟩ = some c ∧
  ((((wr.setCell ⟨rb, 0, none⟩ a).setCell ⟨rb, 1, none⟩ b).setCell ⟨rb, 2, none⟩ c).setCell ⟨rb, 3, none⟩ d).cell? ⟨rb, 3, none⟩ = some d ∧
  Blk ((((wr.setCell ⟨rb, 0, none⟩ a).setCell ⟨rb, 1, none⟩ b).setCell ⟨rb, 2, none⟩ c).setCell ⟨rb, 3, none⟩ d) nb 3 (D.map (Value.int .i64 ·)).toArray ∧
  Only nb w ((((wr.setCell ⟨rb, 0, none⟩ a).setCell ⟨rb, 1, none⟩ b).setCell ⟨rb, 2, none⟩ c).setCell ⟨rb, 3, none⟩ d) := by
 have hs := hr.set (i := 0) (v := a) |>.set (i := 1) (v := b) |>.set (i := 2) (v := c) |>.set (i := 3) (v := d)
 have ho : Only rb wr ((((wr.setCell ⟨rb, 0, none⟩ a).setCell ⟨rb, 1, none⟩ b).setCell ⟨rb, 2, none⟩ c).setCell ⟨rb, 3, none⟩ d) := ((((Only.refl _ _).set).set).set).set
 refine ⟨by rw [hs.cell]; simp [hcs], by rw [hs.cell]; simp [hcs], by rw [hs.cell]; simp [hcs], by rw [hs.cell]; simp [hcs], hp.only ho hne, ?_⟩
 exact ⟨ho.os.trans hO.os, ho.tape.trans hO.tape, ho.output.trans hO.output, Nat.le_trans hO.size ho.size, fun k hk h2 => (ho.block k (Nat.lt_of_lt_of_le hk hO.size) (by omega)).trans (hO.block k hk h2)⟩
def MadeIs (nb : Nat) (D : List Int) (k : Nat) (q : AskD) (w : World) (e : Ending) (w' : World) : Prop :=
 e = .returned (.agg #[.int .i64 q.kind, .int .i64 q.cell, .int .i64 (D.getD k 0), .int .i64 (putV q (D.getD k 0))]) ∧ Blk w' nb 3 ((D.set k (putV q (D.getD k 0))).map (Value.int .i64 ·)).toArray ∧ Only nb w w'
set_option maxRecDepth 100000 in
set_option maxHeartbeats 8000000 in
theorem make_any (cb co nb cap k : Nat) (D : List Int) (kind frm into : Int) (w : World) (hc : w.cell? ⟨cb, co, none⟩ = some (.slice (some ⟨nb, 0, none⟩) D.length cap)) (hcb : cb < w.heap.size) (hcn : cb ≠ nb)
  (hD : Blk w nb 3 (D.map (Value.int .i64 ·)).toArray) (hk : k < D.length) (hv1 : -1 ≤ D.getD k 0) (hv2 : D.getD k 0 ≤ 1125899906842624) (hkd : 1 ≤ kind ∧ kind ≤ 4) :
  Calls Tryz.prog 135 #[.pointer (some ⟨cb, co, none⟩), .agg #[.int .i64 kind, .int .i64 (k : Int), .int .i64 frm, .int .i64 into]] w (MadeIs nb D k ⟨kind, k, frm, into⟩ w) := by
 have hdc : w.cell? ⟨nb, k, none⟩ = some (.int .i64 (D.getD k 0)) := by
  rw [hD.cell]
  simp [List.getElem?_eq_getElem hk, List.getD]
 have hdf := hD.frozen k
 have HD : Hid (Blk w nb 3 (D.map (Value.int .i64 ·)).toArray) := hD
 have hnb := hD.lt
 have hcn1 : cb ≠ w.heap.size := by omega
 have hcn2 : cb ≠ w.heap.size + 1 := by omega
 have hnb1 : nb ≠ w.heap.size := by omega
 have hnb2 : nb ≠ w.heap.size + 1 := by omega
 have hcb1 : cb < w.heap.size + 1 := by omega
 have hnb3 : nb < w.heap.size + 1 := by omega
 have hk0 : (0 : Int) ≤ (k : Int) := by omega
 have hk1 : (k : Int) < (D.length : Int) := by omega
 obtain ⟨sv, HSV⟩ : ∃ sv, Hid (D.getD k 0 = sv) := ⟨_, rfl⟩
 rw [show D.getD k 0 = sv from HSV.out] at hdc hv1 hv2
 have hw1 : IntKind.i64.wrap (sv + 1) = sv + 1 := wrapP _ (by omega) (by omega)
 obtain ⟨pv, HPV⟩ : ∃ pv, Hid (putV ⟨kind, k, frm, into⟩ sv = pv) := ⟨_, rfl⟩
 have HG : Hid (∀ e w', e = .returned (.agg #[.int .i64 kind, .int .i64 (k : Int), .int .i64 sv, .int .i64 pv]) ∧ Blk w' nb 3 ((D.set k pv).map (Value.int .i64 ·)).toArray ∧ Only nb w w' → MadeIs nb D k ⟨kind, k, frm, into⟩ w e w') := fun e w' h => by
  unfold MadeIs
  rw [show D.getD k 0 = sv from HSV.out, show putV ⟨kind, k, frm, into⟩ sv = pv from HPV.out]
  exact h
 have hcases : (kind = 1 ∧ pv = sv) ∨ (kind = 2 ∧ pv = into) ∨ (kind = 3 ∧ sv = frm ∧ pv = into) ∨ (kind = 3 ∧ sv ≠ frm ∧ pv = sv) ∨ (kind = 4 ∧ pv = sv + 1) := by
  have h := HPV.out
  unfold putV at h
  simp only at h
  by_cases k2 : kind = 2
  ·rw [if_pos k2] at h; exact Or.inr (Or.inl ⟨k2, h.symm⟩)
  rw [if_neg k2] at h
  by_cases k4 : kind = 4
  ·rw [if_pos k4] at h; exact Or.inr (Or.inr (Or.inr (Or.inr ⟨k4, h.symm⟩)))
  rw [if_neg k4] at h
  by_cases k3 : kind = 3
  ·rw [if_pos k3] at h
   by_cases hs : sv = frm
   ·rw [if_pos hs] at h; exact Or.inr (Or.inr (Or.inl ⟨k3, hs, h.symm⟩))
   ·rw [if_neg hs] at h; exact Or.inr (Or.inr (Or.inr (Or.inl ⟨k3, hs, h.symm⟩)))
  ·rw [if_neg k3] at h; exact Or.inl ⟨by omega, h.symm⟩
 refine Calls.mono (R := fun e w' => e = .returned (.agg #[.int .i64 kind, .int .i64 (k : Int), .int .i64 sv, .int .i64 pv]) ∧ Blk w' nb 3 ((D.set k pv).map (Value.int .i64 ·)).toArray ∧ Only nb w w') ?_ HG.out
 clear hD HSV HPV HG hkd
 go_enter Tryz.func135, Tryz.ntmps135
 go_wp2_with fail
 obtain ⟨w1, hw1'⟩ : ∃ w1, w1 = (w.alloc (.cells #[.int .i64 kind, .int .i64 (k : Int), .int .i64 frm, .int .i64 into] 128)).alloc (.cells #[.int .i64 0, .int .i64 0, .int .i64 0, .int .i64 0] 158) := ⟨_, rfl⟩
 obtain ⟨ob, hob⟩ : ∃ ob, ob = w.heap.size := ⟨_, rfl⟩
 have hB1 : Below w.heap.size w w1 := by rw [hw1']; exact ((Below.refl _ _).alloc (Nat.le_refl _) _).alloc (by simp) _
 have HO1 : Hid (Blk w1 ob 128 #[.int .i64 kind, .int .i64 (k : Int), .int .i64 frm, .int .i64 into]) := by rw [hw1', hob]; exact (Blk.new w 128 _).alloc _
 have HR1 : Hid (Blk w1 (ob + 1) 158 #[.int .i64 0, .int .i64 0, .int .i64 0, .int .i64 0]) := by
  have := Blk.new (w.alloc (.cells #[.int .i64 kind, .int .i64 (k : Int), .int .i64 frm, .int .i64 into] 128)) 158 #[.int .i64 0, .int .i64 0, .int .i64 0, .int .i64 0]
  rw [hw1', hob]
  exact (by simpa using this : Blk _ (w.heap.size + 1) 158 _)
 have HD1 : Hid (Blk w1 nb 3 (D.map (Value.int .i64 ·)).toArray) := (HD.out).below hB1 hnb
 have HOn : Hid (Only nb w w1) := Only.below hB1
 have hc1 : w1.cell? ⟨cb, co, none⟩ = some (.slice (some ⟨nb, 0, none⟩) D.length cap) := (World.cell?_of_block (hB1.block cb hcb)).trans hc
 have HCb : Hid (cb < w1.heap.size) := Nat.lt_of_lt_of_le hcb hB1.size
 have HOb : Hid (w.heap.size = ob ∧ nb < ob ∧ cb < ob) := ⟨hob.symm, by omega, by omega⟩
 have hdc1 : w1.cell? ⟨nb, k, none⟩ = some (.int .i64 sv) := (World.cell?_of_block (hB1.block nb hnb)).trans hdc
 have hoc := (HO1.out).cell
 rw [← hw1', ← hob]
 clear hw1' hob hB1 hdc hc hcb hnb hdf hcn1 hcn2 hnb1 hnb2 hcb1 hnb3
 go_quiet (fail)
 have hoc2 := ((HO1.out).drewN nq).cell
 have hc2 : (w1.drewN nq).cell? ⟨cb, co, none⟩ = some (.slice (some ⟨nb, 0, none⟩) D.length cap) := hc1
 have hdc2 : (w1.drewN nq).cell? ⟨nb, k, none⟩ = some (.int .i64 sv) := hdc1
 have HO2 : Hid (Blk (w1.drewN nq) ob 128 #[.int .i64 kind, .int .i64 (k : Int), .int .i64 frm, .int .i64 into]) := (HO1.out).drewN nq
 have HR2 : Hid (Blk (w1.drewN nq) (ob + 1) 158 #[.int .i64 0, .int .i64 0, .int .i64 0, .int .i64 0]) := (HR1.out).drewN nq
 have HD2 : Hid (Blk (w1.drewN nq) nb 3 (D.map (Value.int .i64 ·)).toArray) := (HD1.out).drewN nq
 have HOn2 : Hid (Only nb w (w1.drewN nq)) := (HOn.out).drewN nq
 clear HO1 HR1 HD1 HOn hoc hc1 hdc1 HCb HD
 generalize w1.drewN nq = w2 at *
 have hf2 := (HD2.out).frozen k
 have hrc := (HR2.out).cell
 have hrf := (HR2.out).frozen
 obtain ⟨hobe, hno, hco⟩ := HOb.out
 have hne : nb ≠ ob + 1 := by omega
 have hne2 : nb ≠ ob := by omega
 have hne3 : ob ≠ nb := by omega
 have hne4 : ob + 1 ≠ nb := by omega
 have hrb : w.heap.size ≤ ob + 1 := by omega
 have HR3 : Hid (Blk (w2.setCell ⟨nb, k, none⟩ (.int .i64 pv)) (ob + 1) 158 #[.int .i64 0, .int .i64 0, .int .i64 0, .int .i64 0]) := (HR2.out).only ((Only.refl _ _).set) hne4
 have HD3 : Hid (Blk (w2.setCell ⟨nb, k, none⟩ (.int .i64 pv)) nb 3 ((D.set k pv).map (Value.int .i64 ·)).toArray) := blk_set HD2.out
 have HOn3 : Hid (Only nb w (w2.setCell ⟨nb, k, none⟩ (.int .i64 pv))) := (HOn2.out).set
 clear hobe hno hco HOb HR2 HD2 HOn2 HO2
 rcases hcases with ⟨rfl, rfl⟩ | ⟨rfl, rfl⟩ | ⟨rfl, rfl, rfl⟩ | ⟨rfl, hs, rfl⟩ | ⟨rfl, hp⟩
 ·go_wp2_with fail
  go_region
  all_goals
   go_wp2
   obtain ⟨e0, e1, e2, e3, hB, hO⟩ := make_end hne HR3.out rfl HOn3.out hrb HD3.out (.int .i64 1) (.int .i64 (k : Int)) (.int .i64 pv) (.int .i64 pv)
   exact bodyPost_ret (v := .agg #[.int .i64 1, .int .i64 (k : Int), .int .i64 pv, .int .i64 pv]) (by simp [results, Tryz.results135, go_sem, e0, e1, e2, e3]) rfl ⟨rfl, hB, hO.drew⟩
 ·go_wp2_with fail
  go_region
  all_goals
   go_wp2
   obtain ⟨e0, e1, e2, e3, hB, hO⟩ := make_end hne HR3.out rfl HOn3.out hrb HD3.out (.int .i64 2) (.int .i64 (k : Int)) (.int .i64 sv) (.int .i64 pv)
   exact bodyPost_ret (v := .agg #[.int .i64 2, .int .i64 (k : Int), .int .i64 sv, .int .i64 pv]) (by simp [results, Tryz.results135, go_sem, e0, e1, e2, e3]) rfl ⟨rfl, hB, hO.drew⟩
 ·go_wp2_with fail
  go_region
  all_goals
   go_wp2
   obtain ⟨e0, e1, e2, e3, hB, hO⟩ := make_end hne HR3.out rfl HOn3.out hrb HD3.out (.int .i64 3) (.int .i64 (k : Int)) (.int .i64 sv) (.int .i64 pv)
   exact bodyPost_ret (v := .agg #[.int .i64 3, .int .i64 (k : Int), .int .i64 sv, .int .i64 pv]) (by simp [results, Tryz.results135, go_sem, e0, e1, e2, e3]) rfl ⟨rfl, hB, hO.drew⟩
 ·have hsb : (pv == frm) = false := by simpa using hs
  go_wp2_with fail
  go_region
  all_goals
   go_wp2
   obtain ⟨e0, e1, e2, e3, hB, hO⟩ := make_end hne HR3.out rfl HOn3.out hrb HD3.out (.int .i64 3) (.int .i64 (k : Int)) (.int .i64 pv) (.int .i64 pv)
   exact bodyPost_ret (v := .agg #[.int .i64 3, .int .i64 (k : Int), .int .i64 pv, .int .i64 pv]) (by simp [results, Tryz.results135, go_sem, e0, e1, e2, e3]) rfl ⟨rfl, hB, hO.drew⟩
 ·subst hp
  go_wp2_with fail
  go_region
  all_goals
   go_wp2
   obtain ⟨e0, e1, e2, e3, hB, hO⟩ := make_end hne HR3.out rfl HOn3.out hrb HD3.out (.int .i64 4) (.int .i64 (k : Int)) (.int .i64 sv) (.int .i64 (sv + 1))
   exact bodyPost_ret (v := .agg #[.int .i64 4, .int .i64 (k : Int), .int .i64 sv, .int .i64 (sv + 1)]) (by simp [results, Tryz.results135, go_sem, e0, e1, e2, e3]) rfl ⟨rfl, hB, hO.drew⟩
def NextAt (p : Nat) (q : AskD) (w : World) : Prop :=
 w.cell? ⟨p, 15, none⟩ = some (.int .i64 q.kind) ∧ w.cell? ⟨p, 16, none⟩ = some (.int .i64 q.cell) ∧ w.cell? ⟨p, 17, none⟩ = some (.int .i64 q.frm) ∧ w.cell? ⟨p, 18, none⟩ = some (.int .i64 q.to)
theorem LifeR.next {E : Env} {H : Hd} {B p eb : Nat} {w : World} {s : LS} (h : LifeR E H B p eb w s) : NextAt p s.next w := by
 obtain ⟨la, lc, hb, _⟩ := h.life
 refine ⟨?_, ?_, ?_, ?_⟩ <;> rw [hb.cell] <;> rfl
theorem NextAt.lt {p : Nat} {q : AskD} {w : World} (h : NextAt p q w) : p < w.heap.size := block_lt h.1
theorem NextAt.up {p n : Nat} {q : AskD} {w w' : World} (h : NextAt p q w) (hb : Below n w w') (hp : p < n) : NextAt p q w' := by
 have e : ∀ o, w'.cell? ⟨p, o, none⟩ = w.cell? ⟨p, o, none⟩ := fun o => World.cell?_of_block (hb.block p hp)
 exact ⟨(e _).trans h.1, (e _).trans h.2.1, (e _).trans h.2.2.1, (e _).trans h.2.2.2⟩
structure SetupOk (c : Cfg) (mem : List Int) (jobs : List (Int × List InsD)) : Prop where
 cfg : cfgB c = true
 mw : (mem.length : Int) = c.wd
 mb : memB mem = true
 j8 : jobs.length ≤ 8
 cd : ∀ j ∈ jobs, j.2.length ≤ 20
def errS (c : Cfg) (mem : List Int) (jobs : List (Int × List InsD)) : Int :=
 if machN c mem = 0 then (if jobs.length ≤ 8 ∧ (jobs.all fun j => inB j.1 0 (c.t - 1)) = true then (if (jobs.all fun j => decide ((j.2.length : Int) ≤ 20)) = true then 0 else 4) else 3) else machN c mem
theorem errS_ok {c : Cfg} {mem : List Int} {jobs : List (Int × List InsD)} (h : errS c mem jobs = 0) : SetupOk c mem jobs ∧ ∀ j ∈ jobs, 0 ≤ j.1 ∧ j.1 < c.t := by
 unfold errS at h
 by_cases h1 : machN c mem = 0
 ·rw [if_pos h1] at h
  by_cases h2 : jobs.length ≤ 8 ∧ (jobs.all fun j => inB j.1 0 (c.t - 1)) = true
  ·rw [if_pos h2] at h
   by_cases h3 : (jobs.all fun j => decide ((j.2.length : Int) ≤ 20)) = true
   ·have hm : cfgB c = true ∧ (mem.length : Int) = c.wd ∧ memB mem = true := by
     unfold machN at h1
     by_cases a : cfgB c = true
     ·rw [if_pos a] at h1
      by_cases b : (mem.length : Int) = c.wd ∧ memB mem = true
      ·exact ⟨a, b.1, b.2⟩
      ·rw [if_neg b] at h1; cases h1
     ·rw [if_neg a] at h1; cases h1
    rw [List.all_eq_true] at h3
    have h4 := h2.2
    rw [List.all_eq_true] at h4
    refine ⟨⟨hm.1, hm.2.1, hm.2.2, h2.1, fun j hj => ?_⟩, fun j hj => ?_⟩
    ·have := h3 j hj
     simp at this
     omega
    ·have := inB_true (h4 j hj)
     omega
   ·rw [if_neg h3] at h; cases h
  ·rw [if_neg h2] at h; cases h
 ·rw [if_neg h1] at h; exact absurd h h1
theorem all_at {α : Type} (l : List α) (p : α → Bool) (d : α) : l.all p = true ↔ ∀ i, i < l.length → p (l.getD i d) = true := by
 rw [List.all_eq_true]
 constructor
 ·intro h i hi
  rw [show l.getD i d = l[i] from by simp [List.getD, List.getElem?_eq_getElem hi]]
  exact h _ (List.getElem_mem hi)
 ·intro h x hx
  obtain ⟨i, hi, rfl⟩ := List.mem_iff_getElem.1 hx
  have := h i hi
  rwa [show l.getD i d = l[i] from by simp [List.getD, List.getElem?_eq_getElem hi]] at this
theorem check_err {c : Cfg} {mem : List Int} {jobs : List (Int × List InsD)} {js : List JobD} (h1 : js.length = jobs.length) (h2 : ∀ i, i < js.length → (jobAt js i).t = (jobs.getD i (0, [])).1 ∧ (jobAt js i).len = (jobs.getD i (0, [])).2.length) : checkN c mem js = errS c mem jobs := by
 have e1 : thrB c.t js = (jobs.all fun j => inB j.1 0 (c.t - 1)) := by
  rw [Bool.eq_iff_iff]
  unfold thrB
  rw [all_at js _ ⟨0, none, 0, 0⟩, all_at jobs _ (0, []), h1]
  constructor <;> intro h i hi
  ·rw [← (h2 i (by omega)).1]; exact h i hi
  ·have := h i hi
   rw [← (h2 i (by omega)).1] at this
   exact this
 have e2 : lenB js = (jobs.all fun j => decide ((j.2.length : Int) ≤ 20)) := by
  rw [Bool.eq_iff_iff]
  unfold lenB
  rw [all_at js _ ⟨0, none, 0, 0⟩, all_at jobs _ (0, []), h1]
  constructor <;> intro h i hi
  ·rw [← (h2 i (by omega)).2]; exact h i hi
  ·have := h i hi
   rw [← (h2 i (by omega)).2] at this
   exact this
 unfold checkN errS
 rw [h1, e1, e2]
theorem refCheck_rep (c : Cfg) (mem : List Int) (jobs : List (Int × List InsD)) (ma ja : Option Addr) (mc jc : Nat) (w : World) (hml : mem.length ≤ maxLen) (hjl : jobs.length ≤ maxLen) (hm : Ints w w.heap.size ma mem) (hj : JobsRep w w.heap.size ja jobs) :
  Calls Tryz.prog 35 #[.agg #[.int .i64 c.t, .int .i64 c.wd, .int .i64 c.s, .int .i64 c.g, .int .i64 c.r, .int .i64 c.cp, .int .i64 c.f, .slice ma mem.length mc, .slice ja jobs.length jc]] w fun e w' =>
   e = .returned (.int .i64 (errS c mem jobs)) ∧ Below w.heap.size w w' := by
 obtain ⟨js, h1, h2, h3⟩ := hj
 have := refCheck_core c.t c.wd c.s c.g c.r c.cp c.f ma mem.length mc mem ja jobs.length jc js w rfl hml hm h1 hjl h2
 rw [show (⟨c.t, c.wd, c.s, c.g, c.r, c.cp, c.f⟩ : Cfg) = c from rfl, check_err h1 (fun i hi => ⟨(h3 i hi).1, (h3 i hi).2.1⟩)] at this
 exact this
theorem PicksIn.up2 {w w' : World} {a : Option Addr} {l : List PickD} (h : PicksIn w w.heap.size a l) (hb : Below w.heap.size w w') : PicksIn w' w'.heap.size a l := by
 intro i hi
 obtain ⟨b, off, h1, h2, h3, h4⟩ := h.up hb i hi
 exact ⟨b, off, h1, Nat.lt_of_lt_of_le h2 hb.size, h3, h4⟩
theorem JobsRep.up2 {w w' : World} {a : Option Addr} {l : List (Int × List InsD)} (h : JobsRep w w.heap.size a l) (hb : Below w.heap.size w w') : JobsRep w' w'.heap.size a l := (h.up hb).mono hb.size
structure GoesN (p nb : Nat) (L : Ls) (w : World) (L' : Ls) (w' : World) : Prop where
 os : w'.os = w.os
 tape : w'.tape = w.tape
 output : w'.output = w.output
 size : w.heap.size ≤ w'.heap.size
 block : ∀ k, k < w.heap.size → k ≠ p → k ≠ nb → ¬ Own L k → w'.heap[k]? = w.heap[k]?
 own : ∀ k, Own L' k → Own L k ∨ w.heap.size ≤ k
theorem Goes.toN {p nb : Nat} {L L' : Ls} {w w' : World} (h : Goes p L w L' w') : GoesN p nb L w L' w' := ⟨h.os, h.tape, h.output, h.size, fun k a b _ d => h.block k a b d, h.own⟩
theorem GoesN.trans {p nb : Nat} {L L' L'' : Ls} {w w' w'' : World} (h : GoesN p nb L w L' w') (k : GoesN p nb L' w' L'' w'') : GoesN p nb L w L'' w'' :=
 ⟨k.os.trans h.os, k.tape.trans h.tape, k.output.trans h.output, Nat.le_trans h.size k.size,
     fun i hi hp hn ho => (k.block i (Nat.lt_of_lt_of_le hi h.size) hp hn (fun q => by rcases h.own i q with q | q; exact ho q; omega)).trans (h.block i hi hp hn ho),
     fun i hi => by
      rcases k.own i hi with q | q
      ·exact h.own i q
      ·exact Or.inr (Nat.le_trans h.size q)⟩
theorem GoesN.only {p nb : Nat} {L : Ls} {w w' : World} (h : Only nb w w') : GoesN p nb L w L w' := ⟨h.os, h.tape, h.output, h.size, fun k a _ c _ => h.block k a c, fun k q => Or.inl q⟩
theorem GoesN.below {p nb : Nat} {L : Ls} {w w' : World} (h : Below w.heap.size w w') : GoesN p nb L w L w' := ⟨h.os, h.tape, h.output, h.size, fun k a _ _ _ => h.block k a, fun k q => Or.inl q⟩
theorem Goes.below {p : Nat} {L : Ls} {w w' : World} (h : Below w.heap.size w w') : Goes p L w L w' := Goes.only (Only.below h)
theorem GoesN.fresh {p nb rb : Nat} {L L' : Ls} {w w' w'' : World} (h : GoesN p nb L w L' w') (k : Only rb w' w'') (hr : w.heap.size ≤ rb) : GoesN p nb L w L' w'' :=
 ⟨k.os.trans h.os, k.tape.trans h.tape, k.output.trans h.output, Nat.le_trans h.size k.size, fun i hi hp hn ho => (k.block i (Nat.lt_of_lt_of_le hi h.size) (by omega)).trans (h.block i hi hp hn ho), h.own⟩
theorem TR.own {base p z : Nat} {A B : List Value} {w : World} {t : PT} {L : Ls} (R : TR base p z A B w t L) (k : Nat) (h : Own L k) : base ≤ k ∧ k < w.heap.size ∧ k ≠ p := by
 unfold Own at h
 have hp := R.tt.2
 rcases h with q | q | q | q | q | q
 ·rw [← oB_eq L.ra t.reads.length L.rc] at q; exact ⟨(R.rd.lt k q).1, (R.rd.lt k q).2, own_tag R.rd hp (by decide) k q⟩
 ·rw [← oB_eq L.wa t.writes.length L.wc] at q; exact ⟨(R.wr.lt k q).1, (R.wr.lt k q).2, own_tag R.wr hp (by decide) k q⟩
 ·rw [← oB_eq L.ha t.held.length L.hc] at q; exact ⟨(R.hd.lt k q).1, (R.hd.lt k q).2, own_tag R.hd hp (by decide) k q⟩
 ·rw [← oB_eq L.ma t.mine.length L.mc] at q; exact ⟨(R.mi.lt k q).1, (R.mi.lt k q).2, own_tag R.mi hp (by decide) k q⟩
 ·rw [← oB_eq L.na t.notes.length L.nc] at q; exact ⟨(R.nt.lt k q).1, (R.nt.lt k q).2, own_tag R.nt hp (by decide) k q⟩
 ·rw [← oB_eq L.sa t.res.length L.sc] at q; exact ⟨(R.sr.lt k q).1, (R.sr.lt k q).2, own_tag R.sr hp (by decide) k q⟩
theorem TR.apart {base p z q : Nat} {A B : List Value} {w w' : World} {t : PT} {L : Ls} (R : TR base p z A B w t L) (h : Only q w w') (hp : p ≠ q) (ho : ¬ Own L q) : TR base p z A B w' t L := by
 have hn : ∀ {a n c}, (oB a = some q → Own L q) → ∀ k, (Value.slice a n c).ownBlock = some k → k ≠ q := fun hq k hk e => by
  rw [oB_eq, e] at hk
  exact ho (hq hk)
 exact ⟨Seg.only R.tt h hp, ownsRow_only R.rd h (hn (fun q => Or.inl q)), ownsRow_only R.wr h (hn (fun q => Or.inr (Or.inl q))), ownsRow_only R.hd h (hn (fun q => Or.inr (Or.inr (Or.inl q)))), ownsRow_only R.mi h (hn (fun q => Or.inr (Or.inr (Or.inr (Or.inl q))))), R.ne, ownsRow_only R.nt h (hn (fun q => Or.inr (Or.inr (Or.inr (Or.inr (Or.inl q)))))), ownsRow_only R.sr h (hn (fun q => Or.inr (Or.inr (Or.inr (Or.inr (Or.inr q))))))⟩
theorem GoesN.low {base p nb : Nat} {L L' : Ls} {w w' : World} (h : GoesN p nb L w L' w') (hb : base ≤ w.heap.size) (hp : base ≤ p) (hn : base ≤ nb) (ho : ∀ k, Own L k → base ≤ k) : Below base w w' :=
 ⟨h.os, h.tape, h.output, h.size, fun k hk => h.block k (by omega) (by omega) (by omega) (fun q => by have := ho k q; omega)⟩
def Picked (base p nb z : Nat) (A B : List Value) (st : Int) (t' : PT) (L : Ls) (w : World) (Ds : List Int) (a : AccD) (e : Ending) (w' : World) : Prop :=
 e = .returned (.agg #[.int .i64 a.kind, .int .i64 a.cell, .int .i64 a.seen, .int .i64 a.put]) ∧ (∃ L', TR base p z A B w' t' L' ∧ GoesN p nb L w L' w' ∧ (a.kind = 0 → L' = L) ∧ (a.kind ≠ 0 → st = 2 → ∀ k, oB L.na = some k → ¬ Own L' k ∧ w'.heap[k]? = w.heap[k]?)) ∧ Blk w' nb 3 (Ds.map (Value.int .i64 ·)).toArray
section
variable (base p nb z : Nat) (A B : List Value) (t : PT) (L : Ls) (w : World)
set_option maxRecDepth 100000 in
set_option maxHeartbeats 2000000 in
theorem t_pickIdle (R : TR base p z A B w t L) (hs : t.step = 0) (Ds : List Int) (hN : Blk w nb 3 (Ds.map (Value.int .i64 ·)).toArray) (ja : Option Addr) (jl jc cb co : Nat) (num draw : Int) :
  Calls Tryz.prog 122 #[.pointer (some ⟨p, z, none⟩), .slice ja jl jc, .pointer (some ⟨cb, co, none⟩), .int .i64 num, .int .i64 draw] w (Picked base p nb z A B t.step t L w Ds noAcc) := by
 have h13 := R.tt.cStep
 rw [hs] at h13
 have hlt := R.tt.lt
 have hne : p ≠ w.heap.size := by omega
 have hB : Below w.heap.size w (w.alloc (.cells #[.int .i64 0, .int .i64 0, .int .i64 0, .int .i64 0] 158)) := (Below.refl _ _).alloc (Nat.le_refl _) _
 have HR : Hid (TR base p z A B (w.alloc (.cells #[.int .i64 0, .int .i64 0, .int .i64 0, .int .i64 0] 158)) t L) := R.below hB
 have HN : Hid (Blk (w.alloc (.cells #[.int .i64 0, .int .i64 0, .int .i64 0, .int .i64 0] 158)) nb 3 (Ds.map (Value.int .i64 ·)).toArray) := hN.below hB hN.lt
 have HG : Hid (GoesN p nb L w L (w.alloc (.cells #[.int .i64 0, .int .i64 0, .int .i64 0, .int .i64 0] 158))) := GoesN.below hB
 clear R hs hN hB
 go_enter Tryz.func122, Tryz.ntmps122
 go_wp2
 exact bodyPost_ret (v := .agg #[.int .i64 0, .int .i64 0, .int .i64 0, .int .i64 0]) (by simp [results, Tryz.results122, go_sem]) rfl ⟨rfl, ⟨L, HR.out, HG.out, fun _ => rfl, fun q => absurd rfl q⟩, HN.out⟩
set_option maxRecDepth 100000 in
set_option maxHeartbeats 2000000 in
theorem t_pickRest (R : TR base p z A B w t L) (hs : t.step ≠ 0) (hr : 0 < t.rest) (hr2 : t.rest ≤ 1000) (hpn : p ≠ nb) (Ds : List Int) (hN : Blk w nb 3 (Ds.map (Value.int .i64 ·)).toArray) (ja : Option Addr) (jl jc cb co : Nat) (num draw : Int) :
  Calls Tryz.prog 122 #[.pointer (some ⟨p, z, none⟩), .slice ja jl jc, .pointer (some ⟨cb, co, none⟩), .int .i64 num, .int .i64 draw] w (Picked base p nb z A B t.step { t with rest := t.rest - 1 } L w Ds noAcc) := by
 have h13 := R.tt.cStep
 have h12 := R.tt.cRest
 have hf := R.tt.froz
 have hsb : (t.step == 0) = false := by rw [beq_eq_false_iff_ne]; exact hs
 have hlt := R.tt.lt
 have hne : p ≠ w.heap.size := by omega
 have hw : IntKind.i64.wrap (t.rest - 1) = t.rest - 1 := wrapP _ (by omega) (by omega)
 have hb1 : TAt (w.setCell ⟨p, z + 13, none⟩ (.int .i64 (t.rest - 1))) p z A B { t with rest := t.rest - 1 } L := R.tt.set 13 (by decide) _ rfl
 have ho1 : Only p w (w.setCell ⟨p, z + 13, none⟩ (.int .i64 (t.rest - 1))) := (Only.refl _ _).set
 have R1 : TR base p z A B (w.setCell ⟨p, z + 13, none⟩ (.int .i64 (t.rest - 1))) { t with rest := t.rest - 1 } L := R.next hb1 ho1 rfl rfl rfl rfl rfl rfl
 have hB : Below (w.setCell ⟨p, z + 13, none⟩ (.int .i64 (t.rest - 1))).heap.size (w.setCell ⟨p, z + 13, none⟩ (.int .i64 (t.rest - 1))) ((w.setCell ⟨p, z + 13, none⟩ (.int .i64 (t.rest - 1))).alloc (.cells #[.int .i64 0, .int .i64 0, .int .i64 0, .int .i64 0] 158)) := (Below.refl _ _).alloc (Nat.le_refl _) _
 have HR : Hid (TR base p z A B ((w.setCell ⟨p, z + 13, none⟩ (.int .i64 (t.rest - 1))).alloc (.cells #[.int .i64 0, .int .i64 0, .int .i64 0, .int .i64 0] 158)) { t with rest := t.rest - 1 } L) := R1.below hB
 have HN : Hid (Blk ((w.setCell ⟨p, z + 13, none⟩ (.int .i64 (t.rest - 1))).alloc (.cells #[.int .i64 0, .int .i64 0, .int .i64 0, .int .i64 0] 158)) nb 3 (Ds.map (Value.int .i64 ·)).toArray) := (hN.only ho1 (Ne.symm hpn)).below hB (hN.only ho1 (Ne.symm hpn)).lt
 have HG : Hid (GoesN p nb L w L ((w.setCell ⟨p, z + 13, none⟩ (.int .i64 (t.rest - 1))).alloc (.cells #[.int .i64 0, .int .i64 0, .int .i64 0, .int .i64 0] 158))) := ((Goes.only ho1).trans (Goes.below hB)).toN
 clear R hs hN hB hb1 ho1 R1 hr2
 go_enter Tryz.func122, Tryz.ntmps122
 go_wp2
 exact bodyPost_ret (v := .agg #[.int .i64 0, .int .i64 0, .int .i64 0, .int .i64 0]) (by simp [results, Tryz.results122, go_sem]) rfl ⟨rfl, ⟨L, HR.out, HG.out, fun _ => rfl, fun q => absurd rfl q⟩, HN.out⟩
end
end Go.Proofs.YtejadojilncbjabGreat
