import Derived.Test.YtejadojilncbjabGreatK33
import Derived.Test.YtejadojilncbjabGreatK27
import Derived.Test.YtejadojilncbjabGreatK02
import Derived.Laws.CopyOwn
import Derived.Test.YtejadojilncbjabGreatK08
namespace Go.Proofs.YtejadojilncbjabGreat
open Go.RowKit
set_option linter.unusedVariables false
theorem drop_lt {α : Type} {l r : List α} {a : α} {j : Nat} (h : l.drop j = a :: r) : j < l.length := (drop_cons3 h).2.1
theorem fall_of {K : Cx} (hc : cfgB K.c = true) {k : Int} {t : PT} {h : Th} (A : ThOk K k h) (S : Sim K t h) (D : Side K k t) (h1 : h.st ≠ .idle) (h2 : ∀ n, h.st ≠ .rest n) (v : AnsD) (hv : VOk K.c k (hOut K h).cell v.seen)
  (hr : 0 ≤ (hOut K h).cell ∧ (hOut K h).cell < total K.c) : FAll t v.seen (putV (hOut K h) v.seen) v.draw := by
 have hcb := cfgB_true hc
 obtain ⟨⟨t1, t2⟩, ⟨w1, w2⟩, ⟨s1, s2⟩, ⟨g1, g2⟩, _, _, ⟨f1, f2⟩⟩ := hcb
 have hk := D.kb
 have hme := D.me
 have hfa := D.fails
 have hbd := VOk.bd hc hk.1 hv hr.1 hr.2
 rcases S with ⟨hst, q, _⟩ | ⟨hst, b, hrs, hs, ho⟩ | ⟨n, hst, b, hrs, hn, hs, ho⟩ | ⟨win, hst, b, hrs, hs, ho⟩ | ⟨b, ho, q⟩
 ·exact absurd hst h1
 ·exact ⟨by omega, fun q => by omega, fun q => absurd hs q, fun q => absurd hs q, fun q => by omega, fun q => absurd hs q, by omega, fun q => by omega⟩
 ·exact absurd hst (h2 n)
 ·have hx : 0 ≤ win ∧ win < K.c.t := by have := A.step; unfold StepOk at this; rw [hst] at this; exact this
  have hcell : (hOut K h).cell = hSta K win := by unfold hOut; rw [hst]
  rw [hcell] at hv
  have h0 := (hv.sta (by unfold hSta; omega) (by unfold hSta; omega)).1
  exact ⟨by omega, fun _ => by omega, fun _ q => absurd hs q, fun _ q => absurd hs q, fun q => by omega, fun q => by omega, by omega, fun q => by omega⟩
 ·have hon := A.on
  have ok := tok_of hc b hon D
  have X := hon.x
  obtain ⟨l1, l2, l3⟩ := xlens hc X
  have hrg : t.m.regs.length = 4 := by rw [b.2.regs]; exact X.four
  have lr : t.reads.length ≤ 8 := by rw [b.2.reads]; exact l1
  have lw : t.writes.length ≤ 8 := by rw [b.2.writes]; exact l2
  have lh : t.held.length ≤ 8 := by rw [b.2.held]; exact l3
  have hwy : t.wayTo = h.x.way + 1 := b.2.way
  have hwx := X.way
  have hx := A.step
  obtain ⟨hrank, hfails, hlist, hends, hjob, x, st⟩ := h
  have hvs : (hOut K ⟨hrank, hfails, hlist, hends, hjob, x, st⟩).cell = hSta K K.me → 0 ≤ v.seen := fun e => by
   rw [e] at hv
   exact (hv.sta (by unfold hSta; omega) (by unfold hSta; omega)).1
  cases st with
  | idle => exact q.elim
  | start => exact q.elim
  | rest n => exact q.elim
  | wait n => exact q.elim
  | rHeld i a =>
   obtain ⟨hg, hs, hrd⟩ := q
   obtain ⟨a0, a1, i0, i1, _⟩ := (show AOk K i a from hx)
   have ha := hrd.2.1
   have hi := hrd.2.2
   exact ⟨by omega, fun q => by omega, fun _ _ => ok, fun _ _ _ _ _ _ _ _ _ => (by constructor <;> first | exact hrg | omega), fun _ => by omega, fun _ => by omega, by omega, fun _ => by omega⟩
  | rVer i a =>
   obtain ⟨hg, hs, hrd⟩ := q
   obtain ⟨a0, a1, i0, i1, _⟩ := (show AOk K i a from hx)
   have ha := hrd.2.1
   have hi := hrd.2.2
   exact ⟨by omega, fun q => by omega, fun _ _ => ok, fun _ _ _ _ _ _ _ _ _ => (by constructor <;> first | exact hrg | omega), fun _ => by omega, fun _ => by omega, by omega, fun _ => by omega⟩
  | rWord i a one =>
   obtain ⟨hg, hs, hrd, _⟩ := q
   obtain ⟨⟨a0, a1, i0, i1, _⟩, _⟩ := (show AOk K i a ∧ 0 ≤ one ∧ one ≤ k from hx)
   have ha := hrd.2.1
   have hi := hrd.2.2
   exact ⟨by omega, fun q => by omega, fun _ _ => ok, fun _ _ _ _ _ _ _ _ _ => (by constructor <;> first | exact hrg | omega), fun _ => by omega, fun _ => by omega, by omega, fun _ => by omega⟩
  | rAgain i a one u =>
   obtain ⟨hg, hs, hrd, _⟩ := q
   obtain ⟨⟨a0, a1, i0, i1, _⟩, _⟩ := (show AOk K i a ∧ (0 ≤ one ∧ one ≤ k) ∧ 0 ≤ u ∧ u ≤ 65535 from hx)
   have ha := hrd.2.1
   have hi := hrd.2.2
   exact ⟨by omega, fun q => by omega, fun _ _ => ok, fun _ _ _ _ _ _ _ _ _ => (by constructor <;> first | exact hrg | omega), fun _ => by omega, fun _ => by omega, by omega, fun _ => by omega⟩
  | xClock e =>
   obtain ⟨hg, hs, he⟩ := q
   have hx' : ExOk K e := hx
   have hin : t.turn.op = 7 → 0 ≤ t.m.into ∧ t.m.into ≤ 3 := fun o => by
    cases e with
    | rd i a u => obtain ⟨⟨a0, a1, i0, i1, _⟩, _⟩ := (show AOk K i a ∧ 0 ≤ u ∧ u ≤ 65535 from hx'); have := he.1.2.2; omega
    | wr i a => have := he.1; omega
   exact ⟨by omega, fun q => by omega, fun _ _ => ok, fun _ _ _ _ _ _ _ _ _ => ⟨by omega, by omega, hrg, by omega, fun _ => by omega, fun q => by (rcases q with q | q; omega; exact hin q.2), fun _ => by omega, fun _ => by omega, fun _ => by omega, fun _ => by omega, fun _ => by omega, fun _ => by omega, fun _ => by omega, fun _ => by omega, fun _ => by omega, fun _ => by omega⟩, fun _ => by omega, fun _ => by omega, by omega, fun _ => by omega⟩
  | xVer e c r =>
   obtain ⟨hg, hs, he, hcl, hr'⟩ := q
   obtain ⟨hx', _, h3⟩ := (show ExOk K e ∧ (0 ≤ c ∧ c ≤ k) ∧ RdOk K r from hx)
   have hin : t.turn.op = 7 → 0 ≤ t.m.into ∧ t.m.into ≤ 3 := fun o => by
    cases e with
    | rd i a u => obtain ⟨⟨a0, a1, i0, i1, _⟩, _⟩ := (show AOk K i a ∧ 0 ≤ u ∧ u ≤ 65535 from hx'); have := he.1.2.2; omega
    | wr i a => have := he.1; omega
   have hlt : t.at_ < t.reads.length := by
    cases r with
    | nil => exact absurd rfl h3.1
    | cons y r => exact drop_lt hr'
   exact ⟨by omega, fun q => by omega, fun _ _ => ok, fun _ _ _ _ _ _ _ _ _ => ⟨by omega, by omega, hrg, by omega, fun _ => by omega, fun q => by (rcases q with q | q; omega; exact hin q.2), fun _ => by omega, fun _ => by omega, fun _ => by omega, fun _ => by omega, fun _ => by omega, fun _ => by omega, fun _ => by omega, fun _ => by omega, fun _ => by omega, fun _ => by omega⟩, fun _ => by omega, fun _ => by omega, by omega, fun _ => by omega⟩
  | gStat i a =>
   obtain ⟨hg, hs, hw⟩ := q
   obtain ⟨⟨a0, a1, i0, i1, _⟩, _⟩ := (show AOk K i a ∧ heldB x (a.tmod K.c.s) = false from hx)
   have h0 := hvs rfl
   have ha := hw.2.1
   exact ⟨by omega, fun q => by omega, fun _ _ => ok, fun _ _ _ _ _ _ _ _ _ => (by constructor <;> first | exact hrg | omega), fun _ => by omega, fun _ => by omega, by omega, fun _ => by omega⟩
  | gOwn i a =>
   obtain ⟨hg, hs, hw⟩ := q
   obtain ⟨⟨a0, a1, i0, i1, _⟩, _⟩ := (show AOk K i a ∧ heldB x (a.tmod K.c.s) = false from hx)
   have hm1 := tmodP s1 a0
   have h0 := (show VOk K.c k (hOwn K (a.tmod K.c.s)) v.seen from hv).own (by unfold hOwn; omega) (by unfold hOwn; omega)
   have ha := hw.2.1
   exact ⟨by omega, fun q => by omega, fun _ _ => ok, fun _ _ _ _ _ _ _ _ _ => (by constructor <;> first | exact hrg | omega), fun _ => by omega, fun _ => by omega, by omega, fun _ => by omega⟩
  | gTheir i a u =>
   obtain ⟨hg, hs, hw, hriv⟩ := q
   obtain ⟨⟨⟨a0, a1, i0, i1, _⟩, _⟩, hu⟩ := (show (AOk K i a ∧ heldB x (a.tmod K.c.s) = false) ∧ 1 ≤ u ∧ u ≤ K.c.t from hx)
   have h0 := ((show VOk K.c k (hSta K (u - 1)) v.seen from hv).sta (by unfold hSta; omega) (by unfold hSta; omega)).1
   have ha := hw.2.1
   exact ⟨by omega, fun q => by omega, fun _ _ => ok, fun _ _ _ _ _ _ _ _ _ => (by constructor <;> first | exact hrg | omega), fun _ => by omega, fun _ => by omega, by omega, fun _ => by omega⟩
  | gMark i a u th =>
   obtain ⟨hg, hs, hw⟩ := q
   obtain ⟨⟨⟨a0, a1, i0, i1, _⟩, _⟩, hu, _⟩ := (show (AOk K i a ∧ heldB x (a.tmod K.c.s) = false) ∧ (1 ≤ u ∧ u ≤ K.c.t) ∧ SOk K.c k th ∧ th % 8 = 0 from hx)
   have ha := hw.2.1
   exact ⟨by omega, fun q => by omega, fun _ _ => ok, fun _ _ _ _ _ _ _ _ _ => (by constructor <;> first | exact hrg | omega), fun _ => by omega, fun _ => by omega, by omega, fun _ => by omega⟩
  | gVer i a =>
   obtain ⟨hg, hs, hw⟩ := q
   obtain ⟨a0, a1, i0, i1, _⟩ := (show AOk K i a from hx)
   have ha := hw.2.1
   exact ⟨by omega, fun q => by omega, fun _ _ => ok, fun _ _ _ _ _ _ _ _ _ => (by constructor <;> first | exact hrg | omega), fun _ => by omega, fun _ => by omega, by omega, fun _ => by omega⟩
  | tTake =>
   obtain ⟨hg, hs⟩ := q
   have hcn := (show VOk K.c k 1 v.seen from hv).cnt (Or.inr rfl)
   have hp : putV (hOut K ⟨hrank, hfails, hlist, hends, hjob, x, .tTake⟩) v.seen = v.seen + 1 := rfl
   exact ⟨by omega, fun q => by omega, fun _ _ => ok, fun _ _ _ _ _ _ _ _ _ => (by constructor <;> first | exact hrg | omega), fun _ => by omega, fun _ => by omega, by omega, fun _ => by omega⟩
  | tShow =>
   obtain ⟨hg, hs⟩ := q
   exact ⟨by omega, fun q => by omega, fun _ _ => ok, fun _ _ _ _ _ _ _ _ _ => (by constructor <;> first | exact hrg | omega), fun _ => by omega, fun _ => by omega, by omega, fun _ => by omega⟩
  | cStat =>
   obtain ⟨hg, hs, hfe⟩ := q
   exact ⟨by omega, fun q => by omega, fun _ _ => ok, fun _ _ _ _ _ _ a b c => by omega, fun _ => by omega, fun _ => by omega, by omega, fun _ => by omega⟩
  | cGate =>
   obtain ⟨hg, hs, hfe⟩ := q
   exact ⟨by omega, fun q => by omega, fun _ _ => ok, fun _ _ _ _ _ _ a b c => by omega, fun _ => by omega, fun _ => by omega, by omega, fun _ => by omega⟩
  | cClock =>
   obtain ⟨hg, hs, hfe⟩ := q
   exact ⟨by omega, fun q => by omega, fun _ _ => ok, fun _ _ _ _ _ _ a b c => by omega, fun _ => by omega, fun _ => by omega, by omega, fun _ => by omega⟩
  | cVer c r =>
   obtain ⟨hg, hs, hfe, hcl, _, hr'⟩ := q
   obtain ⟨hcb', h3⟩ := (show (0 ≤ c ∧ c ≤ k) ∧ RdOk K r from hx)
   have hlt : t.at_ < t.reads.length := by
    cases r with
    | nil => exact absurd rfl h3.1
    | cons y r => exact drop_lt hr'
   exact ⟨by omega, fun q => by omega, fun _ _ => ok, fun _ _ _ _ _ _ _ _ _ => (by constructor <;> first | exact hrg | omega), fun _ => by omega, fun _ => by omega, by omega, fun _ => by omega⟩
  | cShut c r =>
   obtain ⟨hs, hfe, hcl, hr'⟩ := q
   obtain ⟨hcb', h3⟩ := (show (0 ≤ c ∧ c ≤ k) ∧ HdOk K r from hx)
   have hlt : t.at_ < t.held.length := by
    cases r with
    | nil => exact absurd rfl h3.1
    | cons y r => exact drop_lt hr'
   exact ⟨by omega, fun q => by omega, fun _ _ => ok, fun _ _ _ _ _ _ _ _ _ => (by constructor <;> first | exact hrg | omega), fun _ => by omega, fun _ => by omega, by omega, fun _ => by omega⟩
  | cOpen c r =>
   obtain ⟨hs, hfe, hcl, hr'⟩ := q
   obtain ⟨hcb', h3⟩ := (show (0 ≤ c ∧ c ≤ k) ∧ HdOk K r from hx)
   have hlt : t.at_ < t.held.length := by
    cases r with
    | nil => exact absurd rfl h3.1
    | cons y r => exact drop_lt hr'
   exact ⟨by omega, fun q => by omega, fun _ _ => ok, fun _ _ _ _ _ _ _ _ _ => (by constructor <;> first | exact hrg | omega), fun _ => by omega, fun _ => by omega, by omega, fun _ => by omega⟩
  | cOwn c r =>
   obtain ⟨hs, hfe, hcl, hr'⟩ := q
   obtain ⟨hcb', h3⟩ := (show (0 ≤ c ∧ c ≤ k) ∧ HdOk K r from hx)
   have hlt : t.at_ < t.held.length := by
    cases r with
    | nil => exact absurd rfl h3.1
    | cons y r => exact drop_lt hr'
   exact ⟨by omega, fun q => by omega, fun _ _ => ok, fun _ _ _ _ _ _ _ _ _ => (by constructor <;> first | exact hrg | omega), fun _ => by omega, fun _ => by omega, by omega, fun _ => by omega⟩
  | cWord c r =>
   obtain ⟨hs, hfe, hcl, hr'⟩ := q
   obtain ⟨hcb', h3⟩ := (show (0 ≤ c ∧ c ≤ k) ∧ WrOk K r from hx)
   have hlt : t.at_ < t.writes.length := by
    cases r with
    | nil => exact absurd rfl h3.1
    | cons y r => exact drop_lt hr'
   exact ⟨by omega, fun q => by omega, fun _ _ => ok, fun _ _ _ _ _ _ _ _ _ => (by constructor <;> first | exact hrg | omega), fun _ => by omega, fun _ => by omega, by omega, fun _ => by omega⟩
  | cStamp c =>
   obtain ⟨hs, hfe, hcl⟩ := q
   have hcb' : 0 ≤ c ∧ c ≤ k := hx
   exact ⟨by omega, fun q => by omega, fun _ _ => ok, fun _ _ a b c d _ _ _ => by omega, fun _ => by omega, fun _ => by omega, by omega, fun _ => by omega⟩
  | cLeave c =>
   obtain ⟨hs, hfe, hcl⟩ := q
   have hcb' : 0 ≤ c ∧ c ≤ k := hx
   exact ⟨by omega, fun q => by omega, fun _ _ => ok, fun _ _ a b c d _ _ _ => by omega, fun _ => by omega, fun _ => by omega, by omega, fun _ => by omega⟩
  | free e r =>
   obtain ⟨hs, hfe, hr'⟩ := q
   have h3 : HdOk K r := hx
   have hlt : t.at_ < t.held.length := by
    cases r with
    | nil => exact absurd rfl h3.1
    | cons y r => exact drop_lt hr'
   exact ⟨by omega, fun q => by omega, fun _ _ => ok, fun _ _ _ _ _ _ _ _ _ => (by constructor <;> first | exact hrg | omega), fun _ => by omega, fun _ => by omega, by omega, fun _ => by omega⟩
  | fin e =>
   obtain ⟨hs, hfe⟩ : t.step = 27 ∧ t.turn.fate = e := q
   exact ⟨by omega, fun q => by omega, fun _ _ => ok, fun _ _ _ _ _ _ _ _ _ => (by constructor <;> first | exact hrg | omega), fun _ => by omega, fun _ => by omega, by omega, fun _ => by omega⟩
  | fGate =>
   have hs : t.step = 28 := q
   exact ⟨by omega, fun q => by omega, fun _ _ => ok, fun _ _ a b c d _ _ _ => by omega, fun _ => by omega, fun _ => by omega, by omega, fun _ => by omega⟩
  | fOwn r =>
   obtain ⟨hs, hr'⟩ := q
   have h3 : HdOk K r := hx
   have hlt : t.at_ < t.held.length ∧ putV (hOut K ⟨hrank, hfails, hlist, hends, hjob, x, .fOwn r⟩) v.seen = 0 := by
    cases r with
    | nil => exact absurd rfl h3.1
    | cons y r => exact ⟨drop_lt hr', rfl⟩
   exact ⟨by omega, fun q => by omega, fun _ _ => ok, fun _ _ _ _ _ _ _ _ _ => (by constructor <;> first | exact hrg | omega), fun _ => by omega, fun _ => by omega, by omega, fun _ => by omega⟩
  | fTake =>
   have hs : t.step = 30 := q
   have hcn := (show VOk K.c k 1 v.seen from hv).cnt (Or.inr rfl)
   have hp : putV (hOut K ⟨hrank, hfails, hlist, hends, hjob, x, .fTake⟩) v.seen = v.seen + 1 := rfl
   exact ⟨by omega, fun q => by omega, fun _ _ => ok, fun _ _ a b c d _ _ _ => by omega, fun _ => by omega, fun _ => by omega, by omega, fun _ => by omega⟩
  | fStat =>
   have hs : t.step = 31 := q
   have h0 := hvs rfl
   have hwx' : -1 ≤ x.way ∧ x.way < K.c.t := hwx
   have hwy' : t.wayTo = x.way + 1 := hwy
   exact ⟨by omega, fun q => by omega, fun _ _ => ok, fun _ _ _ _ _ _ _ _ _ => (by constructor <;> first | exact hrg | omega), fun _ => by omega, fun _ => by omega, by omega, fun _ => by omega⟩
end Go.Proofs.YtejadojilncbjabGreat
namespace Go.Proofs.YtejadojilncbjabGreat
open Go.RowKit
set_option linter.unusedVariables false
attribute [local go_sem ↓] Go.wp_at_zero Go.wp_at_succ
theorem run_make3 (n : Nat) (hn : n ≤ 1000) (w : World) : (Instr.makeSlice 24 (Value.int .i64 (n : Int)) (Value.int .i64 (n : Int))).run Tryz.prog w =
  .ok (.slice (some ⟨w.heap.size, 0, none⟩) n n) (w.alloc (.cells (List.replicate n (.int .i64 0)).toArray 3)) := by
 obtain ⟨i0, h1, h2, h3, h4⟩ := info_parts Tryz.info3
 have := run_make (P := Tryz.prog) w 24 3 i0 _ Tryz.underlying24 h1 h2 .i64 .i64 n n (by omega) (by omega) (by rw [h4]; omega) (by omega)
 rw [h3] at this
 simp only [Int.toNat_natCast, Nat.mul_one] at this
 have e : madeCells (Value.int .i64 0).cells n = (List.replicate n (Value.int .i64 0)).toArray := by
  apply Array.ext'
  rw [show (Value.int .i64 0).cells = #[.int .i64 0] from rfl, toList_madeCells_one]
 rw [e] at this
 exact this
set_option maxRecDepth 100000 in
set_option maxHeartbeats 2000000 in
theorem copy_any (a : Option Addr) (cap : Nat) (zs : List Int) (w : World) (hz : zs.length ≤ 1000) (h : Ints w w.heap.size a zs) :
  Calls Tryz.prog 112 #[.slice a zs.length cap] w fun e w' =>
   e = .returned (.slice (some ⟨w.heap.size, 0, none⟩) zs.length zs.length) ∧ Blk w' w.heap.size 3 (zs.map (Value.int .i64 ·)).toArray ∧ Below w.heap.size w w' := by
 have HI : Hid (Ints w w.heap.size a zs) := h
 obtain ⟨Z, hZ⟩ : ∃ Z, Z = List.replicate zs.length (Value.int .i64 0) := ⟨_, rfl⟩
 have hZl : Z.length = zs.length := by rw [hZ]; simp
 have hmk := run_make3 zs.length hz
 rw [← hZ] at hmk
 obtain ⟨i0, h1, h2, h3, h4⟩ := info_parts Tryz.info3
 have hsz : (Tryz.prog.info? 3).map (·.size) = some 1 := by rw [h1]; simp [h3]
 obtain ⟨CS, hCS⟩ : ∃ CS, CS = zs.map (Value.int .i64 ·) := ⟨_, rfl⟩
 have hCl : CS.length = zs.length := by rw [hCS]; simp
 have HCS : Hid (CS = zs.map (Value.int .i64 ·)) := hCS
 have HSrc : Hid (0 < CS.length → ∃ ad, a = some ad ∧ ∀ j v, CS[j]? = some v → (w.alloc (.cells Z.toArray 3)).cell? (ad.add j) = some v) := fun hp => by
  obtain ⟨b, off, ha, hlt, hc⟩ := HI.out 0 (by omega)
  refine ⟨_, ha, fun j v hj => ?_⟩
  have hjl : j < zs.length := by have := (List.getElem?_eq_some_iff.1 hj).1; omega
  obtain ⟨b', off', ha', hlt', hc'⟩ := HI.out j hjl
  rw [ha] at ha'
  cases ha'
  rw [hCS, List.getElem?_map, List.getElem?_eq_getElem hjl] at hj
  simp at hj
  subst hj
  have hcell : (w.alloc (.cells Z.toArray 3)).cell? ⟨b, off + j, none⟩ = w.cell? ⟨b, off + j, none⟩ := World.cell?_of_block (((Below.refl _ _).alloc (Nat.le_refl _) _).block b hlt)
  rw [show ((⟨b, off, none⟩ : Addr).add j) = ⟨b, off + j, none⟩ from by simp [Addr.add], hcell, hc']
  simp [List.getD, List.getElem?_eq_getElem hjl]
 have HOne : Hid (∀ v ∈ CS, v.oneCell' = true) := fun v hv => by
  rw [hCS] at hv
  obtain ⟨z, _, rfl⟩ := List.mem_map.1 hv
  rfl
 have HSp : Hid ((splice Z 0 CS) = CS) := by
  show _ = _
  unfold splice
  simp [hCl, hZl]
 clear h hCS h2 h3 h4 hZ
 go_enter Tryz.func112, Tryz.ntmps112
 go_wp2_with
  (refine wpList_copy_splice (by rfl) _ _ _ _ (by rfl) 3 Tryz.underlying24 hsz (some ⟨w.heap.size, 0, none⟩) a zs.length zs.length zs.length cap (by rfl) (by rfl) w.heap.size 0 Z 3 (by exact heap_alloc_new w _) CS (by rw [hCl]; simp)
       (fun hp => ⟨rfl, HSrc.out hp⟩) (by simp [hCl, hZl]) HOne.out w.heap.size w (by exact (Below.refl _ _).alloc (Nat.le_refl _) _) (Nat.le_refl _) ?_;
      intro w5 hrow hbel)
 go_ret
 refine ⟨rfl, ?_, hbel⟩
 have h := hrow.out
 rw [HSp.out, HCS.out] at h
 exact h
def RunIs (w : World) (A : ResD) (O : List Int) (e : Ending) (w' : World) : Prop :=
 ∃ (oa : Option Addr) (oc : Nat), e = .returned (.tuple #[.agg #[.int .i64 A.fate, .int .i64 A.r0, .int .i64 A.r1, .int .i64 A.r2, .int .i64 A.r3], .slice oa O.length oc]) ∧ Ints w' w'.heap.size oa O ∧ Below w.heap.size w w' ∧ ∀ x, oa = some x → w.heap.size ≤ x.block
theorem CodeIn.mono {w : World} {n m : Nat} {a : Option Addr} {is : List InsD} (h : CodeIn w n a is) (hm : n ≤ m) : CodeIn w m a is := fun i hi => by
 obtain ⟨b, off, g1, g2, g3⟩ := h i hi
 exact ⟨b, off, g1, by omega, g3⟩
theorem below_only {n p : Nat} {w w1 w2 : World} (h : Below n w w1) (ho : Only p w1 w2) (hp : n ≤ p) (hn : n ≤ w1.heap.size) : Below n w w2 :=
 ⟨ho.os.trans h.os, ho.tape.trans h.tape, ho.output.trans h.output, Nat.le_trans h.size ho.size, fun k hk => (ho.block k (by omega) (by omega)).trans (h.block k hk)⟩
theorem ints_blk {w : World} {b : Nat} {D : List Int} (h : Blk w b 3 (D.map (Value.int .i64 ·)).toArray) : Ints w w.heap.size (some ⟨b, 0, none⟩) D := fun i hi =>
 ⟨b, 0, rfl, h.lt, by rw [h.cell]; simp [List.getElem?_eq_getElem hi, List.getD]⟩
theorem blk_set {w : World} {b k : Nat} {D : List Int} {v : Int} (h : Blk w b 3 (D.map (Value.int .i64 ·)).toArray) : Blk (w.setCell ⟨b, k, none⟩ (.int .i64 v)) b 3 ((D.set k v).map (Value.int .i64 ·)).toArray :=
 h.set.congr (by rw [List.setIfInBounds_toArray, List.map_set])
structure RunB (w : World) (rb db mb tb : Nat) (t : TurnD) (m : MS) (D : List Int) (wr : World) : Prop where
 turn : Blk wr tb 132 (turnCells t)
 mach : Blk wr mb 130 (mArr m)
 words : Blk wr db 3 (D.map (Value.int .i64 ·)).toArray
 res : Blk wr rb 47 #[.int .i64 0, .int .i64 0, .int .i64 0, .int .i64 0, .int .i64 0]
 low : Below w.heap.size w wr
set_option maxRecDepth 100000 in
set_option maxHeartbeats 8000000 in
theorem run_any (c : Cfg) (mem : List Int) (code : List InsD) (ma ca : Option Addr) (mc cc : Nat) (w : World) (hER : errN c mem code = 0) (h : Ints w w.heap.size ma mem) (hcd : CodeIn w w.heap.size ca code) :
  Calls Tryz.prog 83 #[.int .i64 c.f, .slice ma mem.length mc, .slice ca code.length cc] w (RunIs w (ansR c mem code) (ansO c mem code)) := by
 obtain ⟨hcf, hmw, hmb, hcl⟩ := errN_ok hER
 have HI : Hid (Ints w w.heap.size ma mem) := h
 have HCD : Hid (CodeIn w w.heap.size ca code) := hcd
 obtain ⟨A, HA⟩ : ∃ A, Hid (ansR c mem code = A) := ⟨_, rfl⟩
 obtain ⟨O, HO⟩ : ∃ O, Hid (ansO c mem code = O) := ⟨_, rfl⟩
 rw [show ansR c mem code = A from HA.out, show ansO c mem code = O from HO.out]
 have HAe : Hid (A = resOf (iRun c (memW mem) code).1 (iRun c (memW mem) code).2.2.1) := by
  show A = _
  rw [← HA.out]; exact if_pos hER
 have HOe : Hid (O = (List.range mem.length).map (fun a : Nat => endW c mem code (Int.ofNat a))) := by
  show O = _
  rw [← HO.out]; exact if_pos hER
 obtain ⟨⟨ht1, ht2⟩, ⟨hwd1, hwd2⟩, ⟨hst1, hst2⟩, _, _, _, ⟨hf1, hf2⟩⟩ := cfgB_true hcf
 have hr : ∀ v ∈ mem, 0 ≤ v ∧ v ≤ 65535 := fun v hv => by
  unfold memB at hmb
  rw [List.all_eq_true] at hmb
  exact inB_true (hmb v hv)
 have HH0 : Hid (Head c (memW mem) code (c.f.toNat + 1) (pNext c.f c.wd code (c.f.toNat + 1) ⟨[0, 0, 0, 0], 0, 0, 0⟩).1 (pNext c.f c.wd code (c.f.toNat + 1) ⟨[0, 0, 0, 0], 0, 0, 0⟩).2 mem) := head_first (by omega) hmw hr
 have hm8 : mem.length ≤ 1000 := by omega
 obtain ⟨kf, hkf⟩ : ∃ kf, kf = c.f.toNat + 1 := ⟨_, rfl⟩
 rw [← hkf] at HH0
 have hkf1 : c.f < (kf : Int) := by omega
 have HKF : Hid (kf = c.f.toNat + 1) := hkf
 clear h hcd HA HO hr hkf
 go_enter Tryz.func83, Tryz.ntmps83
 go_wp2_with fail
 have hB0 : Below w.heap.size w (w.alloc (.cells #[.int .i64 0, .int .i64 0, .int .i64 0, .int .i64 0, .int .i64 0] 47)) := (Below.refl w.heap.size w).alloc (Nat.le_refl _) _
 refine (copy_any ma mc mem _ hm8 ((HI.out).up hB0)).mono ?_
 rintro e w1 ⟨rfl, hD1, hb1⟩
 have HB1 : Hid (Below w.heap.size w w1) := hB0.trans (hb1.mono (by simp))
 have HD1 : Hid (Blk w1 (w.heap.size + 1) 3 (mem.map (Value.int .i64 ·)).toArray) := by
  have : Blk w1 (w.alloc (.cells #[.int .i64 0, .int .i64 0, .int .i64 0, .int .i64 0, .int .i64 0] 47)).heap.size 3 (mem.map (Value.int .i64 ·)).toArray := hD1
  exact (by simpa using this : Blk w1 (w.heap.size + 1) 3 _)
 have HR1 : Hid (Blk w1 w.heap.size 47 #[.int .i64 0, .int .i64 0, .int .i64 0, .int .i64 0, .int .i64 0]) := (Blk.new w 47 _).below hb1 (by simp)
 have hs1 : w.heap.size + 2 ≤ w1.heap.size := (HD1.out).lt
 clear hb1 hD1 hB0
 go_wp2_with fail
 obtain ⟨mb, hmbe⟩ : ∃ mb, mb = w1.heap.size := ⟨_, rfl⟩
 obtain ⟨w2, hw2⟩ : ∃ w2, w2 = w1.alloc (.cells #[.int .i64 0, .int .i64 0, .int .i64 0, .int .i64 0, .int .i64 0, .int .i64 0, .int .i64 0] 130) := ⟨_, rfl⟩
 have hM2 : Blk w2 mb 130 (mArr ⟨[0, 0, 0, 0], 0, 0, 0⟩) := by
  rw [hw2, hmbe]
  exact Blk.new w1 130 (mArr ⟨[0, 0, 0, 0], 0, 0, 0⟩)
 have hB12 : Below w1.heap.size w1 w2 := by rw [hw2]; exact (Below.refl _ _).alloc (Nat.le_refl _) _
 have HB2 : Hid (Below w.heap.size w w2) := (HB1.out).trans (hB12.mono (by omega))
 have HD2 : Hid (Blk w2 (w.heap.size + 1) 3 (mem.map (Value.int .i64 ·)).toArray) := (HD1.out).below hB12 (by omega)
 have HR2 : Hid (Blk w2 w.heap.size 47 #[.int .i64 0, .int .i64 0, .int .i64 0, .int .i64 0, .int .i64 0]) := (HR1.out).below hB12 (by omega)
 have hmb2 : w.heap.size + 2 ≤ mb := by omega
 rw [← hw2, ← hmbe]
 clear hw2 hB12 HB1 HD1 HR1 hs1 hmbe
 have HFar : Hid (∀ b off, ca = some ⟨b, off, none⟩ → code ≠ [] → b ≠ mb) := fun b off hca hne => by
  obtain ⟨b', off', h1, h2, _⟩ := HCD.out 0 (List.length_pos_iff.2 hne)
  rw [hca] at h1
  cases h1
  omega
 have HCode : Hid (∀ wx : World, Below w.heap.size w wx → CodeIn wx wx.heap.size ca code) := fun wx hb => ((HCD.out).up hb).mono hb.size
 refine (next_any mb code ca cc c.f c.wd ⟨[0, 0, 0, 0], 0, 0, 0⟩ w2 kf hM2 ⟨rfl, by simp⟩ (HCode.out _ HB2.out) HFar.out hcl hf2 (by simp; omega) (by simp; omega) hwd1 hwd2).mono ?_
 rintro e w3 ⟨rfl, hM3, hO3⟩
 generalize pNext c.f c.wd code kf ⟨[0, 0, 0, 0], 0, 0, 0⟩ = u at *
 have HM3 : Hid (Blk w3 mb 130 (mArr u.2)) := hM3
 have HD3 : Hid (Blk w3 (w.heap.size + 1) 3 (mem.map (Value.int .i64 ·)).toArray) := (HD2.out).only hO3 (by omega)
 have HR3 : Hid (Blk w3 w.heap.size 47 #[.int .i64 0, .int .i64 0, .int .i64 0, .int .i64 0, .int .i64 0]) := (HR2.out).only hO3 (by omega)
 have HB3 : Hid (Below w.heap.size w w3) := below_only HB2.out hO3 (by omega) (HB2.out).size
 clear hM2 hM3 hO3 HD2 HR2 HB2
 obtain ⟨⟨tf, tp, ta, tv⟩, m⟩ := u
 simp only [turnCells]
 go_wp2
 obtain ⟨tb, htb⟩ : ∃ tb, tb = w3.heap.size := ⟨_, rfl⟩
 obtain ⟨w4, hw4⟩ : ∃ w4, w4 = w3.alloc (.cells #[.int .i64 tf, .int .i64 tp, .int .i64 ta, .int .i64 tv] 132) := ⟨_, rfl⟩
 have HB4 : Hid (RunB w w.heap.size (w.heap.size + 1) mb tb ⟨tf, tp, ta, tv⟩ m mem w4) := by
  rw [hw4, htb]
  exact ⟨Blk.new w3 132 _, (HM3.out).alloc _, (HD3.out).alloc _, (HR3.out).alloc _, (HB3.out).alloc (HB3.out).size _⟩
 have htbn : w.heap.size + 2 ≤ tb := by
  rw [htb]
  have := (HM3.out).lt
  omega
 have htbm : mb < tb := by rw [htb]; exact (HM3.out).lt
 rw [← hw4, ← htb]
 clear hw4 htb HM3 HD3 HR3 HB3
 go_loopg [] kf (fun k wr => ∃ (t : TurnD) (m : MS) (D : List Int), Hid (Head c (memW mem) code k t m D) ∧ Hid (RunB w w.heap.size (w.heap.size + 1) mb tb t m D wr))
 case atStart => exact ⟨_, _, _, HH0, HB4⟩
 case round =>
  obtain ⟨t, mk, D, HHk, HBk⟩ := hrel
  clear HH0 HB4
  have htc := (HBk.out).turn.cell
  have htf := (HBk.out).turn.frozen
  unfold turnCells at htc
  have hDl : D.length = mem.length := by have := (HHk.out).dlen; omega
  by_cases hft : t.fate = 0
  ·have hft2 : (t.fate == 0) = true := by simp [hft]
   obtain ⟨q, rfl⟩ : ∃ q, gk = q + 1 := by
    rcases (HHk.out).cs with h | ⟨_, x1, r1, N1, _, _, _, _, j6, _, j8, _⟩
    ·exact absurd hft h.1
    ·exact ⟨gk - 1, by omega⟩
   obtain ⟨⟨a0, a1, hki, hop, hMe, hbe⟩, hH⟩ := head_next (by omega) HHk.out hft
   rw [← show kf = c.f.toNat + 1 from HKF.out] at hH
   obtain ⟨na, hna⟩ := Int.eq_ofNat_of_zero_le a0
   have hnaD : na < D.length := by omega
   have hna0 : (0 : Int) ≤ (na : Int) := by omega
   have hna1 : (na : Int) < c.wd := by omega
   have hnat : t.addr.toNat = na := by omega
   have hdc : wr.cell? ⟨w.heap.size + 1, na, none⟩ = some (.int .i64 (D.getD na 0)) := by
    rw [(HBk.out).words.cell]
    simp [List.getElem?_eq_getElem hnaD, List.getD]
   have hdf := (HBk.out).words.frozen na
   rw [hna] at htc
   have HML : Hid (mk.regs.length = 4) := (HHk.out).mok.1
   by_cases o7 : t.op = 7
   ·have hb7 : (t.op == 7) = true := by simp [o7]
    obtain ⟨ki, hk1, hk2⟩ := hki o7
    have eM : effM t mk D = { mk with regs := mk.regs.set ki (D.getD na 0) } := by unfold effM; rw [if_pos o7, hk1, hnat]; rfl
    have eD : effD t D = D := by unfold effD; rw [if_pos o7]
    rw [eM] at hMe hbe hH
    rw [eD] at hH
    clear eM eD
    generalize D.getD na 0 = dv at *
    obtain ⟨M5, hM5e⟩ : ∃ M5 : MS, M5 = { mk with regs := mk.regs.set ki dv } := ⟨_, rfl⟩
    rw [← hM5e] at hMe hbe hH
    have HMok : Hid (MOk M5) := hMe
    have HH5 : Hid _ := hH
    have HK1 : Hid (mk.into = (ki : Int)) := hk1
    have HM5e : Hid (M5 = { mk with regs := mk.regs.set ki dv }) := hM5e
    clear hH hMe hki hop hft o7 hk1 hM5e hna hnat a0 a1
    go_wp2_with fail
    refine (give_any mb ki mk _ wr (HBk.out).mach HML.out HK1.out hk2).mono ?_
    rintro e w5 ⟨rfl, hM5, hO5⟩
    rw [← show M5 = { mk with regs := mk.regs.set ki dv } from HM5e.out] at hM5
    obtain ⟨D5, hD5e⟩ : ∃ D5, D5 = D := ⟨_, rfl⟩
    rw [← hD5e] at HH5
    have HM5 : Hid (Blk w5 mb 130 (mArr M5)) := hM5
    have HT5 : Hid (Blk w5 tb 132 (turnCells t)) := (HBk.out).turn.only hO5 (by omega)
    have HD5 : Hid (Blk w5 (w.heap.size + 1) 3 (D5.map (Value.int .i64 ·)).toArray) := by rw [hD5e]; exact (HBk.out).words.only hO5 (by omega)
    have HR5 : Hid (Blk w5 w.heap.size 47 #[.int .i64 0, .int .i64 0, .int .i64 0, .int .i64 0, .int .i64 0]) := (HBk.out).res.only hO5 (by omega)
    have HB5 : Hid (Below w.heap.size w w5) := below_only (HBk.out).low hO5 (by omega) (HBk.out).low.size
    have htc5 := (HT5.out).cell
    clear hM5 hO5 hD5e HM5e HK1 HBk HHk hdc hdf
    go_wp2_with fail
    refine (next_any mb code ca cc c.f c.wd M5 w5 kf HM5.out HMok.out (HCode.out _ HB5.out) HFar.out hcl hf2 hbe (by omega) hwd1 hwd2).mono ?_
    rintro e w6 ⟨rfl, hM6, hO6⟩
    have HHn : Hid (Head c (memW mem) code q (pNext c.f c.wd code kf M5).1 (pNext c.f c.wd code kf M5).2 D5) := HH5
    clear HH5
    generalize pNext c.f c.wd code kf M5 = u at *
    have HM6 : Hid (Blk w6 mb 130 (mArr u.2)) := hM6
    have HT6 : Hid (Blk w6 tb 132 (turnCells t)) := (HT5.out).only hO6 (by omega)
    have HD6 : Hid (Blk w6 (w.heap.size + 1) 3 (D5.map (Value.int .i64 ·)).toArray) := (HD5.out).only hO6 (by omega)
    have HR6 : Hid (Blk w6 w.heap.size 47 #[.int .i64 0, .int .i64 0, .int .i64 0, .int .i64 0, .int .i64 0]) := (HR5.out).only hO6 (by omega)
    have HB6 : Hid (Below w.heap.size w w6) := below_only HB5.out hO6 (by omega) (HB5.out).size
    have htc6 := (HT6.out).cell
    have htf6 := (HT6.out).frozen
    unfold turnCells at htc6
    clear hM6 hO6 htc5 htc htf
    obtain ⟨⟨uf, up, ua, uv⟩, mu⟩ := u
    simp only [turnCells]
    go_wp2
    go_roundg q
    case rel =>
     refine ⟨_, _, _, HHn, ?_⟩
     have hne : tb ≠ mb := by omega
     have hO : Only tb w6 ((((w6.setCell ⟨tb, 0, none⟩ (.int .i64 uf)).setCell ⟨tb, 1, none⟩ (.int .i64 up)).setCell ⟨tb, 2, none⟩ (.int .i64 ua)).setCell ⟨tb, 3, none⟩ (.int .i64 uv)) := ((((Only.refl _ _).set).set).set).set
     exact ⟨((HT6.out).set.set.set.set).congr (by simp [turnCells]), (HM6.out).only hO (by omega), (HD6.out).only hO (by omega), (HR6.out).only hO (by omega), below_only HB6.out hO (by omega) (HB6.out).size⟩
    case measure => omega
   ·have o8 : t.op = 8 := by omega
    have hb7 : (t.op == 7) = false := by simp; omega
    have eM : effM t mk D = mk := by unfold effM; rw [if_neg o7]
    have eD : effD t D = D.set na t.val := by unfold effD; rw [if_neg o7, hnat]
    rw [eM] at hMe hbe hH
    rw [eD] at hH
    obtain ⟨M5, hM5e⟩ : ∃ M5 : MS, M5 = mk := ⟨_, rfl⟩
    obtain ⟨D5, hD5e⟩ : ∃ D5, D5 = D.set na t.val := ⟨_, rfl⟩
    rw [← hM5e] at hMe hbe hH
    rw [← hD5e] at hH
    have HMok : Hid (MOk M5) := hMe
    have HH5 : Hid _ := hH
    obtain ⟨w5, hw5⟩ : ∃ w5, w5 = wr.setCell ⟨w.heap.size + 1, na, none⟩ (.int .i64 t.val) := ⟨_, rfl⟩
    have hO5 : Only (w.heap.size + 1) wr w5 := by rw [hw5]; exact (Only.refl _ _).set
    have HM5 : Hid (Blk w5 mb 130 (mArr M5)) := by rw [hM5e]; exact (HBk.out).mach.only hO5 (by omega)
    have HT5 : Hid (Blk w5 tb 132 (turnCells t)) := (HBk.out).turn.only hO5 (by omega)
    have HD5 : Hid (Blk w5 (w.heap.size + 1) 3 (D5.map (Value.int .i64 ·)).toArray) := by rw [hD5e, hw5]; exact blk_set (HBk.out).words
    have HR5 : Hid (Blk w5 w.heap.size 47 #[.int .i64 0, .int .i64 0, .int .i64 0, .int .i64 0, .int .i64 0]) := (HBk.out).res.only hO5 (by omega)
    have HB5 : Hid (Below w.heap.size w w5) := below_only (HBk.out).low hO5 (by omega) (HBk.out).low.size
    have htc5 := (HT5.out).cell
    have HW5 : Hid (wr.setCell ⟨w.heap.size + 1, na, none⟩ (.int .i64 t.val) = w5) := hw5.symm
    clear hH hMe eM eD hki hop hft o7 o8 hM5e hD5e hna hnat a0 a1 hO5 hw5
    go_wp2_with fail
    rw [show wr.setCell ⟨w.heap.size + 1, na, none⟩ (.int .i64 t.val) = w5 from HW5.out]
    clear HW5 HBk HHk hdc hdf
    go_wp2_with fail
    refine (next_any mb code ca cc c.f c.wd M5 w5 kf HM5.out HMok.out (HCode.out _ HB5.out) HFar.out hcl hf2 hbe (by omega) hwd1 hwd2).mono ?_
    rintro e w6 ⟨rfl, hM6, hO6⟩
    have HHn : Hid (Head c (memW mem) code q (pNext c.f c.wd code kf M5).1 (pNext c.f c.wd code kf M5).2 D5) := HH5
    clear HH5
    generalize pNext c.f c.wd code kf M5 = u at *
    have HM6 : Hid (Blk w6 mb 130 (mArr u.2)) := hM6
    have HT6 : Hid (Blk w6 tb 132 (turnCells t)) := (HT5.out).only hO6 (by omega)
    have HD6 : Hid (Blk w6 (w.heap.size + 1) 3 (D5.map (Value.int .i64 ·)).toArray) := (HD5.out).only hO6 (by omega)
    have HR6 : Hid (Blk w6 w.heap.size 47 #[.int .i64 0, .int .i64 0, .int .i64 0, .int .i64 0, .int .i64 0]) := (HR5.out).only hO6 (by omega)
    have HB6 : Hid (Below w.heap.size w w6) := below_only HB5.out hO6 (by omega) (HB5.out).size
    have htc6 := (HT6.out).cell
    have htf6 := (HT6.out).frozen
    unfold turnCells at htc6
    clear hM6 hO6 htc5 htc htf
    obtain ⟨⟨uf, up, ua, uv⟩, mu⟩ := u
    simp only [turnCells]
    go_wp2
    go_roundg q
    case rel =>
     refine ⟨_, _, _, HHn, ?_⟩
     have hne : tb ≠ mb := by omega
     have hO : Only tb w6 ((((w6.setCell ⟨tb, 0, none⟩ (.int .i64 uf)).setCell ⟨tb, 1, none⟩ (.int .i64 up)).setCell ⟨tb, 2, none⟩ (.int .i64 ua)).setCell ⟨tb, 3, none⟩ (.int .i64 uv)) := ((((Only.refl _ _).set).set).set).set
     exact ⟨((HT6.out).set.set.set.set).congr (by simp [turnCells]), (HM6.out).only hO (by omega), (HD6.out).only hO (by omega), (HR6.out).only hO (by omega), below_only HB6.out hO (by omega) (HB6.out).size⟩
    case measure => omega
  ·have hft2 : (t.fate == 0) = false := by simpa using hft
   have hcs := (HHk.out).cs.resolve_right (fun h => hft h.1)
   obtain ⟨_, g2, g3, g4⟩ := hcs
   have hmc := (HBk.out).mach.cell
   have HAr : Hid (A = ⟨t.fate, mk.regs.getD 0 0, mk.regs.getD 1 0, mk.regs.getD 2 0, mk.regs.getD 3 0⟩) := by
    show A = _
    rw [HAe.out]
    unfold resOf regOf
    rw [g2, g3]
    rfl
   have HOl : Hid (O.length = mem.length) := by
    show _ = _
    rw [HOe.out]; simp
   have HOD : Hid (t.fate = 1 → O = D) := fun h1 => by
    rw [HOe.out]
    apply List.ext_getElem?
    intro a
    by_cases ha : a < D.length
    ·rw [List.getElem?_map, List.getElem?_range (by omega), List.getElem?_eq_getElem ha]
     have := g4 a ha
     rw [show D.getD a 0 = D[a] from by simp [List.getD, List.getElem?_eq_getElem ha]] at this
     rw [this]
     simp [endW, g2, h1]
    ·rw [List.getElem?_eq_none (by simp; omega), List.getElem?_eq_none (by omega)]
   have HOM : Hid (t.fate ≠ 1 → O = mem) := fun h1 => by
    rw [HOe.out]
    apply List.ext_getElem?
    intro a
    by_cases ha : a < mem.length
    ·rw [List.getElem?_map, List.getElem?_range (by omega), List.getElem?_eq_getElem ha]
     simp [endW, g2, h1, memW, List.getElem?_eq_getElem ha]
    ·rw [List.getElem?_eq_none (by simp; omega), List.getElem?_eq_none (by omega)]
   have hrc := (HBk.out).res.cell
   have hrf := (HBk.out).res.frozen
   have hmc0 : wr.cell? ⟨mb, 0, none⟩ = some (.int .i64 (mk.regs.getD 0 0)) := hmc 0
   have hmc1 : wr.cell? ⟨mb, 1, none⟩ = some (.int .i64 (mk.regs.getD 1 0)) := hmc 1
   have hmc2 : wr.cell? ⟨mb, 2, none⟩ = some (.int .i64 (mk.regs.getD 2 0)) := hmc 2
   have hmc3 : wr.cell? ⟨mb, 3, none⟩ = some (.int .i64 (mk.regs.getD 3 0)) := hmc 3
   clear g2 g3 g4 hmc HAe HOe HHk hft
   generalize mk.regs.getD 0 0 = x0 at *
   generalize mk.regs.getD 1 0 = x1 at *
   generalize mk.regs.getD 2 0 = x2 at *
   generalize mk.regs.getD 3 0 = x3 at *
   by_cases hf1' : t.fate = 1
   ·have hb1 : (t.fate != 1) = false := by simp [hf1']
    have HOx : Hid (O = D) := HOD.out hf1'
    clear hf1' HOD HOM
    go_wp2
    obtain ⟨e0, e1, e2, e3, e4, hfin, honly⟩ := res_end (HBk.out).res rfl (HBk.out).low (Nat.le_refl _) (.int .i64 t.fate) (.int .i64 x0) (.int .i64 x1) (.int .i64 x2) (.int .i64 x3)
    refine bodyPost_ret (v := .tuple #[.agg #[.int .i64 t.fate, .int .i64 x0, .int .i64 x1, .int .i64 x2, .int .i64 x3], .slice (some ⟨w.heap.size + 1, 0, none⟩) mem.length mem.length]) (by simp [results, Tryz.results83, go_sem, e0, e1, e2, e3, e4]) rfl ⟨some ⟨w.heap.size + 1, 0, none⟩, mem.length, ?_, ?_, hfin, fun x hx => by cases hx; simp⟩
    ·rw [HAr.out, HOl.out]
    ·rw [HOx.out]
     exact ints_blk ((HBk.out).words.only honly (by omega))
   ·have hb1 : (t.fate != 1) = true := by simpa using hf1'
    have HOx : Hid (O = mem) := HOM.out hf1'
    clear hf1' HOD HOM
    go_wp2_with fail
    refine (copy_any ma mc mem _ hm8 ((HI.out).up (HBk.out).low)).mono ?_
    rintro e w5 ⟨rfl, hD5, hb5⟩
    have HD5 : Hid (Blk w5 wr.heap.size 3 (mem.map (Value.int .i64 ·)).toArray) := hD5
    have HR5 : Hid (Blk w5 w.heap.size 47 #[.int .i64 0, .int .i64 0, .int .i64 0, .int .i64 0, .int .i64 0]) := (HBk.out).res.below hb5 (HBk.out).res.lt
    have hT5 := ((HBk.out).turn.below hb5 (HBk.out).turn.lt).cell
    unfold turnCells at hT5
    have hup : ∀ o, w5.cell? ⟨mb, o, none⟩ = wr.cell? ⟨mb, o, none⟩ := fun o => World.cell?_of_block (hb5.block mb (HBk.out).mach.lt)
    have hn0 := (hup 0).trans hmc0
    have hn1 := (hup 1).trans hmc1
    have hn2 := (hup 2).trans hmc2
    have hn3 := (hup 3).trans hmc3
    have hrc5 := (HR5.out).cell
    have hrf5 := (HR5.out).frozen
    have HB5 : Hid (Below w.heap.size w w5) := (HBk.out).low.trans (hb5.mono (HBk.out).low.size)
    have hdr : wr.heap.size ≠ w.heap.size := by have := (HBk.out).res.lt; omega
    clear hD5 hb5 hup hmc0 hmc1 hmc2 hmc3 hrc hrf htc htf
    go_wp2
    obtain ⟨e0, e1, e2, e3, e4, hfin, honly⟩ := res_end HR5.out rfl HB5.out (Nat.le_refl _) (.int .i64 t.fate) (.int .i64 x0) (.int .i64 x1) (.int .i64 x2) (.int .i64 x3)
    refine bodyPost_ret (v := .tuple #[.agg #[.int .i64 t.fate, .int .i64 x0, .int .i64 x1, .int .i64 x2, .int .i64 x3], .slice (some ⟨wr.heap.size, 0, none⟩) mem.length mem.length]) (by simp [results, Tryz.results83, go_sem, e0, e1, e2, e3, e4]) rfl ⟨some ⟨wr.heap.size, 0, none⟩, mem.length, ?_, ?_, hfin, fun x hx => by cases hx; exact (HBk.out).low.size⟩
    ·rw [HAr.out, HOl.out]
    ·rw [HOx.out]
     exact ints_blk ((HD5.out).only honly hdr)
end Go.Proofs.YtejadojilncbjabGreat
