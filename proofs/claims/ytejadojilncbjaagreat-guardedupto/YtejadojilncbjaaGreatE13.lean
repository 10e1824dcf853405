import Derived.Test.YtejadojilncbjaaGreatE10
import Derived.Test.YtejadojilncbjaaGreatE12
namespace Go.Proofs.YtejadojilncbjaaGreat
set_option linter.unusedVariables false

/-! What stays true of the cells and of the machines: part 2: the steps. -/

theorem tmodP {a s : Int} (h1 : 1 ≤ s) (h0 : 0 ≤ a) : 0 ≤ a.tmod s ∧ a.tmod s < s := ⟨Int.tmod_nonneg _ h0, Int.tmod_lt_of_pos _ (by omega)⟩

/-- An instruction that reads or writes names registers. -/
theorem formed_regs {i : InsD} {n : Int} (h : formedB i n = true) (h0 : i.op ≠ 0) (h1 : i.op ≠ 1) (h2 : i.op ≠ 2) (h5 : i.op ≠ 5) : 0 ≤ i.a ∧ i.a ≤ 3 ∧ 0 ≤ i.b ∧ i.b ≤ 3 := by
  unfold formedB at h
  rw [if_neg (by rintro (e | e); · exact h0 e
                 · exact h1 e), if_neg h2] at h
  by_cases h3 : i.op = 3 ∨ i.op = 4
  · rw [if_pos h3] at h
    simp only [Bool.and_eq_true] at h
    have a := inB2 h.1.1
    have b := inB2 h.1.2
    omega
  · rw [if_neg h3, if_neg h5] at h
    by_cases h6 : i.op = 6
    · rw [if_pos h6] at h
      simp only [Bool.and_eq_true] at h
      have a := inB2 h.1.1
      have b := inB2 h.1.2
      omega
    · rw [if_neg h6] at h
      by_cases h7 : i.op = 7 ∨ i.op = 8
      · rw [if_pos h7] at h
        simp only [Bool.and_eq_true] at h
        have a := inB2 h.1
        have b := inB2 h.2
        omega
      · rw [if_neg h7] at h; cases h

/-- What comes of an instruction. -/
def On2 (K : Cx) (k : Int) (t : Bool × Th) : Prop := (t.1 = true → Onn K k t.2) ∧ (t.1 = false → ThOk K k t.2)
theorem On2.off {K : Cx} {k : Int} {h : Th} (A : ThOk K k h) : On2 K k (false, h) := ⟨(fun e => nomatch e), fun _ => A⟩
theorem On2.on {K : Cx} {k : Int} {h : Th} (A : Onn K k h) : On2 K k (true, h) := ⟨fun _ => A, (fun e => nomatch e)⟩

theorem read_ok {K : Cx} {k : Int} {h : Th} {i : InsD} (A : Onn K k h) (hi : 0 ≤ i.a ∧ i.a ≤ 3 ∧ 0 ≤ i.b ∧ i.b ≤ 3) : On2 K k (hRead K i h) := by
  have hr := reg_ok A.x i.b
  unfold hRead
  simp only
  split
  · exact On2.off (close_ok A 3)
  · rename_i hw
    cases he : entIdx h.x.writes (regOf h.x i.b) with
    | some j =>
      have hm := A.x.wr _ (entIn he).2.2
      exact On2.on ((A.setx _ (A.x.setReg _ _ hm.2.2.1 hm.2.2.2)).noted _ _ _)
    | none =>
      simp only
      refine On2.off ?_
      split
      · exact A.st _ ⟨hr.1, by omega, hi⟩
      · exact A.st _ ⟨hr.1, by omega, hi⟩

theorem put_ok {K : Cx} {k : Int} {h : Th} {i : InsD} {a : Int} (A : Onn K k h) (a0 : 0 ≤ a) (a1 : a < K.c.wd) : Onn K k (hPut i a h) := by
  have hr := reg_ok A.x i.b
  exact (A.setx _ (A.x.put a _ a0 a1 hr.1 hr.2)).noted _ _ _

theorem write_ok {K : Cx} {k : Int} {h : Th} {i : InsD} (A : Onn K k h) (hi : 0 ≤ i.a ∧ i.a ≤ 3 ∧ 0 ≤ i.b ∧ i.b ≤ 3) : On2 K k (hWrite K i h) := by
  have hr := reg_ok A.x i.a
  unfold hWrite
  simp only
  split
  · exact On2.off (close_ok A 3)
  · rename_i hw
    split
    · exact On2.on (put_ok A hr.1 (by omega))
    · rename_i hh
      exact On2.off (A.st _ ⟨⟨hr.1, by omega, hi⟩, by simpa using hh⟩)

theorem step_ok {K : Cx} {k : Int} {h : Th} (A : Onn K k h) : On2 K k (hStep K h) := by
  have hX := A.x
  unfold hStep
  by_cases h1 : h.x.place = h.x.code.length
  · rw [if_pos h1]; exact On2.off (close_ok A 1)
  rw [if_neg h1]
  by_cases h2 : (h.x.begun : Int) = K.c.f
  · rw [if_pos h2]; exact On2.off (close_ok A 4)
  rw [if_neg h2]
  have hb1 : ((h.x.begun + 1 : Nat) : Int) ≤ K.c.f := by have := hX.bg; omega
  have hp := hX.plc
  have X1 : XOk K k { h.x with begun := h.x.begun + 1 } := hX.at (h.x.begun + 1) h.x.place hb1 hp
  have X2 : XOk K k { h.x with begun := h.x.begun + 1, place := h.x.place + 1 } := hX.at (h.x.begun + 1) (h.x.place + 1) hb1 (by omega)
  simp only
  generalize insAt h.x.code h.x.place = i at *
  by_cases h3 : formedB i h.x.code.length = false
  · rw [if_pos h3]; exact On2.off (close_ok (A.setx _ X1) 3)
  rw [if_neg h3]
  have hfm : formedB i h.x.code.length = true := by simpa using h3
  by_cases o0 : i.op = 0
  · rw [if_pos o0]; exact On2.off (close_ok (A.setx _ X2) 1)
  rw [if_neg o0]
  by_cases o1 : i.op = 1
  · rw [if_pos o1]; exact On2.off (close_ok (A.setx _ X2) 2)
  rw [if_neg o1]
  by_cases o2 : i.op = 2
  · rw [if_pos o2]
    have hb : 0 ≤ i.b ∧ i.b ≤ 65535 := by
      unfold formedB at hfm
      rw [if_neg (by rintro (e | e); · exact o0 e
                     · exact o1 e), if_pos o2] at hfm
      simp only [Bool.and_eq_true] at hfm
      exact inB2 hfm.2
    exact On2.on (A.setx _ (X2.setReg _ _ hb.1 hb.2))
  rw [if_neg o2]
  have ra := reg_ok X2 i.a
  have rb := reg_ok X2 i.b
  have rc := reg_ok X2 i.c
  generalize hx2 : ({ h.x with begun := h.x.begun + 1, place := h.x.place + 1 } : TS) = x2 at *
  by_cases o3 : i.op = 3
  · rw [if_pos o3]
    have := tmodP (a := regOf x2 i.b + regOf x2 i.c) (s := 65536) (by omega) (by omega)
    exact On2.on (A.setx _ (X2.setReg _ _ this.1 (by omega)))
  rw [if_neg o3]
  by_cases o4 : i.op = 4
  · rw [if_pos o4]
    have := tmodP (a := regOf x2 i.b + 65535 + 1 - regOf x2 i.c) (s := 65536) (by omega) (by omega)
    exact On2.on (A.setx _ (X2.setReg _ _ this.1 (by omega)))
  rw [if_neg o4]
  have hjump : ∀ (hc : 0 ≤ i.c ∧ i.c ≤ (h.x.code.length : Int)), XOk K k { h.x with begun := h.x.begun + 1, place := i.c.toNat } := fun hc => by
    exact hX.at (h.x.begun + 1) i.c.toNat hb1 (by omega)
  by_cases o5 : i.op = 5
  · rw [if_pos o5]
    have hc : 0 ≤ i.c ∧ i.c ≤ (h.x.code.length : Int) := by
      unfold formedB at hfm
      rw [if_neg (by omega), if_neg o2, if_neg (by omega), if_pos o5] at hfm
      exact inB2 hfm
    exact On2.on (A.setx _ (hjump hc))
  rw [if_neg o5]
  by_cases o6 : i.op = 6
  · rw [if_pos o6]
    have hc : 0 ≤ i.c ∧ i.c ≤ (h.x.code.length : Int) := by
      unfold formedB at hfm
      rw [if_neg (by omega), if_neg o2, if_neg (by omega), if_neg o5, if_pos o6] at hfm
      simp only [Bool.and_eq_true] at hfm
      exact inB2 hfm.2
    refine On2.on (A.setx _ ?_)
    split
    · exact hjump hc
    · exact X2
  rw [if_neg o6]
  have hi := formed_regs hfm o0 o1 o2 o5
  by_cases o7 : i.op = 7
  · rw [if_pos o7]
    exact read_ok (A.setx _ X2) hi
  · rw [if_neg o7]
    exact write_ok (A.setx _ X2) hi

theorem go_ok {K : Cx} {k : Int} : ∀ {h : Th}, Onn K k h → ThOk K k (hGo K h) := by
  have H : ∀ (n : Nat) (h : Th), n = K.c.f.toNat - h.x.begun → Onn K k h → ThOk K k (hGo K h) := by
    intro n
    induction n with
    | zero =>
      intro h hn A
      rw [hGo_eq K h A.x.bg]
      by_cases hs : (hStep K h).1 = true
      · have := hStep_begun K h hs
        have := A.x.bg
        omega
      · rw [if_neg hs]
        exact (step_ok A).2 (by simpa using hs)
    | succ n ih =>
      intro h hn A
      rw [hGo_eq K h A.x.bg]
      by_cases hs : (hStep K h).1 = true
      · rw [if_pos hs]
        have := hStep_begun K h hs
        exact ih _ (by omega) ((step_ok A).1 hs)
      · rw [if_neg hs]
        exact (step_ok A).2 (by simpa using hs)
  exact fun {h} A => H _ h rfl A

theorem got_ok {K : Cx} {k : Int} {h : Th} {i : InsD} {a v : Int} (A : Onn K k h) (v0 : 0 ≤ v) (v1 : v ≤ 65535) : ThOk K k (hGot K i a v h) := go_ok ((A.setx _ (A.x.setReg _ _ v0 v1)).noted _ _ _)
theorem wrote_ok {K : Cx} {k : Int} {h : Th} {i : InsD} {a : Int} (A : Onn K k h) (ha : AOk K i a) : ThOk K k (hWrote K i a h) := by
  have A1 := put_ok (i := i) A ha.1 ha.2.1
  unfold hWrote
  split
  · exact go_ok A1
  · exact A1.st _ trivial
theorem exdone_ok {K : Cx} {k : Int} {h : Th} {e : Ex} {c : Int} (A : Onn K k h) (he : ExOk K e) (hc : 0 ≤ c ∧ c ≤ k) : ThOk K k (hExDone K e c h) := by
  have hx := A.x
  have A1 : Onn K k { h with list := modLast h.list (fun t => { t with valid := c }), x := { h.x with valid := c } } := ⟨A.rank, ⟨hx.four, hx.rg, hx.wr, hx.rd, hx.hd, hx.wn, hx.rn, hx.hn, hc, hx.way, hx.plc, hx.bg⟩⟩
  cases e with
  | rd i a v => exact got_ok A1 he.2.1 he.2.2
  | wr i a => exact wrote_ok A1 he
theorem exstill_ok {K : Cx} {k : Int} {h : Th} {e : Ex} {c : Int} (A : Onn K k h) (he : ExOk K e) (hc : 0 ≤ c ∧ c ≤ k) (r : List EntD) (hr : ∀ e ∈ r, 0 ≤ e.what ∧ e.what < K.c.s) : ThOk K k (hExStill K e c r h) := by
  cases r with
  | nil => exact exdone_ok A he hc
  | cons q r => exact A.st _ ⟨he, hc, by simp, hr⟩

theorem open_ok {K : Cx} {k : Int} {h : Th} {c : Int} (A : Onn K k h) (hc : 0 ≤ c ∧ c ≤ k) (r : List Int) (hr : ∀ s ∈ r, 0 ≤ s ∧ s < K.c.s) : ThOk K k (hOpenAt c r h) := by
  cases r with
  | nil => exact A.st _ trivial
  | cons q r => exact A.st _ ⟨hc, by simp, hr⟩
theorem word_ok {K : Cx} {k : Int} {h : Th} {c : Int} (A : Onn K k h) (hc : 0 ≤ c ∧ c ≤ k) (r : List EntD) (hr : ∀ e ∈ r, 0 ≤ e.what ∧ e.what < K.c.wd ∧ 0 ≤ e.val ∧ e.val ≤ 65535) : ThOk K k (hWordAt c r h) := by
  cases r with
  | nil => exact open_ok A hc _ A.x.hd
  | cons q r => exact A.st _ ⟨hc, by simp, hr⟩
theorem shut_ok {K : Cx} {k : Int} {h : Th} {c : Int} (A : Onn K k h) (hc : 0 ≤ c ∧ c ≤ k) (r : List Int) (hr : ∀ s ∈ r, 0 ≤ s ∧ s < K.c.s) : ThOk K k (hShutAt c r h) := by
  cases r with
  | nil => exact A.st _ hc
  | cons q r => exact A.st _ ⟨hc, by simp, hr⟩
theorem still_ok {K : Cx} {k : Int} {h : Th} {c : Int} (A : Onn K k h) (hc : 0 ≤ c ∧ c ≤ k) : ∀ (r : List EntD), (∀ e ∈ r, 0 ≤ e.what ∧ e.what < K.c.s) → ThOk K k (hStillAt c r h)
  | [], hr => shut_ok A hc _ A.x.hd
  | e :: r, hr => by
    unfold hStillAt
    split
    · exact still_ok A hc r (fun e he => hr e (List.mem_cons_of_mem _ he))
    · exact A.st _ ⟨hc, by simp, hr⟩

theorem to_ok {K : Cx} {k : Int} {h : Th} (A : Onn K k h) (hk : 0 ≤ k) (j : Nat) : ThOk K k (hTo K j h) := by
  unfold hTo
  split
  · exact ⟨⟨Int.le_refl _, hk⟩, A.x, trivial⟩
  · exact A.st _ trivial
theorem rest_ok {K : Cx} {k : Int} {h : Th} (A : Onn K k h) (d : Int) : ThOk K k (hRest K d h) := by
  unfold hRest
  simp only
  generalize (d.tmod ((if h.fails < K.c.cp then h.fails else K.c.cp) + 1)).toNat = n
  split
  · rename_i hn
    exact A.st _ hn.2
  · exact A.st _ trivial

theorem new_ok {K : Cx} {k v : Int} (hf : 0 ≤ K.c.f) (ht : 1 ≤ K.c.t) (code : List InsD) (hv : 0 ≤ v ∧ v ≤ k) : XOk K k (newTS code v) :=
  ⟨rfl, fun r hr => by simp [newTS] at hr; omega, fun e he => by simp [newTS] at he, fun e he => by simp [newTS] at he, fun e he => by simp [newTS] at he, by simp [newTS], by simp [newTS], by simp [newTS], hv, ⟨by simp [newTS], by simp [newTS]; omega⟩, Nat.zero_le _, by simp [newTS]; exact hf⟩

end Go.Proofs.YtejadojilncbjaaGreat

namespace Go.Proofs.YtejadojilncbjaaGreat
open Go.RowKit
set_option linter.unusedVariables false
attribute [local go_sem ↓] Go.wp_at_zero Go.wp_at_succ

/-- The lists stay. -/
def Lists (t t' : PT) : Prop := t'.reads = t.reads ∧ t'.writes = t.writes ∧ t'.held = t.held ∧ t'.mine = t.mine ∧ t'.notes = t.notes ∧ t'.res = t.res
theorem lists_fail (t : PT) : Lists t (yFail t) := by
  unfold yFail yUndo yGiveBack yCount yShow
  split
  · exact ⟨rfl, rfl, rfl, rfl, rfl, rfl⟩
  · split <;> exact ⟨rfl, rfl, rfl, rfl, rfl, rfl⟩
theorem lists_meet (u : Int) (t : PT) : Lists t (yMeet u t) := by
  unfold yMeet
  split
  · exact lists_fail t
  · exact ⟨rfl, rfl, rfl, rfl, rfl, rfl⟩
theorem lists_weigh (u : Int) (t : PT) : Lists t (yWeigh u t) := by
  unfold yWeigh
  split
  · exact lists_fail { t with wayTo := t.rival }
  split
  · exact ⟨rfl, rfl, rfl, rfl, rfl, rfl⟩
  · exact ⟨rfl, rfl, rfl, rfl, rfl, rfl⟩
theorem TR.by {base p z : Nat} {A B : List Value} {w w' : World} {t t' : PT} {L : Ls} (R : TR base p z A B w t L) (h : TAt w' p z A B t' L) (ho : Only p w w') (hl : Lists t t') : TR base p z A B w' t' L := R.next h ho hl.1 hl.2.1 hl.2.2.1 hl.2.2.2.1 hl.2.2.2.2.1 hl.2.2.2.2.2

section
variable (base p z : Nat) (A B : List Value) (t : PT) (L : Ls) (w : World)

set_option maxHeartbeats 2000000 in
theorem t_followExt (R : TR base p z A B w t L) (ok : TOk t) (hfl : t.fails + 1 ≤ 2 ^ 40) (hbs : base ≤ w.heap.size) (hm : t.m.regs.length = 4) (hi : t.turn.op = 7 → 0 ≤ t.m.into ∧ t.m.into ≤ 3)
    (seen : Int) (hs : t.step = 12 ∨ t.step = 13) (hat : t.step = 13 → t.at_ < t.reads.length) :
    Calls Tryz.prog 107 #[.pointer (some ⟨p, z, none⟩), .int .i64 seen] w (Dids base p z A B (yFollowExt seen t) L w) := by
  have h13 := R.tt.cStep
  have h38 := R.tt.cAt
  have h37 := R.tt.cClock
  have h30 := R.tt.cReads
  have hf := R.tt.froz
  have HR : Hid (TR base p z A B w t L) := R
  have HK : Hid (TOk t) := ok
  have HF : Hid (t.fails + 1 ≤ 2 ^ 40) := hfl
  have HBS : Hid (base ≤ w.heap.size) := hbs
  have HI : Hid (t.turn.op = 7 → 0 ≤ t.m.into ∧ t.m.into ≤ 3) := hi
  unfold yFollowExt
  rcases hs with hs | hs
  · rw [if_pos hs]
    rw [hs] at h13
    have hb1 : TAt ((w.setCell ⟨p, z + 19 + 26, none⟩ (.int .i64 seen)).setCell ⟨p, z + 19 + 27, none⟩ (.int .i64 0)) p z A B { t with clock := seen, at_ := 0 } L := (R.tt.set (t' := { t with clock := seen }) 45 (by decide) (.int .i64 seen) rfl).set 46 (by decide) _ rfl
    have hO1 : Only p w ((w.setCell ⟨p, z + 19 + 26, none⟩ (.int .i64 seen)).setCell ⟨p, z + 19 + 27, none⟩ (.int .i64 0)) := ((Only.refl _ _).set).set
    have HR1 : Hid (TR base p z A B ((w.setCell ⟨p, z + 19 + 26, none⟩ (.int .i64 seen)).setCell ⟨p, z + 19 + 27, none⟩ (.int .i64 0)) { t with clock := seen, at_ := 0 } L) := R.next hb1 hO1 rfl rfl rfl rfl rfl rfl
    have HO1 : Hid (Only p w ((w.setCell ⟨p, z + 19 + 26, none⟩ (.int .i64 seen)).setCell ⟨p, z + 19 + 27, none⟩ (.int .i64 0))) := hO1
    clear R ok hfl hbs hi hs hat hb1 hO1 HR
    go_enter Tryz.func107, Tryz.ntmps107
    go_wp2_with fail
    refine (t_extNext base p z A B { t with clock := seen, at_ := 0 } L _ HR1.out HK.out (Nat.le_trans HBS.out (HO1.out).size) hm HI.out).mono ?_
    rintro e w1 h
    obtain ⟨rfl, L1, a1, a2⟩ := h
    go_wp2
    go_end0
    exact ⟨rfl, L1, a1, (Goes.only HO1.out).trans a2⟩
  · rw [if_neg (by omega), if_pos hs]
    have hlt := hat hs
    rw [hs] at h13
    have hrl := ok.rl
    obtain ⟨g, hg, hg1, hg2, _⟩ := ents_at R.rd t.at_ hlt
    rw [hg] at h30
    have hkl : (t.at_ : Int) < (t.reads.length : Int) := by omega
    have hk0 : (0 : Int) ≤ (t.at_ : Int) := by omega
    obtain ⟨v, hv⟩ : ∃ v, v = (t.reads.getD t.at_ ⟨0, 0⟩).val := ⟨_, rfl⟩
    rw [← hv] at hg2 ⊢
    have hwk : IntKind.i64.wrap ((t.at_ : Int) + 1) = ((t.at_ + 1 : Nat) : Int) := by rw [wrapP _ (by omega) (by omega)]; omega
    by_cases hmm : seen = v
    · rw [if_neg (fun q => q hmm)]
      have hmb : (seen != v) = false := by simp [hmm]
      have hmb2 : (seen == v) = true := by simp [hmm]
      have hb1 : ∀ n, TAt ((w.drewN n).setCell ⟨p, z + 19 + 27, none⟩ (.int .i64 ((t.at_ + 1 : Nat) : Int))) p z A B { t with at_ := t.at_ + 1 } L := fun n => (R.tt.drewN n).set 46 (by decide) _ rfl
      have hO1 : ∀ n, Only p w ((w.drewN n).setCell ⟨p, z + 19 + 27, none⟩ (.int .i64 ((t.at_ + 1 : Nat) : Int))) := fun n => ((Only.refl _ _).drewN n).set
      have HR1 : Hid (∀ n, TR base p z A B ((w.drewN n).setCell ⟨p, z + 19 + 27, none⟩ (.int .i64 ((t.at_ + 1 : Nat) : Int))) { t with at_ := t.at_ + 1 } L) := fun n => R.next (hb1 n) (hO1 n) rfl rfl rfl rfl rfl rfl
      have HO1 : Hid (∀ n, Only p w ((w.drewN n).setCell ⟨p, z + 19 + 27, none⟩ (.int .i64 ((t.at_ + 1 : Nat) : Int)))) := hO1
      clear R ok hfl hbs hi hs hat hb1 hO1 HR hg1 hlt hrl hg hv h37 hmm
      go_enter Tryz.func107, Tryz.ntmps107
      go_wp2_with fail
      go_quiet (fail)
      go_wp2_with fail
      refine (t_extNext base p z A B { t with at_ := t.at_ + 1 } L _ (HR1.out _) HK.out (Nat.le_trans HBS.out ((HO1.out) _).size) hm HI.out).mono ?_
      rintro e w1 h
      obtain ⟨rfl, L1, a1, a2⟩ := h
      go_wp2
      go_end0
      exact ⟨rfl, L1, a1, (Goes.only ((HO1.out) _)).trans a2⟩
    · rw [if_pos hmm]
      have hmb : (seen != v) = true := by simpa using hmm
      have hmb2 : (seen == v) = false := by simpa using hmm
      clear R ok hfl hbs hi hs hat hg1 hlt hrl hg hv h37 hmm
      go_enter Tryz.func107, Tryz.ntmps107
      go_wp2_with fail
      go_quiet (fail)
      go_wp2_with fail
      refine (t_fail base p z A B t L _ ((HR.out).drewN _) HK.out HF.out).mono ?_
      rintro e w1 ⟨rfl, a1, a2⟩
      go_wp2
      refine bodyPost_ret (results_none rfl _ _ _) rfl ?_
      have a3 : Only p w w1 := a2.quiet rfl rfl rfl rfl
      exact ⟨rfl, L, (HR.out).by a1 a3 (lists_fail t), Goes.only a3⟩

set_option maxRecDepth 100000 in
set_option maxHeartbeats 4000000 in
theorem t_gotOwner (R : TR base p z A B w t L) (ok : TOk t) (hbs : base ≤ w.heap.size) (hs : t.step = 8) (ha : 0 ≤ t.turn.addr) (hhl : t.held.length ≤ 99) :
    Calls Tryz.prog 106 #[.pointer (some ⟨p, z, none⟩), .int .i64 0] w (Dids base p z A B (yLoad 11 (hVer t.stripe) { t with held := t.held ++ [t.stripe] }) L w) := by
  have h13 := R.tt.cStep
  rw [hs] at h13
  have h32 := R.tt.cHeld
  have hf := R.tt.froz
  have HR : Hid (TR base p z A B w t L) := R
  have HK : Hid (TOk t) := ok
  have HSt : Hid (∀ w', TAt w' p z A B t L → Calls Tryz.prog 127 #[.pointer (some ⟨p, z, none⟩)] w' fun e w'' => e = .returned (.int .i64 t.stripe) ∧ ∃ n, w'' = w'.drewN n) := fun w' h => t_stripe p z A B t L w' h ok
  have hsr := tmodP ok.cb.2.2.1.1 ha
  have hs8 := ok.cb.2.2.1
  have HS8 : Hid (0 ≤ t.stripe ∧ t.stripe ≤ 100) := ⟨hsr.1, by unfold PT.stripe; omega⟩
  obtain ⟨i0, hi0, hz0, hz1, hz2⟩ := info_parts Tryz.info3
  have hpne : (Value.slice L.ha t.held.length L.hc).ownBlock ≠ some p := fun q => own_tag R.hd R.tt.2 (by decide) p q rfl
  have H3 : Hid (w.ownsRow base 3 1 (.slice L.ha t.held.length L.hc) t.held.length (intCells t.held)) := R.hd
  have hxlt : p < w.heap.size := R.tt.lt
  have hca : ∀ k, ((w.drewN k).alloc (.cells #[.int .i64 t.stripe] 3)).cell? ⟨p, z + 19 + 21, none⟩ = some (.slice L.ha t.held.length L.hc) := fun k => ((R.tt.drewN k).below ((Below.refl _ _).alloc (Nat.le_refl _) _)).cHeld
  have hfa : ∀ k i, ((w.drewN k).alloc (.cells #[.int .i64 t.stripe] 3)).frozen? ⟨p, i, none⟩ = false := fun k i => ((R.tt.drewN k).below ((Below.refl _ _).alloc (Nat.le_refl _) _)).froz i
  have HKh : Hid (TOk { t with held := t.held ++ [t.stripe] }) := ⟨ok.cfg, ok.num, ok.rank, ok.fails, ok.rd, ok.wr, (fun s hm => by rcases List.mem_append.1 hm with q | q; exact ok.hd s q; simp at q; subst q; exact hsr), ok.rl, ok.wl, (by show (t.held ++ [t.stripe]).length ≤ 100; simp; omega), ok.ml, ok.cur, ok.nl, ok.sl⟩
  clear R ok hs hsr hs8 ha
  go_enter Tryz.func106, Tryz.ntmps106
  go_wp2_with fail
  go_region_law
    (first
      | (go_simp; go_at_call 127; refine (HSt.out _ (by exact (HR.out).tt)).mono ?_; rintro e w' ⟨rfl, n, rfl⟩)
      | (refine step_append_lies _ (by rfl) _ _ _ (by rfl) base 3 i0 _ 1 8 Tryz.underlying24 hi0 hz0 hz1 hz2 rfl (by omega) (.slice L.ha t.held.length L.hc) t.held.length (intCells t.held) (by rfl) (World.ownsRow.alloc (by exact H3.out) _)
          ⟨w.heap.size, 0, none⟩ 1 1 [.int .i64 t.stripe] (by rfl) (by rfl) (World.news_of_block (cs := #[.int .i64 t.stripe]) (t := 3) (fr := (0, 0)) (by exact heap_alloc_new w _)) (by simp [Value.oneCell'])
          (by omega) (by unfold maxLen; omega) (by omega) (by simp; omega) (w.heap.size + 1) (by simp) ?_; intro gg cap w1 hown1 hgrow hat hlt;
         have hd21 : w1.cell? ⟨p, z + 19 + 21, none⟩ = some (.slice L.ha t.held.length L.hc) := (by rw [hgrow.cell_far _ (by simp; omega) (Ne.symm hpne)]; exact hca _);
         have he7 : w1.frozen? ⟨p, z + 19 + 21, none⟩ = false := (by rw [hgrow.frozen_far _ (by simp; omega) (Ne.symm hpne)]; exact hfa _ _)))
  all_goals
    have hTG := tr_addHeld (st := t.stripe) HR.out (by exact ((below_drewX w _).alloc (Nat.le_refl _) _)) hgrow hown1 hat (by omega)
    have HT1 : Hid (TR base p z A B (w1.setCell ⟨p, z + 19 + 21, none⟩ (.slice (some ⟨gg, 0, none⟩) (t.held.length + 1) cap)) { t with held := t.held ++ [t.stripe] } { L with ha := some ⟨gg, 0, none⟩, hc := cap }) := hTG.1
    have HG1 : Hid (Goes p L w { L with ha := some ⟨gg, 0, none⟩, hc := cap } (w1.setCell ⟨p, z + 19 + 21, none⟩ (.slice (some ⟨gg, 0, none⟩) (t.held.length + 1) cap))) := hTG.2
    clear hTG hgrow hown1 hat h13 h32 hf hd21 he7 hca hfa
    generalize w1.setCell ⟨p, z + 19 + 21, none⟩ (.slice (some ⟨gg, 0, none⟩) (t.held.length + 1) cap) = w2 at *
    have HK3 : Hid (TOk { t with held := t.held ++ [t.stripe] }) := HKh
    go_wp2_with fail
    refine (t_stripe p z A B { t with held := t.held ++ [t.stripe] } { L with ha := some ⟨gg, 0, none⟩, hc := cap } _ (HT1.out).tt HK3.out).mono ?_
    rintro e w3 ⟨rfl, n3, rfl⟩
    go_wp2_with fail
    refine (t_version t.stripe _ HS8.out).mono ?_
    rintro e w3 ⟨rfl, rfl⟩
    go_wp2_with fail
    refine (t_load p z A B { t with held := t.held ++ [t.stripe] } { L with ha := some ⟨gg, 0, none⟩, hc := cap } 11 (hVer t.stripe) _ ((HT1.out).tt.drewN _)).mono ?_
    rintro e w3 ⟨rfl, a1, a2⟩
    go_wp2
    go_end0
    have a3 := a2.quiet (w := w2) rfl rfl rfl rfl
    exact ⟨rfl, _, (HT1.out).next a1 a3 rfl rfl rfl rfl rfl rfl, (HG1.out).trans (Goes.only a3)⟩
end

end Go.Proofs.YtejadojilncbjaaGreat

namespace Go.Proofs.YtejadojilncbjaaGreat
open Go.RowKit
set_option linter.unusedVariables false
attribute [local go_sem ↓] Go.wp_at_zero Go.wp_at_succ

section
variable (base p z : Nat) (A B : List Value) (t : PT) (L : Ls) (w : World)

set_option maxRecDepth 100000 in
set_option maxHeartbeats 8000000 in
theorem t_getStatus (R : TR base p z A B w t L) (ok : TOk t) (hfl : t.fails + 1 ≤ 2 ^ 40) (seen : Int) (hs : t.step = 7) (ha : 0 ≤ t.turn.addr) :
    Calls Tryz.prog 106 #[.pointer (some ⟨p, z, none⟩), .int .i64 seen] w (Dids base p z A B (if seen.tmod 8 ≠ 0 then yFail t else ySwap 8 (cOwnOf t.c t.stripe) 0 (t.num + 1) t) L w) := by
  have h13 := R.tt.cStep
  rw [hs] at h13
  have HR : Hid (TR base p z A B w t L) := R
  have HB : Hid (TAt w p z A B t L) := R.tt
  have HK : Hid (TOk t) := ok
  have HF : Hid (t.fails + 1 ≤ 2 ^ 40) := hfl
  have HMk : Hid (∀ w, Calls Tryz.prog 129 #[.int .i64 seen] w fun e w' => e = .returned (.bool (seen.tmod 8 != 0)) ∧ w' = w) := fun w => t_marked seen w
  have HSt : Hid (∀ w', TAt w' p z A B t L → Calls Tryz.prog 127 #[.pointer (some ⟨p, z, none⟩)] w' fun e w'' => e = .returned (.int .i64 t.stripe) ∧ ∃ n, w'' = w'.drewN n) := fun w' h => t_stripe p z A B t L w' h ok
  have hsr := tmodP ok.cb.2.2.1.1 ha
  have hs8 := ok.cb.2.2.1
  have HS8 : Hid (0 ≤ t.stripe ∧ t.stripe ≤ 100) := ⟨hsr.1, by unfold PT.stripe; omega⟩
  have h0 := R.tt.cT
  have h1 := R.tt.cWd
  have h2 := R.tt.cS
  have h3 := R.tt.cG
  have h4 := R.tt.cR
  have h5 := R.tt.cCp
  have h6 := R.tt.cF
  by_cases hm : seen.tmod 8 = 0
  · rw [if_neg (fun q => q hm)]
    have hmb : (seen.tmod 8 != 0) = false := by simp [hm]
    rw [hmb] at HMk
    clear R ok hfl hs ha hsr hs8 hm hmb HF
    go_enter Tryz.func106, Tryz.ntmps106
    go_wp2_with fail
    refine (HMk.out _).mono ?_
    rintro e w1 ⟨rfl, rfl⟩
    go_wp2_with fail
    go_region_with (first
      | (go_at_call 127; refine (HSt.out _ (by exact HB.out)).mono ?_; rintro e w' ⟨rfl, n, rfl⟩)
      | (go_at_call 132; refine (t_owner p z A B t L _ (by exact HB.out) HK.out t.stripe (HS8.out).1 (HS8.out).2).mono ?_; rintro e w3 ⟨rfl, hB⟩; have hb3 : TAt w3 p z A B t L := TAt.below (by exact HB.out) hB; have HO3 : Only p w1 w3 := (Only.below hB).quiet rfl rfl rfl rfl)
      | (go_at_call 133; refine (t_name p z A B t L _ (by assumption) HK.out).mono ?_; rintro e w' ⟨rfl, rfl⟩)
      | (go_at_call 131; refine (t_swap p z A B t L 8 (cOwnOf t.c t.stripe) 0 (t.num + 1) _ (by assumption)).mono ?_; rintro e w4 ⟨rfl, a1, a2⟩))
    all_goals
      go_wp2
      go_end0
      exact ⟨rfl, L, (HR.out).next a1 (HO3.trans a2) rfl rfl rfl rfl rfl rfl, Goes.only (HO3.trans a2)⟩
  · rw [if_pos hm]
    have hmb : (seen.tmod 8 != 0) = true := by simpa using hm
    rw [hmb] at HMk
    clear R ok hfl hs ha hsr hs8 hm hmb
    go_enter Tryz.func106, Tryz.ntmps106
    go_wp2_with fail
    refine (HMk.out _).mono ?_
    rintro e w1 ⟨rfl, rfl⟩
    go_wp2_with fail
    refine (t_fail base p z A B t L _ HR.out HK.out HF.out).mono ?_
    rintro e w1 ⟨rfl, a1, a2⟩
    go_wp2
    refine bodyPost_ret (results_none rfl _ _ _) rfl ?_
    exact ⟨rfl, L, (HR.out).by a1 a2 (lists_fail t), Goes.only a2⟩

set_option maxHeartbeats 4000000 in
theorem t_followGet (R : TR base p z A B w t L) (ok : TOk t) (hfl : t.fails + 1 ≤ 2 ^ 40) (hbs : base ≤ w.heap.size) (seen : Int) (hs : t.step = 7 ∨ t.step = 8 ∨ t.step = 9 ∨ t.step = 10 ∨ t.step = 11) (ha : 0 ≤ t.turn.addr)
    (hhl : t.held.length ≤ 99) (hsn : t.step = 8 → 0 ≤ seen ∧ seen ≤ 100) (hsn9 : t.step = 9 → 0 ≤ seen ∧ seen ≤ 1125899906842624) (hriv : t.step = 9 → 0 ≤ t.rival ∧ t.rival ≤ 100) :
    Calls Tryz.prog 106 #[.pointer (some ⟨p, z, none⟩), .int .i64 seen] w (Dids base p z A B (yFollowGet seen t) L w) := by
  have h13 := R.tt.cStep
  have h29 := R.tt.cValid
  have HR : Hid (TR base p z A B w t L) := R
  have HK : Hid (TOk t) := ok
  have HF : Hid (t.fails + 1 ≤ 2 ^ 40) := hfl
  have HBS : Hid (base ≤ w.heap.size) := hbs
  unfold yFollowGet
  rcases hs with hs | hs | hs | hs | hs
  · rw [if_pos hs]
    exact t_getStatus base p z A B t L w R ok hfl seen hs ha
  · rw [if_neg (by omega), if_pos hs]
    by_cases hz : seen = 0
    · rw [if_neg (fun q => q hz)]
      subst hz
      exact t_gotOwner base p z A B t L w R ok hbs hs ha hhl
    · rw [if_pos hz]
      have hzb : (seen != 0) = true := by simpa using hz
      have hzb2 : (seen == 0) = false := by simpa using hz
      have HS : Hid (0 ≤ seen ∧ seen ≤ 100) := hsn hs
      rw [hs] at h13
      clear R ok hfl hbs hs ha hhl hsn hsn9 hriv hz
      go_enter Tryz.func106, Tryz.ntmps106
      go_wp2_with fail
      refine (t_meet base p z A B t L _ HR.out HK.out HF.out seen HS.out).mono ?_
      rintro e w1 ⟨rfl, a1, a2⟩
      go_wp2
      refine bodyPost_ret (results_none rfl _ _ _) rfl ?_
      exact ⟨rfl, L, (HR.out).by a1 a2 (lists_meet seen t), Goes.only a2⟩
  · rw [if_neg (by omega), if_neg (by omega), if_pos hs]
    have HS : Hid (0 ≤ seen ∧ seen ≤ 1125899906842624) := hsn9 hs
    have HV : Hid (0 ≤ t.rival ∧ t.rival ≤ 100) := hriv hs
    rw [hs] at h13
    clear R ok hfl hbs hs ha hhl hsn hsn9 hriv
    go_enter Tryz.func106, Tryz.ntmps106
    go_wp2_with fail
    refine (t_weigh base p z A B t L _ HR.out HK.out HF.out seen (HS.out).1 (HS.out).2 HV.out).mono ?_
    rintro e w1 ⟨rfl, a1, a2⟩
    go_wp2
    go_end0
    exact ⟨rfl, L, (HR.out).by a1 a2 (lists_weigh seen t), Goes.only a2⟩
  · rw [if_neg (by omega), if_neg (by omega), if_neg (by omega), if_pos hs]
    rw [hs] at h13
    clear R ok hfl hbs hs ha hhl hsn hsn9 hriv
    go_enter Tryz.func106, Tryz.ntmps106
    go_wp2_with fail
    refine (t_get p z A B t L _ (HR.out).tt HK.out).mono ?_
    rintro e w1 ⟨rfl, a1, a2⟩
    go_wp2
    go_end0
    exact ⟨rfl, L, (HR.out).next a1 a2 rfl rfl rfl rfl rfl rfl, Goes.only a2⟩
  · rw [if_neg (by omega), if_neg (by omega), if_neg (by omega), if_neg (by omega), if_pos hs]
    rw [hs] at h13
    clear R ok hfl hbs hs ha hhl hsn hsn9 hriv
    by_cases hv : t.valid < seen
    · rw [if_pos hv]
      go_enter Tryz.func106, Tryz.ntmps106
      go_wp2_with fail
      refine (t_extend p z A B t L _ (HR.out).tt).mono ?_
      rintro e w1 ⟨rfl, a1, a2⟩
      go_wp2
      refine bodyPost_ret (results_none rfl _ _ _) rfl ?_
      exact ⟨rfl, L, (HR.out).next a1 a2 rfl rfl rfl rfl rfl rfl, Goes.only a2⟩
    · rw [if_neg hv]
      go_enter Tryz.func106, Tryz.ntmps106
      go_wp2_with fail
      refine (t_writeGot base p z A B t L _ HR.out HK.out HBS.out).mono ?_
      rintro e w1 ⟨rfl, L1, a1, a2⟩
      go_wp2
      go_end0
      exact ⟨rfl, L1, a1, a2⟩

set_option maxHeartbeats 4000000 in
theorem t_trust (R : TR base p z A B w t L) (ok : TOk t) (hbs : base ≤ w.heap.size) (ha : 0 ≤ t.turn.addr) (hm : t.m.regs.length = 4) (hi : 0 ≤ t.m.into ∧ t.m.into ≤ 3) (v : Int) :
    Calls Tryz.prog 128 #[.pointer (some ⟨p, z, none⟩), .int .i64 v] w (Dids base p z A B (yTrust v t) L w) := by
  have h33 := R.tt.cVersion
  have HR : Hid (TR base p z A B w t L) := R
  have HB : Hid (TAt w p z A B t L) := R.tt
  have HK : Hid (TOk t) := ok
  have HBS : Hid (base ≤ w.heap.size) := hbs
  have HI : Hid (0 ≤ t.m.into ∧ t.m.into ≤ 3) := hi
  have HSt : Hid (∀ w', TAt w' p z A B t L → Calls Tryz.prog 127 #[.pointer (some ⟨p, z, none⟩)] w' fun e w'' => e = .returned (.int .i64 t.stripe) ∧ ∃ n, w'' = w'.drewN n) := fun w' h => t_stripe p z A B t L w' h ok
  have hsr := tmodP ok.cb.2.2.1.1 ha
  have hs8 := ok.cb.2.2.1
  have HS8 : Hid (0 ≤ t.stripe ∧ t.stripe ≤ 100) := ⟨hsr.1, by unfold PT.stripe; omega⟩
  unfold yTrust
  by_cases hv : v = t.version
  · rw [if_neg (fun q => q hv)]
    have hvb : (v != t.version) = false := by simp [hv]
    have hvb2 : (v == t.version) = true := by simp [hv]
    have HLk : Hid (∀ n, Calls Tryz.prog 164 #[.pointer (some ⟨p, z + 19, none⟩), .int .i64 t.stripe, .int .i64 v] (w.drewN n) (Dids base p z A B (yLook t.stripe v t) L (w.drewN n))) := fun n => t_look base p z A B t L (w.drewN n) (R.drewN n) ok hbs _ _
    obtain ⟨t1, ht1⟩ : ∃ t1, t1 = yLook t.stripe v t := ⟨_, rfl⟩
    have e1 : t1.valid = t.valid := by rw [ht1]; unfold yLook; split <;> rfl
    have e2 : t1.value = t.value := by rw [ht1]; unfold yLook; split <;> rfl
    have e3 : t1.m = t.m := by rw [ht1]; unfold yLook; split <;> rfl
    have HNl : Hid (t1.notes.length ≤ 2 ^ 38) := by have := ok.nl; show _ ≤ _; rw [ht1]; unfold yLook; split <;> (show t.notes.length ≤ _; omega)
    have HBs : Hid (base ≤ w.heap.size) := hbs
    rw [← ht1] at HLk ⊢
    rw [← e3] at hm HI
    rw [← e1, ← e2]
    clear R ok hbs ha hi hsr hs8 hv ht1 e1 e2 e3
    by_cases hvl : t1.valid < v
    · rw [if_pos hvl]
      go_enter Tryz.func128, Tryz.ntmps128
      go_wp2_with fail
      refine (HSt.out _ (by exact HB.out)).mono ?_
      rintro e w' ⟨rfl, n, rfl⟩
      go_wp2_with fail
      refine (HLk.out _).mono ?_
      rintro e w1 ⟨rfl, L1, R1, G1⟩
      have k29 := R1.tt.cValid
      have HR1 : Hid (TR base p z A B w1 t1 L1) := R1
      have HG1 : Hid (Goes p L w L1 w1) := (Goes.only ((Only.refl _ _).drewN n)).trans G1
      clear R1 G1
      go_wp2_with fail
      refine (t_extend p z A B t1 L1 _ (HR1.out).tt).mono ?_
      rintro e w2 ⟨rfl, a1, a2⟩
      go_wp2
      refine bodyPost_ret (results_none rfl _ _ _) rfl ?_
      exact ⟨rfl, L1, (HR1.out).next a1 a2 rfl rfl rfl rfl rfl rfl, (HG1.out).trans (Goes.only a2)⟩
    · rw [if_neg hvl]
      go_enter Tryz.func128, Tryz.ntmps128
      go_wp2_with fail
      refine (HSt.out _ (by exact HB.out)).mono ?_
      rintro e w' ⟨rfl, n, rfl⟩
      go_wp2_with fail
      refine (HLk.out _).mono ?_
      rintro e w1 ⟨rfl, L1, R1, G1⟩
      have k29 := R1.tt.cValid
      have k34 := R1.tt.cValue
      have HR1 : Hid (TR base p z A B w1 t1 L1) := R1
      have HG1 : Hid (Goes p L w L1 w1) := (Goes.only ((Only.refl _ _).drewN n)).trans G1
      have HBs1 : Hid (base ≤ w1.heap.size) := Nat.le_trans HBs.out G1.size
      clear R1 G1
      go_wp2_with fail
      refine (t_give base p z A B t1 L1 _ HR1.out HNl.out HBs1.out hm HI.out t1.value).mono ?_
      rintro e w2 ⟨rfl, L2, a1, a2⟩
      go_wp2
      go_end0
      exact ⟨rfl, L2, a1, (HG1.out).trans a2⟩
  · rw [if_pos hv]
    have hvb : (v != t.version) = true := by simpa using hv
    have hvb2 : (v == t.version) = false := by simpa using hv
    clear R ok hbs ha hi hsr hs8 hv
    go_enter Tryz.func128, Tryz.ntmps128
    go_wp2_with fail
    refine (HSt.out _ (by exact HB.out)).mono ?_
    rintro e w' ⟨rfl, n, rfl⟩
    go_wp2_with fail
    refine (t_version t.stripe _ HS8.out).mono ?_
    rintro e w3 ⟨rfl, rfl⟩
    go_wp2_with fail
    refine (t_load p z A B t L 4 (hVer t.stripe) _ (by exact HB.out)).mono ?_
    rintro e w3 ⟨rfl, a1, a2⟩
    go_wp2
    refine bodyPost_ret (results_none rfl _ _ _) rfl ?_
    have a3 := a2.quiet (w := w) rfl rfl rfl rfl
    exact ⟨rfl, L, (HR.out).next a1 a3 rfl rfl rfl rfl rfl rfl, Goes.only a3⟩
end

end Go.Proofs.YtejadojilncbjaaGreat
