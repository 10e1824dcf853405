import Derived.Test.YtejadojilncbjaaStep
import Derived.Test.YtejadojilncbjaaFail
import Derived.Test.YtejadojilncbjaaInv2
namespace Go.Proofs.Ytejadojilncbjaa
set_option linter.unusedVariables false

theorem WvOk.put {x : TS} (h : WvOk x) (a v : Int) (h1 : -70000 ≤ v) (h2 : v ≤ 1125899906842624) : WvOk { x with writes := putEnt x.writes a v } := by
  intro e he
  have he' : e ∈ putEnt x.writes a v := he
  unfold putEnt at he'
  split at he'
  · rcases List.mem_or_eq_of_mem_set he' with h3 | h3
    · exact h e h3
    · rw [h3]; exact ⟨h1, h2⟩
  · rcases List.mem_append.1 he' with h3 | h3
    · exact h e h3
    · simp at h3; subst h3; exact ⟨h1, h2⟩

theorem mTicket_ok (E : Env) (hE : EnvOk E) {m n : Nat} (s : LS) (x : TS) (hp : s.pos ≤ E.seen.length) (hN : NotesOk m s) (hX : TsOk n x) (hV : WvOk x) (hr0 : 0 ≤ s.rank) (hr1 : s.rank ≤ 1125899906842625) :
    StOk E m n s x (mTicket E s x).2.1 (mTicket E s x).2.2 ∧ (mTicket E s x).2.2 = x := by
  have h1 := mAsk_ok E s ⟨4, 1, 0, 0⟩ hp
  have hv := mAsk_val E hE s ⟨4, 1, 0, 0⟩
  have e1 := mAsk_ends E s ⟨4, 1, 0, 0⟩
  unfold mTicket
  dsimp only
  split
  · exact ⟨⟨h1.pos, h1.mono, hN.sn h1.sn, hX, by rw [h1.rank]; exact hr0, by rw [h1.rank]; exact hr1, h1.fails, h1.sn.len, rfl, e1, hV⟩, rfl⟩
  · generalize mAsk E s ⟨4, 1, 0, 0⟩ = q at *
    have h2 := mAsk_ok E { q.2 with rank := q.1 + 1 } ⟨3, cStatus E E.me, 0, 8 * (q.1 + 1)⟩ h1.pos
    have e2 := mAsk_ends E { q.2 with rank := q.1 + 1 } ⟨3, cStatus E E.me, 0, 8 * (q.1 + 1)⟩
    generalize mAsk E { q.2 with rank := q.1 + 1 } ⟨3, cStatus E E.me, 0, 8 * (q.1 + 1)⟩ = q2 at *
    have hsn : SN s q2.2 := h1.sn.trans ((SN.of_list rfl : SN q.2 { q.2 with rank := q.1 + 1 }).trans h2.sn)
    have key : StOk E m n s x q2.2 x := ⟨h2.pos, Nat.le_trans h1.mono h2.mono, hN.sn hsn, hX, by rw [h2.rank]; show 0 ≤ q.1 + 1; omega, by rw [h2.rank]; show q.1 + 1 ≤ _; omega, h2.fails.trans h1.fails, hsn.len, rfl, e2.trans e1, hV⟩
    split
    · exact ⟨key, rfl⟩
    · split
      · exact ⟨key, rfl⟩
      · exact ⟨key, rfl⟩

theorem mWrote_ok (E : Env) (hE : EnvOk E) {m n : Nat} (s : LS) (x : TS) (i : InsD) (a : Int) (had : Bool) (ha1 : -70000 ≤ a) (ha2 : a ≤ 1125899906842624) (hp : s.pos ≤ E.seen.length) (hN : NotesOk m s) (hX : TsOk n x) (hV : WvOk x) (hr0 : 0 ≤ s.rank) (hr1 : s.rank ≤ 1125899906842625) :
    StOk E (m + 1) (n + 1) s x (mWrote E s x i a had).2.1 (mWrote E s x i a had).2.2 ∧ (mWrote E s x i a had).2.2.place = x.place ∧ (mWrote E s x i a had).2.2.begun = x.begun := by
  have hr := hX.reg i.b
  have hN1 := hN.noted 8 a (regOf x i.b)
  have hX1 := hX.putEnt a (regOf x i.b) ha1 ha2
  have hV1 := hV.put a (regOf x i.b) hr.1 hr.2
  have hl : (mNoted s 8 a (regOf x i.b)).list.length = s.list.length := by simp [mNoted, modLast]
  rw [mWrote_eq]
  split
  · exact ⟨⟨hp, Nat.le_refl _, hN1, hX1, hr0, hr1, rfl, hl, rfl, rfl, hV1⟩, rfl, rfl⟩
  · obtain ⟨k, e⟩ := mTicket_ok E hE (mNoted s 8 a (regOf x i.b)) { x with writes := putEnt x.writes a (regOf x i.b) } hp hN1 hX1 hV1 hr0 hr1
    exact ⟨⟨k.pos, k.mono, k.notes, k.ts, k.r0, k.r1, k.fails, k.len.trans hl, by rw [e], k.ends, k.wv⟩, by rw [e], by rw [e]⟩

theorem mWrite_ok (E : Env) (hE : EnvOk E) {m n : Nat} (s : LS) (x : TS) (i : InsD) (hp : s.pos ≤ E.seen.length) (hN : NotesOk m s) (hX : TsOk n x) (hV : WvOk x) (hr0 : 0 ≤ s.rank) (hr1 : s.rank ≤ 1125899906842625) :
    StOk E (m + 1) (n + 2) s x (mWrite E s x i).2.1 (mWrite E s x i).2.2 ∧ (mWrite E s x i).2.2.place = x.place ∧ (mWrite E s x i).2.2.begun = x.begun := by
  obtain ⟨_, _, ⟨hs1, hs2⟩, _⟩ := cfgB_true hE.cfg
  have hst := tmodB' (regOf x i.a) E.c.s hs1 hs2
  have hr := hX.reg i.a
  unfold mWrite
  dsimp only
  split
  · exact ⟨⟨hp, Nat.le_refl _, hN.more (Nat.le_succ _), hX.more (by omega), hr0, hr1, rfl, rfl, rfl, rfl, hV⟩, rfl, rfl⟩
  · split
    · obtain ⟨k, p1, p2⟩ := mWrote_ok E hE s x i (regOf x i.a) true hr.1 hr.2 hp hN hX hV hr0 hr1
      exact ⟨⟨k.pos, k.mono, k.notes, k.ts.more (by omega), k.r0, k.r1, k.fails, k.len, k.code, k.ends, k.wv⟩, p1, p2⟩
    · obtain ⟨g1, g2⟩ := mGet_ok E hE x ((regOf x i.a).tmod E.c.s) hst.1 hst.2 hX (loopFuel E s) s hp
      have g3 := mGet_same E x ((regOf x i.a).tmod E.c.s) (loopFuel E s) s
      have g4 := mGet_ends E x ((regOf x i.a).tmod E.c.s) (loopFuel E s) s
      generalize mGet E x ((regOf x i.a).tmod E.c.s) (loopFuel E s) s = t at *
      split
      · exact ⟨⟨g1.pos, g1.mono, (hN.sn g1.sn).more (Nat.le_succ _), g2.more (by omega), by rw [g1.rank]; exact hr0, by rw [g1.rank]; exact hr1, g1.fails, g1.sn.len, g3.1, g4, hV.of g3.2.2.2.1⟩, g3.2.1, g3.2.2.1⟩
      · obtain ⟨k, p1, p2⟩ := mWrote_ok E hE t.2.1 t.2.2 i (regOf x i.a) false hr.1 hr.2 g1.pos (hN.sn g1.sn) g2 (hV.of g3.2.2.2.1) (by rw [g1.rank]; exact hr0) (by rw [g1.rank]; exact hr1)
        exact ⟨⟨k.pos, Nat.le_trans g1.mono k.mono, k.notes, k.ts, k.r0, k.r1, k.fails.trans g1.fails, k.len.trans g1.sn.len, k.code.trans g3.1, k.ends.trans g4, k.wv⟩, p1.trans g3.2.1, p2.trans g3.2.2.1⟩

theorem tmodB16 (a : Int) : -70000 ≤ a.tmod 65536 ∧ a.tmod 65536 ≤ 1125899906842624 := by
  have h3 := Int.tmod_lt_of_pos a (show (0 : Int) < 65536 by omega)
  have h4 := Int.lt_tmod_of_pos a (show (0 : Int) < 65536 by omega)
  omega

theorem TsOk.at {n : Nat} {x : TS} (h : TsOk n x) (b q : Nat) : TsOk n { x with begun := b, place := q } := ⟨h.rd, h.wr, h.hd, h.rg, h.rl, h.wl, h.hl, h.way0, h.way1, h.four⟩

/-- What one step keeps; an Open step counts. -/
theorem mStep_ok (E : Env) (hE : EnvOk E) {m n : Nat} (s : LS) (x : TS) (hp : s.pos ≤ E.seen.length) (hN : NotesOk m s) (hX : TsOk n x) (hV : WvOk x) (hr0 : 0 ≤ s.rank) (hr1 : s.rank ≤ 1125899906842625) (hpl : x.place ≤ x.code.length) (hbg : (x.begun : Int) ≤ E.c.f) :
    StOk E (m + 1) (n + 2) s x (mStep E s x).2.1 (mStep E s x).2.2 ∧ (mStep E s x).2.2.place ≤ x.code.length ∧ ((mStep E s x).1 = 0 → (mStep E s x).2.2.begun = x.begun + 1 ∧ (x.begun : Int) + 1 ≤ E.c.f) := by
  have base : ∀ y : TS, TsOk n y → WvOk y → y.code = x.code → StOk E (m + 1) (n + 2) s x s y := fun y hy hv hc => ⟨hp, Nat.le_refl _, hN.more (Nat.le_succ _), hy.more (by omega), hr0, hr1, rfl, rfl, hc, rfl, hv⟩
  rw [mStep_eq]
  split
  · exact ⟨base x hX hV rfl, hpl, by simp⟩
  · split
    · exact ⟨base x hX hV rfl, hpl, by simp⟩
    · rename_i hne hfu
      have hb1 : (x.begun : Int) + 1 ≤ E.c.f := by omega
      have hpl1 : x.place + 1 ≤ x.code.length := by omega
      split
      · exact ⟨base _ (hX.at (x.begun + 1) x.place) hV rfl, hpl, by simp⟩
      · rename_i hfm
        have hX2 := hX.at (x.begun + 1) (x.place + 1)
        have hV2 : WvOk { x with begun := x.begun + 1, place := x.place + 1 } := hV
        have hfm' : formedB (insAt x.code x.place) x.code.length = true := by simpa using hfm
        generalize insAt x.code x.place = i at *
        unfold mDo
        split
        · exact ⟨base _ hX2 hV2 rfl, hpl1, by simp⟩
        · split
          · exact ⟨base _ hX2 hV2 rfl, hpl1, by simp⟩
          · rename_i h0 h1
            split
            · rename_i h2
              have hb : inB i.b 0 65535 = true := by
                unfold formedB at hfm'
                rw [if_neg (by omega), if_pos h2] at hfm'
                simp at hfm'
                exact hfm'.2
              have := inB_true hb
              exact ⟨base _ (hX2.setReg i.a i.b (by omega) (by omega)) hV2 rfl, hpl1, fun _ => ⟨rfl, hb1⟩⟩
            · split
              · have := tmodB16 (regOf { x with begun := x.begun + 1, place := x.place + 1 } i.b + regOf { x with begun := x.begun + 1, place := x.place + 1 } i.c)
                exact ⟨base _ (hX2.setReg i.a _ this.1 this.2) hV2 rfl, hpl1, fun _ => ⟨rfl, hb1⟩⟩
              · split
                · have := tmodB16 (regOf { x with begun := x.begun + 1, place := x.place + 1 } i.b + 65535 + 1 - regOf { x with begun := x.begun + 1, place := x.place + 1 } i.c)
                  exact ⟨base _ (hX2.setReg i.a _ this.1 this.2) hV2 rfl, hpl1, fun _ => ⟨rfl, hb1⟩⟩
                · rename_i h2 h3 h4
                  split
                  · rename_i h5
                    have hc : inB i.c 0 x.code.length = true := by
                      unfold formedB at hfm'
                      rw [if_neg (by omega), if_neg h2, if_neg (by omega), if_pos h5] at hfm'
                      exact hfm'
                    have := inB_true hc
                    exact ⟨base _ (hX.at (x.begun + 1) i.c.toNat) hV2 rfl, by show i.c.toNat ≤ _; omega, fun _ => ⟨rfl, hb1⟩⟩
                  · rename_i h5
                    split
                    · rename_i h6
                      have hc : inB i.c 0 x.code.length = true := by
                        unfold formedB at hfm'
                        rw [if_neg (by omega), if_neg h2, if_neg (by omega), if_neg h5, if_pos h6] at hfm'
                        simp at hfm'
                        exact hfm'.2
                      have := inB_true hc
                      dsimp only
                      split
                      · exact ⟨base _ (hX.at (x.begun + 1) i.c.toNat) hV2 rfl, by show i.c.toNat ≤ _; omega, fun _ => ⟨rfl, hb1⟩⟩
                      · exact ⟨base _ hX2 hV2 rfl, hpl1, fun _ => ⟨rfl, hb1⟩⟩
                    · split
                      · obtain ⟨k, p1, p2⟩ := mRead_ok E hE s _ i hp hN hX2 hV2 hr0 hr1
                        exact ⟨⟨k.pos, k.mono, k.notes, k.ts.more (by omega), k.r0, k.r1, k.fails, k.len, k.code, k.ends, k.wv⟩, by rw [p1]; exact hpl1, fun _ => ⟨p2, hb1⟩⟩
                      · obtain ⟨k, p1, p2⟩ := mWrite_ok E hE s _ i hp hN hX2 hV2 hr0 hr1
                        exact ⟨⟨k.pos, k.mono, k.notes, k.ts, k.r0, k.r1, k.fails, k.len, k.code, k.ends, k.wv⟩, by rw [p1]; exact hpl1, fun _ => ⟨p2, hb1⟩⟩

end Go.Proofs.Ytejadojilncbjaa
