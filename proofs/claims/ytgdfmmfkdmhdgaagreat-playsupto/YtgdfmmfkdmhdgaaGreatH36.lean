import Derived.Test.YtgdfmmfkdmhdgaaGreatH35
import Derived.Deep.MidRow
namespace Go.Proofs.YtgdfmmfkdmhdgaaGreat
open Go.RowKit
set_option linter.unusedVariables false
attribute [local go_sem ↓] Go.wp_at_zero Go.wp_at_succ

/-- What is asked ahead of what follows an access. -/
structure FOk (t : PT) (seen put draw : Int) : Prop where
  step : 2 ≤ t.step ∧ t.step ≤ 32
  fl : t.fails + 1 ≤ 2 ^ 40
  regs : t.m.regs.length = 4
  sn : -1 ≤ seen ∧ seen ≤ 1125899906842624
  ad : 3 ≤ t.step ∧ t.step ≤ 11 → 0 ≤ t.turn.addr ∧ t.turn.addr ≤ 100
  into : (3 ≤ t.step ∧ t.step ≤ 6) ∨ ((t.step = 12 ∨ t.step = 13) ∧ t.turn.op = 7) → 0 ≤ t.m.into ∧ t.m.into ≤ 3
  hl : 7 ≤ t.step ∧ t.step ≤ 11 → t.held.length ≤ 99
  s8 : t.step = 8 → 0 ≤ seen ∧ seen ≤ 100
  s0 : t.step = 9 ∨ t.step = 31 ∨ t.step = 32 → 0 ≤ seen
  riv : t.step = 9 → 0 ≤ t.rival ∧ t.rival ≤ 100
  rat : t.step = 13 ∨ t.step = 19 → t.at_ < t.reads.length
  hat : t.step = 24 → t.at_ < t.held.length
  at' : 20 ≤ t.step ∧ t.step ≤ 30 ∧ t.step ≠ 27 → t.at_ ≤ 1000
  clk : 16 ≤ t.step ∧ t.step ≤ 25 → -1 ≤ t.clock ∧ t.clock ≤ 2 ^ 50
  put : t.step = 14 ∨ (28 ≤ t.step ∧ t.step ≤ 30) → 0 ≤ put ∧ put ≤ 2 ^ 40
  way : t.step = 31 → 0 ≤ t.wayTo ∧ t.wayTo ≤ 100

theorem lists_store (t : PT) : Lists t (yFollowStore t) := by
  unfold yFollowStore yShut yPut yRelease
  repeat' split
  all_goals exact ⟨rfl, rfl, rfl, rfl⟩
theorem lists_check : ∀ (n : Nat) (t : PT), Lists t (yCheckN n t)
  | 0, t => by unfold yCheckN yShut; split <;> exact ⟨rfl, rfl, rfl, rfl⟩
  | n + 1, t => by
    unfold yCheckN
    split
    · split
      · exact lists_check n { t with at_ := t.at_ + 1 }
      · exact ⟨rfl, rfl, rfl, rfl⟩
    · unfold yShut; split <;> exact ⟨rfl, rfl, rfl, rfl⟩
theorem lists_commit (s : Int) (t : PT) : Lists t (yFollowCommit s t) := by
  unfold yFollowCommit
  split
  · split
    · exact lists_fail t
    · exact ⟨rfl, rfl, rfl, rfl⟩
  split
  · split <;> exact ⟨rfl, rfl, rfl, rfl⟩
  split
  · exact lists_check _ { t with clock := s, at_ := 0 }
  split
  · split
    · exact ⟨rfl, rfl, rfl, rfl⟩
    · exact lists_check _ { t with at_ := t.at_ + 1 }
  · exact ⟨rfl, rfl, rfl, rfl⟩
theorem lists_ticket (s q : Int) (t : PT) : Lists t (yFollowTicket s q t) := by
  unfold yFollowTicket
  split
  · exact ⟨rfl, rfl, rfl, rfl⟩
  split
  · split
    · exact lists_fail t
    · exact ⟨rfl, rfl, rfl, rfl⟩
  · exact ⟨rfl, rfl, rfl, rfl⟩
theorem lists_undo (t : PT) : Lists t (yUndo t) := by
  unfold yUndo yGiveBack yCount yShow
  split
  · exact ⟨rfl, rfl, rfl, rfl⟩
  · split <;> exact ⟨rfl, rfl, rfl, rfl⟩
theorem lists_ffail (q : Int) (t : PT) : Lists t (yFollowFail q t) := by
  unfold yFollowFail
  split
  · exact lists_fail t
  split
  · exact lists_undo { t with at_ := t.at_ + 1 }
  split <;> exact ⟨rfl, rfl, rfl, rfl⟩
theorem lists_begin (t : PT) : Lists t (yBegin t) := by
  unfold yBegin
  split <;> exact ⟨rfl, rfl, rfl, rfl⟩
theorem lists_lose (s d : Int) (t : PT) : Lists t (yLose s d t) := by
  unfold yLose
  split
  · exact ⟨rfl, rfl, rfl, rfl⟩
  · exact lists_begin { t with rest := yRestBy t d }
theorem lists_await (s : Int) (t : PT) : Lists t (yAwait s t) := by
  unfold yAwait
  split
  · exact lists_begin t
  · exact ⟨rfl, rfl, rfl, rfl⟩

theorem Seg.setCells {p z : Nat} {T : TypeId} {A B : List Value} : ∀ (V : List Value) (w : World) (L1 L2 L3 : List Value) (k : Nat), L1.length = k → V.length = L2.length → Seg w p z T A B (L1 ++ (L2 ++ L3)) → Seg (w.setCells p (z + k) V) p z T A B (L1 ++ (V ++ L3))
  | [], w, L1, L2, L3, k, hk, hl, h => by
    have : L2 = [] := List.eq_nil_of_length_eq_zero hl.symm
    subst this
    exact h
  | v :: r, w, L1, L2, L3, k, hk, hl, h => by
    cases L2 with
    | nil => simp at hl
    | cons a L2 =>
      have h1 := Seg.set h k (by simp; omega) v
      have e : (L1 ++ (a :: L2 ++ L3)).set k v = (L1 ++ [v]) ++ (L2 ++ L3) := by
        subst hk
        rw [List.set_append_right _ _ (Nat.le_refl _)]
        simp
      have h2 := Seg.setCells r (w.setCell ⟨p, z + k, none⟩ v) (L1 ++ [v]) L2 L3 (k + 1) (by simp [hk]) (by simpa using hl) (h1.congr e)
      have e2 : w.setCells p (z + k) (v :: r) = (w.setCell ⟨p, z + k, none⟩ v).setCells p (z + (k + 1)) r := rfl
      rw [e2]
      exact h2.congr (by simp)
theorem Only.setCells {p : Nat} : ∀ (V : List Value) (o : Nat) (w : World), Only p w (w.setCells p o V)
  | [], _, w => Only.refl _ _
  | v :: r, o, w => ((Only.refl p w).set).trans (Only.setCells r (o + 1) (w.setCell ⟨p, o, none⟩ v))

theorem Tryz.size87 : (Tryz.prog.info? 87).map (·.size) = some 21 := by kernel_rfl

section
variable (base p z : Nat) (A B : List Value) (t : PT) (L : Ls) (w : World)

theorem TAt.there {w : World} {p z : Nat} {A B : List Value} {t : PT} {L : Ls} (h : TAt w p z A B t L) (k n : Nat) (hk : k + n ≤ 39) : w.there p (z + k) n := fun j hj => by
  have hc := h.cell (k + j) (by omega)
  rw [show z + k + j = z + (k + j) from by omega, hc]
  refine ⟨?_, h.froz _⟩
  rw [List.getElem?_eq_getElem (show k + j < (tArr t L).length by show k + j < 39; omega)]
  rfl

set_option maxRecDepth 100000 in
set_option maxHeartbeats 4000000 in
theorem t_followBegin (R : TR base p z A B w t L) (hs : t.step = 2) (kind cell seen put draw : Int) :
    Calls Tryz.prog 45 #[.pointer (some ⟨p, z, none⟩), .agg #[.int .i64 kind, .int .i64 cell, .int .i64 seen, .int .i64 put], .int .i64 draw] w (Dids base p z A B (yNew t seen) L w) := by
  have h13 := R.tt.cStep
  rw [hs] at h13
  have hlt := R.tt.lt
  have hne : p ≠ w.heap.size := by omega
  have hB0 : Below w.heap.size w (w.alloc (.cells #[.int .i64 kind, .int .i64 cell, .int .i64 seen, .int .i64 put] 46)) := (Below.refl _ _).alloc (Nat.le_refl _) _
  have R0 := R.below hB0
  have HT : Hid ((w.alloc (.cells #[.int .i64 kind, .int .i64 cell, .int .i64 seen, .int .i64 put] 46)).there p (z + 18) 21) := R0.tt.there 18 21 (by omega)
  have hseg : TAt ((w.alloc (.cells #[.int .i64 kind, .int .i64 cell, .int .i64 seen, .int .i64 put] 46)).setCells p (z + 18) (Array.toList #[.int .i64 0, .int .i64 0, .int .i64 0, .int .i64 0, .int .i64 0, .int .i64 0, .int .i64 0, .int .i64 0, .int .i64 0, .int .i64 0, .int .i64 0, .int .i64 seen, .slice none 0 0, .slice none 0 0, .slice none 0 0, .int .i64 0, .int .i64 0, .int .i64 0, .int .i64 0, .int .i64 0, .int .i64 0])) p z A B { yNew t seen with step := t.step } { L with ra := none, rc := 0, wa := none, wc := 0, ha := none, hc := 0 } :=
    Seg.congr (Seg.setCells (Array.toList #[.int .i64 0, .int .i64 0, .int .i64 0, .int .i64 0, .int .i64 0, .int .i64 0, .int .i64 0, .int .i64 0, .int .i64 0, .int .i64 0, .int .i64 0, .int .i64 seen, .slice none 0 0, .slice none 0 0, .slice none 0 0, .int .i64 0, .int .i64 0, .int .i64 0, .int .i64 0, .int .i64 0, .int .i64 0]) _ (tHead t L) ((tArr t L).drop 18) [] 18 rfl rfl (Seg.congr R0.tt rfl)) rfl
  have honly : Only p w ((w.alloc (.cells #[.int .i64 kind, .int .i64 cell, .int .i64 seen, .int .i64 put] 46)).setCells p (z + 18) (Array.toList #[.int .i64 0, .int .i64 0, .int .i64 0, .int .i64 0, .int .i64 0, .int .i64 0, .int .i64 0, .int .i64 0, .int .i64 0, .int .i64 0, .int .i64 0, .int .i64 seen, .slice none 0 0, .slice none 0 0, .slice none 0 0, .int .i64 0, .int .i64 0, .int .i64 0, .int .i64 0, .int .i64 0, .int .i64 0])) := (Only.below hB0).trans (Only.setCells _ _ _)
  obtain ⟨V, hV⟩ : ∃ V : Array Value, V = #[.int .i64 0, .int .i64 0, .int .i64 0, .int .i64 0, .int .i64 0, .int .i64 0, .int .i64 0, .int .i64 0, .int .i64 0, .int .i64 0, .int .i64 0, .int .i64 seen, .slice none 0 0, .slice none 0 0, .slice none 0 0, .int .i64 0, .int .i64 0, .int .i64 0, .int .i64 0, .int .i64 0, .int .i64 0] := ⟨_, rfl⟩
  have HV : Hid (V = #[.int .i64 0, .int .i64 0, .int .i64 0, .int .i64 0, .int .i64 0, .int .i64 0, .int .i64 0, .int .i64 0, .int .i64 0, .int .i64 0, .int .i64 0, .int .i64 seen, .slice none 0 0, .slice none 0 0, .slice none 0 0, .int .i64 0, .int .i64 0, .int .i64 0, .int .i64 0, .int .i64 0, .int .i64 0]) := hV
  have hV1 : V.all (·.oneCell') = true := by rw [hV]; simp [Value.oneCell']
  have hVs : V.size = 21 := by rw [hV]; rfl
  have HV1 : Hid (V.all (·.oneCell') = true) := hV1
  have HVs : Hid (V.size = 21) := hVs
  clear hV1 hVs
  rw [← hV] at hseg honly
  have HSg : Hid (TAt ((w.alloc (.cells #[.int .i64 kind, .int .i64 cell, .int .i64 seen, .int .i64 put] 46)).setCells p (z + 18) V.toList) p z A B { yNew t seen with step := t.step } { L with ra := none, rc := 0, wa := none, wc := 0, ha := none, hc := 0 }) := hseg
  have HOn : Hid (Only p w ((w.alloc (.cells #[.int .i64 kind, .int .i64 cell, .int .i64 seen, .int .i64 put] 46)).setCells p (z + 18) V.toList)) := honly
  have HR : Hid (TR base p z A B w t L) := R
  clear R hs hB0 R0 hseg honly hV
  go_enter Tryz.func45, Tryz.ntmps45
  go_wp2_with
    (refine wpList_store_mid (by rfl) 87 _ _ (by rfl) p (z + 18) V (by rfl) (by rw [HV.out]; rfl) (by rw [HVs.out]; exact HT.out) (by rw [HVs.out]; exact Tryz.size87) HV1.out ?_;
     have k13 := (HSg.out).cStep; have kf := (HSg.out).froz; clear h13 hlt hne HT;
     generalize (w.alloc (.cells #[.int .i64 kind, .int .i64 cell, .int .i64 seen, .int .i64 put] 46)).setCells p (z + 18) V.toList = w9 at *)
  go_end0
  have hb9 := (HSg.out).set (t' := yNew t seen) 13 (by decide) (.int .i64 1) rfl
  have ho9 : Only p w (w9.setCell ⟨p, z + 13, none⟩ (.int .i64 1)) := (HOn.out).set
  have hm : World.ownsRow (w9.setCell ⟨p, z + 13, none⟩ (.int .i64 1)) base 3 1 (.slice L.ma t.mine.length L.mc) t.mine.length (intCells t.mine) := ownsRow_only (HR.out).mi ho9 (own_tag (HR.out).mi (HR.out).tt.2 (by decide))
  refine ⟨rfl, { L with ra := none, rc := 0, wa := none, wc := 0, ha := none, hc := 0 }, ⟨hb9, World.ownsRow_nil _ _ _ _, World.ownsRow_nil _ _ _ _, World.ownsRow_nil _ _ _ _, hm, fun k hk => by simp [Value.ownBlock] at hk⟩, ?_⟩
  have hg := Goes.only (L := L) ho9
  refine ⟨hg.os, hg.tape, hg.output, hg.size, hg.block, fun k hk => Or.inl ?_⟩
  unfold Own at hk ⊢
  simp [oB] at hk
  exact Or.inr (Or.inr (Or.inr (by simpa [oB] using hk)))

set_option maxRecDepth 100000 in
set_option maxHeartbeats 2000000 in
theorem t_follow3 (R : TR base p z A B w t L) (ok : TOk t) (hbs : base ≤ w.heap.size) (kind cell seen put draw : Int) (F : FOk t seen put draw) (hs : t.step = 3) :
    Calls Tryz.prog 45 #[.pointer (some ⟨p, z, none⟩), .agg #[.int .i64 kind, .int .i64 cell, .int .i64 seen, .int .i64 put], .int .i64 draw] w (Dids base p z A B (yFollowRead seen t) L w) := by
  have h13 := R.tt.cStep
  rw [hs] at h13
  have hlt := R.tt.lt
  have hne : p ≠ w.heap.size := by omega
  have hB0 : Below w.heap.size w (w.alloc (.cells #[.int .i64 kind, .int .i64 cell, .int .i64 seen, .int .i64 put] 46)) := (Below.refl _ _).alloc (Nat.le_refl _) _
  have HRa : Hid (TR base p z A B (w.alloc (.cells #[.int .i64 kind, .int .i64 cell, .int .i64 seen, .int .i64 put] 46)) t L) := R.below hB0
  have HOa : Hid (Only p w (w.alloc (.cells #[.int .i64 kind, .int .i64 cell, .int .i64 seen, .int .i64 put] 46))) := Only.below hB0
  have HK : Hid (TOk t) := ok
  have HF : Hid (t.fails + 1 ≤ 2 ^ 40) := F.fl
  have hrg := F.regs
  have HBS : Hid (base ≤ (w.alloc (.cells #[.int .i64 kind, .int .i64 cell, .int .i64 seen, .int .i64 put] 46)).heap.size) := Nat.le_trans hbs hB0.size
  have HAd : Hid (0 ≤ t.turn.addr ∧ t.turn.addr ≤ 100) := F.ad (by omega)
  have HIn : Hid (0 ≤ t.m.into ∧ t.m.into ≤ 3) := F.into (by omega)
  clear R ok hbs F hB0
  go_enter Tryz.func45, Tryz.ntmps45
  go_wp2_with fail
  refine (t_followRead base p z A B t L _ HRa.out HK.out HBS.out HAd.out hrg HIn.out seen (by omega)).mono ?_
  rintro e w2 ⟨rfl, L1, a1, a2⟩
  go_wp2
  go_end0
  exact ⟨rfl, L1, a1, (Goes.only HOa.out).trans a2⟩

set_option maxRecDepth 100000 in
set_option maxHeartbeats 2000000 in
theorem t_follow4 (R : TR base p z A B w t L) (ok : TOk t) (hbs : base ≤ w.heap.size) (kind cell seen put draw : Int) (F : FOk t seen put draw) (hs : t.step = 4) :
    Calls Tryz.prog 45 #[.pointer (some ⟨p, z, none⟩), .agg #[.int .i64 kind, .int .i64 cell, .int .i64 seen, .int .i64 put], .int .i64 draw] w (Dids base p z A B (yFollowRead seen t) L w) := by
  have h13 := R.tt.cStep
  rw [hs] at h13
  have hlt := R.tt.lt
  have hne : p ≠ w.heap.size := by omega
  have hB0 : Below w.heap.size w (w.alloc (.cells #[.int .i64 kind, .int .i64 cell, .int .i64 seen, .int .i64 put] 46)) := (Below.refl _ _).alloc (Nat.le_refl _) _
  have HRa : Hid (TR base p z A B (w.alloc (.cells #[.int .i64 kind, .int .i64 cell, .int .i64 seen, .int .i64 put] 46)) t L) := R.below hB0
  have HOa : Hid (Only p w (w.alloc (.cells #[.int .i64 kind, .int .i64 cell, .int .i64 seen, .int .i64 put] 46))) := Only.below hB0
  have HK : Hid (TOk t) := ok
  have HF : Hid (t.fails + 1 ≤ 2 ^ 40) := F.fl
  have hrg := F.regs
  have HBS : Hid (base ≤ (w.alloc (.cells #[.int .i64 kind, .int .i64 cell, .int .i64 seen, .int .i64 put] 46)).heap.size) := Nat.le_trans hbs hB0.size
  have HAd : Hid (0 ≤ t.turn.addr ∧ t.turn.addr ≤ 100) := F.ad (by omega)
  have HIn : Hid (0 ≤ t.m.into ∧ t.m.into ≤ 3) := F.into (by omega)
  clear R ok hbs F hB0
  go_enter Tryz.func45, Tryz.ntmps45
  go_wp2_with fail
  refine (t_followRead base p z A B t L _ HRa.out HK.out HBS.out HAd.out hrg HIn.out seen (by omega)).mono ?_
  rintro e w2 ⟨rfl, L1, a1, a2⟩
  go_wp2
  go_end0
  exact ⟨rfl, L1, a1, (Goes.only HOa.out).trans a2⟩

set_option maxRecDepth 100000 in
set_option maxHeartbeats 2000000 in
theorem t_follow5 (R : TR base p z A B w t L) (ok : TOk t) (hbs : base ≤ w.heap.size) (kind cell seen put draw : Int) (F : FOk t seen put draw) (hs : t.step = 5) :
    Calls Tryz.prog 45 #[.pointer (some ⟨p, z, none⟩), .agg #[.int .i64 kind, .int .i64 cell, .int .i64 seen, .int .i64 put], .int .i64 draw] w (Dids base p z A B (yFollowRead seen t) L w) := by
  have h13 := R.tt.cStep
  rw [hs] at h13
  have hlt := R.tt.lt
  have hne : p ≠ w.heap.size := by omega
  have hB0 : Below w.heap.size w (w.alloc (.cells #[.int .i64 kind, .int .i64 cell, .int .i64 seen, .int .i64 put] 46)) := (Below.refl _ _).alloc (Nat.le_refl _) _
  have HRa : Hid (TR base p z A B (w.alloc (.cells #[.int .i64 kind, .int .i64 cell, .int .i64 seen, .int .i64 put] 46)) t L) := R.below hB0
  have HOa : Hid (Only p w (w.alloc (.cells #[.int .i64 kind, .int .i64 cell, .int .i64 seen, .int .i64 put] 46))) := Only.below hB0
  have HK : Hid (TOk t) := ok
  have HF : Hid (t.fails + 1 ≤ 2 ^ 40) := F.fl
  have hrg := F.regs
  have HBS : Hid (base ≤ (w.alloc (.cells #[.int .i64 kind, .int .i64 cell, .int .i64 seen, .int .i64 put] 46)).heap.size) := Nat.le_trans hbs hB0.size
  have HAd : Hid (0 ≤ t.turn.addr ∧ t.turn.addr ≤ 100) := F.ad (by omega)
  have HIn : Hid (0 ≤ t.m.into ∧ t.m.into ≤ 3) := F.into (by omega)
  clear R ok hbs F hB0
  go_enter Tryz.func45, Tryz.ntmps45
  go_wp2_with fail
  refine (t_followRead base p z A B t L _ HRa.out HK.out HBS.out HAd.out hrg HIn.out seen (by omega)).mono ?_
  rintro e w2 ⟨rfl, L1, a1, a2⟩
  go_wp2
  go_end0
  exact ⟨rfl, L1, a1, (Goes.only HOa.out).trans a2⟩

set_option maxRecDepth 100000 in
set_option maxHeartbeats 2000000 in
theorem t_follow6 (R : TR base p z A B w t L) (ok : TOk t) (hbs : base ≤ w.heap.size) (kind cell seen put draw : Int) (F : FOk t seen put draw) (hs : t.step = 6) :
    Calls Tryz.prog 45 #[.pointer (some ⟨p, z, none⟩), .agg #[.int .i64 kind, .int .i64 cell, .int .i64 seen, .int .i64 put], .int .i64 draw] w (Dids base p z A B (yFollowRead seen t) L w) := by
  have h13 := R.tt.cStep
  rw [hs] at h13
  have hlt := R.tt.lt
  have hne : p ≠ w.heap.size := by omega
  have hB0 : Below w.heap.size w (w.alloc (.cells #[.int .i64 kind, .int .i64 cell, .int .i64 seen, .int .i64 put] 46)) := (Below.refl _ _).alloc (Nat.le_refl _) _
  have HRa : Hid (TR base p z A B (w.alloc (.cells #[.int .i64 kind, .int .i64 cell, .int .i64 seen, .int .i64 put] 46)) t L) := R.below hB0
  have HOa : Hid (Only p w (w.alloc (.cells #[.int .i64 kind, .int .i64 cell, .int .i64 seen, .int .i64 put] 46))) := Only.below hB0
  have HK : Hid (TOk t) := ok
  have HF : Hid (t.fails + 1 ≤ 2 ^ 40) := F.fl
  have hrg := F.regs
  have HBS : Hid (base ≤ (w.alloc (.cells #[.int .i64 kind, .int .i64 cell, .int .i64 seen, .int .i64 put] 46)).heap.size) := Nat.le_trans hbs hB0.size
  have HAd : Hid (0 ≤ t.turn.addr ∧ t.turn.addr ≤ 100) := F.ad (by omega)
  have HIn : Hid (0 ≤ t.m.into ∧ t.m.into ≤ 3) := F.into (by omega)
  clear R ok hbs F hB0
  go_enter Tryz.func45, Tryz.ntmps45
  go_wp2_with fail
  refine (t_followRead base p z A B t L _ HRa.out HK.out HBS.out HAd.out hrg HIn.out seen (by omega)).mono ?_
  rintro e w2 ⟨rfl, L1, a1, a2⟩
  go_wp2
  go_end0
  exact ⟨rfl, L1, a1, (Goes.only HOa.out).trans a2⟩

set_option maxRecDepth 100000 in
set_option maxHeartbeats 2000000 in
theorem t_follow7 (R : TR base p z A B w t L) (ok : TOk t) (hbs : base ≤ w.heap.size) (kind cell seen put draw : Int) (F : FOk t seen put draw) (hs : t.step = 7) :
    Calls Tryz.prog 45 #[.pointer (some ⟨p, z, none⟩), .agg #[.int .i64 kind, .int .i64 cell, .int .i64 seen, .int .i64 put], .int .i64 draw] w (Dids base p z A B (yFollowGet seen t) L w) := by
  have h13 := R.tt.cStep
  rw [hs] at h13
  have hlt := R.tt.lt
  have hne : p ≠ w.heap.size := by omega
  have hB0 : Below w.heap.size w (w.alloc (.cells #[.int .i64 kind, .int .i64 cell, .int .i64 seen, .int .i64 put] 46)) := (Below.refl _ _).alloc (Nat.le_refl _) _
  have HRa : Hid (TR base p z A B (w.alloc (.cells #[.int .i64 kind, .int .i64 cell, .int .i64 seen, .int .i64 put] 46)) t L) := R.below hB0
  have HOa : Hid (Only p w (w.alloc (.cells #[.int .i64 kind, .int .i64 cell, .int .i64 seen, .int .i64 put] 46))) := Only.below hB0
  have HK : Hid (TOk t) := ok
  have HF : Hid (t.fails + 1 ≤ 2 ^ 40) := F.fl
  have hrg := F.regs
  have HBS : Hid (base ≤ (w.alloc (.cells #[.int .i64 kind, .int .i64 cell, .int .i64 seen, .int .i64 put] 46)).heap.size) := Nat.le_trans hbs hB0.size
  have HAd : Hid (0 ≤ t.turn.addr ∧ t.turn.addr ≤ 100) := F.ad (by omega)
  have HHl : Hid (t.held.length ≤ 99) := F.hl (by omega)
  have HS8 : Hid (t.step = 8 → 0 ≤ seen ∧ seen ≤ 100) := F.s8
  have HS9 : Hid (t.step = 9 → 0 ≤ seen ∧ seen ≤ 1125899906842624) := fun q => ⟨F.s0 (Or.inl q), F.sn.2⟩
  have HRv : Hid (t.step = 9 → 0 ≤ t.rival ∧ t.rival ≤ 100) := F.riv
  clear R ok hbs F hB0
  go_enter Tryz.func45, Tryz.ntmps45
  go_wp2_with fail
  refine (t_followGet base p z A B t L _ HRa.out HK.out HF.out HBS.out seen (by omega) (HAd.out).1 HHl.out HS8.out HS9.out HRv.out).mono ?_
  rintro e w2 ⟨rfl, L1, a1, a2⟩
  go_wp2
  go_end0
  exact ⟨rfl, L1, a1, (Goes.only HOa.out).trans a2⟩

set_option maxRecDepth 100000 in
set_option maxHeartbeats 2000000 in
theorem t_follow8 (R : TR base p z A B w t L) (ok : TOk t) (hbs : base ≤ w.heap.size) (kind cell seen put draw : Int) (F : FOk t seen put draw) (hs : t.step = 8) :
    Calls Tryz.prog 45 #[.pointer (some ⟨p, z, none⟩), .agg #[.int .i64 kind, .int .i64 cell, .int .i64 seen, .int .i64 put], .int .i64 draw] w (Dids base p z A B (yFollowGet seen t) L w) := by
  have h13 := R.tt.cStep
  rw [hs] at h13
  have hlt := R.tt.lt
  have hne : p ≠ w.heap.size := by omega
  have hB0 : Below w.heap.size w (w.alloc (.cells #[.int .i64 kind, .int .i64 cell, .int .i64 seen, .int .i64 put] 46)) := (Below.refl _ _).alloc (Nat.le_refl _) _
  have HRa : Hid (TR base p z A B (w.alloc (.cells #[.int .i64 kind, .int .i64 cell, .int .i64 seen, .int .i64 put] 46)) t L) := R.below hB0
  have HOa : Hid (Only p w (w.alloc (.cells #[.int .i64 kind, .int .i64 cell, .int .i64 seen, .int .i64 put] 46))) := Only.below hB0
  have HK : Hid (TOk t) := ok
  have HF : Hid (t.fails + 1 ≤ 2 ^ 40) := F.fl
  have hrg := F.regs
  have HBS : Hid (base ≤ (w.alloc (.cells #[.int .i64 kind, .int .i64 cell, .int .i64 seen, .int .i64 put] 46)).heap.size) := Nat.le_trans hbs hB0.size
  have HAd : Hid (0 ≤ t.turn.addr ∧ t.turn.addr ≤ 100) := F.ad (by omega)
  have HHl : Hid (t.held.length ≤ 99) := F.hl (by omega)
  have HS8 : Hid (t.step = 8 → 0 ≤ seen ∧ seen ≤ 100) := F.s8
  have HS9 : Hid (t.step = 9 → 0 ≤ seen ∧ seen ≤ 1125899906842624) := fun q => ⟨F.s0 (Or.inl q), F.sn.2⟩
  have HRv : Hid (t.step = 9 → 0 ≤ t.rival ∧ t.rival ≤ 100) := F.riv
  clear R ok hbs F hB0
  go_enter Tryz.func45, Tryz.ntmps45
  go_wp2_with fail
  refine (t_followGet base p z A B t L _ HRa.out HK.out HF.out HBS.out seen (by omega) (HAd.out).1 HHl.out HS8.out HS9.out HRv.out).mono ?_
  rintro e w2 ⟨rfl, L1, a1, a2⟩
  go_wp2
  go_end0
  exact ⟨rfl, L1, a1, (Goes.only HOa.out).trans a2⟩

set_option maxRecDepth 100000 in
set_option maxHeartbeats 2000000 in
theorem t_follow9 (R : TR base p z A B w t L) (ok : TOk t) (hbs : base ≤ w.heap.size) (kind cell seen put draw : Int) (F : FOk t seen put draw) (hs : t.step = 9) :
    Calls Tryz.prog 45 #[.pointer (some ⟨p, z, none⟩), .agg #[.int .i64 kind, .int .i64 cell, .int .i64 seen, .int .i64 put], .int .i64 draw] w (Dids base p z A B (yFollowGet seen t) L w) := by
  have h13 := R.tt.cStep
  rw [hs] at h13
  have hlt := R.tt.lt
  have hne : p ≠ w.heap.size := by omega
  have hB0 : Below w.heap.size w (w.alloc (.cells #[.int .i64 kind, .int .i64 cell, .int .i64 seen, .int .i64 put] 46)) := (Below.refl _ _).alloc (Nat.le_refl _) _
  have HRa : Hid (TR base p z A B (w.alloc (.cells #[.int .i64 kind, .int .i64 cell, .int .i64 seen, .int .i64 put] 46)) t L) := R.below hB0
  have HOa : Hid (Only p w (w.alloc (.cells #[.int .i64 kind, .int .i64 cell, .int .i64 seen, .int .i64 put] 46))) := Only.below hB0
  have HK : Hid (TOk t) := ok
  have HF : Hid (t.fails + 1 ≤ 2 ^ 40) := F.fl
  have hrg := F.regs
  have HBS : Hid (base ≤ (w.alloc (.cells #[.int .i64 kind, .int .i64 cell, .int .i64 seen, .int .i64 put] 46)).heap.size) := Nat.le_trans hbs hB0.size
  have HAd : Hid (0 ≤ t.turn.addr ∧ t.turn.addr ≤ 100) := F.ad (by omega)
  have HHl : Hid (t.held.length ≤ 99) := F.hl (by omega)
  have HS8 : Hid (t.step = 8 → 0 ≤ seen ∧ seen ≤ 100) := F.s8
  have HS9 : Hid (t.step = 9 → 0 ≤ seen ∧ seen ≤ 1125899906842624) := fun q => ⟨F.s0 (Or.inl q), F.sn.2⟩
  have HRv : Hid (t.step = 9 → 0 ≤ t.rival ∧ t.rival ≤ 100) := F.riv
  clear R ok hbs F hB0
  go_enter Tryz.func45, Tryz.ntmps45
  go_wp2_with fail
  refine (t_followGet base p z A B t L _ HRa.out HK.out HF.out HBS.out seen (by omega) (HAd.out).1 HHl.out HS8.out HS9.out HRv.out).mono ?_
  rintro e w2 ⟨rfl, L1, a1, a2⟩
  go_wp2
  go_end0
  exact ⟨rfl, L1, a1, (Goes.only HOa.out).trans a2⟩

set_option maxRecDepth 100000 in
set_option maxHeartbeats 2000000 in
theorem t_follow10 (R : TR base p z A B w t L) (ok : TOk t) (hbs : base ≤ w.heap.size) (kind cell seen put draw : Int) (F : FOk t seen put draw) (hs : t.step = 10) :
    Calls Tryz.prog 45 #[.pointer (some ⟨p, z, none⟩), .agg #[.int .i64 kind, .int .i64 cell, .int .i64 seen, .int .i64 put], .int .i64 draw] w (Dids base p z A B (yFollowGet seen t) L w) := by
  have h13 := R.tt.cStep
  rw [hs] at h13
  have hlt := R.tt.lt
  have hne : p ≠ w.heap.size := by omega
  have hB0 : Below w.heap.size w (w.alloc (.cells #[.int .i64 kind, .int .i64 cell, .int .i64 seen, .int .i64 put] 46)) := (Below.refl _ _).alloc (Nat.le_refl _) _
  have HRa : Hid (TR base p z A B (w.alloc (.cells #[.int .i64 kind, .int .i64 cell, .int .i64 seen, .int .i64 put] 46)) t L) := R.below hB0
  have HOa : Hid (Only p w (w.alloc (.cells #[.int .i64 kind, .int .i64 cell, .int .i64 seen, .int .i64 put] 46))) := Only.below hB0
  have HK : Hid (TOk t) := ok
  have HF : Hid (t.fails + 1 ≤ 2 ^ 40) := F.fl
  have hrg := F.regs
  have HBS : Hid (base ≤ (w.alloc (.cells #[.int .i64 kind, .int .i64 cell, .int .i64 seen, .int .i64 put] 46)).heap.size) := Nat.le_trans hbs hB0.size
  have HAd : Hid (0 ≤ t.turn.addr ∧ t.turn.addr ≤ 100) := F.ad (by omega)
  have HHl : Hid (t.held.length ≤ 99) := F.hl (by omega)
  have HS8 : Hid (t.step = 8 → 0 ≤ seen ∧ seen ≤ 100) := F.s8
  have HS9 : Hid (t.step = 9 → 0 ≤ seen ∧ seen ≤ 1125899906842624) := fun q => ⟨F.s0 (Or.inl q), F.sn.2⟩
  have HRv : Hid (t.step = 9 → 0 ≤ t.rival ∧ t.rival ≤ 100) := F.riv
  clear R ok hbs F hB0
  go_enter Tryz.func45, Tryz.ntmps45
  go_wp2_with fail
  refine (t_followGet base p z A B t L _ HRa.out HK.out HF.out HBS.out seen (by omega) (HAd.out).1 HHl.out HS8.out HS9.out HRv.out).mono ?_
  rintro e w2 ⟨rfl, L1, a1, a2⟩
  go_wp2
  go_end0
  exact ⟨rfl, L1, a1, (Goes.only HOa.out).trans a2⟩

set_option maxRecDepth 100000 in
set_option maxHeartbeats 2000000 in
theorem t_follow11 (R : TR base p z A B w t L) (ok : TOk t) (hbs : base ≤ w.heap.size) (kind cell seen put draw : Int) (F : FOk t seen put draw) (hs : t.step = 11) :
    Calls Tryz.prog 45 #[.pointer (some ⟨p, z, none⟩), .agg #[.int .i64 kind, .int .i64 cell, .int .i64 seen, .int .i64 put], .int .i64 draw] w (Dids base p z A B (yFollowGet seen t) L w) := by
  have h13 := R.tt.cStep
  rw [hs] at h13
  have hlt := R.tt.lt
  have hne : p ≠ w.heap.size := by omega
  have hB0 : Below w.heap.size w (w.alloc (.cells #[.int .i64 kind, .int .i64 cell, .int .i64 seen, .int .i64 put] 46)) := (Below.refl _ _).alloc (Nat.le_refl _) _
  have HRa : Hid (TR base p z A B (w.alloc (.cells #[.int .i64 kind, .int .i64 cell, .int .i64 seen, .int .i64 put] 46)) t L) := R.below hB0
  have HOa : Hid (Only p w (w.alloc (.cells #[.int .i64 kind, .int .i64 cell, .int .i64 seen, .int .i64 put] 46))) := Only.below hB0
  have HK : Hid (TOk t) := ok
  have HF : Hid (t.fails + 1 ≤ 2 ^ 40) := F.fl
  have hrg := F.regs
  have HBS : Hid (base ≤ (w.alloc (.cells #[.int .i64 kind, .int .i64 cell, .int .i64 seen, .int .i64 put] 46)).heap.size) := Nat.le_trans hbs hB0.size
  have HAd : Hid (0 ≤ t.turn.addr ∧ t.turn.addr ≤ 100) := F.ad (by omega)
  have HHl : Hid (t.held.length ≤ 99) := F.hl (by omega)
  have HS8 : Hid (t.step = 8 → 0 ≤ seen ∧ seen ≤ 100) := F.s8
  have HS9 : Hid (t.step = 9 → 0 ≤ seen ∧ seen ≤ 1125899906842624) := fun q => ⟨F.s0 (Or.inl q), F.sn.2⟩
  have HRv : Hid (t.step = 9 → 0 ≤ t.rival ∧ t.rival ≤ 100) := F.riv
  clear R ok hbs F hB0
  go_enter Tryz.func45, Tryz.ntmps45
  go_wp2_with fail
  refine (t_followGet base p z A B t L _ HRa.out HK.out HF.out HBS.out seen (by omega) (HAd.out).1 HHl.out HS8.out HS9.out HRv.out).mono ?_
  rintro e w2 ⟨rfl, L1, a1, a2⟩
  go_wp2
  go_end0
  exact ⟨rfl, L1, a1, (Goes.only HOa.out).trans a2⟩

set_option maxRecDepth 100000 in
set_option maxHeartbeats 2000000 in
theorem t_follow12 (R : TR base p z A B w t L) (ok : TOk t) (hbs : base ≤ w.heap.size) (kind cell seen put draw : Int) (F : FOk t seen put draw) (hs : t.step = 12) :
    Calls Tryz.prog 45 #[.pointer (some ⟨p, z, none⟩), .agg #[.int .i64 kind, .int .i64 cell, .int .i64 seen, .int .i64 put], .int .i64 draw] w (Dids base p z A B (yFollowExt seen t) L w) := by
  have h13 := R.tt.cStep
  rw [hs] at h13
  have hlt := R.tt.lt
  have hne : p ≠ w.heap.size := by omega
  have hB0 : Below w.heap.size w (w.alloc (.cells #[.int .i64 kind, .int .i64 cell, .int .i64 seen, .int .i64 put] 46)) := (Below.refl _ _).alloc (Nat.le_refl _) _
  have HRa : Hid (TR base p z A B (w.alloc (.cells #[.int .i64 kind, .int .i64 cell, .int .i64 seen, .int .i64 put] 46)) t L) := R.below hB0
  have HOa : Hid (Only p w (w.alloc (.cells #[.int .i64 kind, .int .i64 cell, .int .i64 seen, .int .i64 put] 46))) := Only.below hB0
  have HK : Hid (TOk t) := ok
  have HF : Hid (t.fails + 1 ≤ 2 ^ 40) := F.fl
  have hrg := F.regs
  have HBS : Hid (base ≤ (w.alloc (.cells #[.int .i64 kind, .int .i64 cell, .int .i64 seen, .int .i64 put] 46)).heap.size) := Nat.le_trans hbs hB0.size
  have HIn : Hid (t.turn.op = 7 → 0 ≤ t.m.into ∧ t.m.into ≤ 3) := fun q => F.into (Or.inr ⟨by omega, q⟩)
  have HAt : Hid (t.step = 13 → t.at_ < t.reads.length) := fun q => F.rat (Or.inl q)
  clear R ok hbs F hB0
  go_enter Tryz.func45, Tryz.ntmps45
  go_wp2_with fail
  refine (t_followExt base p z A B t L _ HRa.out HK.out HF.out HBS.out hrg HIn.out seen (by omega) HAt.out).mono ?_
  rintro e w2 ⟨rfl, L1, a1, a2⟩
  go_wp2
  go_end0
  exact ⟨rfl, L1, a1, (Goes.only HOa.out).trans a2⟩

set_option maxRecDepth 100000 in
set_option maxHeartbeats 2000000 in
theorem t_follow13 (R : TR base p z A B w t L) (ok : TOk t) (hbs : base ≤ w.heap.size) (kind cell seen put draw : Int) (F : FOk t seen put draw) (hs : t.step = 13) :
    Calls Tryz.prog 45 #[.pointer (some ⟨p, z, none⟩), .agg #[.int .i64 kind, .int .i64 cell, .int .i64 seen, .int .i64 put], .int .i64 draw] w (Dids base p z A B (yFollowExt seen t) L w) := by
  have h13 := R.tt.cStep
  rw [hs] at h13
  have hlt := R.tt.lt
  have hne : p ≠ w.heap.size := by omega
  have hB0 : Below w.heap.size w (w.alloc (.cells #[.int .i64 kind, .int .i64 cell, .int .i64 seen, .int .i64 put] 46)) := (Below.refl _ _).alloc (Nat.le_refl _) _
  have HRa : Hid (TR base p z A B (w.alloc (.cells #[.int .i64 kind, .int .i64 cell, .int .i64 seen, .int .i64 put] 46)) t L) := R.below hB0
  have HOa : Hid (Only p w (w.alloc (.cells #[.int .i64 kind, .int .i64 cell, .int .i64 seen, .int .i64 put] 46))) := Only.below hB0
  have HK : Hid (TOk t) := ok
  have HF : Hid (t.fails + 1 ≤ 2 ^ 40) := F.fl
  have hrg := F.regs
  have HBS : Hid (base ≤ (w.alloc (.cells #[.int .i64 kind, .int .i64 cell, .int .i64 seen, .int .i64 put] 46)).heap.size) := Nat.le_trans hbs hB0.size
  have HIn : Hid (t.turn.op = 7 → 0 ≤ t.m.into ∧ t.m.into ≤ 3) := fun q => F.into (Or.inr ⟨by omega, q⟩)
  have HAt : Hid (t.step = 13 → t.at_ < t.reads.length) := fun q => F.rat (Or.inl q)
  clear R ok hbs F hB0
  go_enter Tryz.func45, Tryz.ntmps45
  go_wp2_with fail
  refine (t_followExt base p z A B t L _ HRa.out HK.out HF.out HBS.out hrg HIn.out seen (by omega) HAt.out).mono ?_
  rintro e w2 ⟨rfl, L1, a1, a2⟩
  go_wp2
  go_end0
  exact ⟨rfl, L1, a1, (Goes.only HOa.out).trans a2⟩

set_option maxRecDepth 100000 in
set_option maxHeartbeats 2000000 in
theorem t_follow14 (R : TR base p z A B w t L) (ok : TOk t) (hbs : base ≤ w.heap.size) (kind cell seen put draw : Int) (F : FOk t seen put draw) (hs : t.step = 14) :
    Calls Tryz.prog 45 #[.pointer (some ⟨p, z, none⟩), .agg #[.int .i64 kind, .int .i64 cell, .int .i64 seen, .int .i64 put], .int .i64 draw] w (Dids base p z A B (yFollowTicket seen put t) L w) := by
  have h13 := R.tt.cStep
  rw [hs] at h13
  have hlt := R.tt.lt
  have hne : p ≠ w.heap.size := by omega
  have hB0 : Below w.heap.size w (w.alloc (.cells #[.int .i64 kind, .int .i64 cell, .int .i64 seen, .int .i64 put] 46)) := (Below.refl _ _).alloc (Nat.le_refl _) _
  have HRa : Hid (TR base p z A B (w.alloc (.cells #[.int .i64 kind, .int .i64 cell, .int .i64 seen, .int .i64 put] 46)) t L) := R.below hB0
  have HOa : Hid (Only p w (w.alloc (.cells #[.int .i64 kind, .int .i64 cell, .int .i64 seen, .int .i64 put] 46))) := Only.below hB0
  have HK : Hid (TOk t) := ok
  have HF : Hid (t.fails + 1 ≤ 2 ^ 40) := F.fl
  have hrg := F.regs
  have HBS : Hid (base ≤ (w.alloc (.cells #[.int .i64 kind, .int .i64 cell, .int .i64 seen, .int .i64 put] 46)).heap.size) := Nat.le_trans hbs hB0.size
  have HPu : Hid (t.step = 14 → 0 ≤ put ∧ put ≤ 2 ^ 40) := fun q => F.put (Or.inl q)
  clear R ok hbs F hB0
  go_enter Tryz.func45, Tryz.ntmps45
  go_wp2_with fail
  refine (t_ticket base p z A B t L _ HRa.out HK.out HF.out (by omega) kind cell seen put HPu.out).mono ?_
  rintro e w2 ⟨rfl, a1, a2⟩
  go_wp2
  go_end0
  exact ⟨rfl, L, (HRa.out).by a1 a2 (lists_ticket seen put t), Goes.only ((HOa.out).trans a2)⟩

set_option maxRecDepth 100000 in
set_option maxHeartbeats 2000000 in
theorem t_follow15 (R : TR base p z A B w t L) (ok : TOk t) (hbs : base ≤ w.heap.size) (kind cell seen put draw : Int) (F : FOk t seen put draw) (hs : t.step = 15) :
    Calls Tryz.prog 45 #[.pointer (some ⟨p, z, none⟩), .agg #[.int .i64 kind, .int .i64 cell, .int .i64 seen, .int .i64 put], .int .i64 draw] w (Dids base p z A B (yFollowTicket seen put t) L w) := by
  have h13 := R.tt.cStep
  rw [hs] at h13
  have hlt := R.tt.lt
  have hne : p ≠ w.heap.size := by omega
  have hB0 : Below w.heap.size w (w.alloc (.cells #[.int .i64 kind, .int .i64 cell, .int .i64 seen, .int .i64 put] 46)) := (Below.refl _ _).alloc (Nat.le_refl _) _
  have HRa : Hid (TR base p z A B (w.alloc (.cells #[.int .i64 kind, .int .i64 cell, .int .i64 seen, .int .i64 put] 46)) t L) := R.below hB0
  have HOa : Hid (Only p w (w.alloc (.cells #[.int .i64 kind, .int .i64 cell, .int .i64 seen, .int .i64 put] 46))) := Only.below hB0
  have HK : Hid (TOk t) := ok
  have HF : Hid (t.fails + 1 ≤ 2 ^ 40) := F.fl
  have hrg := F.regs
  have HBS : Hid (base ≤ (w.alloc (.cells #[.int .i64 kind, .int .i64 cell, .int .i64 seen, .int .i64 put] 46)).heap.size) := Nat.le_trans hbs hB0.size
  have HPu : Hid (t.step = 14 → 0 ≤ put ∧ put ≤ 2 ^ 40) := fun q => F.put (Or.inl q)
  clear R ok hbs F hB0
  go_enter Tryz.func45, Tryz.ntmps45
  go_wp2_with fail
  refine (t_ticket base p z A B t L _ HRa.out HK.out HF.out (by omega) kind cell seen put HPu.out).mono ?_
  rintro e w2 ⟨rfl, a1, a2⟩
  go_wp2
  go_end0
  exact ⟨rfl, L, (HRa.out).by a1 a2 (lists_ticket seen put t), Goes.only ((HOa.out).trans a2)⟩

set_option maxRecDepth 100000 in
set_option maxHeartbeats 2000000 in
theorem t_follow16 (R : TR base p z A B w t L) (ok : TOk t) (hbs : base ≤ w.heap.size) (kind cell seen put draw : Int) (F : FOk t seen put draw) (hs : t.step = 16) :
    Calls Tryz.prog 45 #[.pointer (some ⟨p, z, none⟩), .agg #[.int .i64 kind, .int .i64 cell, .int .i64 seen, .int .i64 put], .int .i64 draw] w (Dids base p z A B (yFollowCommit seen t) L w) := by
  have h13 := R.tt.cStep
  rw [hs] at h13
  have hlt := R.tt.lt
  have hne : p ≠ w.heap.size := by omega
  have hB0 : Below w.heap.size w (w.alloc (.cells #[.int .i64 kind, .int .i64 cell, .int .i64 seen, .int .i64 put] 46)) := (Below.refl _ _).alloc (Nat.le_refl _) _
  have HRa : Hid (TR base p z A B (w.alloc (.cells #[.int .i64 kind, .int .i64 cell, .int .i64 seen, .int .i64 put] 46)) t L) := R.below hB0
  have HOa : Hid (Only p w (w.alloc (.cells #[.int .i64 kind, .int .i64 cell, .int .i64 seen, .int .i64 put] 46))) := Only.below hB0
  have HK : Hid (TOk t) := ok
  have HF : Hid (t.fails + 1 ≤ 2 ^ 40) := F.fl
  have hrg := F.regs
  have HBS : Hid (base ≤ (w.alloc (.cells #[.int .i64 kind, .int .i64 cell, .int .i64 seen, .int .i64 put] 46)).heap.size) := Nat.le_trans hbs hB0.size
  have HSn : Hid (-1 ≤ seen ∧ seen ≤ 2 ^ 50) := ⟨F.sn.1, by have := F.sn.2; omega⟩
  have HCl : Hid (-1 ≤ t.clock ∧ t.clock ≤ 2 ^ 50) := F.clk (by omega)
  have HAt : Hid (t.step = 19 → t.at_ < t.reads.length) := fun q => F.rat (Or.inr q)
  clear R ok hbs F hB0
  go_enter Tryz.func45, Tryz.ntmps45
  go_wp2_with fail
  refine (t_followCommit base p z A B t L _ HRa.out HK.out HF.out seen HSn.out HCl.out (by omega) HAt.out).mono ?_
  rintro e w2 ⟨rfl, a1, a2⟩
  go_wp2
  go_end0
  exact ⟨rfl, L, (HRa.out).by a1 a2 (lists_commit seen t), Goes.only ((HOa.out).trans a2)⟩

set_option maxRecDepth 100000 in
set_option maxHeartbeats 2000000 in
theorem t_follow17 (R : TR base p z A B w t L) (ok : TOk t) (hbs : base ≤ w.heap.size) (kind cell seen put draw : Int) (F : FOk t seen put draw) (hs : t.step = 17) :
    Calls Tryz.prog 45 #[.pointer (some ⟨p, z, none⟩), .agg #[.int .i64 kind, .int .i64 cell, .int .i64 seen, .int .i64 put], .int .i64 draw] w (Dids base p z A B (yFollowCommit seen t) L w) := by
  have h13 := R.tt.cStep
  rw [hs] at h13
  have hlt := R.tt.lt
  have hne : p ≠ w.heap.size := by omega
  have hB0 : Below w.heap.size w (w.alloc (.cells #[.int .i64 kind, .int .i64 cell, .int .i64 seen, .int .i64 put] 46)) := (Below.refl _ _).alloc (Nat.le_refl _) _
  have HRa : Hid (TR base p z A B (w.alloc (.cells #[.int .i64 kind, .int .i64 cell, .int .i64 seen, .int .i64 put] 46)) t L) := R.below hB0
  have HOa : Hid (Only p w (w.alloc (.cells #[.int .i64 kind, .int .i64 cell, .int .i64 seen, .int .i64 put] 46))) := Only.below hB0
  have HK : Hid (TOk t) := ok
  have HF : Hid (t.fails + 1 ≤ 2 ^ 40) := F.fl
  have hrg := F.regs
  have HBS : Hid (base ≤ (w.alloc (.cells #[.int .i64 kind, .int .i64 cell, .int .i64 seen, .int .i64 put] 46)).heap.size) := Nat.le_trans hbs hB0.size
  have HSn : Hid (-1 ≤ seen ∧ seen ≤ 2 ^ 50) := ⟨F.sn.1, by have := F.sn.2; omega⟩
  have HCl : Hid (-1 ≤ t.clock ∧ t.clock ≤ 2 ^ 50) := F.clk (by omega)
  have HAt : Hid (t.step = 19 → t.at_ < t.reads.length) := fun q => F.rat (Or.inr q)
  clear R ok hbs F hB0
  go_enter Tryz.func45, Tryz.ntmps45
  go_wp2_with fail
  refine (t_followCommit base p z A B t L _ HRa.out HK.out HF.out seen HSn.out HCl.out (by omega) HAt.out).mono ?_
  rintro e w2 ⟨rfl, a1, a2⟩
  go_wp2
  go_end0
  exact ⟨rfl, L, (HRa.out).by a1 a2 (lists_commit seen t), Goes.only ((HOa.out).trans a2)⟩

set_option maxRecDepth 100000 in
set_option maxHeartbeats 2000000 in
theorem t_follow18 (R : TR base p z A B w t L) (ok : TOk t) (hbs : base ≤ w.heap.size) (kind cell seen put draw : Int) (F : FOk t seen put draw) (hs : t.step = 18) :
    Calls Tryz.prog 45 #[.pointer (some ⟨p, z, none⟩), .agg #[.int .i64 kind, .int .i64 cell, .int .i64 seen, .int .i64 put], .int .i64 draw] w (Dids base p z A B (yFollowCommit seen t) L w) := by
  have h13 := R.tt.cStep
  rw [hs] at h13
  have hlt := R.tt.lt
  have hne : p ≠ w.heap.size := by omega
  have hB0 : Below w.heap.size w (w.alloc (.cells #[.int .i64 kind, .int .i64 cell, .int .i64 seen, .int .i64 put] 46)) := (Below.refl _ _).alloc (Nat.le_refl _) _
  have HRa : Hid (TR base p z A B (w.alloc (.cells #[.int .i64 kind, .int .i64 cell, .int .i64 seen, .int .i64 put] 46)) t L) := R.below hB0
  have HOa : Hid (Only p w (w.alloc (.cells #[.int .i64 kind, .int .i64 cell, .int .i64 seen, .int .i64 put] 46))) := Only.below hB0
  have HK : Hid (TOk t) := ok
  have HF : Hid (t.fails + 1 ≤ 2 ^ 40) := F.fl
  have hrg := F.regs
  have HBS : Hid (base ≤ (w.alloc (.cells #[.int .i64 kind, .int .i64 cell, .int .i64 seen, .int .i64 put] 46)).heap.size) := Nat.le_trans hbs hB0.size
  have HSn : Hid (-1 ≤ seen ∧ seen ≤ 2 ^ 50) := ⟨F.sn.1, by have := F.sn.2; omega⟩
  have HCl : Hid (-1 ≤ t.clock ∧ t.clock ≤ 2 ^ 50) := F.clk (by omega)
  have HAt : Hid (t.step = 19 → t.at_ < t.reads.length) := fun q => F.rat (Or.inr q)
  clear R ok hbs F hB0
  go_enter Tryz.func45, Tryz.ntmps45
  go_wp2_with fail
  refine (t_followCommit base p z A B t L _ HRa.out HK.out HF.out seen HSn.out HCl.out (by omega) HAt.out).mono ?_
  rintro e w2 ⟨rfl, a1, a2⟩
  go_wp2
  go_end0
  exact ⟨rfl, L, (HRa.out).by a1 a2 (lists_commit seen t), Goes.only ((HOa.out).trans a2)⟩

set_option maxRecDepth 100000 in
set_option maxHeartbeats 2000000 in
theorem t_follow19 (R : TR base p z A B w t L) (ok : TOk t) (hbs : base ≤ w.heap.size) (kind cell seen put draw : Int) (F : FOk t seen put draw) (hs : t.step = 19) :
    Calls Tryz.prog 45 #[.pointer (some ⟨p, z, none⟩), .agg #[.int .i64 kind, .int .i64 cell, .int .i64 seen, .int .i64 put], .int .i64 draw] w (Dids base p z A B (yFollowCommit seen t) L w) := by
  have h13 := R.tt.cStep
  rw [hs] at h13
  have hlt := R.tt.lt
  have hne : p ≠ w.heap.size := by omega
  have hB0 : Below w.heap.size w (w.alloc (.cells #[.int .i64 kind, .int .i64 cell, .int .i64 seen, .int .i64 put] 46)) := (Below.refl _ _).alloc (Nat.le_refl _) _
  have HRa : Hid (TR base p z A B (w.alloc (.cells #[.int .i64 kind, .int .i64 cell, .int .i64 seen, .int .i64 put] 46)) t L) := R.below hB0
  have HOa : Hid (Only p w (w.alloc (.cells #[.int .i64 kind, .int .i64 cell, .int .i64 seen, .int .i64 put] 46))) := Only.below hB0
  have HK : Hid (TOk t) := ok
  have HF : Hid (t.fails + 1 ≤ 2 ^ 40) := F.fl
  have hrg := F.regs
  have HBS : Hid (base ≤ (w.alloc (.cells #[.int .i64 kind, .int .i64 cell, .int .i64 seen, .int .i64 put] 46)).heap.size) := Nat.le_trans hbs hB0.size
  have HSn : Hid (-1 ≤ seen ∧ seen ≤ 2 ^ 50) := ⟨F.sn.1, by have := F.sn.2; omega⟩
  have HCl : Hid (-1 ≤ t.clock ∧ t.clock ≤ 2 ^ 50) := F.clk (by omega)
  have HAt : Hid (t.step = 19 → t.at_ < t.reads.length) := fun q => F.rat (Or.inr q)
  clear R ok hbs F hB0
  go_enter Tryz.func45, Tryz.ntmps45
  go_wp2_with fail
  refine (t_followCommit base p z A B t L _ HRa.out HK.out HF.out seen HSn.out HCl.out (by omega) HAt.out).mono ?_
  rintro e w2 ⟨rfl, a1, a2⟩
  go_wp2
  go_end0
  exact ⟨rfl, L, (HRa.out).by a1 a2 (lists_commit seen t), Goes.only ((HOa.out).trans a2)⟩

set_option maxRecDepth 100000 in
set_option maxHeartbeats 2000000 in
theorem t_follow20 (R : TR base p z A B w t L) (ok : TOk t) (hbs : base ≤ w.heap.size) (kind cell seen put draw : Int) (F : FOk t seen put draw) (hs : t.step = 20) :
    Calls Tryz.prog 45 #[.pointer (some ⟨p, z, none⟩), .agg #[.int .i64 kind, .int .i64 cell, .int .i64 seen, .int .i64 put], .int .i64 draw] w (Dids base p z A B (yFollowStore t) L w) := by
  have h13 := R.tt.cStep
  rw [hs] at h13
  have hlt := R.tt.lt
  have hne : p ≠ w.heap.size := by omega
  have hB0 : Below w.heap.size w (w.alloc (.cells #[.int .i64 kind, .int .i64 cell, .int .i64 seen, .int .i64 put] 46)) := (Below.refl _ _).alloc (Nat.le_refl _) _
  have HRa : Hid (TR base p z A B (w.alloc (.cells #[.int .i64 kind, .int .i64 cell, .int .i64 seen, .int .i64 put] 46)) t L) := R.below hB0
  have HOa : Hid (Only p w (w.alloc (.cells #[.int .i64 kind, .int .i64 cell, .int .i64 seen, .int .i64 put] 46))) := Only.below hB0
  have HK : Hid (TOk t) := ok
  have HF : Hid (t.fails + 1 ≤ 2 ^ 40) := F.fl
  have hrg := F.regs
  have HBS : Hid (base ≤ (w.alloc (.cells #[.int .i64 kind, .int .i64 cell, .int .i64 seen, .int .i64 put] 46)).heap.size) := Nat.le_trans hbs hB0.size
  have HCl : Hid (-1 ≤ t.clock ∧ t.clock ≤ 2 ^ 50) := F.clk (by omega)
  have HAt : Hid (t.at_ ≤ 1000) := F.at' (by omega)
  have HHt : Hid (t.step = 24 → t.at_ < t.held.length) := F.hat
  clear R ok hbs F hB0
  go_enter Tryz.func45, Tryz.ntmps45
  go_wp2_with fail
  refine (t_followStore base p z A B t L _ HRa.out HK.out HCl.out (by omega) HAt.out HHt.out).mono ?_
  rintro e w2 ⟨rfl, a1, a2⟩
  go_wp2
  go_end0
  exact ⟨rfl, L, (HRa.out).by a1 a2 (lists_store t), Goes.only ((HOa.out).trans a2)⟩

set_option maxRecDepth 100000 in
set_option maxHeartbeats 2000000 in
theorem t_follow21 (R : TR base p z A B w t L) (ok : TOk t) (hbs : base ≤ w.heap.size) (kind cell seen put draw : Int) (F : FOk t seen put draw) (hs : t.step = 21) :
    Calls Tryz.prog 45 #[.pointer (some ⟨p, z, none⟩), .agg #[.int .i64 kind, .int .i64 cell, .int .i64 seen, .int .i64 put], .int .i64 draw] w (Dids base p z A B (yFollowStore t) L w) := by
  have h13 := R.tt.cStep
  rw [hs] at h13
  have hlt := R.tt.lt
  have hne : p ≠ w.heap.size := by omega
  have hB0 : Below w.heap.size w (w.alloc (.cells #[.int .i64 kind, .int .i64 cell, .int .i64 seen, .int .i64 put] 46)) := (Below.refl _ _).alloc (Nat.le_refl _) _
  have HRa : Hid (TR base p z A B (w.alloc (.cells #[.int .i64 kind, .int .i64 cell, .int .i64 seen, .int .i64 put] 46)) t L) := R.below hB0
  have HOa : Hid (Only p w (w.alloc (.cells #[.int .i64 kind, .int .i64 cell, .int .i64 seen, .int .i64 put] 46))) := Only.below hB0
  have HK : Hid (TOk t) := ok
  have HF : Hid (t.fails + 1 ≤ 2 ^ 40) := F.fl
  have hrg := F.regs
  have HBS : Hid (base ≤ (w.alloc (.cells #[.int .i64 kind, .int .i64 cell, .int .i64 seen, .int .i64 put] 46)).heap.size) := Nat.le_trans hbs hB0.size
  have HCl : Hid (-1 ≤ t.clock ∧ t.clock ≤ 2 ^ 50) := F.clk (by omega)
  have HAt : Hid (t.at_ ≤ 1000) := F.at' (by omega)
  have HHt : Hid (t.step = 24 → t.at_ < t.held.length) := F.hat
  clear R ok hbs F hB0
  go_enter Tryz.func45, Tryz.ntmps45
  go_wp2_with fail
  refine (t_followStore base p z A B t L _ HRa.out HK.out HCl.out (by omega) HAt.out HHt.out).mono ?_
  rintro e w2 ⟨rfl, a1, a2⟩
  go_wp2
  go_end0
  exact ⟨rfl, L, (HRa.out).by a1 a2 (lists_store t), Goes.only ((HOa.out).trans a2)⟩

set_option maxRecDepth 100000 in
set_option maxHeartbeats 2000000 in
theorem t_follow22 (R : TR base p z A B w t L) (ok : TOk t) (hbs : base ≤ w.heap.size) (kind cell seen put draw : Int) (F : FOk t seen put draw) (hs : t.step = 22) :
    Calls Tryz.prog 45 #[.pointer (some ⟨p, z, none⟩), .agg #[.int .i64 kind, .int .i64 cell, .int .i64 seen, .int .i64 put], .int .i64 draw] w (Dids base p z A B (yFollowStore t) L w) := by
  have h13 := R.tt.cStep
  rw [hs] at h13
  have hlt := R.tt.lt
  have hne : p ≠ w.heap.size := by omega
  have hB0 : Below w.heap.size w (w.alloc (.cells #[.int .i64 kind, .int .i64 cell, .int .i64 seen, .int .i64 put] 46)) := (Below.refl _ _).alloc (Nat.le_refl _) _
  have HRa : Hid (TR base p z A B (w.alloc (.cells #[.int .i64 kind, .int .i64 cell, .int .i64 seen, .int .i64 put] 46)) t L) := R.below hB0
  have HOa : Hid (Only p w (w.alloc (.cells #[.int .i64 kind, .int .i64 cell, .int .i64 seen, .int .i64 put] 46))) := Only.below hB0
  have HK : Hid (TOk t) := ok
  have HF : Hid (t.fails + 1 ≤ 2 ^ 40) := F.fl
  have hrg := F.regs
  have HBS : Hid (base ≤ (w.alloc (.cells #[.int .i64 kind, .int .i64 cell, .int .i64 seen, .int .i64 put] 46)).heap.size) := Nat.le_trans hbs hB0.size
  have HCl : Hid (-1 ≤ t.clock ∧ t.clock ≤ 2 ^ 50) := F.clk (by omega)
  have HAt : Hid (t.at_ ≤ 1000) := F.at' (by omega)
  have HHt : Hid (t.step = 24 → t.at_ < t.held.length) := F.hat
  clear R ok hbs F hB0
  go_enter Tryz.func45, Tryz.ntmps45
  go_wp2_with fail
  refine (t_followStore base p z A B t L _ HRa.out HK.out HCl.out (by omega) HAt.out HHt.out).mono ?_
  rintro e w2 ⟨rfl, a1, a2⟩
  go_wp2
  go_end0
  exact ⟨rfl, L, (HRa.out).by a1 a2 (lists_store t), Goes.only ((HOa.out).trans a2)⟩

set_option maxRecDepth 100000 in
set_option maxHeartbeats 2000000 in
theorem t_follow23 (R : TR base p z A B w t L) (ok : TOk t) (hbs : base ≤ w.heap.size) (kind cell seen put draw : Int) (F : FOk t seen put draw) (hs : t.step = 23) :
    Calls Tryz.prog 45 #[.pointer (some ⟨p, z, none⟩), .agg #[.int .i64 kind, .int .i64 cell, .int .i64 seen, .int .i64 put], .int .i64 draw] w (Dids base p z A B (yFollowStore t) L w) := by
  have h13 := R.tt.cStep
  rw [hs] at h13
  have hlt := R.tt.lt
  have hne : p ≠ w.heap.size := by omega
  have hB0 : Below w.heap.size w (w.alloc (.cells #[.int .i64 kind, .int .i64 cell, .int .i64 seen, .int .i64 put] 46)) := (Below.refl _ _).alloc (Nat.le_refl _) _
  have HRa : Hid (TR base p z A B (w.alloc (.cells #[.int .i64 kind, .int .i64 cell, .int .i64 seen, .int .i64 put] 46)) t L) := R.below hB0
  have HOa : Hid (Only p w (w.alloc (.cells #[.int .i64 kind, .int .i64 cell, .int .i64 seen, .int .i64 put] 46))) := Only.below hB0
  have HK : Hid (TOk t) := ok
  have HF : Hid (t.fails + 1 ≤ 2 ^ 40) := F.fl
  have hrg := F.regs
  have HBS : Hid (base ≤ (w.alloc (.cells #[.int .i64 kind, .int .i64 cell, .int .i64 seen, .int .i64 put] 46)).heap.size) := Nat.le_trans hbs hB0.size
  have HCl : Hid (-1 ≤ t.clock ∧ t.clock ≤ 2 ^ 50) := F.clk (by omega)
  have HAt : Hid (t.at_ ≤ 1000) := F.at' (by omega)
  have HHt : Hid (t.step = 24 → t.at_ < t.held.length) := F.hat
  clear R ok hbs F hB0
  go_enter Tryz.func45, Tryz.ntmps45
  go_wp2_with fail
  refine (t_followStore base p z A B t L _ HRa.out HK.out HCl.out (by omega) HAt.out HHt.out).mono ?_
  rintro e w2 ⟨rfl, a1, a2⟩
  go_wp2
  go_end0
  exact ⟨rfl, L, (HRa.out).by a1 a2 (lists_store t), Goes.only ((HOa.out).trans a2)⟩

set_option maxRecDepth 100000 in
set_option maxHeartbeats 2000000 in
theorem t_follow24 (R : TR base p z A B w t L) (ok : TOk t) (hbs : base ≤ w.heap.size) (kind cell seen put draw : Int) (F : FOk t seen put draw) (hs : t.step = 24) :
    Calls Tryz.prog 45 #[.pointer (some ⟨p, z, none⟩), .agg #[.int .i64 kind, .int .i64 cell, .int .i64 seen, .int .i64 put], .int .i64 draw] w (Dids base p z A B (yFollowStore t) L w) := by
  have h13 := R.tt.cStep
  rw [hs] at h13
  have hlt := R.tt.lt
  have hne : p ≠ w.heap.size := by omega
  have hB0 : Below w.heap.size w (w.alloc (.cells #[.int .i64 kind, .int .i64 cell, .int .i64 seen, .int .i64 put] 46)) := (Below.refl _ _).alloc (Nat.le_refl _) _
  have HRa : Hid (TR base p z A B (w.alloc (.cells #[.int .i64 kind, .int .i64 cell, .int .i64 seen, .int .i64 put] 46)) t L) := R.below hB0
  have HOa : Hid (Only p w (w.alloc (.cells #[.int .i64 kind, .int .i64 cell, .int .i64 seen, .int .i64 put] 46))) := Only.below hB0
  have HK : Hid (TOk t) := ok
  have HF : Hid (t.fails + 1 ≤ 2 ^ 40) := F.fl
  have hrg := F.regs
  have HBS : Hid (base ≤ (w.alloc (.cells #[.int .i64 kind, .int .i64 cell, .int .i64 seen, .int .i64 put] 46)).heap.size) := Nat.le_trans hbs hB0.size
  have HCl : Hid (-1 ≤ t.clock ∧ t.clock ≤ 2 ^ 50) := F.clk (by omega)
  have HAt : Hid (t.at_ ≤ 1000) := F.at' (by omega)
  have HHt : Hid (t.step = 24 → t.at_ < t.held.length) := F.hat
  clear R ok hbs F hB0
  go_enter Tryz.func45, Tryz.ntmps45
  go_wp2_with fail
  refine (t_followStore base p z A B t L _ HRa.out HK.out HCl.out (by omega) HAt.out HHt.out).mono ?_
  rintro e w2 ⟨rfl, a1, a2⟩
  go_wp2
  go_end0
  exact ⟨rfl, L, (HRa.out).by a1 a2 (lists_store t), Goes.only ((HOa.out).trans a2)⟩

set_option maxRecDepth 100000 in
set_option maxHeartbeats 2000000 in
theorem t_follow25 (R : TR base p z A B w t L) (ok : TOk t) (hbs : base ≤ w.heap.size) (kind cell seen put draw : Int) (F : FOk t seen put draw) (hs : t.step = 25) :
    Calls Tryz.prog 45 #[.pointer (some ⟨p, z, none⟩), .agg #[.int .i64 kind, .int .i64 cell, .int .i64 seen, .int .i64 put], .int .i64 draw] w (Dids base p z A B (yFollowStore t) L w) := by
  have h13 := R.tt.cStep
  rw [hs] at h13
  have hlt := R.tt.lt
  have hne : p ≠ w.heap.size := by omega
  have hB0 : Below w.heap.size w (w.alloc (.cells #[.int .i64 kind, .int .i64 cell, .int .i64 seen, .int .i64 put] 46)) := (Below.refl _ _).alloc (Nat.le_refl _) _
  have HRa : Hid (TR base p z A B (w.alloc (.cells #[.int .i64 kind, .int .i64 cell, .int .i64 seen, .int .i64 put] 46)) t L) := R.below hB0
  have HOa : Hid (Only p w (w.alloc (.cells #[.int .i64 kind, .int .i64 cell, .int .i64 seen, .int .i64 put] 46))) := Only.below hB0
  have HK : Hid (TOk t) := ok
  have HF : Hid (t.fails + 1 ≤ 2 ^ 40) := F.fl
  have hrg := F.regs
  have HBS : Hid (base ≤ (w.alloc (.cells #[.int .i64 kind, .int .i64 cell, .int .i64 seen, .int .i64 put] 46)).heap.size) := Nat.le_trans hbs hB0.size
  have HCl : Hid (-1 ≤ t.clock ∧ t.clock ≤ 2 ^ 50) := F.clk (by omega)
  have HAt : Hid (t.at_ ≤ 1000) := F.at' (by omega)
  have HHt : Hid (t.step = 24 → t.at_ < t.held.length) := F.hat
  clear R ok hbs F hB0
  go_enter Tryz.func45, Tryz.ntmps45
  go_wp2_with fail
  refine (t_followStore base p z A B t L _ HRa.out HK.out HCl.out (by omega) HAt.out HHt.out).mono ?_
  rintro e w2 ⟨rfl, a1, a2⟩
  go_wp2
  go_end0
  exact ⟨rfl, L, (HRa.out).by a1 a2 (lists_store t), Goes.only ((HOa.out).trans a2)⟩

set_option maxRecDepth 100000 in
set_option maxHeartbeats 2000000 in
theorem t_follow27 (R : TR base p z A B w t L) (ok : TOk t) (hbs : base ≤ w.heap.size) (kind cell seen put draw : Int) (F : FOk t seen put draw) (hs : t.step = 27) :
    Calls Tryz.prog 45 #[.pointer (some ⟨p, z, none⟩), .agg #[.int .i64 kind, .int .i64 cell, .int .i64 seen, .int .i64 put], .int .i64 draw] w (Dids base p z A B (yNextJob t) L w) := by
  have h13 := R.tt.cStep
  rw [hs] at h13
  have hlt := R.tt.lt
  have hne : p ≠ w.heap.size := by omega
  have hB0 : Below w.heap.size w (w.alloc (.cells #[.int .i64 kind, .int .i64 cell, .int .i64 seen, .int .i64 put] 46)) := (Below.refl _ _).alloc (Nat.le_refl _) _
  have HRa : Hid (TR base p z A B (w.alloc (.cells #[.int .i64 kind, .int .i64 cell, .int .i64 seen, .int .i64 put] 46)) t L) := R.below hB0
  have HOa : Hid (Only p w (w.alloc (.cells #[.int .i64 kind, .int .i64 cell, .int .i64 seen, .int .i64 put] 46))) := Only.below hB0
  have HK : Hid (TOk t) := ok
  have HF : Hid (t.fails + 1 ≤ 2 ^ 40) := F.fl
  have hrg := F.regs
  have HBS : Hid (base ≤ (w.alloc (.cells #[.int .i64 kind, .int .i64 cell, .int .i64 seen, .int .i64 put] 46)).heap.size) := Nat.le_trans hbs hB0.size
  clear R ok hbs F hB0
  go_enter Tryz.func45, Tryz.ntmps45
  go_wp2_with fail
  refine (t_nextJob p z A B t L _ (HRa.out).tt HK.out).mono ?_
  rintro e w2 ⟨rfl, a1, a2⟩
  go_wp2
  go_end0
  exact ⟨rfl, L, (HRa.out).by a1 a2 (lists_begin _), Goes.only ((HOa.out).trans a2)⟩

set_option maxRecDepth 100000 in
set_option maxHeartbeats 2000000 in
theorem t_follow28 (R : TR base p z A B w t L) (ok : TOk t) (hbs : base ≤ w.heap.size) (kind cell seen put draw : Int) (F : FOk t seen put draw) (hs : t.step = 28) :
    Calls Tryz.prog 45 #[.pointer (some ⟨p, z, none⟩), .agg #[.int .i64 kind, .int .i64 cell, .int .i64 seen, .int .i64 put], .int .i64 draw] w (Dids base p z A B (yFollowFail put t) L w) := by
  have h13 := R.tt.cStep
  rw [hs] at h13
  have hlt := R.tt.lt
  have hne : p ≠ w.heap.size := by omega
  have hB0 : Below w.heap.size w (w.alloc (.cells #[.int .i64 kind, .int .i64 cell, .int .i64 seen, .int .i64 put] 46)) := (Below.refl _ _).alloc (Nat.le_refl _) _
  have HRa : Hid (TR base p z A B (w.alloc (.cells #[.int .i64 kind, .int .i64 cell, .int .i64 seen, .int .i64 put] 46)) t L) := R.below hB0
  have HOa : Hid (Only p w (w.alloc (.cells #[.int .i64 kind, .int .i64 cell, .int .i64 seen, .int .i64 put] 46))) := Only.below hB0
  have HK : Hid (TOk t) := ok
  have HF : Hid (t.fails + 1 ≤ 2 ^ 40) := F.fl
  have hrg := F.regs
  have HBS : Hid (base ≤ (w.alloc (.cells #[.int .i64 kind, .int .i64 cell, .int .i64 seen, .int .i64 put] 46)).heap.size) := Nat.le_trans hbs hB0.size
  have HAt : Hid (t.at_ ≤ 1000) := F.at' (by omega)
  have HPu : Hid (0 ≤ put ∧ put ≤ 2 ^ 40) := F.put (by omega)
  clear R ok hbs F hB0
  go_enter Tryz.func45, Tryz.ntmps45
  go_wp2_with fail
  refine (t_followFail base p z A B t L _ HRa.out HK.out HF.out (by omega) HAt.out put HPu.out).mono ?_
  rintro e w2 ⟨rfl, a1, a2⟩
  go_wp2
  go_end0
  exact ⟨rfl, L, (HRa.out).by a1 a2 (lists_ffail put t), Goes.only ((HOa.out).trans a2)⟩

set_option maxRecDepth 100000 in
set_option maxHeartbeats 2000000 in
theorem t_follow29 (R : TR base p z A B w t L) (ok : TOk t) (hbs : base ≤ w.heap.size) (kind cell seen put draw : Int) (F : FOk t seen put draw) (hs : t.step = 29) :
    Calls Tryz.prog 45 #[.pointer (some ⟨p, z, none⟩), .agg #[.int .i64 kind, .int .i64 cell, .int .i64 seen, .int .i64 put], .int .i64 draw] w (Dids base p z A B (yFollowFail put t) L w) := by
  have h13 := R.tt.cStep
  rw [hs] at h13
  have hlt := R.tt.lt
  have hne : p ≠ w.heap.size := by omega
  have hB0 : Below w.heap.size w (w.alloc (.cells #[.int .i64 kind, .int .i64 cell, .int .i64 seen, .int .i64 put] 46)) := (Below.refl _ _).alloc (Nat.le_refl _) _
  have HRa : Hid (TR base p z A B (w.alloc (.cells #[.int .i64 kind, .int .i64 cell, .int .i64 seen, .int .i64 put] 46)) t L) := R.below hB0
  have HOa : Hid (Only p w (w.alloc (.cells #[.int .i64 kind, .int .i64 cell, .int .i64 seen, .int .i64 put] 46))) := Only.below hB0
  have HK : Hid (TOk t) := ok
  have HF : Hid (t.fails + 1 ≤ 2 ^ 40) := F.fl
  have hrg := F.regs
  have HBS : Hid (base ≤ (w.alloc (.cells #[.int .i64 kind, .int .i64 cell, .int .i64 seen, .int .i64 put] 46)).heap.size) := Nat.le_trans hbs hB0.size
  have HAt : Hid (t.at_ ≤ 1000) := F.at' (by omega)
  have HPu : Hid (0 ≤ put ∧ put ≤ 2 ^ 40) := F.put (by omega)
  clear R ok hbs F hB0
  go_enter Tryz.func45, Tryz.ntmps45
  go_wp2_with fail
  refine (t_followFail base p z A B t L _ HRa.out HK.out HF.out (by omega) HAt.out put HPu.out).mono ?_
  rintro e w2 ⟨rfl, a1, a2⟩
  go_wp2
  go_end0
  exact ⟨rfl, L, (HRa.out).by a1 a2 (lists_ffail put t), Goes.only ((HOa.out).trans a2)⟩

set_option maxRecDepth 100000 in
set_option maxHeartbeats 2000000 in
theorem t_follow30 (R : TR base p z A B w t L) (ok : TOk t) (hbs : base ≤ w.heap.size) (kind cell seen put draw : Int) (F : FOk t seen put draw) (hs : t.step = 30) :
    Calls Tryz.prog 45 #[.pointer (some ⟨p, z, none⟩), .agg #[.int .i64 kind, .int .i64 cell, .int .i64 seen, .int .i64 put], .int .i64 draw] w (Dids base p z A B (yFollowFail put t) L w) := by
  have h13 := R.tt.cStep
  rw [hs] at h13
  have hlt := R.tt.lt
  have hne : p ≠ w.heap.size := by omega
  have hB0 : Below w.heap.size w (w.alloc (.cells #[.int .i64 kind, .int .i64 cell, .int .i64 seen, .int .i64 put] 46)) := (Below.refl _ _).alloc (Nat.le_refl _) _
  have HRa : Hid (TR base p z A B (w.alloc (.cells #[.int .i64 kind, .int .i64 cell, .int .i64 seen, .int .i64 put] 46)) t L) := R.below hB0
  have HOa : Hid (Only p w (w.alloc (.cells #[.int .i64 kind, .int .i64 cell, .int .i64 seen, .int .i64 put] 46))) := Only.below hB0
  have HK : Hid (TOk t) := ok
  have HF : Hid (t.fails + 1 ≤ 2 ^ 40) := F.fl
  have hrg := F.regs
  have HBS : Hid (base ≤ (w.alloc (.cells #[.int .i64 kind, .int .i64 cell, .int .i64 seen, .int .i64 put] 46)).heap.size) := Nat.le_trans hbs hB0.size
  have HAt : Hid (t.at_ ≤ 1000) := F.at' (by omega)
  have HPu : Hid (0 ≤ put ∧ put ≤ 2 ^ 40) := F.put (by omega)
  clear R ok hbs F hB0
  go_enter Tryz.func45, Tryz.ntmps45
  go_wp2_with fail
  refine (t_followFail base p z A B t L _ HRa.out HK.out HF.out (by omega) HAt.out put HPu.out).mono ?_
  rintro e w2 ⟨rfl, a1, a2⟩
  go_wp2
  go_end0
  exact ⟨rfl, L, (HRa.out).by a1 a2 (lists_ffail put t), Goes.only ((HOa.out).trans a2)⟩

set_option maxRecDepth 100000 in
set_option maxHeartbeats 2000000 in
theorem t_follow31 (R : TR base p z A B w t L) (ok : TOk t) (hbs : base ≤ w.heap.size) (kind cell seen put draw : Int) (F : FOk t seen put draw) (hs : t.step = 31) :
    Calls Tryz.prog 45 #[.pointer (some ⟨p, z, none⟩), .agg #[.int .i64 kind, .int .i64 cell, .int .i64 seen, .int .i64 put], .int .i64 draw] w (Dids base p z A B (yLose seen draw t) L w) := by
  have h13 := R.tt.cStep
  rw [hs] at h13
  have hlt := R.tt.lt
  have hne : p ≠ w.heap.size := by omega
  have hB0 : Below w.heap.size w (w.alloc (.cells #[.int .i64 kind, .int .i64 cell, .int .i64 seen, .int .i64 put] 46)) := (Below.refl _ _).alloc (Nat.le_refl _) _
  have HRa : Hid (TR base p z A B (w.alloc (.cells #[.int .i64 kind, .int .i64 cell, .int .i64 seen, .int .i64 put] 46)) t L) := R.below hB0
  have HOa : Hid (Only p w (w.alloc (.cells #[.int .i64 kind, .int .i64 cell, .int .i64 seen, .int .i64 put] 46))) := Only.below hB0
  have HK : Hid (TOk t) := ok
  have HF : Hid (t.fails + 1 ≤ 2 ^ 40) := F.fl
  have hrg := F.regs
  have HBS : Hid (base ≤ (w.alloc (.cells #[.int .i64 kind, .int .i64 cell, .int .i64 seen, .int .i64 put] 46)).heap.size) := Nat.le_trans hbs hB0.size
  have HS0 : Hid (0 ≤ seen) := F.s0 (by omega)
  have HWy : Hid (0 ≤ t.wayTo ∧ t.wayTo ≤ 100) := F.way (by omega)
  clear R ok hbs F hB0
  go_enter Tryz.func45, Tryz.ntmps45
  go_wp2_with fail
  refine (t_lose p z A B t L _ (HRa.out).tt HK.out seen draw HS0.out HWy.out).mono ?_
  rintro e w2 ⟨rfl, a1, a2⟩
  go_wp2
  go_end0
  exact ⟨rfl, L, (HRa.out).by a1 a2 (lists_lose seen draw t), Goes.only ((HOa.out).trans a2)⟩

set_option maxRecDepth 100000 in
set_option maxHeartbeats 2000000 in
theorem t_follow32 (R : TR base p z A B w t L) (ok : TOk t) (hbs : base ≤ w.heap.size) (kind cell seen put draw : Int) (F : FOk t seen put draw) (hs : t.step = 32) :
    Calls Tryz.prog 45 #[.pointer (some ⟨p, z, none⟩), .agg #[.int .i64 kind, .int .i64 cell, .int .i64 seen, .int .i64 put], .int .i64 draw] w (Dids base p z A B (yAwait seen t) L w) := by
  have h13 := R.tt.cStep
  rw [hs] at h13
  have hlt := R.tt.lt
  have hne : p ≠ w.heap.size := by omega
  have hB0 : Below w.heap.size w (w.alloc (.cells #[.int .i64 kind, .int .i64 cell, .int .i64 seen, .int .i64 put] 46)) := (Below.refl _ _).alloc (Nat.le_refl _) _
  have HRa : Hid (TR base p z A B (w.alloc (.cells #[.int .i64 kind, .int .i64 cell, .int .i64 seen, .int .i64 put] 46)) t L) := R.below hB0
  have HOa : Hid (Only p w (w.alloc (.cells #[.int .i64 kind, .int .i64 cell, .int .i64 seen, .int .i64 put] 46))) := Only.below hB0
  have HK : Hid (TOk t) := ok
  have HF : Hid (t.fails + 1 ≤ 2 ^ 40) := F.fl
  have hrg := F.regs
  have HBS : Hid (base ≤ (w.alloc (.cells #[.int .i64 kind, .int .i64 cell, .int .i64 seen, .int .i64 put] 46)).heap.size) := Nat.le_trans hbs hB0.size
  have HS0 : Hid (0 ≤ seen) := F.s0 (by omega)
  have HSn : Hid (seen ≤ 1125899906842624) := F.sn.2
  clear R ok hbs F hB0
  go_enter Tryz.func45, Tryz.ntmps45
  go_wp2_with fail
  refine (t_await p z A B t L _ (HRa.out).tt HK.out seen HS0.out HSn.out).mono ?_
  rintro e w2 ⟨rfl, a1, a2⟩
  go_wp2
  go_end0
  exact ⟨rfl, L, (HRa.out).by a1 a2 (lists_await seen t), Goes.only ((HOa.out).trans a2)⟩

set_option maxRecDepth 100000 in
set_option maxHeartbeats 2000000 in
theorem t_follow26 (R : TR base p z A B w t L) (ok : TOk t) (hbs : base ≤ w.heap.size) (kind cell seen put draw : Int) (F : FOk t seen put draw) (hs : t.step = 26) :
    Calls Tryz.prog 45 #[.pointer (some ⟨p, z, none⟩), .agg #[.int .i64 kind, .int .i64 cell, .int .i64 seen, .int .i64 put], .int .i64 draw] w (Dids base p z A B (yLetGo { t with at_ := t.at_ + 1 }) L w) := by
  have h13 := R.tt.cStep
  rw [hs] at h13
  have h38 := R.tt.cAt
  have hf := R.tt.froz
  have hlt := R.tt.lt
  have hne : p ≠ w.heap.size := by omega
  have hat := F.at' (by omega)
  have hwk : IntKind.i64.wrap ((t.at_ : Int) + 1) = ((t.at_ + 1 : Nat) : Int) := by rw [wrapP _ (by omega) (by omega)]; omega
  have hb1 : TAt ((w.setCell ⟨p, z + 18 + 20, none⟩ (.int .i64 ((t.at_ + 1 : Nat) : Int))).alloc (.cells #[.int .i64 kind, .int .i64 cell, .int .i64 seen, .int .i64 put] 46)) p z A B { t with at_ := t.at_ + 1 } L := TAt.below (R.tt.set (t' := { t with at_ := t.at_ + 1 }) 38 (by decide) (.int .i64 ((t.at_ + 1 : Nat) : Int)) rfl) ((Below.refl _ _).alloc (Nat.le_refl _) _)
  have ho1 : Only p w ((w.setCell ⟨p, z + 18 + 20, none⟩ (.int .i64 ((t.at_ + 1 : Nat) : Int))).alloc (.cells #[.int .i64 kind, .int .i64 cell, .int .i64 seen, .int .i64 put] 46)) := ((Only.refl _ _).set).trans (Only.below ((Below.refl _ _).alloc (Nat.le_refl _) _))
  have HRa : Hid (TR base p z A B ((w.setCell ⟨p, z + 18 + 20, none⟩ (.int .i64 ((t.at_ + 1 : Nat) : Int))).alloc (.cells #[.int .i64 kind, .int .i64 cell, .int .i64 seen, .int .i64 put] 46)) { t with at_ := t.at_ + 1 } L) := R.next hb1 ho1 rfl rfl rfl rfl
  have HOa : Hid (Only p w ((w.setCell ⟨p, z + 18 + 20, none⟩ (.int .i64 ((t.at_ + 1 : Nat) : Int))).alloc (.cells #[.int .i64 kind, .int .i64 cell, .int .i64 seen, .int .i64 put] 46))) := ho1
  have HK : Hid (TOk t) := ok
  clear R ok hbs F hb1 ho1 hat
  go_enter Tryz.func45, Tryz.ntmps45
  go_wp2_with fail
  refine (t_letGo base p z A B { t with at_ := t.at_ + 1 } L _ HRa.out HK.out).mono ?_
  rintro e w2 ⟨rfl, a1, a2⟩
  go_wp2
  go_end0
  exact ⟨rfl, L, (HRa.out).by a1 a2 (lists_letgo _), Goes.only ((HOa.out).trans a2)⟩

theorem t_follow (R : TR base p z A B w t L) (ok : TOk t) (hbs : base ≤ w.heap.size) (kind cell seen put draw : Int) (F : FOk t seen put draw) :
    Calls Tryz.prog 45 #[.pointer (some ⟨p, z, none⟩), .agg #[.int .i64 kind, .int .i64 cell, .int .i64 seen, .int .i64 put], .int .i64 draw] w (Dids base p z A B (yFollow seen put draw t) L w) := by
  have hst : t.step = 2 ∨ t.step = 3 ∨ t.step = 4 ∨ t.step = 5 ∨ t.step = 6 ∨ t.step = 7 ∨ t.step = 8 ∨ t.step = 9 ∨ t.step = 10 ∨ t.step = 11 ∨ t.step = 12 ∨ t.step = 13 ∨ t.step = 14 ∨ t.step = 15 ∨ t.step = 16 ∨ t.step = 17 ∨ t.step = 18 ∨ t.step = 19 ∨ t.step = 20 ∨ t.step = 21 ∨ t.step = 22 ∨ t.step = 23 ∨ t.step = 24 ∨ t.step = 25 ∨ t.step = 26 ∨ t.step = 27 ∨ t.step = 28 ∨ t.step = 29 ∨ t.step = 30 ∨ t.step = 31 ∨ t.step = 32 := by have := F.step; omega
  rcases hst with hs | hs | hs | hs | hs | hs | hs | hs | hs | hs | hs | hs | hs | hs | hs | hs | hs | hs | hs | hs | hs | hs | hs | hs | hs | hs | hs | hs | hs | hs | hs
  · rw [show yFollow seen put draw t = yNew t seen from by simp [yFollow, hs]]
    exact t_followBegin base p z A B t L w R hs kind cell seen put draw
  · rw [show yFollow seen put draw t = yFollowRead seen t from by simp [yFollow, hs]]
    exact t_follow3 base p z A B t L w R ok hbs kind cell seen put draw F hs
  · rw [show yFollow seen put draw t = yFollowRead seen t from by simp [yFollow, hs]]
    exact t_follow4 base p z A B t L w R ok hbs kind cell seen put draw F hs
  · rw [show yFollow seen put draw t = yFollowRead seen t from by simp [yFollow, hs]]
    exact t_follow5 base p z A B t L w R ok hbs kind cell seen put draw F hs
  · rw [show yFollow seen put draw t = yFollowRead seen t from by simp [yFollow, hs]]
    exact t_follow6 base p z A B t L w R ok hbs kind cell seen put draw F hs
  · rw [show yFollow seen put draw t = yFollowGet seen t from by simp [yFollow, hs]]
    exact t_follow7 base p z A B t L w R ok hbs kind cell seen put draw F hs
  · rw [show yFollow seen put draw t = yFollowGet seen t from by simp [yFollow, hs]]
    exact t_follow8 base p z A B t L w R ok hbs kind cell seen put draw F hs
  · rw [show yFollow seen put draw t = yFollowGet seen t from by simp [yFollow, hs]]
    exact t_follow9 base p z A B t L w R ok hbs kind cell seen put draw F hs
  · rw [show yFollow seen put draw t = yFollowGet seen t from by simp [yFollow, hs]]
    exact t_follow10 base p z A B t L w R ok hbs kind cell seen put draw F hs
  · rw [show yFollow seen put draw t = yFollowGet seen t from by simp [yFollow, hs]]
    exact t_follow11 base p z A B t L w R ok hbs kind cell seen put draw F hs
  · rw [show yFollow seen put draw t = yFollowExt seen t from by simp [yFollow, hs]]
    exact t_follow12 base p z A B t L w R ok hbs kind cell seen put draw F hs
  · rw [show yFollow seen put draw t = yFollowExt seen t from by simp [yFollow, hs]]
    exact t_follow13 base p z A B t L w R ok hbs kind cell seen put draw F hs
  · rw [show yFollow seen put draw t = yFollowTicket seen put t from by simp [yFollow, hs]]
    exact t_follow14 base p z A B t L w R ok hbs kind cell seen put draw F hs
  · rw [show yFollow seen put draw t = yFollowTicket seen put t from by simp [yFollow, hs]]
    exact t_follow15 base p z A B t L w R ok hbs kind cell seen put draw F hs
  · rw [show yFollow seen put draw t = yFollowCommit seen t from by simp [yFollow, hs]]
    exact t_follow16 base p z A B t L w R ok hbs kind cell seen put draw F hs
  · rw [show yFollow seen put draw t = yFollowCommit seen t from by simp [yFollow, hs]]
    exact t_follow17 base p z A B t L w R ok hbs kind cell seen put draw F hs
  · rw [show yFollow seen put draw t = yFollowCommit seen t from by simp [yFollow, hs]]
    exact t_follow18 base p z A B t L w R ok hbs kind cell seen put draw F hs
  · rw [show yFollow seen put draw t = yFollowCommit seen t from by simp [yFollow, hs]]
    exact t_follow19 base p z A B t L w R ok hbs kind cell seen put draw F hs
  · rw [show yFollow seen put draw t = yFollowStore t from by simp [yFollow, hs]]
    exact t_follow20 base p z A B t L w R ok hbs kind cell seen put draw F hs
  · rw [show yFollow seen put draw t = yFollowStore t from by simp [yFollow, hs]]
    exact t_follow21 base p z A B t L w R ok hbs kind cell seen put draw F hs
  · rw [show yFollow seen put draw t = yFollowStore t from by simp [yFollow, hs]]
    exact t_follow22 base p z A B t L w R ok hbs kind cell seen put draw F hs
  · rw [show yFollow seen put draw t = yFollowStore t from by simp [yFollow, hs]]
    exact t_follow23 base p z A B t L w R ok hbs kind cell seen put draw F hs
  · rw [show yFollow seen put draw t = yFollowStore t from by simp [yFollow, hs]]
    exact t_follow24 base p z A B t L w R ok hbs kind cell seen put draw F hs
  · rw [show yFollow seen put draw t = yFollowStore t from by simp [yFollow, hs]]
    exact t_follow25 base p z A B t L w R ok hbs kind cell seen put draw F hs
  · rw [show yFollow seen put draw t = yLetGo { t with at_ := t.at_ + 1 } from by simp [yFollow, hs]]
    exact t_follow26 base p z A B t L w R ok hbs kind cell seen put draw F hs
  · rw [show yFollow seen put draw t = yNextJob t from by simp [yFollow, hs]]
    exact t_follow27 base p z A B t L w R ok hbs kind cell seen put draw F hs
  · rw [show yFollow seen put draw t = yFollowFail put t from by simp [yFollow, hs]]
    exact t_follow28 base p z A B t L w R ok hbs kind cell seen put draw F hs
  · rw [show yFollow seen put draw t = yFollowFail put t from by simp [yFollow, hs]]
    exact t_follow29 base p z A B t L w R ok hbs kind cell seen put draw F hs
  · rw [show yFollow seen put draw t = yFollowFail put t from by simp [yFollow, hs]]
    exact t_follow30 base p z A B t L w R ok hbs kind cell seen put draw F hs
  · rw [show yFollow seen put draw t = yLose seen draw t from by simp [yFollow, hs]]
    exact t_follow31 base p z A B t L w R ok hbs kind cell seen put draw F hs
  · rw [show yFollow seen put draw t = yAwait seen t from by simp [yFollow, hs]]
    exact t_follow32 base p z A B t L w R ok hbs kind cell seen put draw F hs
end

end Go.Proofs.YtgdfmmfkdmhdgaaGreat
