import Derived.Test.YtejadojilncbjabJ08
import Derived.Deep.RegionLaw
namespace Go.Proofs.Ytejadojilncbjab
open Go.RowKit
set_option linter.unusedVariables false
attribute [local go_sem ↓] Go.wp_at_zero Go.wp_at_succ

def ivs (v : List Int) : List Value := v.map (Value.int .i64 ·)
def chs (U : List (Nat × Int)) : List Value := U.flatMap fun c => [.int .i64 (c.1 : Int), .int .i64 c.2]

/-- The changes taken back, the last one first. -/
def tb (U : List (Nat × Int)) (v : List Int) : List Int := U.foldr (fun c v => v.set c.1 c.2) v

theorem tb_snoc (U : List (Nat × Int)) (c : Nat × Int) (v : List Int) : tb (U ++ [c]) v = tb U (v.set c.1 c.2) := by simp [tb]
theorem chs_snoc (U : List (Nat × Int)) (c : Nat × Int) : chs (U ++ [c]) = chs U ++ [.int .i64 (c.1 : Int), .int .i64 c.2] := by simp [chs]
theorem chs_get : ∀ (U : List (Nat × Int)) (i : Nat), i < U.length → (chs U)[i * 2]? = some (.int .i64 ((U.getD i (0, 0)).1 : Int)) ∧ (chs U)[i * 2 + 1]? = some (.int .i64 (U.getD i (0, 0)).2)
  | [], i, h => by simp at h
  | c :: U, 0, h => ⟨rfl, rfl⟩
  | c :: U, i + 1, h => by
    have := chs_get U i (by simpa using h)
    rw [show (i + 1) * 2 = i * 2 + 2 by omega]
    exact this

theorem own_cell {w : World} {base e s n c j : Nat} {a : Option Addr} {xs : List Value} {u : Value} (h : w.ownsRow base e s (.slice a n c) n xs) (hj : xs[j]? = some u) : ∃ g, a = some ⟨g, 0, none⟩ ∧ base ≤ g ∧ g < w.heap.size ∧ w.cell? ⟨g, j, none⟩ = some u := by
  rcases h.2 with ⟨h1, h2⟩ | ⟨g, cap, cur, h1, h2, h3, h4, h5, h6, h7⟩
  · have h8 := h.1
    rw [h2, Nat.zero_mul] at h8
    rw [List.length_eq_zero_iff.1 h8] at hj
    cases hj
  · cases h1
    refine ⟨g, rfl, h2, (Array.getElem?_eq_some_iff.1 h3).1, ?_⟩
    have hb : Blk w g e cur := h3
    rw [hb.cell j]
    rw [← h7, List.getElem?_take] at hj
    split at hj
    · rw [← hj]; simp
    · cases hj

/-- The judge's words in memory. -/
structure WdR (w : World) (B p vb : Nat) (v : List Int) (ua : Option Addr) (uc : Nat) (U : List (Nat × Int)) : Prop where
  pb : Blk w p 92 #[.slice (some ⟨vb, 0, none⟩) v.length v.length, .slice ua U.length uc]
  vals : Blk w vb 3 (ivs v).toArray
  undo : w.ownsRow B 115 2 (.slice ua U.length uc) U.length (chs U)
  lp : B ≤ p
  lv : B ≤ vb

theorem WdR.ne {w : World} {B p vb : Nat} {v : List Int} {ua : Option Addr} {uc : Nat} {U : List (Nat × Int)} (h : WdR w B p vb v ua uc U) : p ≠ vb := h.pb.ne h.vals (by decide)

theorem WdR.undoNe {w : World} {B p vb : Nat} {v : List Int} {ua : Option Addr} {uc : Nat} {U : List (Nat × Int)} (h : WdR w B p vb v ua uc U) {g : Nat} (hg : ua = some ⟨g, 0, none⟩) : g ≠ p ∧ g ≠ vb := by
  rcases h.undo.2 with ⟨h1, _⟩ | ⟨g2, cap, cur, h1, h2, h3, _⟩
  · rw [hg] at h1; cases h1
  · rw [hg] at h1
    cases h1
    have hb : Blk w g 115 cur := h3
    exact ⟨hb.ne h.pb (by decide), hb.ne h.vals (by decide)⟩

theorem own_only {w w' : World} {base e s n p : Nat} {v : Value} {xs : List Value} (h : w.ownsRow base e s v n xs) (ho : Only p w w') (hne : v.ownBlock ≠ some p) : w'.ownsRow base e s v n xs := by
  refine ⟨h.1, ?_⟩
  rcases h.2 with q | ⟨g, cap, cur, h1, h2, h3, h4⟩
  · exact Or.inl q
  · refine Or.inr ⟨g, cap, cur, h1, h2, ?_, h4⟩
    have hb : Blk w g e cur := h3
    exact hb.only ho fun q => hne (by rw [h1, ← q]; rfl)

/-- A word is set. -/
theorem WdR.put {w : World} {B p vb : Nat} {v : List Int} {ua : Option Addr} {uc : Nat} {U : List (Nat × Int)} (h : WdR w B p vb v ua uc U) (a : Nat) (x : Int) : WdR (w.setCell ⟨vb, a, none⟩ (.int .i64 x)) B p vb (v.set a x) ua uc U := by
  have ho : Only vb w (w.setCell ⟨vb, a, none⟩ (.int .i64 x)) := (Only.refl _ _).set
  refine ⟨?_, ?_, own_only h.undo ho ?_, h.lp, h.lv⟩
  · rw [List.length_set]
    exact h.pb.only ho h.ne
  · refine (h.vals.set).congr ?_
    rw [List.setIfInBounds_toArray]
    unfold ivs
    rw [List.map_set]
  · intro q
    have hu := h.undo
    generalize hs : Value.slice ua U.length uc = sv at q
    cases ua with
    | none => rw [← hs] at q; cases q
    | some g =>
      rcases hu.2 with ⟨h1, _⟩ | ⟨g2, cap, cur, h1, h2, h3, _⟩
      · cases h1
      · cases h1
        rw [← hs] at q
        cases q
        exact (h.undoNe rfl).2 rfl

theorem WdR.drew {w : World} {B p vb : Nat} {v : List Int} {ua : Option Addr} {uc : Nat} {U : List (Nat × Int)} (h : WdR w B p vb v ua uc U) : WdR w.drew B p vb v ua uc U := ⟨h.pb, h.vals, h.undo, h.lp, h.lv⟩

theorem WdR.getV {w : World} {B p vb : Nat} {v : List Int} {ua : Option Addr} {uc : Nat} {U : List (Nat × Int)} (h : WdR w B p vb v ua uc U) {a : Nat} (ha : a < v.length) : w.cell? ⟨vb, a, none⟩ = some (.int .i64 (v.getD a 0)) := by
  rw [h.vals.cell a]
  simp [ivs, List.getElem?_eq_getElem ha, List.getD]

/-- Attempts that stand in blocks of their own stay. -/
def KpA (w w' : World) : Prop := ∀ k cs, Blk w k 66 cs → Blk w' k 66 cs

theorem KpA.refl (w : World) : KpA w w := fun _ _ h => h
theorem KpA.trans {a b c : World} (h : KpA a b) (k : KpA b c) : KpA a c := fun x cs q => k x cs (h x cs q)
theorem KpA.only {p : Nat} {t : TypeId} {w w' : World} {cs : Array Value} (hb : Blk w p t cs) (ht : 66 ≠ t) (ho : Only p w w') : KpA w w' := fun k ds h => h.only ho (h.ne hb ht)
theorem KpA.below {w w' : World} (h : Below w.heap.size w w') : KpA w w' := fun k ds q => q.below h q.lt

/-- What a change of the words leaves. -/
def WdIs (w : World) (B p vb : Nat) (v : List Int) (U : List (Nat × Int)) (e : Ending) (w' : World) : Prop := e = .returned (.tuple #[]) ∧ ∃ ua uc, WdR w' B p vb v ua uc U ∧ Below B w w' ∧ KpA w w'

abbrev BackS (p vb ub i : Nat) (n : Nat) (ua : Option Addr) (k uc : Nat) (A : Int) (x : Int) (w : World) : Prop :=
  w.cell? ⟨p, 0, none⟩ = some (.slice (some ⟨vb, 0, none⟩) n n) ∧ w.cell? ⟨p, 1, none⟩ = some (.slice (some ⟨ub, 0, none⟩) k uc) ∧ w.cell? ⟨ub, i * 2, none⟩ = some (.int .i64 A) ∧ w.cell? ⟨ub, i * 2 + 1, none⟩ = some (.int .i64 x)

set_option maxRecDepth 100000 in
set_option maxHeartbeats 4000000 in
/-- takeBack. -/
theorem back_any (B p vb : Nat) (v : List Int) (ua : Option Addr) (uc : Nat) (U : List (Nat × Int)) (hU : ∀ c ∈ U, c.1 < v.length) (hv : v.length ≤ 2097152) (hUl : U.length ≤ 2097152) (w : World) (h : WdR w B p vb v ua uc U) :
    Calls Try.prog 47 #[.pointer (some ⟨p, 0, none⟩)] w (WdIs w B p vb (tb U v) U) := by
  have HH : Hid (WdR w B p vb v ua uc U) := h
  have HU : Hid (∀ c ∈ U, c.1 < v.length) := hU
  have hpc := h.pb.cell
  have hwN : IntKind.i64.wrap ((U.length : Int) - 1) = (U.length : Int) - 1 := wrapJ9 _ (by omega) (by omega)
  clear h hU
  go_enter Try.func47, Try.ntmps47
  go_wp2_with fail
  clear hwN hpc
  go_loopg [2] (U.length + 1) (fun m t2 wr => ∃ (k : Nat) (z : Int) (y : List Int), t2 = .int .i64 z ∧ z = (k : Int) - 1 ∧ k ≤ U.length ∧ m = k + 1 ∧ y.length = v.length ∧ Hid (tb (U.take k) y = tb U v) ∧ Hid (WdR wr B p vb y ua uc U) ∧ Hid (Below B w wr) ∧ Hid (KpA w wr))
  case atStart => exact ⟨U.length, _, v, rfl, rfl, by omega, rfl, rfl, by rw [List.take_length]; rfl, HH, Below.refl _ _, KpA.refl _⟩
  case round =>
    obtain ⟨k, z, y, rfl, hz, hk, hgk, hyl, HT, HR, HB, HKA⟩ := hrel
    obtain ⟨wi, hwi⟩ : ∃ wi, wi = wr := ⟨_, rfl⟩
    subst hwi
    by_cases hk0 : k = 0
    · subst hk0
      have hzz : ¬ z ≥ 0 := by omega
      have hzd : decide (z ≥ 0) = false := by simpa using hzz
      have HE : Hid (y = tb U v) := HT.out
      clear HT hz
      go_wp2_with fail
      go_end0
      exact ⟨rfl, ua, uc, by rw [← HE.out]; exact HR.out, HB.out, HKA.out⟩
    · obtain ⟨i, hi⟩ : ∃ i, k = i + 1 := ⟨k - 1, by omega⟩
      have hzi : z = (i : Int) := by omega
      subst hi
      clear hz hk0
      subst hzi
      obtain ⟨g1, g2⟩ := chs_get U i (by omega)
      obtain ⟨ub, hub, _, hul, u1⟩ := own_cell (HR.out).undo g1
      obtain ⟨ub', hub', _, _, u2⟩ := own_cell (HR.out).undo g2
      rw [hub] at hub'
      cases hub'
      have hcl : (U.getD i (0, 0)).1 < y.length := by
        rw [hyl]
        refine HU.out _ ?_
        rw [List.getD_eq_getElem?_getD, List.getElem?_eq_getElem (show i < U.length by omega)]
        exact List.getElem_mem _
      have htk : U.take (i + 1) = U.take i ++ [U.getD i (0, 0)] := by
        rw [List.getD_eq_getElem?_getD, List.getElem?_eq_getElem (show i < U.length by omega), List.take_add_one, List.getElem?_eq_getElem (show i < U.length by omega)]
        rfl
      have hT := HT.out
      rw [htk, tb_snoc] at hT
      obtain ⟨⟨A, X⟩, hAX⟩ : ∃ c : Nat × Int, c = U.getD i (0, 0) := ⟨_, rfl⟩
      rw [← hAX] at u1 u2 hcl hT
      simp only at u1 u2 hcl hT
      have HTn : Hid (tb (U.take i) (y.set A X) = tb U v) := hT
      have HRn : Hid (WdR (wi.drew.setCell ⟨vb, A, none⟩ (.int .i64 X)) B p vb (y.set A X) ua uc U) := (HR.out).drew.put A X
      have HBn : Hid (Below B w (wi.drew.setCell ⟨vb, A, none⟩ (.int .i64 X))) := ((HB.out).drew).setCell (HR.out).lv _
      have HKn : Hid (KpA w (wi.drew.setCell ⟨vb, A, none⟩ (.int .i64 X))) := (HKA.out).trans ((KpA.below (jbDrew wi)).trans (KpA.only (HR.out).drew.vals (by decide) ((Only.refl _ _).set)))
      have hpc := (HR.out).pb.cell
      have hvc := (HR.out).getV hcl
      have hvf := (HR.out).vals.frozen A
      have A0 : (0 : Int) ≤ (A : Int) := by omega
      have A1 : (A : Int) < (v.length : Int) := by omega
      have i0 : (0 : Int) ≤ (i : Int) := by omega
      have i0' : (i : Int) ≥ 0 := by omega
      have i1 : (i : Int) < (U.length : Int) := by omega
      have hwi1 : IntKind.i64.wrap ((i : Int) - 1) = (i : Int) - 1 := wrapJ9 _ (by omega) (by omega)
      have hyl2 : (y.set A X).length = v.length := by rw [List.length_set]; exact hyl
      rw [hyl] at hpc
      subst hub
      clear hT htk hAX HT g1 g2
      have HS0 : Hid (BackS p vb ub i v.length (some ⟨ub, 0, none⟩) U.length uc (A : Int) X wi.drew) := ⟨hpc 0, hpc 1, u1, u2⟩
      have HS1 : Hid (BackS p vb ub i v.length (some ⟨ub, 0, none⟩) U.length uc (A : Int) X (wi.drew.setCell ⟨vb, A, none⟩ (.int .i64 X))) := by
        have h1 := (HRn.out).pb.cell
        rw [hyl2] at h1
        have hne := ((HR.out).undoNe rfl).2
        have ho : Only vb wi.drew (wi.drew.setCell ⟨vb, A, none⟩ (.int .i64 X)) := (Only.refl _ _).set
        have up : ∀ o, (wi.drew.setCell ⟨vb, A, none⟩ (.int .i64 X)).cell? ⟨ub, o, none⟩ = wi.cell? ⟨ub, o, none⟩ := fun o => World.cell?_of_block (ho.block ub hul hne)
        exact ⟨h1 0, h1 1, (up _).trans u1, (up _).trans u2⟩
      go_wp2_with fail
      clear hpc u1 u2
      go_region_held3 (fun w' => BackS p vb ub i v.length (some ⟨ub, 0, none⟩) U.length uc (A : Int) X w')
        (first | exact HS0.out | exact HS1.out | fail)
        (fail)
      all_goals
        go_wp2
        go_roundg (i + 1)
        case rel => exact ⟨i, _, y.set A X, rfl, rfl, by omega, rfl, hyl2, HTn, HRn, HBn, HKn⟩
        case measure => omega

end Go.Proofs.Ytejadojilncbjab

namespace Go.Proofs.Ytejadojilncbjab
open Go.RowKit
set_option linter.unusedVariables false
attribute [local go_sem ↓] Go.wp_at_zero Go.wp_at_succ

theorem infoCh : (Try.prog.info? 115).map (fun i => (i.zero, i.size, i.bytes)) = some (some (.agg #[.int .i64 0, .int .i64 0]), 2, 16) := by kernel_rfl

/-- A change is noted. -/
theorem WdR.note {w w7 : World} {B p vb : Nat} {v : List Int} {ua : Option Addr} {uc gg cap : Nat} {U : List (Nat × Int)} {c : Nat × Int} {o : Obj} (h : WdR w B p vb v ua uc U) (hBw : B ≤ w.heap.size)
    (hpne : (Value.slice ua U.length uc).ownBlock ≠ some p) (hvne : (Value.slice ua U.length uc).ownBlock ≠ some vb)
    (hgrow : (w.alloc o).drew.grownBy w7 (Value.slice ua U.length uc).ownBlock) (hat : (Value.slice ua U.length uc).ownBlock = some gg ∨ gg = w.heap.size + 1)
    (hown : w7.ownsRow B 115 2 (.slice (some ⟨gg, 0, none⟩) (U.length + 1) cap) (U.length + 1) (chs U ++ [.int .i64 (c.1 : Int), .int .i64 c.2])) :
    WdR (w7.setCell ⟨p, 1, none⟩ (.slice (some ⟨gg, 0, none⟩) (U.length + 1) cap)) B p vb v (some ⟨gg, 0, none⟩) cap (U ++ [c]) ∧ Below B w (w7.setCell ⟨p, 1, none⟩ (.slice (some ⟨gg, 0, none⟩) (U.length + 1) cap)) ∧ KpA w (w7.setCell ⟨p, 1, none⟩ (.slice (some ⟨gg, 0, none⟩) (U.length + 1) cap)) := by
  have hw1 : Below w.heap.size w (w.alloc o).drew := ((Below.refl _ _).alloc (Nat.le_refl _) _).drew
  have hp1 : Blk (w.alloc o).drew p _ _ := h.pb.below hw1 h.pb.lt
  have hv1 : Blk (w.alloc o).drew vb _ _ := h.vals.below hw1 h.vals.lt
  have hp7 : Blk w7 p _ _ := (hgrow.block p hp1.lt (Ne.symm hpne)).trans hp1
  have hv7 : Blk w7 vb _ _ := (hgrow.block vb hv1.lt (Ne.symm hvne)).trans hv1
  have hB7 : Below B w w7 := Below.grown (hw1.mono hBw) hgrow (Nat.le_trans hBw hw1.size) (own_ge h.undo)
  have ho : Only p w7 (w7.setCell ⟨p, 1, none⟩ (.slice (some ⟨gg, 0, none⟩) (U.length + 1) cap)) := (Only.refl _ _).set
  have hgp : gg ≠ p := by
    rcases hat with q | q
    · intro e; exact hpne (by rw [q, e])
    · have := h.pb.lt; omega
  have hK1 : KpA w w7 := fun k ds hk => by
    have h1 : Blk (w.alloc o).drew k _ ds := hk.below hw1 hk.lt
    refine (hgrow.block k h1.lt fun q => ?_).trans h1
    rcases h.undo.2 with ⟨h2, _⟩ | ⟨g2, cap2, cur, h2, _, h3, _⟩
    · rw [h2] at q; cases q
    · rw [h2] at q
      cases q
      have hb : Blk w g2 115 cur := h3
      exact hk.ne hb (by decide) rfl
  have hl : (U ++ [c]).length = U.length + 1 := by simp
  refine ⟨⟨?_, hv7.only ho (Ne.symm h.ne), ?_, h.lp, h.lv⟩, hB7.setCell h.lp _, hK1.trans (KpA.only hp7 (by decide) ho)⟩
  · rw [hl]
    exact (hp7.set).congr (by simp)
  · rw [hl, chs_snoc]
    exact own_only hown ho (fun q => hgp (by cases q; rfl))

set_option maxRecDepth 100000 in
set_option maxHeartbeats 4000000 in
/-- put. -/
theorem put_any (B p vb : Nat) (v : List Int) (ua : Option Addr) (uc : Nat) (U : List (Nat × Int)) (a : Nat) (x : Int) (ha : a < v.length) (hv : v.length ≤ 2097152) (hUl : U.length < 2097152) (w : World) (hBw : B ≤ w.heap.size) (h : WdR w B p vb v ua uc U) :
    Calls Try.prog 46 #[.pointer (some ⟨p, 0, none⟩), .int .i64 (a : Int), .int .i64 x] w (WdIs w B p vb (v.set a x) (U ++ [(a, v.getD a 0)])) := by
  obtain ⟨i0, hi0, hz0, hz1, hz2⟩ := info_parts infoCh
  have HH : Hid (WdR w B p vb v ua uc U) := h
  have hpc := h.pb.cell
  have hpf := h.pb.frozen
  have hplt := h.pb.lt
  have hvlt := h.vals.lt
  have hvc := h.getV ha
  obtain ⟨Y, hY⟩ : ∃ Y, Y = v.getD a 0 := ⟨_, rfl⟩
  rw [← hY] at hvc ⊢
  have a0 : (0 : Int) ≤ (a : Int) := by omega
  have a1 : (a : Int) < (v.length : Int) := by omega
  have H3 : Hid (w.ownsRow B 115 2 (.slice ua U.length uc) U.length (chs U)) := h.undo
  have hpne : (Value.slice ua U.length uc).ownBlock ≠ some p := fun q => by
    cases ua with
    | none => cases q
    | some g =>
      rcases h.undo.2 with ⟨h1, _⟩ | ⟨g2, cap, cur, h1, _⟩
      · cases h1
      · cases h1
        cases q
        exact (h.undoNe rfl).1 rfl
  have hvne : (Value.slice ua U.length uc).ownBlock ≠ some vb := fun q => by
    cases ua with
    | none => cases q
    | some g =>
      rcases h.undo.2 with ⟨h1, _⟩ | ⟨g2, cap, cur, h1, _⟩
      · cases h1
      · cases h1
        cases q
        exact (h.undoNe rfl).2 rfl
  have hp0 := hpc 0
  have hp1 := hpc 1
  have hf1 := hpf 1
  simp at hp0 hp1
  clear h hY hpc hpf
  go_enter Try.func46, Try.ntmps46
  go_wp2_with fail
  go_region_law
    ((refine step_append_lies _ (by rfl) _ _ _ (by rfl) B 115 i0 _ 2 16 (by kernel_rfl) hi0 hz0 hz1 hz2 rfl (by omega) (.slice ua U.length uc) U.length (chs U) (by rfl) (((H3.out).alloc _).drew)
       ⟨w.heap.size, 0, none⟩ 1 1 [.int .i64 (a : Int), .int .i64 Y] (by rfl) (by rfl) (World.news_of_block (cs := #[.int .i64 (a : Int), .int .i64 Y]) (t := 115) (fr := (0, 0)) (heap_alloc_new w _)) (by simp [Value.oneCell'])
       (by omega) (by unfold maxLen; omega) (by omega) (by simp; omega) (w.heap.size + 1) (by simp) ?_; intro gg cap w7 hown1 hgrow hat hlt7;
       have hd8 : w7.cell? ⟨p, 1, none⟩ = some (.slice ua U.length uc) := (by rw [hgrow.cell_far _ (by simp; omega) (Ne.symm hpne)]; simpa [World.cell?_alloc_lt, hplt] using hp1);
       have he8 : w7.frozen? ⟨p, 1, none⟩ = false := (by rw [hgrow.frozen_far _ (by simp; omega) (Ne.symm hpne)]; simpa [World.frozen?_alloc_past, hplt] using hf1)))
  all_goals
    obtain ⟨hR8, hB8, hK8⟩ := WdR.note (c := (a, Y)) HH.out hBw hpne hvne hgrow hat hown1
    obtain ⟨w8, hw8⟩ : ∃ w8, w8 = w7.setCell ⟨p, 1, none⟩ (.slice (some ⟨gg, 0, none⟩) (U.length + 1) cap) := ⟨_, rfl⟩
    rw [← hw8] at hR8 hB8 hK8 ⊢
    have HR9 : Hid (WdR (w8.setCell ⟨vb, a, none⟩ (.int .i64 x)) B p vb (v.set a x) (some ⟨gg, 0, none⟩) cap (U ++ [(a, Y)])) := hR8.put a x
    have HB9 : Hid (Below B w (w8.setCell ⟨vb, a, none⟩ (.int .i64 x))) := hB8.setCell hR8.lv _
    have HK9 : Hid (KpA w (w8.setCell ⟨vb, a, none⟩ (.int .i64 x))) := hK8.trans (KpA.only hR8.vals (by decide) ((Only.refl _ _).set))
    have hc0 := hR8.pb.cell 0
    have hc1 := hR8.getV ha
    have hc2 := hR8.vals.frozen a
    simp at hc0
    clear hw8 hR8 hB8 hK8 hd8 he8 hown1 hgrow hat hlt7 hp0 hp1 hf1 hvc
    go_wp2
    go_end0
    exact ⟨rfl, _, _, HR9.out, HB9.out, HK9.out⟩

end Go.Proofs.Ytejadojilncbjab
