import Derived.Test.YtejadojilncbjaaGreatH04
import Derived.OneCell
namespace Go.Proofs.YtejadojilncbjaaGreat
open Go.RowKit
set_option linter.unusedVariables false
attribute [local go_sem ↓] Go.wp_at_zero Go.wp_at_succ

/-- The cells of a life that never turn. -/
abbrev HeadAt (E : Env) (H : Hd) (p : Nat) (w : World) : Prop :=
  ∀ i, i < 10 → w.cell? ⟨p, i, none⟩ = (#[.int .i64 E.c.t, .int .i64 E.c.wd, .int .i64 E.c.s, .int .i64 E.c.g, .int .i64 E.c.r, .int .i64 E.c.cp, .int .i64 E.c.f, .slice H.ma H.ml H.mc, .slice H.ja E.jobs.length H.jc, .int .i64 E.me] : Array Value)[i]?

theorem lt10 {i : Nat} (h : i < 10) : i = 0 ∨ i = 1 ∨ i = 2 ∨ i = 3 ∨ i = 4 ∨ i = 5 ∨ i = 6 ∨ i = 7 ∨ i = 8 ∨ i = 9 := by omega

theorem LifeR.head {E : Env} {H : Hd} {B p eb : Nat} {w : World} {s : LS} (h : LifeR E H B p eb w s) : HeadAt E H p w := by
  obtain ⟨la, lc, hb, _⟩ := h.life
  intro i hi
  rw [hb.cell]
  rcases lt10 hi with rfl | rfl | rfl | rfl | rfl | rfl | rfl | rfl | rfl | rfl <;> rfl

theorem LifeR.below {E : Env} {H : Hd} {B p eb : Nat} {w w' : World} {s : LS} (h : LifeR E H B p eb w s) (hb : Below w.heap.size w w') : LifeR E H B p eb w' s :=
  h.keep (chg := []) (Kp.below hb h.stat.size) (by simp) (by simp) (by simp) (by simp)
theorem TryR.below {B p eb xb : Nat} {w w' : World} {x : TS} (h : TryR B p eb xb w x) (hb : Below w.heap.size w w') (hB : B ≤ w.heap.size) : TryR B p eb xb w' x :=
  h.keep (chg := []) (p := p) (eb := eb) (Kp.below hb hB) (by simp) (by simp) (by simp)
theorem LifeR.drewN {E : Env} {H : Hd} {B p eb : Nat} {w : World} {s : LS} (h : LifeR E H B p eb w s) (n : Nat) : LifeR E H B p eb (w.drewN n) s := h.below (below_drewN (Below.refl _ _) n)
theorem LifeR.drew {E : Env} {H : Hd} {B p eb : Nat} {w : World} {s : LS} (h : LifeR E H B p eb w s) : LifeR E H B p eb w.drew s := h.below (Below.refl _ _).drew
theorem TryR.drewN {B p eb xb : Nat} {w : World} {x : TS} (h : TryR B p eb xb w x) (n : Nat) : TryR B p eb xb (w.drewN n) x := by
  obtain ⟨ca, cc, ra, rc, wa, wc, ha, hc, h1⟩ := h.blk
  exact ⟨⟨ca, cc, ra, rc, wa, wc, ha, hc, h1⟩, h.xB, h.regs⟩
theorem TryR.drew {B p eb xb : Nat} {w : World} {x : TS} (h : TryR B p eb xb w x) : TryR B p eb xb w.drew x := by
  obtain ⟨ca, cc, ra, rc, wa, wc, ha, hc, h1⟩ := h.blk
  exact ⟨⟨ca, cc, ra, rc, wa, wc, ha, hc, h1⟩, h.xB, h.regs⟩

/-- A try's held stripes, read where they lie. -/
theorem TryR.held {B p eb xb : Nat} {w : World} {x : TS} (h : TryR B p eb xb w x) : ∃ ha hc, w.cell? ⟨xb, 10, none⟩ = some (.slice ha x.held.length hc) ∧ NumsIn w ha x.held := by
  obtain ⟨ca, cc, ra, rc, wa, wc, ha, hc, hb, hcd, hcf, h3, h4, h5, h6⟩ := h.blk
  exact ⟨ha, hc, by rw [hb.cell]; rfl, nums_of h5⟩

theorem cell_tag {chg : List TypeId} {B p eb k i : Nat} {w w' : World} {t : TypeId} {cs : Array Value} (h : Blk w k t cs) (hk : Kp chg B p eb w w') (ht : t ∉ chg) : w'.cell? ⟨k, i, none⟩ = w.cell? ⟨k, i, none⟩ := by
  rw [h.cell, (h.keep hk ht).cell]

/-- What is read of the held stripes stays, if the call lets them alone. -/
theorem TryR.heldKeep {chg : List TypeId} {B p eb xb b hc : Nat} {w w' : World} {x : TS} (h : TryR B p eb xb w x) (hk : Kp chg B p eb w w') (h0 : 145 ∉ chg) (h2 : 3 ∉ chg)
    (hh : w.cell? ⟨xb, 10, none⟩ = some (.slice (some ⟨b, 0, none⟩) x.held.length hc)) (hn : 0 < x.held.length) :
    w'.cell? ⟨xb, 10, none⟩ = some (.slice (some ⟨b, 0, none⟩) x.held.length hc) ∧ ∀ i, w'.cell? ⟨b, i, none⟩ = w.cell? ⟨b, i, none⟩ := by
  obtain ⟨ca, cc, ra, rc, wa, wc, ha, hc', hb, hcd, hcf, h3, h4, h5, h6⟩ := h.blk
  refine ⟨by rw [cell_tag hb hk h0]; exact hh, fun i => ?_⟩
  rw [hb.cell] at hh
  obtain ⟨g, cap, cur, hv, _, hg, _⟩ := own_block h5 hn
  simp [tryArr] at hh
  simp at hv
  obtain ⟨rfl, _⟩ := hv
  simp at hh
  obtain ⟨rfl, _⟩ := hh
  exact cell_tag hg hk h2

def freeStep (E : Env) (s : LS) (h : Int) : LS := (mStore E s (cOwner E h) 0).2

theorem take_foldl {α β : Type} (f : β → α → β) (b : β) (l : List α) (k : Nat) (d : α) (h : k < l.length) : (l.take (k + 1)).foldl f b = f ((l.take k).foldl f b) (l.getD k d) := by
  rw [List.take_succ_eq_append_getElem h, List.foldl_append]
  simp [List.getD, List.getElem?_eq_getElem h]

theorem foldl_pos {α : Type} (E : Env) (f : LS → α → LS) (hf : ∀ s a, s.pos ≤ E.seen.length → s.pos ≤ (f s a).pos ∧ (f s a).pos ≤ E.seen.length) : ∀ (l : List α) (s : LS), s.pos ≤ E.seen.length → s.pos ≤ (l.foldl f s).pos ∧ (l.foldl f s).pos ≤ E.seen.length
  | [], s, h => ⟨Nat.le_refl _, h⟩
  | a :: l, s, h => by
    have h1 := hf s a h
    have h2 := foldl_pos E f hf l (f s a) h1.2
    exact ⟨Nat.le_trans h1.1 h2.1, h2.2⟩

theorem freeStep_pos (E : Env) (s : LS) (h : Int) (hp : s.pos ≤ E.seen.length) : s.pos ≤ (freeStep E s h).pos ∧ (freeStep E s h).pos ≤ E.seen.length := mAsk_pos E s _ hp

set_option maxHeartbeats 2000000 in
theorem free_any (E : Env) (hE : EnvOk E) (H : Hd) (B p eb xb : Nat) (s : LS) (x : TS) (w : World) (hL : LifeR E H B p eb w s) (hT : TryR B p eb xb w x) (hpos : s.pos ≤ E.seen.length)
    (hm : x.held.length ≤ 2 ^ 45) (hst : ∀ h ∈ x.held, -8 ≤ h ∧ h ≤ 8) :
    Calls Tryz.prog 85 #[.pointer (some ⟨p, 0, none⟩), .pointer (some ⟨xb, 0, none⟩)] w fun e w' =>
      e = .returned (.tuple #[]) ∧ LifeR E H B p eb w' (mFree E x s) ∧ TryR B p eb xb w' x ∧ Kp [88] B p eb w w' := by
  have HL : Hid (LifeR E H B p eb w s) := hL
  have HT : Hid (TryR B p eb xb w x) := hT
  obtain ⟨_, _, hs0, _⟩ := cfgB_true hE.cfg
  obtain ⟨hs1, hs2⟩ := hs0
  have HE : Hid (EnvOk E) := hE
  obtain ⟨ha, hc, hh, _⟩ := hT.held
  clear hL hT hE
  go_enter Tryz.func85, Tryz.ntmps85
  go_wp2
  go_loopw [4] (fun i wr => ∃ k : Nat, k ≤ x.held.length ∧ i = .int .i64 k ∧ LifeR E H B p eb wr ((x.held.take k).foldl (freeStep E) s) ∧ TryR B p eb xb wr x ∧ Kp [88] B p eb w wr) (fun i wr => x.held.length - (intOf i).toNat)
  case atStart => exact ⟨0, Nat.zero_le _, rfl, HL.out, HT.out, Kp.refl _ _ _ _ _⟩
  case round =>
    obtain ⟨k, hk, rfl, hL1, hT1, hK1⟩ := hrel
    have HL1 : Hid (LifeR E H B p eb wr ((x.held.take k).foldl (freeStep E) s)) := hL1
    have HT1 : Hid (TryR B p eb xb wr x) := hT1
    have HK1 : Hid (Kp [88] B p eb w wr) := hK1
    obtain ⟨ha1, hc1, hh1, hn1⟩ := hT1.held
    have hhd := hL1.head
    clear hL1 hT1 hK1
    by_cases hlt : k < x.held.length
    · obtain ⟨b, rfl, hcc⟩ := hn1 k hlt
      obtain ⟨z, hz⟩ : ∃ z, z = x.held.getD k 0 := ⟨_, rfl⟩
      have hzm : z ∈ x.held := by rw [hz]; simp [List.getD, List.getElem?_eq_getElem hlt]
      obtain ⟨hz1, hz2⟩ := hst z hzm
      rw [← hz] at hcc
      have HZ : Hid (z = x.held.getD k 0) := hz
      clear hz hzm hn1 hst
      have HPk : Hid (((x.held.take k).foldl (freeStep E) s).pos ≤ E.seen.length) := (foldl_pos E _ (freeStep_pos E) _ s hpos).2
      have HS0 : Hid (HeadAt E H p wr.drew ∧ wr.drew.cell? ⟨xb, 10, none⟩ = some (.slice (some ⟨b, 0, none⟩) x.held.length hc1) ∧ wr.drew.cell? ⟨b, k, none⟩ = some (.int .i64 z)) := ⟨(HL1.out).drew.head, hh1, hcc⟩
      go_wp2_with fail
      go_region_held3 (fun w' => HeadAt E H p w' ∧ w'.cell? ⟨xb, 10, none⟩ = some (.slice (some ⟨b, 0, none⟩) x.held.length hc1) ∧ w'.cell? ⟨b, k, none⟩ = some (.int .i64 z))
        (first | exact HS2.out | exact HS1.out | exact HS0.out)
        (first
          | (go_at_call 100; refine (ownerV _ _ _ _ _ _ _ _ _ _ _ _ _ _ _ hs1 hs2 (by omega) (by omega)).mono ?_; rintro e w1 ⟨rfl, hb1⟩; have HB1 : Hid (Below wr.heap.size wr w1) := (Below.refl _ _).drew.trans hb1; clear hb1;
             have HS1 : Hid (HeadAt E H p w1 ∧ w1.cell? ⟨xb, 10, none⟩ = some (.slice (some ⟨b, 0, none⟩) x.held.length hc1) ∧ w1.cell? ⟨b, k, none⟩ = some (.int .i64 z)) := ⟨((HL1.out).below HB1.out).head, ((HB1.out).cell (block_lt hh1)).trans hh1, ((HB1.out).cell (block_lt hcc)).trans hcc⟩)
          | (go_at_call 87; refine (storeL E HE.out H B p eb _ _ _ _ ((HL1.out).below HB1.out) HPk.out).mono ?_; rintro e w2 ⟨rfl, hL2, hK2⟩; have HL2 : Hid (LifeR E H B p eb w2 _) := hL2; have HK2 : Hid (Kp [88] B p eb w1 w2) := hK2; clear hL2 hK2;
             have HT2 : Hid (TryR B p eb xb w2 x) := ((HT1.out).below HB1.out HL1.out.stat.size).keep HK2.out (by simp) (by simp) (by simp);
             have HS2 : Hid (HeadAt E H p w2 ∧ w2.cell? ⟨xb, 10, none⟩ = some (.slice (some ⟨b, 0, none⟩) x.held.length hc1) ∧ w2.cell? ⟨b, k, none⟩ = some (.int .i64 z)) := ⟨(HL2.out).head, (((HT1.out).heldKeep ((Kp.below HB1.out HL1.out.stat.size).trans HK2.out) (by simp) (by simp) hh1 (by omega)).1), by rw [(((HT1.out).heldKeep ((Kp.below HB1.out HL1.out.stat.size).trans HK2.out) (by simp) (by simp) hh1 (by omega)).2 k)]; exact hcc⟩))
      go_wp2
      go_roundw
      case rel => exact ⟨k + 1, by omega, by go_num, by rw [take_foldl _ _ _ _ 0 hlt, ← HZ.out]; exact HL2.out, HT2.out, HK1.out.trans ((Kp.below HB1.out HL1.out.stat.size).trans HK2.out)⟩
      case measure => simp [intOf]; omega
    · have HF : Hid ((x.held.take k).foldl (freeStep E) s = mFree E x s) := by
        show _ = mFree E x s
        rw [List.take_of_length_le (by omega)]
        rfl
      go_wp2
      go_end0
      exact ⟨rfl, by rw [← HF.out]; exact HL1.out, HT1.out, HK1.out⟩

end Go.Proofs.YtejadojilncbjaaGreat

namespace Go.Proofs.YtejadojilncbjaaGreat
open Go.RowKit
set_option linter.unusedVariables false

theorem own_set {w : World} {base : Nat} {e : TypeId} {size n g cap i : Nat} {xs : List Value} (h : w.ownsRow base e size (.slice (some ⟨g, 0, none⟩) n cap) n xs) (hi : i < n * size) (u : Value) :
    (w.setCell ⟨g, i, none⟩ u).ownsRow base e size (.slice (some ⟨g, 0, none⟩) n cap) n (xs.set i u) := by
  refine ⟨by simpa using h.1, ?_⟩
  rcases h.2 with ⟨h0, _⟩ | ⟨g', cap', cur, hv, hb, hg, r1, r2, r3, r4⟩
  · cases h0
  · simp at hv
    obtain ⟨rfl, rfl⟩ := hv
    have hg' : Blk w g e cur := hg
    refine .inr ⟨g, cap, cur.setIfInBounds i u, rfl, hb, hg'.set, r1, r2, by simpa using r3, ?_⟩
    rw [Array.toList_setIfInBounds, List.take_set, r4]

theorem flat_set {α : Type} {f : α → List Value} {n : Nat} (hf : ∀ a, (f a).length = n) : ∀ (l : List α) (i j : Nat) (u : Value) (b : α), j < n → i < l.length → (∀ a, l[i]? = some a → f b = (f a).set j u) → (l.flatMap f).set (i * n + j) u = (l.set i b).flatMap f
  | [], i, j, u, b, hj, hi, h => by simp at hi
  | a :: l, 0, j, u, b, hj, hi, h => by
    have h0 := h a rfl
    rw [List.flatMap_cons, Nat.zero_mul, Nat.zero_add, List.set_append, if_pos (by rw [hf]; exact hj), List.set_cons_zero, List.flatMap_cons, h0]
  | a :: l, i + 1, j, u, b, hj, hi, h => by
    rw [List.flatMap_cons, List.set_append, if_neg (by rw [hf, Nat.add_mul]; omega), hf, show (i + 1) * n + j - n = i * n + j from by rw [Nat.add_mul]; omega,
      flat_set hf l i j u b hj (by simpa using hi) (fun c hc => h c (by simpa using hc)), List.set_cons_succ, List.flatMap_cons]

theorem zip_set {α β : Type} : ∀ (l : List α) (m : List β) (n : Nat) (a : α) (b : β), (l.zip m).set n (a, b) = (l.set n a).zip (m.set n b)
  | [], _, _, _, _ => by simp
  | _ :: _, [], _, _, _ => by simp
  | x :: l, y :: m, 0, a, b => by simp
  | x :: l, y :: m, n + 1, a, b => by simp [zip_set l m n a b]

/-- One cell of the last attempt is stored. -/
theorem rowCells_set {L : List AttD} {nvs : List Value} {n j : Nat} {u : Value} {a : AttD} {nv : Value} {a' : AttD} {nv' : Value} (hl : nvs.length = L.length) (hn : n < L.length) (hj : j < 8) (ha : L[n]? = some a) (hv : nvs[n]? = some nv)
    (he : attCells a' nv' = (attCells a nv).set j u) : (rowCells L nvs).set (n * 8 + j) u = rowCells (L.set n a') (nvs.set n nv') := by
  unfold rowCells
  rw [flat_set (f := fun q : AttD × Value => attCells q.1 q.2) (n := 8) (fun _ => rfl) (L.zip nvs) n j u (a', nv') hj (by simp; omega) (fun q hq => ?_)]
  · congr 1
    rw [zip_set]
  · have : (L.zip nvs)[n]? = some (a, nv) := by rw [List.getElem?_zip_eq_some]; exact ⟨ha, hv⟩
    rw [this] at hq
    simp at hq
    subst hq
    exact he

theorem modLast_eq {L : List AttD} {n : Nat} {a : AttD} (f : AttD → AttD) (hn : L.length = n + 1) (ha : L[n]? = some a) : modLast L f = L.set n (f a) := by
  unfold modLast
  rw [hn, Nat.add_sub_cancel]
  apply List.ext_getElem?
  intro i
  rw [List.getElem?_modify, List.getElem?_set]
  by_cases h : n = i
  · subst h
    rw [ha]
    simp
    omega
  · simp [h]

/-- A number of the last attempt is stored. -/
theorem ListRep.num {w : World} {B g lc n j : Nat} {L : List AttD} {v : Int} {f : AttD → AttD} (h : ListRep w B (some ⟨g, 0, none⟩) lc L) (hn : L.length = n + 1) (hj : j < 7)
    (hf : ∀ a nv, attCells (f a) nv = (attCells a nv).set j (.int .i64 v)) (hfn : ∀ a, (f a).notes = a.notes) : ListRep (w.setCell ⟨g, n * 8 + j, none⟩ (.int .i64 v)) B (some ⟨g, 0, none⟩) lc (modLast L f) := by
  obtain ⟨nvs, hl, ho, hno, hd⟩ := h
  obtain ⟨a, ha⟩ : ∃ a, L[n]? = some a := ⟨L[n]'(by omega), List.getElem?_eq_getElem (by omega)⟩
  obtain ⟨nv, hv⟩ : ∃ nv, nvs[n]? = some nv := ⟨nvs[n]'(by omega), List.getElem?_eq_getElem (by omega)⟩
  rw [modLast_eq f hn ha]
  have hg : ∃ cur, Blk w g 63 cur := by
    obtain ⟨g', cap, cur, hv', _, hb, _⟩ := own_block ho (by omega)
    simp at hv'
    obtain ⟨rfl, _⟩ := hv'
    exact ⟨cur, hb⟩
  obtain ⟨cur, hg⟩ := hg
  have hk : Kp [63] B g g w (w.setCell ⟨g, n * 8 + j, none⟩ (.int .i64 v)) := ⟨rfl, rfl, rfl, by simp [World.setCell], fun k _ h1 _ => Below.heap_setCell _ _ _ _ (by simpa using h1), fun k t cs fr hk ht => by
    rw [Below.heap_setCell _ _ _ _ (fun e => ht (by
      simp at e
      subst e
      have : w.heap[k]? = some (.cells cur 63 (0, 0)) := hg
      rw [this] at hk
      simp at hk
      simp [← hk.2.1]))]
    exact hk⟩
  refine ⟨nvs, by simpa using hl, ?_, fun i b u hi hu => ?_, hd⟩
  · have h1 := own_set ho (i := n * 8 + j) (by omega) (.int .i64 v)
    rw [rowCells_set hl (by omega) (by omega) ha hv (hf a nv)] at h1
    have e : nvs.set n nv = nvs := by
      apply List.ext_getElem? ; intro i; rw [List.getElem?_set]; split
      · rename_i h; subst h; simp [hv]; omega
      · rfl
    rw [e] at h1
    simpa using h1
  · have hnn : ∃ a0, L[i]? = some a0 ∧ b.notes = a0.notes := by
      rw [List.getElem?_set] at hi
      split at hi
      · rename_i h; subst h
        rw [if_pos (by omega)] at hi
        simp at hi
        exact ⟨a, ha, by rw [← hi, hfn]⟩
      · exact ⟨b, hi, rfl⟩
    obtain ⟨a0, h0, h1⟩ := hnn
    rw [h1]
    exact ownsRow_keep (hno i a0 u h0 hu) hk (by simp)

/-- A note joins the last attempt's. -/
theorem ListRep.note {w w0 w1 : World} {B g lc n : Nat} {L : List AttD} {nvs : List Value} {a : AttD} {nv : Value} {q : NoteD} {gn cap : Nat} (hl : nvs.length = L.length)
    (ho : w.ownsRow B 63 8 (.slice (some ⟨g, 0, none⟩) L.length lc) L.length (rowCells L nvs)) (hno : ∀ (i : Nat) (a : AttD) (nv : Value), L[i]? = some a → nvs[i]? = some nv → w.ownsRow B 95 3 nv a.notes.length (a.notes.flatMap noteCells))
    (hd : ∀ (i j : Nat) (u v : Value) (k : Nat), nvs[i]? = some u → nvs[j]? = some v → u.ownBlock = some k → v.ownBlock = some k → i = j) (hn : L.length = n + 1) (ha : L[n]? = some a) (hv : nvs[n]? = some nv)
    (hb0 : Below w.heap.size w w0) (hB : B ≤ w.heap.size) (hgr : w0.grownBy w1 nv.ownBlock) (hown : w1.ownsRow B 95 3 (.slice (some ⟨gn, 0, none⟩) (a.notes.length + 1) cap) (a.notes.length + 1) (a.notes.flatMap noteCells ++ noteCells q))
    (hat : nv.ownBlock = some gn ∨ w.heap.size ≤ gn) :
    ListRep (w1.setCell ⟨g, n * 8 + 7, none⟩ (.slice (some ⟨gn, 0, none⟩) (a.notes.length + 1) cap)) B (some ⟨g, 0, none⟩) lc (modLast L fun a => { a with notes := a.notes ++ [q] }) := by
  have hk0 : Kp [95] B 0 0 w w0 := Kp.below hb0 hB
  have ho0 : w0.ownsRow B 95 3 nv a.notes.length (a.notes.flatMap noteCells) := ownsRow_keep (hno n a nv ha hv) (Kp.below (chg := []) (p := 0) (eb := 0) hb0 hB) (by simp)
  have hk1 : Kp [95] B 0 0 w0 w1 := Kp.grown hgr (Nat.le_trans hB hb0.size) ho0 (by simp)
  have ho1 : w1.ownsRow B 63 8 (.slice (some ⟨g, 0, none⟩) L.length lc) L.length (rowCells L nvs) := ownsRow_keep ho (hk0.trans hk1) (by simp)
  obtain ⟨g', cap', cur, hv', _, hb, _⟩ := own_block ho1 (by omega)
  simp at hv'
  obtain ⟨rfl, rfl⟩ := hv'
  have hk2 : Kp [63] B g g w1 (w1.setCell ⟨g, n * 8 + 7, none⟩ (.slice (some ⟨gn, 0, none⟩) (a.notes.length + 1) cap)) := ⟨rfl, rfl, rfl, by simp [World.setCell], fun k _ h1 _ => Below.heap_setCell _ _ _ _ (by simpa using h1), fun k t cs fr hk ht => by
    rw [Below.heap_setCell _ _ _ _ (fun e => ht (by
      simp at e
      subst e
      have : w1.heap[k]? = some (.cells cur 63 (0, 0)) := hb
      rw [this] at hk
      simp at hk
      simp [← hk.2.1]))]
    exact hk⟩
  rw [modLast_eq _ hn ha]
  refine ⟨nvs.set n (.slice (some ⟨gn, 0, none⟩) (a.notes.length + 1) cap), by simpa using hl, ?_, fun i b u hi hu => ?_, fun i j u v k hi hj hu hv2 => ?_⟩
  · have h1 := own_set ho1 (i := n * 8 + 7) (by omega) (.slice (some ⟨gn, 0, none⟩) (a.notes.length + 1) cap)
    rw [rowCells_set (a' := { a with notes := a.notes ++ [q] }) hl (by omega) (by omega) ha hv rfl] at h1
    simpa using h1
  · by_cases hin : i = n
    · subst hin
      simp [show i < L.length by omega, show i < nvs.length by omega] at hi hu
      subst hi hu
      have := ownsRow_keep hown hk2 (by simp)
      simpa [List.flatMap_append] using this
    · rw [List.getElem?_set, if_neg (by omega)] at hi hu
      have h3 := ownsRow_keep (hno i b u hi hu) (Kp.below (chg := []) (p := 0) (eb := 0) hb0 hB) (by simp)
      refine ownsRow_keep (h3.kept hgr ?_) hk2 (by simp)
      cases hub : u.ownBlock with
      | none => exact Or.inl rfl
      | some k => exact Or.inr (fun e => hin (hd i n u nv k hu hv hub e.symm))
  · have hlow : ∀ (i : Nat) (u : Value) (k : Nat), nvs[i]? = some u → u.ownBlock = some k → k < w.heap.size := fun i u k hi hu => by
      have hiL : i < L.length := by rw [← hl]; exact (List.getElem?_eq_some_iff.1 hi).1
      exact ((hno i L[i] u (List.getElem?_eq_getElem hiL) hi).lt k hu).2
    by_cases hin : i = n <;> by_cases hjn : j = n
    · omega
    · subst hin
      rw [List.getElem?_set, if_neg (by omega)] at hj
      simp [show i < nvs.length by omega] at hi
      subst hi
      simp [Value.ownBlock] at hu
      subst hu
      rcases hat with hat | hat
      · exact hd i j nv v gn hv hj hat hv2
      · have := hlow j v gn hj hv2; omega
    · subst hjn
      rw [List.getElem?_set, if_neg (by omega)] at hi
      simp [show j < nvs.length by omega] at hj
      subst hj
      simp [Value.ownBlock] at hv2
      subst hv2
      rcases hat with hat | hat
      · exact hd i j u nv gn hi hv hu hat
      · have := hlow i u gn hi hu; omega
    · rw [List.getElem?_set, if_neg (by omega)] at hi hj
      exact hd i j u v k hi hj hu hv2

end Go.Proofs.YtejadojilncbjaaGreat

namespace Go.Proofs.YtejadojilncbjaaGreat
open Go.RowKit
set_option linter.unusedVariables false
attribute [local go_sem ↓] Go.wp_at_zero Go.wp_at_succ

/-- What is known of the row of attempts where there is one. -/
theorem LifeR.last {E : Env} {H : Hd} {B p eb : Nat} {w : World} {s : LS} (hL : LifeR E H B p eb w s) (hne : s.list ≠ []) :
    ∃ g lc n cur, s.list.length = n + 1 ∧ Blk w p 88 (lifeArr E H (some ⟨g, 0, none⟩) lc s) ∧ ListRep w B (some ⟨g, 0, none⟩) lc s.list ∧ Blk w g 63 cur ∧ B ≤ g ∧ n * 8 + 7 < cur.size := by
  obtain ⟨la, lc, hb, hl⟩ := hL.life
  have hl' := hl
  obtain ⟨nvs, hnl, ho, hno, hd⟩ := hl'
  obtain ⟨n, hn⟩ : ∃ n, s.list.length = n + 1 := ⟨s.list.length - 1, by have := List.length_pos_iff.2 hne; omega⟩
  obtain ⟨g, cap, cur, hgv, hgB, hgb, r1, r2, r3, r4⟩ := own_block ho (by omega)
  simp at hgv
  obtain ⟨rfl, rfl⟩ := hgv
  exact ⟨g, lc, n, cur, hn, hb, hl, hgb, hgB, by omega⟩

/-- A number of the last attempt is stored: the life behind it. -/
theorem LifeR.num {E : Env} {H : Hd} {B p eb g lc n j : Nat} {w : World} {s : LS} {v : Int} {f : AttD → AttD} {cur : Array Value} (hL : LifeR E H B p eb w s) (hn : s.list.length = n + 1) (hb : Blk w p 88 (lifeArr E H (some ⟨g, 0, none⟩) lc s))
    (hl : ListRep w B (some ⟨g, 0, none⟩) lc s.list) (hg : Blk w g 63 cur) (hgB : B ≤ g) (hj : j < 7) (hf : ∀ a nv, attCells (f a) nv = (attCells a nv).set j (.int .i64 v)) (hfn : ∀ a, (f a).notes = a.notes) :
    LifeR E H B p eb (w.setCell ⟨g, n * 8 + j, none⟩ (.int .i64 v)) { s with list := modLast s.list f } ∧ Kp [63] B p eb w (w.setCell ⟨g, n * 8 + j, none⟩ (.int .i64 v)) := by
  have hk : Kp [63] B p eb w (w.setCell ⟨g, n * 8 + j, none⟩ (.int .i64 v)) := Kp.only (Only.refl _ _).set hL.stat.size hg (by simp) (Or.inr (Or.inr hgB))
  refine ⟨⟨hL.stat.keep hk, ⟨some ⟨g, 0, none⟩, lc, ?_, hl.num hn hj hf hfn⟩, hL.ends.imp id (fun ⟨x, y⟩ => ⟨x, y.keep hk (by simp)⟩), hL.pB, hL.eB, hL.pe⟩, hk⟩
  refine (hb.keep hk (by simp)).congr ?_
  simp [lifeArr, modLast]

theorem modLast_modLast (L : List AttD) (f g : AttD → AttD) : modLast (modLast L f) g = modLast L (fun a => g (f a)) := by
  unfold modLast
  rw [List.length_modify, List.modify_modify_eq]
  rfl

theorem Blk.keepLen {w : World} {g i : Nat} {t : TypeId} {cs : Array Value} {v : Value} (h : Blk w g t cs) : ∃ ds : Array Value, Blk (w.setCell ⟨g, i, none⟩ v) g t ds ∧ ds.size = cs.size := ⟨_, h.set, by simp⟩

theorem LifeR.blk_of {E : Env} {H : Hd} {p g lc i : Nat} {w : World} {s : LS} {v : Value} (hb : Blk w p 88 (lifeArr E H (some ⟨g, 0, none⟩) lc s)) (hpg : p ≠ g) (f : AttD → AttD) :
    Blk (w.setCell ⟨g, i, none⟩ v) p 88 (lifeArr E H (some ⟨g, 0, none⟩) lc { s with list := modLast s.list f }) := by
  refine (hb.only (Only.refl g w).set hpg).congr ?_
  simp [lifeArr, modLast]

set_option maxRecDepth 100000 in
set_option maxHeartbeats 3200000 in
theorem ended_any (E : Env) (hE : EnvOk E) (H : Hd) (B p eb : Nat) (s : LS) (fate : Int) (w : World) (hL : LifeR E H B p eb w s) (hne : s.list ≠ []) (hlen : s.list.length ≤ 2 ^ 42) (hp0 : 0 < s.pos) (hp1 : s.pos ≤ E.seen.length) :
    Calls Tryz.prog 89 #[.pointer (some ⟨p, 0, none⟩), .int .i64 fate] w fun e w' =>
      e = .returned (.tuple #[]) ∧ LifeR E H B p eb w' (mEnded E s fate) ∧ Kp [63] B p eb w w' := by
  obtain ⟨g, lc, n, cur, hn, hb, hl, hgb, hgB, hsz⟩ := hL.last hne
  obtain ⟨m, hm⟩ : ∃ m, s.pos = m + 1 := ⟨s.pos - 1, by omega⟩
  have hwl := hE.wlen
  have hel := hE.len
  obtain ⟨b, off, hwa, hwb, hwc⟩ := hL.stat.whens m (by omega)
  obtain ⟨z, hz⟩ : ∃ z, z = E.whens.getD m 0 := ⟨_, rfl⟩
  rw [← hz] at hwc
  have hc21 : w.cell? ⟨p, 21, none⟩ = some (.slice (some ⟨g, 0, none⟩) (n + 1) lc) := by rw [hb.cell]; simp [lifeArr, hn]
  have hc12 : w.cell? ⟨p, 12, none⟩ = some (.slice (some ⟨b, off, none⟩) E.whens.length H.wc) := by rw [hb.cell]; simp [lifeArr, hwa]
  have hc13 : w.cell? ⟨p, 13, none⟩ = some (.int .i64 ((m : Int) + 1)) := by rw [hb.cell]; simp [lifeArr, hm]
  obtain ⟨u3, hg3⟩ : ∃ u, w.cell? ⟨g, n * 8 + 3, none⟩ = some u := ⟨cur[n * 8 + 3]'(by omega), by rw [hgb.cell]; exact Array.getElem?_eq_getElem _⟩
  obtain ⟨u6, hg6⟩ : ∃ u, w.cell? ⟨g, n * 8 + 6, none⟩ = some u := ⟨cur[n * 8 + 6]'(by omega), by rw [hgb.cell]; exact Array.getElem?_eq_getElem _⟩
  have hf := hgb.frozen
  have hpg : p ≠ g := Blk.ne hb hgb (by decide)
  have hgp : g ≠ p := fun e => hpg e.symm
  have hbg : b ≠ g := by have := (hL.stat.whensF b off hwa).1; omega
  have hgb' : g ≠ b := fun e => hbg e.symm
  have hI0 : (0 : Int) ≤ (n : Int) := Int.natCast_nonneg _
  have hI2 : (n : Int) < (n : Int) + 1 := by omega
  have hn42 : (n : Int) ≤ 4398046511104 := by omega
  have hm0 : (0 : Int) ≤ (m : Int) := Int.natCast_nonneg _
  have hm1 : (m : Int) < (E.whens.length : Int) := by omega
  have hm2 : (m : Int) ≤ 35184372088832 := by omega
  have HL : Hid (LifeR E H B p eb w s) := hL
  have HN : Hid (s.list.length = n + 1) := hn
  have HM : Hid (s.pos = m + 1) := hm
  have HZ : Hid (z = E.whens.getD m 0) := hz
  have HBk : Hid (Blk w p 88 (lifeArr E H (some ⟨g, 0, none⟩) lc s)) := hb
  have HR : Hid (ListRep w B (some ⟨g, 0, none⟩) lc s.list) := hl
  have HG : Hid (Blk w g 63 cur) := hgb
  clear hL hn hm hz hb hl hgb hE hne hlen hp0 hp1 hwl hel hwa
  go_enter Tryz.func89, Tryz.ntmps89
  go_wp2_with fail
  go_region
  all_goals
    go_wp2
    go_end0
    obtain ⟨hL1, hK1⟩ := (HL.out).num (j := 3) (v := z) (f := fun a => { a with fin := z }) HN.out HBk.out HR.out HG.out hgB (by omega) (fun _ _ => rfl) (fun _ => rfl)
    obtain ⟨ds, hd1, hd2⟩ := (HG.out).keepLen (i := n * 8 + 3) (v := .int .i64 z)
    obtain ⟨hL2, hK2⟩ := hL1.num (j := 6) (v := fate) (f := fun a => { a with fate := fate }) (by simp [modLast]; exact HN.out) (LifeR.blk_of HBk.out hpg _)
      ((HR.out).num HN.out (by omega) (fun _ _ => rfl) (fun _ => rfl)) hd1 hgB (by omega) (fun _ _ => rfl) (fun _ => rfl)
    refine ⟨rfl, ?_, (hK1.trans hK2).drew⟩
    have e : mEnded E s fate = { s with list := modLast (modLast s.list fun a => { a with fin := z }) fun a => { a with fate := fate } } := by
      rw [modLast_modLast]
      simp [mEnded, HM.out, HZ.out]
    rw [e]
    exact hL2.drew

end Go.Proofs.YtejadojilncbjaaGreat
