import Derived.Test.YtejadojilncbjabGreatD43
import Derived.Deep.RegionLaw
import Derived.Laws.CopyOwn
namespace Go.Proofs.YtejadojilncbjabGreat
open Go.RowKit
set_option linter.unusedVariables false
attribute [local go_sem ↓] Go.wp_at_zero Go.wp_at_succ
theorem infoCh : (Tryz.prog.info? 204).map (fun i => (i.zero, i.size, i.bytes)) = some (some (.agg #[.int .i64 0, .int .i64 0]), 2, 16) := by kernel_rfl
theorem WdR.note {w w7 : World} {B p vb : Nat} {v : List Int} {ua : Option Addr} {uc gg cap : Nat} {U : List (Nat × Int)} {c : Nat × Int} {o : Obj} (h : WdR w B p vb v ua uc U) (hBw : B ≤ w.heap.size)
  (hpne : (Value.slice ua U.length uc).ownBlock ≠ some p) (hvne : (Value.slice ua U.length uc).ownBlock ≠ some vb)
  (hgrow : (w.alloc o).drew.grownBy w7 (Value.slice ua U.length uc).ownBlock) (hat : (Value.slice ua U.length uc).ownBlock = some gg ∨ gg = w.heap.size + 1)
  (hown : w7.ownsRow B 204 2 (.slice (some ⟨gg, 0, none⟩) (U.length + 1) cap) (U.length + 1) (chs U ++ [.int .i64 (c.1 : Int), .int .i64 c.2])) :
  WdR (w7.setCell ⟨p, 1, none⟩ (.slice (some ⟨gg, 0, none⟩) (U.length + 1) cap)) B p vb v (some ⟨gg, 0, none⟩) cap (U ++ [c]) ∧ Below B w (w7.setCell ⟨p, 1, none⟩ (.slice (some ⟨gg, 0, none⟩) (U.length + 1) cap)) ∧ KpA w (w7.setCell ⟨p, 1, none⟩ (.slice (some ⟨gg, 0, none⟩) (U.length + 1) cap)) := by
 have hw1 : Below w.heap.size w (w.alloc o).drew := ((Below.refl _ _).alloc (Nat.le_refl _) _).drew
 have hp1 : Blk (w.alloc o).drew p _ _ := h.pb.below hw1 h.pb.lt
 have hv1 : Blk (w.alloc o).drew vb _ _ := h.vals.below hw1 h.vals.lt
 have hp7 : Blk w7 p _ _ := (hgrow.block p hp1.lt (Ne.symm hpne)).trans hp1
 have hv7 : Blk w7 vb _ _ := (hgrow.block vb hv1.lt (Ne.symm hvne)).trans hv1
 have hB7 : Below B w w7 := Below.grown (hw1.mono hBw) hgrow (Nat.le_trans hBw hw1.size) (own_ge h.undo)
 have ho : Only p w7 (w7.setCell ⟨p, 1, none⟩ (.slice (some ⟨gg, 0, none⟩) (U.length + 1) cap)) := (Only.refl _ _).set
 have hgp : gg ≠ p := by
  rcases hat with q | q
  ·intro e; exact hpne (by rw [q, e])
  ·have := h.pb.lt; omega
 have hK1 : KpA w w7 := fun k ds hk => by
  have h1 : Blk (w.alloc o).drew k _ ds := hk.below hw1 hk.lt
  refine (hgrow.block k h1.lt fun q => ?_).trans h1
  rcases h.undo.2 with ⟨h2, _⟩ | ⟨g2, cap2, cur, h2, _, h3, _⟩
  ·rw [h2] at q; cases q
  ·rw [h2] at q
   cases q
   have hb : Blk w g2 204 cur := h3
   exact hk.ne hb (by decide) rfl
 have hl : (U ++ [c]).length = U.length + 1 := by simp
 refine ⟨⟨?_, hv7.only ho (Ne.symm h.ne), ?_, h.lp, h.lv⟩, hB7.setCell h.lp _, hK1.trans (KpA.only hp7 (by decide) ho)⟩
 ·rw [hl]
  exact (hp7.set).congr (by simp)
 ·rw [hl, chs_snoc]
  exact own_only hown ho (fun q => hgp (by cases q; rfl))
set_option maxRecDepth 100000 in
set_option maxHeartbeats 4000000 in
theorem put_any (B p vb : Nat) (v : List Int) (ua : Option Addr) (uc : Nat) (U : List (Nat × Int)) (a : Nat) (x : Int) (ha : a < v.length) (hv : v.length ≤ 2097152) (hUl : U.length < 2147483648) (w : World) (hBw : B ≤ w.heap.size) (h : WdR w B p vb v ua uc U) :
  Calls Tryz.prog 127 #[.pointer (some ⟨p, 0, none⟩), .int .i64 (a : Int), .int .i64 x] w (WdIs w B p vb (v.set a x) (U ++ [(a, v.getD a 0)])) := by
 obtain ⟨i0, hi0, hz0, hz1, hz2⟩ := info_parts infoCh
 have HH : Hid (WdR w B p vb v ua uc U) := h
 have hpc := h.pb.cell
 have hpf := h.pb.frozen
 have hplt := h.pb.lt
 have hvlt := h.vals.lt
 have hvc := h.getV ha
 obtain ⟨Y, hY⟩ : ∃ Y, Y = v.getD a 0 := ⟨_, rfl⟩
 rw [← hY] at hvc ⊢
 have a0 : (0 : Int) ≤ (a : Int) := by omega
 have a1 : (a : Int) < (v.length : Int) := by omega
 have H3 : Hid (w.ownsRow B 204 2 (.slice ua U.length uc) U.length (chs U)) := h.undo
 have hpne : (Value.slice ua U.length uc).ownBlock ≠ some p := fun q => by
  cases ua with
  | none => cases q
  | some g =>
   rcases h.undo.2 with ⟨h1, _⟩ | ⟨g2, cap, cur, h1, _⟩
   ·cases h1
   ·cases h1
    cases q
    exact (h.undoNe rfl).1 rfl
 have hvne : (Value.slice ua U.length uc).ownBlock ≠ some vb := fun q => by
  cases ua with
  | none => cases q
  | some g =>
   rcases h.undo.2 with ⟨h1, _⟩ | ⟨g2, cap, cur, h1, _⟩
   ·cases h1
   ·cases h1
    cases q
    exact (h.undoNe rfl).2 rfl
 have hp0 := hpc 0
 have hp1 := hpc 1
 have hf1 := hpf 1
 simp at hp0 hp1
 clear h hY hpc hpf
 go_enter Tryz.func127, Tryz.ntmps127
 go_wp2_with fail
 go_region_law
  ((refine step_append_lies _ (by rfl) _ _ _ (by rfl) B 204 i0 _ 2 16 (by kernel_rfl) hi0 hz0 hz1 hz2 rfl (by omega) (.slice ua U.length uc) U.length (chs U) (by rfl) (((H3.out).alloc _).drew)
          ⟨w.heap.size, 0, none⟩ 1 1 [.int .i64 (a : Int), .int .i64 Y] (by rfl) (by rfl) (World.news_of_block (cs := #[.int .i64 (a : Int), .int .i64 Y]) (t := 204) (fr := (0, 0)) (heap_alloc_new w _)) (by simp [Value.oneCell'])
          (by omega) (by unfold maxLen; omega) (by omega) (by simp; omega) (w.heap.size + 1) (by simp) ?_; intro gg cap w7 hown1 hgrow hat hlt7;
          have hd8 : w7.cell? ⟨p, 1, none⟩ = some (.slice ua U.length uc) := (by rw [hgrow.cell_far _ (by simp; omega) (Ne.symm hpne)]; simpa [World.cell?_alloc_lt, hplt] using hp1);
          have he8 : w7.frozen? ⟨p, 1, none⟩ = false := (by rw [hgrow.frozen_far _ (by simp; omega) (Ne.symm hpne)]; simpa [World.frozen?_alloc_past, hplt] using hf1)))
 all_goals
  obtain ⟨hR8, hB8, hK8⟩ := WdR.note (c := (a, Y)) HH.out hBw hpne hvne hgrow hat hown1
  obtain ⟨w8, hw8⟩ : ∃ w8, w8 = w7.setCell ⟨p, 1, none⟩ (.slice (some ⟨gg, 0, none⟩) (U.length + 1) cap) := ⟨_, rfl⟩
  rw [← hw8] at hR8 hB8 hK8 ⊢
  have HR9 : Hid (WdR (w8.setCell ⟨vb, a, none⟩ (.int .i64 x)) B p vb (v.set a x) (some ⟨gg, 0, none⟩) cap (U ++ [(a, Y)])) := hR8.put a x
  have HB9 : Hid (Below B w (w8.setCell ⟨vb, a, none⟩ (.int .i64 x))) := hB8.setCell hR8.lv _
  have HK9 : Hid (KpA w (w8.setCell ⟨vb, a, none⟩ (.int .i64 x))) := hK8.trans (KpA.only hR8.vals (by decide) ((Only.refl _ _).set))
  have hc0 := hR8.pb.cell 0
  have hc1 := hR8.getV ha
  have hc2 := hR8.vals.frozen a
  simp at hc0
  clear hw8 hR8 hB8 hK8 hd8 he8 hown1 hgrow hat hlt7 hp0 hp1 hf1 hvc
  go_wp2
  go_end0
  exact ⟨rfl, _, _, HR9.out, HB9.out, HK9.out⟩
theorem copy_only {P : Program} {w : World} {ops : Array Oper} {rest : List Oper} {o : Oper} {a : Act} {Q : Exit → Act → World → Prop} (hgd : o.guard = none) (d s : Operand) (dT sT : TypeId)
  (ho : o.op = .call { callee := .builtin .copy, args := #[d, s], argTypes := #[dT, sT] }) (elem : TypeId) (hu : P.underlying dT = some (.slice elem)) (hsz : (P.info? elem).map (·.size) = some 1)
  (dp sp : Option Addr) (dLen dCap sLen sCap : Nat) (hd : a.eval d = .slice dp dLen dCap) (hs : a.eval s = .slice sp sLen sCap)
  (g : Nat) (cur : List Value) (t : TypeId) (hg : w.heap[g]? = some (.cells cur.toArray t (0, 0))) (cs : List Value) (hn : cs.length = Nat.min sLen dLen) (hl : cs.length = cur.length)
  (hpos : 0 < cs.length → dp = some ⟨g, 0, none⟩ ∧ ∃ ad, sp = some ad ∧ ∀ j v, cs[j]? = some v → w.cell? (ad.add j) = some v)
  (h1 : ∀ v ∈ cs, v.oneCell' = true)
  (h : ∀ w', Hid (Blk w' g t cs.toArray) → Hid (Only g w w') → wpList P ops Q rest (a.put o.dst (goInt cs.length)) w') :
  wpList P ops Q (o :: rest) a w := by
 have hsp : splice cur 0 cs = cs := by unfold splice; simp [hl]
 by_cases h0 : cs.length = 0
 ·obtain rfl : cs = [] := List.eq_nil_of_length_eq_zero h0
  obtain rfl : cur = [] := List.eq_nil_of_length_eq_zero hl.symm
  refine wpList_copy_nothing hgd d s dT sT ho elem hu hsz dp sp dLen dCap sLen sCap hd hs (by simpa using hn.symm) ?_
  exact h w hg (Only.refl _ _)
 ·obtain ⟨rfl, ad, rfl, hsrc⟩ := hpos (by omega)
  refine wpList_copy_own hgd d s dT sT ho elem hu hsz g 0 dLen dCap ad sLen sCap hd hs cur.toArray t hg cs hn hsrc (by simp [hl]) h1 ?_
  refine h _ ?_ ?_
  ·exact (show Blk _ g t _ from setRow_heap w g _ _ t _ hg).congr (by apply Array.ext'; simp [hl])
  ·exact ⟨rfl, rfl, rfl, by simp [World.setRow], fun k hk hne => setRow_other w g k _ hne⟩
def NewJ (w : World) (v : List Int) (e : Ending) (w' : World) : Prop := ∃ vb, e = .returned (.agg #[.slice (some ⟨vb, 0, none⟩) v.length v.length, .slice none 0 0]) ∧ Blk w' vb 3 (ivs v).toArray ∧ w.heap.size ≤ vb ∧ Below w.heap.size w w'
set_option maxRecDepth 100000 in
set_option maxHeartbeats 4000000 in
theorem newWords_any (mem : List Int) (hm : mem.length ≤ 2097152) (ma : Option Addr) (mc : Nat) (w : World) (h : Ints w w.heap.size ma mem) :
  Calls Tryz.prog 116 #[.slice ma mem.length mc] w (NewJ w mem) := by
 have HI : Hid (Ints w w.heap.size ma mem) := h
 obtain ⟨Z, hZ⟩ : ∃ Z, Z = List.replicate mem.length (Value.int .i64 0) := ⟨_, rfl⟩
 have hZl : Z.length = mem.length := by rw [hZ]; simp
 have hmk := run_makeM mem.length hm
 rw [← hZ] at hmk
 obtain ⟨i0, h1, h2, h3, h4⟩ := info_parts Tryz.info3
 have hsz : (Tryz.prog.info? 3).map (·.size) = some 1 := by rw [h1]; simp [h3]
 obtain ⟨CS, hCS⟩ : ∃ CS, CS = ivs mem := ⟨_, rfl⟩
 have hCl : CS.length = mem.length := by rw [hCS]; simp [ivs]
 have HCS : Hid (CS = ivs mem) := hCS
 have HSrc : Hid (∀ wx, Below w.heap.size w wx → 0 < CS.length → ∃ ad, ma = some ad ∧ ∀ j v, CS[j]? = some v → wx.cell? (ad.add j) = some v) := fun wx hb hp => by
  obtain ⟨b, off, ha, hlt, hc⟩ := HI.out 0 (by omega)
  refine ⟨_, ha, fun j v hj => ?_⟩
  have hjl : j < mem.length := by have := (List.getElem?_eq_some_iff.1 hj).1; omega
  obtain ⟨b', off', ha', hlt', hc'⟩ := HI.out j hjl
  rw [ha] at ha'
  cases ha'
  rw [hCS] at hj
  unfold ivs at hj
  rw [List.getElem?_map, List.getElem?_eq_getElem hjl] at hj
  simp at hj
  subst hj
  have hcell : wx.cell? ⟨b, off + j, none⟩ = w.cell? ⟨b, off + j, none⟩ := World.cell?_of_block (hb.block b hlt)
  rw [show ((⟨b, off, none⟩ : Addr).add j) = ⟨b, off + j, none⟩ from by simp [Addr.add], hcell, hc']
  simp [List.getD, List.getElem?_eq_getElem hjl]
 have HOne : Hid (∀ v ∈ CS, v.oneCell' = true) := fun v hv => by
  rw [hCS] at hv
  obtain ⟨z, _, rfl⟩ := List.mem_map.1 hv
  rfl
 clear h hCS h2 h3 h4 hZ h1
 go_enter Tryz.func116, Tryz.ntmps116
 go_upto_region 2 with fail
 obtain ⟨w1, hw1⟩ : ∃ w1, w1 = ((w.alloc (.cells #[.slice none 0 0, .slice none 0 0] 177)).alloc (.cells Z.toArray 3)).alloc (.cells #[.slice (some ⟨w.heap.size + 1, 0, none⟩) mem.length mem.length, .slice none 0 0] 177) := ⟨_, rfl⟩
 have HA : Hid (Blk w1 w.heap.size 177 #[.slice none 0 0, .slice none 0 0]) := by rw [hw1]; exact ((Blk.new w _ _).alloc _).alloc _
 have HV : Hid (Blk w1 (w.heap.size + 1) 3 Z.toArray) := by
  rw [hw1]
  have h5 := (Blk.new (w.alloc (.cells #[.slice none 0 0, .slice none 0 0] 177)) 3 Z.toArray).alloc (.cells #[.slice (some ⟨w.heap.size + 1, 0, none⟩) mem.length mem.length, .slice none 0 0] 177)
  rw [show (w.alloc (.cells #[.slice none 0 0, .slice none 0 0] 177)).heap.size = w.heap.size + 1 by simp] at h5
  exact h5
 have HT : Hid (Blk w1 (w.heap.size + 1 + 1) 177 #[.slice (some ⟨w.heap.size + 1, 0, none⟩) mem.length mem.length, .slice none 0 0]) := by
  rw [hw1]
  have h5 := Blk.new ((w.alloc (.cells #[.slice none 0 0, .slice none 0 0] 177)).alloc (.cells Z.toArray 3)) 177 #[.slice (some ⟨w.heap.size + 1, 0, none⟩) mem.length mem.length, .slice none 0 0]
  rw [show ((w.alloc (.cells #[.slice none 0 0, .slice none 0 0] 177)).alloc (.cells Z.toArray 3)).heap.size = w.heap.size + 1 + 1 by simp] at h5
  exact h5
 have HB1 : Hid (Below w.heap.size w w1) := by rw [hw1]; exact (((Below.refl w.heap.size w).alloc (Nat.le_refl _) _).alloc (by simp) _).alloc (by simp; omega) _
 rw [← hw1]
 clear hw1 hmk
 have hc := (HT.out).cell
 go_wp2_with
  (refine copy_only (by rfl) _ _ _ _ (by rfl) 3 Tryz.underlying24 hsz (some ⟨w.heap.size + 1, 0, none⟩) ma mem.length mem.length mem.length mc (by rfl) (by rfl) (w.heap.size + 1) Z 3 HV.out CS (by rw [hCl]; simp) (by rw [hCl, hZl])
       (fun hp => ⟨rfl, HSrc.out _ HB1.out hp⟩) HOne.out ?_;
      intro w5 hV5 hO5;
      have hc5 := ((HT.out).only hO5.out (by omega)).cell;
      have HA5 : Hid (Blk w5 w.heap.size 177 #[.slice none 0 0, .slice none 0 0]) := (HA.out).only hO5.out (by omega);
      have ha5 := (HA5.out).cell;
      have hf5 := (HA5.out).frozen)
 have hX : Blk ((w5.setCell ⟨w.heap.size, 0, none⟩ (.slice (some ⟨w.heap.size + 1, 0, none⟩) mem.length mem.length)).setCell ⟨w.heap.size, 1, none⟩ (.slice none 0 0)) w.heap.size 177 #[.slice (some ⟨w.heap.size + 1, 0, none⟩) mem.length mem.length, .slice none 0 0] := ((HA5.out).set.set).congr (by simp)
 have hB5 : Below w.heap.size w w5 := (HB1.out).trans ⟨(hO5.out).os, (hO5.out).tape, (hO5.out).output, (hO5.out).size, fun k hk => (hO5.out).block k (Nat.lt_of_lt_of_le hk (HB1.out).size) (by omega)⟩
 have hoX : Only w.heap.size w5 ((w5.setCell ⟨w.heap.size, 0, none⟩ (.slice (some ⟨w.heap.size + 1, 0, none⟩) mem.length mem.length)).setCell ⟨w.heap.size, 1, none⟩ (.slice none 0 0)) := ((Only.refl _ _).set).set
 have hV6 : Blk ((w5.setCell ⟨w.heap.size, 0, none⟩ (.slice (some ⟨w.heap.size + 1, 0, none⟩) mem.length mem.length)).setCell ⟨w.heap.size, 1, none⟩ (.slice none 0 0)) (w.heap.size + 1) 3 (ivs mem).toArray := by
  rw [← HCS.out]
  exact (hV5.out).only hoX (by omega)
 have e0 := hX.cell 0
 have e1 := hX.cell 1
 exact bodyPost_ret (v := .agg #[.slice (some ⟨w.heap.size + 1, 0, none⟩) mem.length mem.length, .slice none 0 0]) (by simp at e0 e1; simp [results, Tryz.results116, go_sem, e0, e1]) rfl ⟨_, rfl, hV6, by omega, (hB5.setCell (Nat.le_refl _) _).setCell (Nat.le_refl _) _⟩
theorem WdR.up {w w' : World} {B p vb : Nat} {v : List Int} {ua : Option Addr} {uc : Nat} {U : List (Nat × Int)} (h : WdR w B p vb v ua uc U) (hb : Below w.heap.size w w') : WdR w' B p vb v ua uc U :=
 ⟨h.pb.below hb h.pb.lt, h.vals.below hb h.vals.lt, own_up h.undo hb, h.lp, h.lv⟩
theorem WdR.clear {w : World} {B p vb : Nat} {v : List Int} {ua : Option Addr} {uc : Nat} {U : List (Nat × Int)} (h : WdR w B p vb v ua uc U) : WdR (w.setCell ⟨p, 1, none⟩ (.slice none 0 0)) B p vb v none 0 [] := by
 have ho : Only p w (w.setCell ⟨p, 1, none⟩ (.slice none 0 0)) := (Only.refl _ _).set
 exact ⟨(h.pb.set).congr (by simp), h.vals.only ho (Ne.symm h.ne), World.ownsRow_nil _ _ _ _, h.lp, h.lv⟩
theorem set_back {y : List Int} {a : Nat} {x : Int} (h : a < y.length) : (y.set a x).set a (y.getD a 0) = y := by
 rw [List.set_set, List.getD_eq_getElem?_getD, List.getElem?_eq_getElem h]
 simp
def RepIs (w : World) (B p vb : Nat) (v : List Int) (b : Bool) (e : Ending) (w' : World) : Prop := e = .returned (.bool b) ∧ ∃ ua uc U, WdR w' B p vb v ua uc U ∧ Below B w w'
theorem notes_snoc {ns : List NoteD} {i : Nat} (h : i < ns.length) : ns.take (i + 1) = ns.take i ++ [ns.getD i noNt] := by
 rw [List.getD_eq_getElem?_getD, List.getElem?_eq_getElem h, List.take_add_one, List.getElem?_eq_getElem h]
 rfl
theorem inB_iff {z : Int} {n : Nat} : inB z 0 ((n : Int) - 1) = true ↔ (0 ≤ z ∧ z < (n : Int)) := by
 unfold inB
 simp
 omega
set_option maxRecDepth 100000 in
set_option maxHeartbeats 8000000 in
theorem replay_any (B p vb : Nat) (v : List Int) (ua0 : Option Addr) (uc0 : Nat) (U0 : List (Nat × Int)) (x : AttD) (na : Option Addr) (nc : Nat) (hv : v.length ≤ 2097152) (hK : x.notes.length ≤ 1073741824) (w : World) (hBw : B ≤ w.heap.size) (h : WdR w B p vb v ua0 uc0 U0) (hN : NotesIn w B na x.notes) :
  Calls Tryz.prog 117 #[.pointer (some ⟨p, 0, none⟩), .agg #[.int .i64 x.thread, .int .i64 x.job, .int .i64 x.start, .int .i64 x.fin, .int .i64 x.valid, .int .i64 x.stamp, .int .i64 x.fate, .slice na x.notes.length nc]] w (RepIs w B p vb (if 0 < x.stamp then wrN x.notes v else v) (rdN x.notes v)) := by
 have HN : Hid (NotesIn w B na x.notes) := hN
 obtain ⟨wA, hwA⟩ : ∃ wA, wA = w.alloc (.cells #[.int .i64 x.thread, .int .i64 x.job, .int .i64 x.start, .int .i64 x.fin, .int .i64 x.valid, .int .i64 x.stamp, .int .i64 x.fate, .slice na x.notes.length nc] 82) := ⟨_, rfl⟩
 have hBA : Below w.heap.size w wA := by rw [hwA]; exact (Below.refl _ _).alloc (Nat.le_refl _) _
 have hRA : WdR wA B p vb v ua0 uc0 U0 := h.up hBA
 have hXA : Blk wA w.heap.size 82 #[.int .i64 x.thread, .int .i64 x.job, .int .i64 x.start, .int .i64 x.fin, .int .i64 x.valid, .int .i64 x.stamp, .int .i64 x.fate, .slice na x.notes.length nc] := by rw [hwA]; exact Blk.new w _ _
 obtain ⟨w1, hw1⟩ : ∃ w1, w1 = wA.setCell ⟨p, 1, none⟩ (.slice none 0 0) := ⟨_, rfl⟩
 have HR1 : Hid (WdR w1 B p vb v none 0 []) := by rw [hw1]; exact hRA.clear
 have HB1 : Hid (Below B w w1) := by rw [hw1]; exact (hBA.mono hBw).setCell h.lp _
 have HX1 : Hid (Blk w1 w.heap.size 82 #[.int .i64 x.thread, .int .i64 x.job, .int .i64 x.start, .int .i64 x.fin, .int .i64 x.valid, .int .i64 x.stamp, .int .i64 x.fate, .slice na x.notes.length nc]) := by rw [hw1]; exact KpA.only hRA.pb (by decide) ((Only.refl _ _).set) _ _ hXA
 have hp1 := hRA.pb.cell 1
 have hpf := hRA.pb.frozen 1
 simp at hp1
 have hwv : IntKind.i64.wrap ((v.length : Int) - 1) = (v.length : Int) - 1 := wrapJ9 _ (by omega) (by omega)
 obtain ⟨VE, HVE⟩ : ∃ VE, Hid ((if 0 < x.stamp then wrN x.notes v else v) = VE) := ⟨_, rfl⟩
 obtain ⟨RB, HRB⟩ : ∃ RB, Hid (rdN x.notes v = RB) := ⟨_, rfl⟩
 rw [show (if 0 < x.stamp then wrN x.notes v else v) = VE from HVE.out, show rdN x.notes v = RB from HRB.out]
 clear h hN hRA hXA hBA
 go_enter Tryz.func117, Tryz.ntmps117
 go_upto_region 1 with fail
 rw [← hwA]
 obtain ⟨xb, hxb⟩ : ∃ xb, xb = w.heap.size := ⟨_, rfl⟩
 rw [← hxb] at HX1 ⊢
 clear hwA hxb
 go_upto_region 3 with fail
 rw [← hw1]
 clear hw1 hp1 hpf
 have hx1 := (HX1.out).cell
 go_wp2_with fail
 clear hx1
 obtain ⟨XC, hXC⟩ : ∃ XC : Array Value, XC = #[.int .i64 x.thread, .int .i64 x.job, .int .i64 x.start, .int .i64 x.fin, .int .i64 x.valid, .int .i64 x.stamp, .int .i64 x.fate, .slice na x.notes.length nc] := ⟨_, rfl⟩
 have HX5 : Hid (XC[5]? = some (.int .i64 x.stamp)) := by rw [hXC]; rfl
 rw [← hXC] at HX1
 clear hXC
 go_loopg [5, 15] (x.notes.length + 1) (fun m t5 t15 wr => ∃ (i : Nat) (y : List Int) (ua : Option Addr) (uc : Nat) (U : List (Nat × Int)), t5 = .bool (rdN (x.notes.take i) v) ∧ t15 = .int .i64 (i : Int) ∧ i ≤ x.notes.length ∧ m = x.notes.length + 1 - i ∧ U.length ≤ i ∧ y.length = v.length ∧ Hid (y = wrN (x.notes.take i) v ∧ tb U y = v ∧ ∀ c ∈ U, c.1 < v.length) ∧ Hid (WdR wr B p vb y ua uc U) ∧ Hid (Below B w wr) ∧ Hid (Blk wr xb 82 XC))
 case atStart => exact ⟨0, v, none, 0, [], rfl, rfl, by omega, by omega, by simp, rfl, ⟨rfl, rfl, fun c hc => absurd hc (by simp)⟩, HR1, HB1, HX1⟩
 case round =>
  obtain ⟨i, y, ua, uc, U, rfl, rfl, hi, hgi, hUi, hyl, HY, HR, HB, HX⟩ := hrel
  obtain ⟨wi, hwi⟩ : ∃ wi, wi = wr := ⟨_, rfl⟩
  subst hwi
  clear HR1 HB1 HX1
  have hszi := (HB.out).size
  obtain ⟨rd, hrd⟩ : ∃ rd, rd = rdN (x.notes.take i) v := ⟨_, rfl⟩
  rw [← hrd]
  by_cases hiK : i < x.notes.length
  ·obtain ⟨nb, noff, hna, hnl, n0, n1, n2⟩ := HN.out i hiK
   have up : ∀ o, wi.cell? ⟨nb, o, none⟩ = w.cell? ⟨nb, o, none⟩ := fun o => World.cell?_of_block ((HB.out).block nb hnl)
   have htk := notes_snoc hiK
   obtain ⟨n, hn⟩ : ∃ n, n = x.notes.getD i noNt := ⟨_, rfl⟩
   rw [← hn] at n0 n1 n2 htk
   have HRd : Hid (rdN (x.notes.take (i + 1)) v = (rd && nRead n y)) := by show _ = _; rw [htk, rdN_snoc, ← hrd, ← (HY.out).1]
   have HWr : Hid (wrN (x.notes.take (i + 1)) v = nStep n y) := by show _ = _; rw [htk, wrN_snoc, ← (HY.out).1]
   have d0 := (up _).trans n0
   have d1 := (up _).trans n1
   have d2 := (up _).trans n2
   obtain ⟨op, ad, va⟩ := n
   simp only at d0 d1 d2
   obtain ⟨wn, hwn⟩ : ∃ wn, wn = wi.alloc (.cells #[.int .i64 op, .int .i64 ad, .int .i64 va] 93) := ⟨_, rfl⟩
   have hBn : Below wi.heap.size wi wn := by rw [hwn]; exact (Below.refl _ _).alloc (Nat.le_refl _) _
   have HNb : Hid (Blk wn wi.heap.size 93 #[.int .i64 op, .int .i64 ad, .int .i64 va]) := by rw [hwn]; exact Blk.new wi _ _
   have HRn : Hid (WdR wn B p vb y ua uc U) := (HR.out).up hBn
   have HXn : Hid (Blk wn xb 82 XC) := (HX.out).below hBn (HX.out).lt
   have HBn : Hid (Below B w wn) := (HB.out).trans (hBn.mono (Nat.le_trans hBw (HB.out).size))
   have i0 : (0 : Int) ≤ (i : Int) := by omega
   have i1 : (i : Int) < (x.notes.length : Int) := by omega
   have hwi1 : IntKind.i64.wrap ((i : Int) + 1) = (i : Int) + 1 := wrapJ9 _ (by omega) (by omega)
   subst hna
   clear htk hn n0 n1 n2 up hBn HR HB HX hrd
   go_upto_region 6 with fail
   rw [← hwn]
   obtain ⟨tbk, htbk⟩ : ∃ tbk, tbk = wi.heap.size := ⟨_, rfl⟩
   rw [← htbk] at HNb ⊢
   clear hwn htbk d0 d1 d2 hszi
   have hnc := (HNb.out).cell
   have hpc := (HRn.out).pb.cell
   rw [hyl] at hpc
   obtain ⟨D, hD⟩ : ∃ D, D = inB ad 0 ((v.length : Int) - 1) := ⟨_, rfl⟩
   go_cut [8] (fun t wx => t = .bool D ∧ Hid (Below wn.heap.size wn wx))
   case first =>
    go_quiet ((go_at_call 110; exact Calls.quiet_of_same (within_any _ _ _ _)))
    go_wp2
    go_meet
    case rel => exact ⟨by first | rfl | rw [hD], belowQ nq⟩
   case rest =>
    obtain ⟨rfl, HBc⟩ := hcut
    have HRc : Hid (WdR wc B p vb y ua uc U) := (HRn.out).up HBc.out
    have HXc : Hid (Blk wc xb 82 XC) := (HXn.out).below HBc.out (HXn.out).lt
    have HBw : Hid (Below B w wc) := (HBn.out).trans ((HBc.out).mono (Nat.le_trans hBw (HBn.out).size))
    have hncc := ((HNb.out).below HBc.out (HNb.out).lt).cell
    have hpcc := (HRc.out).pb.cell
    rw [hyl] at hpcc
    have hD2 : D = true ↔ (0 ≤ ad ∧ ad < (v.length : Int)) := by rw [hD]; exact inB_iff
    clear hD hnc hpc HRn HXn HBn HNb
    by_cases h7 : op = 7
    ·have HSt : Hid (nStep ⟨op, ad, va⟩ y = y) := by
      show _ = _
      unfold nStep
      rw [if_neg (fun q => by simp only at q; omega)]
     have HYn : Hid (y = wrN (x.notes.take (i + 1)) v ∧ tb U y = v ∧ ∀ c ∈ U, c.1 < v.length) := ⟨by rw [HWr.out, HSt.out], (HY.out).2⟩
     by_cases hin : 0 ≤ ad ∧ ad < (v.length : Int)
     ·obtain ⟨a, ha⟩ := Int.eq_ofNat_of_zero_le hin.1
      have ha' : ad = (a : Int) := ha
      clear ha
      subst ha'
      obtain rfl : D = true := hD2.2 hin
      have hal : a < y.length := by omega
      have hvc := (HRc.out).getV hal
      obtain ⟨Y, hYe⟩ : ∃ Y, Y = y.getD a 0 := ⟨_, rfl⟩
      rw [← hYe] at hvc
      have a0 : (0 : Int) ≤ (a : Int) := hin.1
      have a1 : (a : Int) < (v.length : Int) := hin.2
      by_cases heq : Y = va
      ·have HRe : Hid (nRead ⟨op, (a : Int), va⟩ y = true) := by
        show _ = _
        unfold nRead
        rw [if_pos h7]
        simp only [Int.toNat_natCast, ← hYe, heq, hyl, a1, and_self, a0, decide_true]
       subst heq h7
       clear hD2 hYe hin HWr HSt
       go_wp2_with fail
       go_quiet (fail)
       go_wp2
       go_roundg (x.notes.length + 1 - (i + 1))
       case rel => exact ⟨i + 1, y, ua, uc, U, by rw [HRd.out, HRe.out]; simp, by simp, by omega, rfl, by omega, hyl, HYn, (HRc.out).up (belowQ nq), (HBw.out).trans ((belowQ nq).mono (Nat.le_trans hBw (HBw.out).size)), (HXc.out).below (belowQ nq) (HXc.out).lt⟩
       case measure => omega
      ·have HRe : Hid (nRead ⟨op, (a : Int), va⟩ y = false) := by
        show _ = _
        unfold nRead
        rw [if_pos h7]
        simp only [Int.toNat_natCast, ← hYe, decide_eq_false_iff_not]
        exact fun q => heq q.2.2
       have hne : (Y != va) = true := by simp [heq]
       subst h7
       clear hD2 hYe hin HWr HSt heq
       go_wp2_with fail
       go_quiet (fail)
       go_wp2
       go_roundg (x.notes.length + 1 - (i + 1))
       case rel => exact ⟨i + 1, y, ua, uc, U, by rw [HRd.out, HRe.out]; simp, by simp, by omega, rfl, by omega, hyl, HYn, (HRc.out).up (belowQ nq), (HBw.out).trans ((belowQ nq).mono (Nat.le_trans hBw (HBw.out).size)), (HXc.out).below (belowQ nq) (HXc.out).lt⟩
       case measure => omega
     ·obtain rfl : D = false := by
       cases D with
       | false => rfl
       | true => exact absurd (hD2.1 rfl) hin
      have HRe : Hid (nRead ⟨op, ad, va⟩ y = false) := by
       show _ = _
       unfold nRead
       rw [if_pos h7]
       simp only [decide_eq_false_iff_not]
       exact fun q => hin ⟨q.1, by have := q.2.1; omega⟩
      subst h7
      clear hD2 hin HWr HSt
      go_wp2_with fail
      go_quiet (fail)
      go_wp2
      go_roundg (x.notes.length + 1 - (i + 1))
      case rel => exact ⟨i + 1, y, ua, uc, U, by rw [HRd.out, HRe.out]; simp, by simp, by omega, rfl, by omega, hyl, HYn, (HRc.out).up (belowQ nq), (HBw.out).trans ((belowQ nq).mono (Nat.le_trans hBw (HBw.out).size)), (HXc.out).below (belowQ nq) (HXc.out).lt⟩
      case measure => omega
    ·have HRe : Hid (nRead ⟨op, ad, va⟩ y = true) := by
      show _ = _
      unfold nRead
      rw [if_neg h7]
     have h7' : (op == 7) = false := by simp [h7]
     by_cases h8 : op = 8
     ·by_cases hin : 0 ≤ ad ∧ ad < (v.length : Int)
      ·obtain ⟨a, ha⟩ := Int.eq_ofNat_of_zero_le hin.1
       have ha' : ad = (a : Int) := ha
       clear ha
       subst ha'
       obtain rfl : D = true := hD2.2 hin
       have hal : a < y.length := by omega
       have HSt : Hid (nStep ⟨op, (a : Int), va⟩ y = y.set a va) := by
        show _ = _
        unfold nStep
        rw [if_pos ⟨h8, hin.1, by rw [hyl]; exact hin.2⟩]
        rfl
       have HYn : Hid (y.set a va = wrN (x.notes.take (i + 1)) v ∧ tb (U ++ [(a, y.getD a 0)]) (y.set a va) = v ∧ ∀ c ∈ U ++ [(a, y.getD a 0)], c.1 < v.length) := by
        refine ⟨by rw [HWr.out, HSt.out], ?_, fun c hc => ?_⟩
        ·rw [tb_snoc]
         simp only
         rw [set_back hal]
         exact (HY.out).2.1
        ·rcases List.mem_append.1 hc with q | q
         ·exact (HY.out).2.2 c q
         ·simp at q
          subst q
          simp only
          omega
       have HPt : Hid (∀ wx, WdR wx B p vb y ua uc U → B ≤ wx.heap.size → Calls Tryz.prog 127 #[.pointer (some ⟨p, 0, none⟩), .int .i64 (a : Int), .int .i64 va] wx (WdIs wx B p vb (y.set a va) (U ++ [(a, y.getD a 0)]))) := fun wx hR hBx => put_any B p vb y ua uc U a va hal (by omega) (by omega) wx hBx hR
       have hUl2 : (U ++ [(a, y.getD a 0)]).length = U.length + 1 := by simp
       obtain ⟨U2, hU2⟩ : ∃ U2, U2 = U ++ [(a, y.getD a 0)] := ⟨_, rfl⟩
       rw [← hU2] at HYn HPt hUl2
       have hyl2 : (y.set a va).length = v.length := by rw [List.length_set]; exact hyl
       subst h8
       clear hD2 hin HWr HSt hU2 h7
       go_wp2_with fail
       refine (HPt.out _ HRc.out (Nat.le_trans hBw (HBw.out).size)).mono ?_
       rintro e wz ⟨rfl, ua2, uc2, hRz, hBz, hKz⟩
       have HRz : Hid (WdR wz B p vb (y.set a va) ua2 uc2 U2) := hRz
       have HBz : Hid (Below B w wz) := (HBw.out).trans hBz
       have HXz : Hid (Blk wz xb 82 XC) := hKz _ _ HXc.out
       clear hRz hBz hKz hncc hpcc
       go_wp2_with fail
       go_roundg (x.notes.length + 1 - (i + 1))
       case rel => exact ⟨i + 1, y.set a va, ua2, uc2, U2, by rw [HRd.out, HRe.out]; simp, by simp, by omega, rfl, by omega, hyl2, HYn, HRz, HBz, HXz⟩
       case measure => omega
      ·obtain rfl : D = false := by
        cases D with
        | false => rfl
        | true => exact absurd (hD2.1 rfl) hin
       have HSt : Hid (nStep ⟨op, ad, va⟩ y = y) := by
        show _ = _
        unfold nStep
        rw [if_neg (fun q => hin ⟨q.2.1, by have := q.2.2; rw [hyl] at this; exact this⟩)]
       have HYn : Hid (y = wrN (x.notes.take (i + 1)) v ∧ tb U y = v ∧ ∀ c ∈ U, c.1 < v.length) := ⟨by rw [HWr.out, HSt.out], (HY.out).2⟩
       subst h8
       clear hD2 hin HWr HSt h7
       go_wp2_with fail
       go_roundg (x.notes.length + 1 - (i + 1))
       case rel => exact ⟨i + 1, y, ua, uc, U, by rw [HRd.out, HRe.out]; simp, by simp, by omega, rfl, by omega, hyl, HYn, HRc, HBw, HXc⟩
       case measure => omega
     ·have h8' : (op == 8) = false := by simp [h8]
      have HSt : Hid (nStep ⟨op, ad, va⟩ y = y) := by
       show _ = _
       unfold nStep
       rw [if_neg (fun q => h8 q.1)]
      have HYn : Hid (y = wrN (x.notes.take (i + 1)) v ∧ tb U y = v ∧ ∀ c ∈ U, c.1 < v.length) := ⟨by rw [HWr.out, HSt.out], (HY.out).2⟩
      clear hD2 HWr HSt h7 h8
      go_wp2_with fail
      go_roundg (x.notes.length + 1 - (i + 1))
      case rel => exact ⟨i + 1, y, ua, uc, U, by rw [HRd.out, HRe.out]; simp, by simp, by omega, rfl, by omega, hyl, HYn, HRc, HBw, HXc⟩
      case measure => omega
  ·obtain rfl : i = x.notes.length := by omega
   have hiI : ¬ (x.notes.length : Int) < (x.notes.length : Int) := by omega
   have hye := (HY.out).1
   rw [List.take_length] at hye hrd
   have HRd : Hid (rd = RB) := hrd.trans HRB.out
   have hxc : ∀ j, wi.cell? ⟨xb, j, none⟩ = XC[j]? := (HX.out).cell
   have hx5 := (hxc 5).trans HX5.out
   have HBk : Hid (∀ wx, WdR wx B p vb y ua uc U → Calls Tryz.prog 128 #[.pointer (some ⟨p, 0, none⟩)] wx (WdIs wx B p vb v U)) := fun wx hR => by
    have h9 := back_any B p vb y ua uc U (fun c hc => by rw [hyl]; exact (HY.out).2.2 c hc) (by omega) (by omega) wx hR
    rw [(HY.out).2.1] at h9
    exact h9
   obtain ⟨st, hst⟩ : ∃ st, st = x.stamp := ⟨_, rfl⟩
   rw [← hst] at hx5
   by_cases hs : st ≤ 0
   ·have HV : Hid (v = VE) := by
     show _ = _
     rw [← show _ = VE from HVE.out, if_neg (by omega)]
    clear hye hrd hst hxc
    obtain rfl : rd = RB := HRd.out
    go_wp2_with fail
    refine (HBk.out _ HR.out).mono ?_
    rintro e wz ⟨rfl, ua2, uc2, hRz, hBz, _⟩
    have HRz : Hid (WdR wz B p vb v ua2 uc2 U) := hRz
    have HBz : Hid (Below B w wz) := (HB.out).trans hBz
    clear hRz hBz hx5
    go_wp2_with fail
    go_ret
    exact ⟨rfl, ua2, uc2, U, by rw [← show v = VE from HV.out]; exact HRz.out, HBz.out⟩
   ·have HV : Hid (y = VE) := by
     show _ = _
     rw [← show _ = VE from HVE.out, if_pos (by omega)]
     exact hye
    clear hye hrd hst hxc
    obtain rfl : rd = RB := HRd.out
    go_wp2_with fail
    go_ret
    exact ⟨rfl, ua, uc, U, by rw [← show y = VE from HV.out]; exact HR.out, HB.out⟩
set_option maxRecDepth 100000 in
set_option maxHeartbeats 4000000 in
theorem misled_any (L : List AttD) (N : Nat) (hN : L.length = N) (hL : N ≤ 2097152) (mem : List Int) (hm : mem.length ≤ 2097152) (hnt : ∀ k, k < N → (atL L k).notes.length ≤ 1073741824) (o : List Nat) (O : IsOrd (atL L) N o) (ho : o.length = N) (ma a oa : Option Addr) (mc cp oc : Nat) (w : World) (hmi : Ints w w.heap.size ma mem) (h : HistIn w w.heap.size a L) (hoi : NatsIn w w.heap.size oa o) :
  Calls Tryz.prog 88 #[.slice ma mem.length mc, .slice a N cp, .slice oa N oc] w (LstIs w (fun j => j < N ∧ Misled (atL L) N mem j) N) := by
 obtain ⟨f, hf⟩ : ∃ f, f = atL L := ⟨_, rfl⟩
 rw [← hf] at O hnt ⊢
 have HH : Hid (∀ k, k < N → ∃ b off na nc, a = some ⟨b, off, none⟩ ∧ b < w.heap.size ∧ AttS b (off + k * 8) (f k) na (f k).notes.length nc w ∧ NotesIn w w.heap.size na (f k).notes) := fun k hk => by
  obtain ⟨b, off, na, nc, ha, hl, hx, hn⟩ := h.att (k := k) (by omega)
  exact ⟨b, off, na, nc, ha, hl, by rw [hf]; exact hx, by rw [hf]; exact hn⟩
 have HO : Hid (IsOrd f N o) := O
 have HOl : Hid (o.length = N) := ho
 have HI : Hid (NatsIn w w.heap.size oa o) := hoi
 have HNt : Hid (∀ k, k < N → (f k).notes.length ≤ 1073741824) := hnt
 have HNw : Hid (Calls Tryz.prog 116 #[.slice ma mem.length mc] w (NewJ w mem)) := newWords_any mem hm ma mc w hmi
 clear h hoi O ho hf hN hnt hmi
 go_enter Tryz.func88, Tryz.ntmps88
 go_wp2_with fail
 refine (HNw.out).mono ?_
 rintro e w2 ⟨vb, rfl, hv2, hvb, hb2⟩
 obtain ⟨w3, hw3⟩ : ∃ w3, w3 = w2.alloc (.cells #[.slice (some ⟨vb, 0, none⟩) mem.length mem.length, .slice none 0 0] 177) := ⟨_, rfl⟩
 have HR3 : Hid (WdR w3 w.heap.size w2.heap.size vb mem none 0 []) := by
  rw [hw3]
  exact ⟨Blk.new w2 _ _, hv2.alloc _, World.ownsRow_nil _ _ _ _, hb2.size, hvb⟩
 have HB3 : Hid (Below w.heap.size w w3) := by rw [hw3]; exact hb2.alloc hb2.size _
 clear hv2 hvb hb2 HNw
 go_upto_region 3 with fail
 rw [← hw3]
 obtain ⟨p, hp⟩ : ∃ p, p = w2.heap.size := ⟨_, rfl⟩
 rw [← hp] at HR3 ⊢
 clear hw3 hp
 go_wp2_with fail
 go_loopg [7, 18] (N + 1) (fun m t7 t18 wr => ∃ (x k : Nat) (y : List Int) (ua : Option Addr) (uc : Nat) (U : List (Nat × Int)), t7 = .int .i64 (x : Int) ∧ t18 = .int .i64 (k : Int) ∧ k ≤ N ∧ m = N + 1 - k ∧ Hid (y = wrP f (o.take k) mem) ∧ Hid (Lst (PosIn (fun p => p < k) o (Misled f N mem)) N x) ∧ Hid (WdR wr w.heap.size p vb y ua uc U) ∧ Hid (Below w.heap.size w wr))
 case atStart => exact ⟨N, 0, mem, none, 0, [], rfl, rfl, by omega, by omega, rfl, posN fun p _ q => by omega, HR3, HB3⟩
 case round =>
  obtain ⟨x, k, y, ua, uc, U, rfl, rfl, hk, hgk, HY, HLs, HR, HB⟩ := hrel
  obtain ⟨wi, hwi⟩ : ∃ wi, wi = wr := ⟨_, rfl⟩
  subst hwi
  clear HR3 HB3
  by_cases hkN : k < N
  ·have hol := HOl.out
   obtain ⟨ob, hoa, hobl, hc⟩ := HI.out k (by omega)
   have hxl := ord_lt HO.out (i := k) (by omega)
   have hmi := misled_iff (mem := mem) HO.out (ord_at (o := o) (i := k) (by omega))
   have htk := takSn (o := o) (i := k) (by omega)
   have HT := fun hq => posT (R2 := fun p => p < k + 1) (i := k) HLs.out (fun p => by omega) (by omega) hq (Nat.le_of_lt hxl)
   have HFf := fun hq => posF (R2 := fun p => p < k + 1) (i := k) HLs.out (fun p => by omega) hq
   rw [hmi, ← show y = _ from HY.out] at HT HFf
   obtain ⟨X, hX⟩ : ∃ X, X = o.getD k 0 := ⟨_, rfl⟩
   rw [← hX] at hc hxl HT HFf htk
   have HYn : Hid ((if 0 < (f X).stamp then wrN (f X).notes y else y) = wrP f (o.take (k + 1)) mem) := by
    show _ = _
    rw [htk, wrP_snoc, ← show y = _ from HY.out]
   have hyl : y.length = mem.length := by rw [HY.out, wrP_len]
   obtain ⟨hb, hoff, na, nc, ha, hbl, hat, hnn⟩ := HH.out X hxl
   obtain ⟨c0, c1, c2, c3, c4, c5, c6, c7⟩ := AttS.up hat HB.out hbl
   have hc2 : wi.cell? ⟨ob, k, none⟩ = some (.int .i64 (X : Int)) := (World.cell?_of_block ((HB.out).block ob hobl)).trans hc
   obtain ⟨Z, hZ⟩ : ∃ Z, Z = f X := ⟨_, rfl⟩
   have hZn := HNt.out X hxl
   rw [← hZ] at c0 c1 c2 c3 c4 c5 c6 c7 HT HFf HYn hnn hZn
   have HRp : Hid (Calls Tryz.prog 117 #[.pointer (some ⟨p, 0, none⟩), .agg #[.int .i64 Z.thread, .int .i64 Z.job, .int .i64 Z.start, .int .i64 Z.fin, .int .i64 Z.valid, .int .i64 Z.stamp, .int .i64 Z.fate, .slice na Z.notes.length nc]] wi (RepIs wi w.heap.size p vb (if 0 < Z.stamp then wrN Z.notes y else y) (rdN Z.notes y))) :=
    replay_any w.heap.size p vb y ua uc U Z na nc (by omega) hZn wi (HB.out).size HR.out (hnn.up HB.out)
   obtain ⟨y2, hy2⟩ : ∃ y2, y2 = (if 0 < Z.stamp then wrN Z.notes y else y) := ⟨_, rfl⟩
   obtain ⟨b, hbb⟩ : ∃ b, b = rdN Z.notes y := ⟨_, rfl⟩
   rw [← hy2] at HYn HRp
   rw [← hbb] at HRp HT HFf
   have k0 : (0 : Int) ≤ (k : Int) := by omega
   have k1 : (k : Int) < (N : Int) := by omega
   have x0 : (0 : Int) ≤ (X : Int) := by omega
   have x1 : (X : Int) < (N : Int) := by omega
   have hwk : IntKind.i64.wrap ((k : Int) + 1) = (k : Int) + 1 := wrapJ9 _ (by omega) (by omega)
   have HLe : Hid (∀ wx, Calls Tryz.prog 86 #[.int .i64 (x : Int), .int .i64 (X : Int)] wx fun e w' => e = .returned (.int .i64 ((if x < X then x else X : Nat) : Int)) ∧ w' = wx) := least_any x X
   subst hoa ha
   clear hX hZ hmi htk hol hc hat hnn hy2 hbb HLs HR
   go_wp2_with fail
   refine (HRp.out).mono ?_
   rintro e wz ⟨rfl, ua2, uc2, U2, hRz, hBz⟩
   have HRz : Hid (WdR wz w.heap.size p vb y2 ua2 uc2 U2) := hRz
   have HBz : Hid (Below w.heap.size w wz) := (HB.out).trans hBz
   clear hRz hBz HRp c0 c1 c2 c3 c4 c5 c6 c7 hc2
   cases b with
   | true =>
    have HNn : Hid (Lst (PosIn (fun p => p < k + 1) o (Misled f N mem)) N x) := HFf (by simp)
    clear HT HFf HLe
    go_wp2_with fail
    go_roundg (N + 1 - (k + 1))
    case rel => exact ⟨x, k + 1, y2, ua2, uc2, U2, rfl, by simp, by omega, rfl, HYn, HNn, HRz, HBz⟩
    case measure => omega
   | false =>
    have HNn : Hid (Lst (PosIn (fun p => p < k + 1) o (Misled f N mem)) N (if x < X then x else X)) := HT rfl
    obtain ⟨xn, hxn⟩ : ∃ xn, xn = (if x < X then x else X) := ⟨_, rfl⟩
    rw [← hxn] at HNn HLe
    clear HT HFf hxn
    go_wp2_with fail
    refine (HLe.out _).mono ?_
    rintro e w1 ⟨rfl, rfl⟩
    go_wp2_with fail
    go_roundg (N + 1 - (k + 1))
    case rel => exact ⟨xn, k + 1, y2, ua2, uc2, U2, rfl, by simp, by omega, rfl, HYn, HNn, HRz, HBz⟩
    case measure => omega
  ·have hkI : ¬ (k : Int) < (N : Int) := by omega
   have HE : Hid (Lst (fun j => j < N ∧ Misled f N mem j) N x) := posE HLs.out HO.out fun p hp => by have := HOl.out; omega
   clear HLs
   go_wp2_with fail
   go_ret
   exact ⟨x, rfl, HE.out, HB.out⟩
end Go.Proofs.YtejadojilncbjabGreat
