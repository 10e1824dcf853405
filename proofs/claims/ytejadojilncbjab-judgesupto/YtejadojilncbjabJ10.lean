import Derived.Test.YtejadojilncbjabJ09
import Derived.Laws.CopyOwn
namespace Go.Proofs.Ytejadojilncbjab
open Go.RowKit
set_option linter.unusedVariables false
attribute [local go_sem ↓] Go.wp_at_zero Go.wp_at_succ

/-- copy, and all blocks but one stay. -/
theorem copy_only {P : Program} {w : World} {ops : Array Oper} {rest : List Oper} {o : Oper} {a : Act} {Q : Exit → Act → World → Prop} (hgd : o.guard = none) (d s : Operand) (dT sT : TypeId)
    (ho : o.op = .call { callee := .builtin .copy, args := #[d, s], argTypes := #[dT, sT] }) (elem : TypeId) (hu : P.underlying dT = some (.slice elem)) (hsz : (P.info? elem).map (·.size) = some 1)
    (dp sp : Option Addr) (dLen dCap sLen sCap : Nat) (hd : a.eval d = .slice dp dLen dCap) (hs : a.eval s = .slice sp sLen sCap)
    (g : Nat) (cur : List Value) (t : TypeId) (hg : w.heap[g]? = some (.cells cur.toArray t (0, 0))) (cs : List Value) (hn : cs.length = Nat.min sLen dLen) (hl : cs.length = cur.length)
    (hpos : 0 < cs.length → dp = some ⟨g, 0, none⟩ ∧ ∃ ad, sp = some ad ∧ ∀ j v, cs[j]? = some v → w.cell? (ad.add j) = some v)
    (h1 : ∀ v ∈ cs, v.oneCell' = true)
    (h : ∀ w', Hid (Blk w' g t cs.toArray) → Hid (Only g w w') → wpList P ops Q rest (a.put o.dst (goInt cs.length)) w') :
    wpList P ops Q (o :: rest) a w := by
  have hsp : splice cur 0 cs = cs := by unfold splice; simp [hl]
  by_cases h0 : cs.length = 0
  · obtain rfl : cs = [] := List.eq_nil_of_length_eq_zero h0
    obtain rfl : cur = [] := List.eq_nil_of_length_eq_zero hl.symm
    refine wpList_copy_nothing hgd d s dT sT ho elem hu hsz dp sp dLen dCap sLen sCap hd hs (by simpa using hn.symm) ?_
    exact h w hg (Only.refl _ _)
  · obtain ⟨rfl, ad, rfl, hsrc⟩ := hpos (by omega)
    refine wpList_copy_own hgd d s dT sT ho elem hu hsz g 0 dLen dCap ad sLen sCap hd hs cur.toArray t hg cs hn hsrc (by simp [hl]) h1 ?_
    refine h _ ?_ ?_
    · exact (show Blk _ g t _ from setRow_heap w g _ _ t _ hg).congr (by apply Array.ext'; simp [hl])
    · exact ⟨rfl, rfl, rfl, by simp [World.setRow], fun k hk hne => setRow_other w g k _ hne⟩

/-- What newWords tells. -/
def NewJ (w : World) (v : List Int) (e : Ending) (w' : World) : Prop := ∃ vb, e = .returned (.agg #[.slice (some ⟨vb, 0, none⟩) v.length v.length, .slice none 0 0]) ∧ Blk w' vb 3 (ivs v).toArray ∧ w.heap.size ≤ vb ∧ Below w.heap.size w w'

set_option maxRecDepth 100000 in
set_option maxHeartbeats 4000000 in
/-- newWords. -/
theorem newWords_any (mem : List Int) (hm : mem.length ≤ 2097152) (ma : Option Addr) (mc : Nat) (w : World) (h : Ints w w.heap.size ma mem) :
    Calls Try.prog 37 #[.slice ma mem.length mc] w (NewJ w mem) := by
  have HI : Hid (Ints w w.heap.size ma mem) := h
  obtain ⟨Z, hZ⟩ : ∃ Z, Z = List.replicate mem.length (Value.int .i64 0) := ⟨_, rfl⟩
  have hZl : Z.length = mem.length := by rw [hZ]; simp
  have hmk := run_makeM mem.length hm
  rw [← hZ] at hmk
  obtain ⟨i0, h1, h2, h3, h4⟩ := info_parts Try.info3
  have hsz : (Try.prog.info? 3).map (·.size) = some 1 := by rw [h1]; simp [h3]
  obtain ⟨CS, hCS⟩ : ∃ CS, CS = ivs mem := ⟨_, rfl⟩
  have hCl : CS.length = mem.length := by rw [hCS]; simp [ivs]
  have HCS : Hid (CS = ivs mem) := hCS
  have HSrc : Hid (∀ wx, Below w.heap.size w wx → 0 < CS.length → ∃ ad, ma = some ad ∧ ∀ j v, CS[j]? = some v → wx.cell? (ad.add j) = some v) := fun wx hb hp => by
    obtain ⟨b, off, ha, hlt, hc⟩ := HI.out 0 (by omega)
    refine ⟨_, ha, fun j v hj => ?_⟩
    have hjl : j < mem.length := by have := (List.getElem?_eq_some_iff.1 hj).1; omega
    obtain ⟨b', off', ha', hlt', hc'⟩ := HI.out j hjl
    rw [ha] at ha'
    cases ha'
    rw [hCS] at hj
    unfold ivs at hj
    rw [List.getElem?_map, List.getElem?_eq_getElem hjl] at hj
    simp at hj
    subst hj
    have hcell : wx.cell? ⟨b, off + j, none⟩ = w.cell? ⟨b, off + j, none⟩ := World.cell?_of_block (hb.block b hlt)
    rw [show ((⟨b, off, none⟩ : Addr).add j) = ⟨b, off + j, none⟩ from by simp [Addr.add], hcell, hc']
    simp [List.getD, List.getElem?_eq_getElem hjl]
  have HOne : Hid (∀ v ∈ CS, v.oneCell' = true) := fun v hv => by
    rw [hCS] at hv
    obtain ⟨z, _, rfl⟩ := List.mem_map.1 hv
    rfl
  clear h hCS h2 h3 h4 hZ h1
  go_enter Try.func37, Try.ntmps37
  go_upto_region 2 with fail
  obtain ⟨w1, hw1⟩ : ∃ w1, w1 = ((w.alloc (.cells #[.slice none 0 0, .slice none 0 0] 92)).alloc (.cells Z.toArray 3)).alloc (.cells #[.slice (some ⟨w.heap.size + 1, 0, none⟩) mem.length mem.length, .slice none 0 0] 92) := ⟨_, rfl⟩
  have HA : Hid (Blk w1 w.heap.size 92 #[.slice none 0 0, .slice none 0 0]) := by rw [hw1]; exact ((Blk.new w _ _).alloc _).alloc _
  have HV : Hid (Blk w1 (w.heap.size + 1) 3 Z.toArray) := by
    rw [hw1]
    have h5 := (Blk.new (w.alloc (.cells #[.slice none 0 0, .slice none 0 0] 92)) 3 Z.toArray).alloc (.cells #[.slice (some ⟨w.heap.size + 1, 0, none⟩) mem.length mem.length, .slice none 0 0] 92)
    rw [show (w.alloc (.cells #[.slice none 0 0, .slice none 0 0] 92)).heap.size = w.heap.size + 1 by simp] at h5
    exact h5
  have HT : Hid (Blk w1 (w.heap.size + 1 + 1) 92 #[.slice (some ⟨w.heap.size + 1, 0, none⟩) mem.length mem.length, .slice none 0 0]) := by
    rw [hw1]
    have h5 := Blk.new ((w.alloc (.cells #[.slice none 0 0, .slice none 0 0] 92)).alloc (.cells Z.toArray 3)) 92 #[.slice (some ⟨w.heap.size + 1, 0, none⟩) mem.length mem.length, .slice none 0 0]
    rw [show ((w.alloc (.cells #[.slice none 0 0, .slice none 0 0] 92)).alloc (.cells Z.toArray 3)).heap.size = w.heap.size + 1 + 1 by simp] at h5
    exact h5
  have HB1 : Hid (Below w.heap.size w w1) := by rw [hw1]; exact (((Below.refl w.heap.size w).alloc (Nat.le_refl _) _).alloc (by simp) _).alloc (by simp; omega) _
  rw [← hw1]
  clear hw1 hmk
  have hc := (HT.out).cell
  go_wp2_with
    (refine copy_only (by rfl) _ _ _ _ (by rfl) 3 Try.underlying24 hsz (some ⟨w.heap.size + 1, 0, none⟩) ma mem.length mem.length mem.length mc (by rfl) (by rfl) (w.heap.size + 1) Z 3 HV.out CS (by rw [hCl]; simp) (by rw [hCl, hZl])
       (fun hp => ⟨rfl, HSrc.out _ HB1.out hp⟩) HOne.out ?_;
     intro w5 hV5 hO5;
     have hc5 := ((HT.out).only hO5.out (by omega)).cell;
     have HA5 : Hid (Blk w5 w.heap.size 92 #[.slice none 0 0, .slice none 0 0]) := (HA.out).only hO5.out (by omega);
     have ha5 := (HA5.out).cell;
     have hf5 := (HA5.out).frozen)
  have hX : Blk ((w5.setCell ⟨w.heap.size, 0, none⟩ (.slice (some ⟨w.heap.size + 1, 0, none⟩) mem.length mem.length)).setCell ⟨w.heap.size, 1, none⟩ (.slice none 0 0)) w.heap.size 92 #[.slice (some ⟨w.heap.size + 1, 0, none⟩) mem.length mem.length, .slice none 0 0] := ((HA5.out).set.set).congr (by simp)
  have hB5 : Below w.heap.size w w5 := (HB1.out).trans ⟨(hO5.out).os, (hO5.out).tape, (hO5.out).output, (hO5.out).size, fun k hk => (hO5.out).block k (Nat.lt_of_lt_of_le hk (HB1.out).size) (by omega)⟩
  have hoX : Only w.heap.size w5 ((w5.setCell ⟨w.heap.size, 0, none⟩ (.slice (some ⟨w.heap.size + 1, 0, none⟩) mem.length mem.length)).setCell ⟨w.heap.size, 1, none⟩ (.slice none 0 0)) := ((Only.refl _ _).set).set
  have hV6 : Blk ((w5.setCell ⟨w.heap.size, 0, none⟩ (.slice (some ⟨w.heap.size + 1, 0, none⟩) mem.length mem.length)).setCell ⟨w.heap.size, 1, none⟩ (.slice none 0 0)) (w.heap.size + 1) 3 (ivs mem).toArray := by
    rw [← HCS.out]
    exact (hV5.out).only hoX (by omega)
  have e0 := hX.cell 0
  have e1 := hX.cell 1
  exact bodyPost_ret (v := .agg #[.slice (some ⟨w.heap.size + 1, 0, none⟩) mem.length mem.length, .slice none 0 0]) (by simp at e0 e1; simp [results, Try.results37, go_sem, e0, e1]) rfl ⟨_, rfl, hV6, by omega, (hB5.setCell (Nat.le_refl _) _).setCell (Nat.le_refl _) _⟩

end Go.Proofs.Ytejadojilncbjab
