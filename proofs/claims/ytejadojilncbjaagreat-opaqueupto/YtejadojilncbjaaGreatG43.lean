import Derived.Test.YtejadojilncbjaaGreatG41
import Derived.Test.YtejadojilncbjaaGreatG42
import Derived.Test.YtejadojilncbjaaGreatG35
namespace Go.Proofs.YtejadojilncbjaaGreat
open Go.RowKit
set_option linter.unusedVariables false
attribute [local go_sem ↓] Go.wp_at_zero Go.wp_at_succ

/-! Notes over a list of words. -/

def ovL (ws : List Int) (l : List NoteD) : List Int := l.foldl (fun ws n => if n.op = 7 then ws else ws.set n.addr.toNat n.val) ws
def FolOk (ws : List Int) (l : List NoteD) : Prop := ∀ (k : Nat) (n : NoteD), l[k]? = some n → 0 ≤ n.addr ∧ n.addr < (ws.length : Int) ∧ ((n.op = 7 ∧ (ovL ws (l.take k)).getD n.addr.toNat 0 = n.val) ∨ n.op = 8)

theorem ovL_snoc (ws : List Int) (l : List NoteD) (n : NoteD) : ovL ws (l ++ [n]) = if n.op = 7 then ovL ws l else (ovL ws l).set n.addr.toNat n.val := by
  unfold ovL
  rw [List.foldl_append]
  rfl
theorem ovL_len (ws : List Int) : ∀ (n : Nat) (l : List NoteD), l.length = n → (ovL ws l).length = ws.length
  | 0, l, h => by rw [List.length_eq_zero_iff.1 h]; rfl
  | n + 1, l, h => by
    obtain ⟨l0, z, rfl⟩ : ∃ l0 z, l = l0 ++ [z] := by
      rcases List.eq_nil_or_concat l with e | ⟨l0, z, e⟩
      · rw [e] at h; cases h
      · exact ⟨l0, z, by rw [e, List.concat_eq_append]⟩
    rw [ovL_snoc]
    have := ovL_len ws n l0 (by simpa using h)
    split
    · exact this
    · rw [List.length_set]; exact this

theorem ovL_get {ws : List Int} {f : Int → Int} (hf : ∀ a : Nat, a < ws.length → f (a : Int) = ws.getD a 0) : ∀ (n : Nat) (l : List NoteD), l.length = n → (∀ m ∈ l, 0 ≤ m.addr ∧ m.addr < (ws.length : Int)) → ∀ a : Nat, a < ws.length → overN l f (a : Int) = (ovL ws l).getD a 0
  | 0, l, h, _, a, ha => by
    rw [List.length_eq_zero_iff.1 h]
    exact hf a ha
  | n + 1, l, h, hb, a, ha => by
    obtain ⟨l0, z, rfl⟩ : ∃ l0 z, l = l0 ++ [z] := by
      rcases List.eq_nil_or_concat l with e | ⟨l0, z, e⟩
      · rw [e] at h; cases h
      · exact ⟨l0, z, by rw [e, List.concat_eq_append]⟩
    have hl : l0.length = n := by simpa using h
    have ih := ovL_get hf n l0 hl (fun m hm => hb m (by simp [hm])) a ha
    rw [ovL_snoc, overN_snoc]
    have hz := hb z (by simp)
    split
    · exact ih
    · by_cases hza : z.addr.toNat = a
      · have e : (a : Int) = z.addr := by omega
        rw [e, upd_at, ← hza]
        have hlen := ovL_len ws n l0 hl
        simp [List.getD, show z.addr.toNat < (ovL ws l0).length by omega]
      · rw [upd_off (by omega), ih]
        simp [List.getD, hza]

theorem fOk_take : ∀ (l : List NoteD) (f : Int → Int) (k : Nat) (n : NoteD), fOk l f → l[k]? = some n → n.op = 7 → overN (l.take k) f n.addr = n.val
  | [], f, k, n, _, h, _ => by simp at h
  | m :: r, f, 0, n, h, hk, h7 => by
    simp at hk
    subst hk
    unfold fOk at h
    rw [if_pos h7] at h
    exact h.1
  | m :: r, f, k + 1, n, h, hk, h7 => by
    have hk' : r[k]? = some n := by simpa using hk
    unfold fOk at h
    rw [List.take_succ_cons]
    show overN (r.take k) (if m.op = 7 then f else upd f m.addr m.val) n.addr = n.val
    split
    · rename_i h0
      rw [if_pos h0] at h
      exact fOk_take r f k n h.2 hk' h7
    · rename_i h0
      rw [if_neg h0] at h
      exact fOk_take r _ k n h hk' h7

theorem folOk {ws : List Int} {f : Int → Int} (hf : ∀ a : Nat, a < ws.length → f (a : Int) = ws.getD a 0) {l : List NoteD} (h : fOk l f) (hb : ∀ m ∈ l, (m.op = 7 ∨ m.op = 8) ∧ 0 ≤ m.addr ∧ m.addr < (ws.length : Int)) : FolOk ws l := fun k n hk => by
  obtain ⟨h1, h2, h3⟩ := hb n (List.mem_of_getElem? hk)
  refine ⟨h2, h3, ?_⟩
  rcases h1 with h1 | h1
  · refine Or.inl ⟨h1, ?_⟩
    have e := ovL_get hf _ (l.take k) rfl (fun m hm => (hb m (List.mem_of_mem_take hm)).2) n.addr.toNat (by omega)
    rw [← e, show ((n.addr.toNat : Nat) : Int) = n.addr by omega]
    exact fOk_take l f k n h hk h1
  · exact Or.inr h1

/-- What follows tells. -/
def FolIs (w : World) (ws : List Int) (e : Ending) (w' : World) : Prop :=
  ∃ g : Nat, e = .returned (.tuple #[.slice (some ⟨g, 0, none⟩) ws.length ws.length, .bool true]) ∧ Ints w' w'.heap.size (some ⟨g, 0, none⟩) ws ∧ Below w.heap.size w w'

set_option maxRecDepth 100000 in
set_option maxHeartbeats 1000000 in
/-- The keepers' follows. -/
theorem follows_any (ws : List Int) (l : List NoteD) (hfo : FolOk ws l) (a na : Option Addr) (cap nc : Nat) (w : World) (hz : ws.length ≤ 1000) (hnl : l.length ≤ maxLen) (h : Ints w w.heap.size a ws) (hn : NotIn w w.heap.size na l) :
    Calls Tryz.prog 27 #[.slice a ws.length cap, .slice na l.length nc] w (FolIs w (ovL ws l)) := by
  have HI : Hid (Ints w w.heap.size a ws) := h
  have HN : Hid (NotIn w w.heap.size na l) := hn
  have HFo : Hid (FolOk ws l) := hfo
  obtain ⟨Z, hZ⟩ : ∃ Z, Z = List.replicate ws.length (Value.int .i64 0) := ⟨_, rfl⟩
  have hZl : Z.length = ws.length := by rw [hZ]; simp
  have hmk := run_make3 ws.length hz
  rw [← hZ] at hmk
  obtain ⟨i0, h1, h2, h3, h4⟩ := info_parts Tryz.info3
  have hsz : (Tryz.prog.info? 3).map (·.size) = some 1 := by rw [h1]; simp [h3]
  obtain ⟨CS, hCS⟩ : ∃ CS, CS = ws.map (Value.int .i64 ·) := ⟨_, rfl⟩
  have hCl : CS.length = ws.length := by rw [hCS]; simp
  have HCS : Hid (CS = ws.map (Value.int .i64 ·)) := hCS
  have HSrc : Hid (0 < CS.length → ∃ ad, a = some ad ∧ ∀ j v, CS[j]? = some v → (w.alloc (.cells Z.toArray 3)).cell? (ad.add j) = some v) := fun hp => by
    obtain ⟨b, off, ha, hlt, hc⟩ := HI.out 0 (by omega)
    refine ⟨_, ha, fun j v hj => ?_⟩
    have hjl : j < ws.length := by have := (List.getElem?_eq_some_iff.1 hj).1; omega
    obtain ⟨b', off', ha', hlt', hc'⟩ := HI.out j hjl
    rw [ha] at ha'
    cases ha'
    rw [hCS, List.getElem?_map, List.getElem?_eq_getElem hjl] at hj
    simp at hj
    subst hj
    have hcell : (w.alloc (.cells Z.toArray 3)).cell? ⟨b, off + j, none⟩ = w.cell? ⟨b, off + j, none⟩ := World.cell?_of_block (((Below.refl _ _).alloc (Nat.le_refl _) _).block b hlt)
    rw [show ((⟨b, off, none⟩ : Addr).add j) = ⟨b, off + j, none⟩ from by simp [Addr.add], hcell, hc']
    simp [List.getD, List.getElem?_eq_getElem hjl]
  have HOne : Hid (∀ v ∈ CS, v.oneCell' = true) := fun v hv => by
    rw [hCS] at hv
    obtain ⟨z, _, rfl⟩ := List.mem_map.1 hv
    rfl
  have HSp : Hid ((splice Z 0 CS) = CS) := by
    show _ = _
    unfold splice
    simp [hCl, hZl]
  have hlm : l.length ≤ 9223372036854775807 := by unfold maxLen at hnl; omega
  obtain ⟨g, hg⟩ : ∃ g, g = w.heap.size := ⟨_, rfl⟩
  clear h hCS h2 h3 h4 hZ hn hfo
  go_enter Tryz.func27, Tryz.ntmps27
  go_wp2_with
    (refine wpList_copy_splice (by rfl) _ _ _ _ (by rfl) 3 Tryz.underlying24 hsz (some ⟨w.heap.size, 0, none⟩) a ws.length ws.length ws.length cap (by rfl) (by rfl) w.heap.size 0 Z 3 (by exact heap_alloc_new w _) CS (by rw [hCl]; simp)
       (fun hp => ⟨rfl, HSrc.out hp⟩) (by simp [hCl, hZl]) HOne.out w.heap.size w (by exact (Below.refl _ _).alloc (Nat.le_refl _) _) (Nat.le_refl _) ?_;
     intro w5 hrow hbel;
     have HW5 : Hid (Blk w5 w.heap.size 3 (ws.map (Value.int .i64 ·)).toArray ∧ Below w.heap.size w w5) := (by have h := hrow.out; rw [HSp.out, HCS.out] at h; exact ⟨h, hbel⟩);
     clear hrow hbel)
  rw [← hg]
  have HG : Hid (g = w.heap.size) := hg
  rw [← hg] at HW5
  have HO0 : Hid (ovL ws (l.take 0) = ws) := rfl
  clear hg hmk hsz hCl hZl HSrc HOne HSp HCS HI
  go_loopg [7] (l.length + 1) (fun m t7 wr => ∃ k : Nat, t7 = .int .i64 (k : Int) ∧ k ≤ l.length ∧ m = l.length + 1 - k ∧ Hid (Blk wr g 3 ((ovL ws (l.take k)).map (Value.int .i64 ·)).toArray) ∧ Hid (Below w.heap.size w wr))
  case atStart => exact ⟨0, rfl, by omega, by omega, by rw [HO0.out]; exact (HW5.out).1, (by have h := (HW5.out).2; rw [HG.out] at h; exact h)⟩
  case round =>
    obtain ⟨k, rfl, hk, hgk, HBk, HB⟩ := hrel
    clear HW5 HO0
    by_cases hkl : k < l.length
    · obtain ⟨nb, hna, hnb, q0, q1, q2⟩ := HN.out k hkl
      obtain ⟨n, hnk⟩ : ∃ n, l[k]? = some n := ⟨_, List.getElem?_eq_getElem hkl⟩
      have hnd : l.getD k noNote = n := by simp [List.getD, hnk]
      rw [hnd] at q0 q1 q2
      obtain ⟨f1, f2, f3⟩ := HFo.out k n hnk
      have hup : ∀ o, wr.cell? ⟨nb, o, none⟩ = w.cell? ⟨nb, o, none⟩ := fun o => World.cell?_of_block ((HB.out).block nb hnb)
      have d0 := (hup _).trans q0
      have d1 := (hup _).trans q1
      have d2 := (hup _).trans q2
      have hk0 : (0 : Int) ≤ (k : Int) := by omega
      have hk1 : (k : Int) < (l.length : Int) := by omega
      have hwk : IntKind.i64.wrap ((k : Int) + 1) = (k : Int) + 1 := by rw [IntKind.wrap_i64]; omega
      have HSn : Hid (ovL ws (l.take (k + 1)) = if n.op = 7 then ovL ws (l.take k) else (ovL ws (l.take k)).set n.addr.toNat n.val) := by
        show _ = _
        rw [List.take_add_one, hnk]
        exact ovL_snoc _ _ _
      obtain ⟨W, hW⟩ : ∃ W, W = ovL ws (l.take k) := ⟨_, rfl⟩
      have hWl : W.length = ws.length := by rw [hW]; exact ovL_len ws _ _ rfl
      rw [← hW] at HBk HSn f3
      obtain ⟨op, ad, vl⟩ := n
      simp only at d0 d1 d2 f1 f2 f3 HSn
      obtain ⟨A, hA⟩ := Int.eq_ofNat_of_zero_le f1
      have hA' : ad = (A : Int) := hA
      subst hA'
      have hAl : A < W.length := by omega
      have hgr : g < wr.heap.size := (HBk.out).lt
      have hgn : g ≠ wr.heap.size := by omega
      obtain ⟨v0, hv0⟩ : ∃ v0, v0 = W.getD A 0 := ⟨_, rfl⟩
      have hcw : wr.cell? ⟨g, A, none⟩ = some (.int .i64 v0) := by
        rw [hv0]
        rw [(HBk.out).cell]
        simp [List.getD, List.getElem?_eq_getElem hAl]
      have hgf := (HBk.out).frozen
      have n1 : ¬ ((A : Int) < 0) := by omega
      have n2 : ¬ ((A : Int) ≥ (ws.length : Int)) := by omega
      have n3 : (A : Int) < (ws.length : Int) := by omega
      have n4 : (0 : Int) ≤ (A : Int) := by omega
      have hBn : Below wr.heap.size wr (wr.alloc (.cells #[.int .i64 op, .int .i64 (A : Int), .int .i64 vl] 95)) := (Below.refl _ _).alloc (Nat.le_refl _) _
      have HBn : Hid (Below w.heap.size w (wr.alloc (.cells #[.int .i64 op, .int .i64 (A : Int), .int .i64 vl] 95))) := (HB.out).trans (hBn.mono (HB.out).size)
      have HBkn : Hid (Blk (wr.alloc (.cells #[.int .i64 op, .int .i64 (A : Int), .int .i64 vl] 95)) g 3 (W.map (Value.int .i64 ·)).toArray) := (HBk.out).alloc _
      subst hna
      clear q0 q1 q2 hup hnk hnd hW hA hBn f1 f2
      rcases f3 with ⟨rfl, hv⟩ | rfl
      · have hvb : (v0 != vl) = false := by
          have e : W.getD ((A : Int).toNat) 0 = W.getD A 0 := rfl
          rw [← hv, e, ← hv0]
          simp
        have HSn2 : Hid (ovL ws (l.take (k + 1)) = W) := (HSn.out).trans (if_pos rfl)
        clear HSn hv hv0
        go_wp2
        go_quiet (fail)
        go_wp2
        go_roundg (gk - 1)
        case rel => exact ⟨k + 1, by simp, by omega, by omega, by rw [HSn2.out]; exact (HBkn.out).drewN nq, belowDrewN HBn.out nq⟩
        case measure => omega
      · have HSn2 : Hid (ovL ws (l.take (k + 1)) = W.set A vl) := (HSn.out).trans (if_neg (by decide))
        clear HSn hv0
        go_wp2_with fail
        go_roundg (gk - 1)
        case rel => exact ⟨k + 1, by simp, by omega, by omega, by rw [HSn2.out]; exact (blk_set HBk.out).alloc _, (below_set HB.out (Nat.le_of_eq (HG.out).symm)).alloc (by simp [World.setCell]; exact (HB.out).size) _⟩
        case measure => omega
    · have hke : ¬ (k : Int) < (l.length : Int) := by omega
      have hkl2 : l.take k = l := List.take_of_length_le (by omega)
      have HF : Hid (Ints wr wr.heap.size (some ⟨g, 0, none⟩) (ovL ws l) ∧ Below w.heap.size w wr) := by
        rw [hkl2] at HBk
        exact ⟨ints_blk HBk.out, HB.out⟩
      have HLn : Hid ((ovL ws l).length = ws.length) := ovL_len ws _ l rfl
      clear HBk HB hkl2
      go_wp2_with fail
      exact bodyPost_ret (v := .tuple #[.slice (some ⟨g, 0, none⟩) ws.length ws.length, .bool true]) (by simp [results, Tryz.results27, go_sem]) rfl ⟨g, by rw [HLn.out], (HF.out).1, (HF.out).2⟩

end Go.Proofs.YtejadojilncbjaaGreat
