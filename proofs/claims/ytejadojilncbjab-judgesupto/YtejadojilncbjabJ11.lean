import Derived.Test.YtejadojilncbjabJ07
import Derived.Test.YtejadojilncbjabJ10
namespace Go.Proofs.Ytejadojilncbjab
open Go.RowKit
set_option linter.unusedVariables false
attribute [local go_sem ↓] Go.wp_at_zero Go.wp_at_succ

/-- What written leaves. -/
def WrtIs (w : World) (vb : Nat) (y : List Int) (e : Ending) (w' : World) : Prop := e = .returned (.tuple #[]) ∧ Blk w' vb 3 (ivs y).toArray ∧ Only vb w w'

theorem only_below {w w' : World} {p : Nat} (h : Below w.heap.size w w') : Only p w w' := ⟨h.os, h.tape, h.output, h.size, fun k hk _ => h.block k hk⟩
theorem below_of_only {w w' : World} {p B : Nat} (h : Only p w w') (hB : B ≤ p) (hw : B ≤ w.heap.size) : Below B w w' := ⟨h.os, h.tape, h.output, h.size, fun k hk => h.block k (by omega) (by omega)⟩

set_option maxRecDepth 100000 in
set_option maxHeartbeats 2000000 in
/-- The document's written. -/
theorem written_any (vb W wc : Nat) (y : List Int) (hW : y.length = W) (n : NoteD) (hy : W ≤ 2097152) (w : World) (h : Blk w vb 3 (ivs y).toArray) :
    Calls Try.prog 41 #[.slice (some ⟨vb, 0, none⟩) W wc, .agg #[.int .i64 n.op, .int .i64 n.addr, .int .i64 n.val]] w (WrtIs w vb (nStep n y)) := by
  obtain ⟨w1, hw1⟩ : ∃ w1, w1 = w.alloc (.cells #[.int .i64 n.op, .int .i64 n.addr, .int .i64 n.val] 99) := ⟨_, rfl⟩
  have hB1 : Below w.heap.size w w1 := by rw [hw1]; exact (Below.refl _ _).alloc (Nat.le_refl _) _
  have HN1 : Hid (Blk w1 w.heap.size 99 #[.int .i64 n.op, .int .i64 n.addr, .int .i64 n.val]) := by rw [hw1]; exact Blk.new w _ _
  have HV1 : Hid (Blk w1 vb 3 (ivs y).toArray) := h.below hB1 h.lt
  have HO1 : Hid (Only vb w w1) := only_below hB1
  have hnc := (HN1.out).cell
  obtain ⟨op, ad, va⟩ := n
  simp only at hnc ⊢
  clear h hB1
  go_enter Try.func41, Try.ntmps41
  go_upto_region 1 with fail
  rw [← hw1]
  clear hw1 HN1
  by_cases h8 : op = 8
  · by_cases h0 : 0 ≤ ad
    · by_cases h1 : ad < (W : Int)
      · obtain ⟨a, ha⟩ := Int.eq_ofNat_of_zero_le h0
        have ha' : ad = (a : Int) := ha
        clear ha
        subst ha'
        have hst : nStep ⟨op, (a : Int), va⟩ y = y.set a va := by
          unfold nStep
          rw [if_pos ⟨h8, h0, by rw [hW]; exact h1⟩]
          rfl
        have HE : Hid (Blk (w1.setCell ⟨vb, a, none⟩ (.int .i64 va)) vb 3 (ivs (nStep ⟨op, (a : Int), va⟩ y)).toArray ∧ Only vb w (w1.setCell ⟨vb, a, none⟩ (.int .i64 va))) := by
          refine ⟨?_, (HO1.out).set⟩
          rw [hst]
          refine ((HV1.out).set).congr ?_
          rw [List.setIfInBounds_toArray]
          unfold ivs
          rw [List.map_set]
        have hal : a < y.length := by omega
        have hvc : w1.cell? ⟨vb, a, none⟩ = some (.int .i64 (y.getD a 0)) := by
          rw [(HV1.out).cell a]
          simp [ivs, List.getElem?_eq_getElem hal, List.getD]
        have hvf := (HV1.out).frozen a
        have h0' : (a : Int) ≥ 0 := h0
        subst h8
        clear hst
        go_wp2_with fail
        go_end0
        exact ⟨rfl, (HE.out).1, (HE.out).2⟩
      · have hst : nStep ⟨op, ad, va⟩ y = y := by unfold nStep; rw [if_neg (fun q => h1 (by have := q.2.2; rw [hW] at this; exact this))]
        have HE : Hid (Blk w1 vb 3 (ivs (nStep ⟨op, ad, va⟩ y)).toArray ∧ Only vb w w1) := by rw [hst]; exact ⟨HV1.out, HO1.out⟩
        have h0' : ad ≥ 0 := h0
        subst h8
        clear hst
        go_wp2_with fail
        go_end0
        exact ⟨rfl, (HE.out).1, (HE.out).2⟩
    · have hst : nStep ⟨op, ad, va⟩ y = y := by unfold nStep; rw [if_neg (fun q => h0 q.2.1)]
      have HE : Hid (Blk w1 vb 3 (ivs (nStep ⟨op, ad, va⟩ y)).toArray ∧ Only vb w w1) := by rw [hst]; exact ⟨HV1.out, HO1.out⟩
      have h0' : ¬ ad ≥ 0 := h0
      subst h8
      clear hst
      go_wp2_with fail
      go_end0
      exact ⟨rfl, (HE.out).1, (HE.out).2⟩
  · have hst : nStep ⟨op, ad, va⟩ y = y := by unfold nStep; rw [if_neg (fun q => h8 q.1)]
    have HE : Hid (Blk w1 vb 3 (ivs (nStep ⟨op, ad, va⟩ y)).toArray ∧ Only vb w w1) := by rw [hst]; exact ⟨HV1.out, HO1.out⟩
    have h8' : (op == 8) = false := by simp [h8]
    clear hst
    go_wp2_with fail
    go_end0
    exact ⟨rfl, (HE.out).1, (HE.out).2⟩

/-- What right tells. -/
def RgtIs (w : World) (f : Nat → AttD) (N j : Nat) (mem : List Int) (e : Ending) (w' : World) : Prop := ∃ l : List Nat, l.Pairwise (Kl f) ∧ (∀ i, i ∈ l ↔ (i < N ∧ Kl f i j ∧ 0 < (f i).stamp)) ∧ e = .returned (.bool (rdN (f j).notes (wrL f l mem))) ∧ Below w.heap.size w w'

theorem take_all {α : Type} {l : List α} {k : Nat} (h : l.length ≤ k) : l.take k = l := List.take_of_length_le h

theorem noteSnoc {ns : List NoteD} {i : Nat} (h : i < ns.length) : ns.take (i + 1) = ns.take i ++ [ns.getD i noNt] := by
  rw [List.getD_eq_getElem?_getD, List.getElem?_eq_getElem h, List.take_add_one, List.getElem?_eq_getElem h]
  rfl

theorem takeSnoc {o : List Nat} {i : Nat} (h : i < o.length) : o.take (i + 1) = o.take i ++ [o.getD i 0] := by
  rw [List.getD_eq_getElem?_getD, List.getElem?_eq_getElem h, List.take_add_one, List.getElem?_eq_getElem h]
  rfl

set_option maxRecDepth 100000 in
set_option maxHeartbeats 8000000 in
/-- The document's right. -/
theorem right_any (L : List AttD) (N : Nat) (hN : L.length = N) (hL : N ≤ 2097152) (mem : List Int) (hm : mem.length ≤ 2097152) (hnt : ∀ k, k < N → (atL L k).notes.length ≤ 2097152) (j : Nat) (hj : j < N) (ma a : Option Addr) (mc cp : Nat) (w : World) (hmi : Ints w w.heap.size ma mem) (h : HistIn w w.heap.size a L) :
    Calls Try.prog 30 #[.slice ma mem.length mc, .slice a N cp, .int .i64 (j : Int)] w (RgtIs w (atL L) N j mem) := by
  have HI : Hid (Ints w w.heap.size ma mem) := hmi
  have HH : Hid (HistIn w w.heap.size a L) := h
  obtain ⟨f, hf⟩ : ∃ f, f = atL L := ⟨_, rfl⟩
  rw [← hf] at hnt ⊢
  have HF : Hid (f = atL L) := hf
  have HNt : Hid (∀ k, k < N → (f k).notes.length ≤ 2097152) := hnt
  have HNl : Hid (L.length = N) := hN
  clear hf
  obtain ⟨Z, hZ⟩ : ∃ Z, Z = List.replicate mem.length (Value.int .i64 0) := ⟨_, rfl⟩
  have hZl : Z.length = mem.length := by rw [hZ]; simp
  have hmk := run_makeM mem.length hm
  rw [← hZ] at hmk
  obtain ⟨i0, h1, h2, h3, h4⟩ := info_parts Try.info3
  have hsz : (Try.prog.info? 3).map (·.size) = some 1 := by rw [h1]; simp [h3]
  obtain ⟨CS, hCS⟩ : ∃ CS, CS = ivs mem := ⟨_, rfl⟩
  have hCl : CS.length = mem.length := by rw [hCS]; simp [ivs]
  have HCS : Hid (CS = ivs mem) := hCS
  have HSrc : Hid (∀ wx, Below w.heap.size w wx → 0 < CS.length → ∃ ad, ma = some ad ∧ ∀ j v, CS[j]? = some v → wx.cell? (ad.add j) = some v) := fun wx hb hp => by
    obtain ⟨b, off, ha, hlt, hc⟩ := HI.out 0 (by omega)
    refine ⟨_, ha, fun j v hj => ?_⟩
    have hjl : j < mem.length := by have := (List.getElem?_eq_some_iff.1 hj).1; omega
    obtain ⟨b', off', ha', hlt', hc'⟩ := HI.out j hjl
    rw [ha] at ha'
    cases ha'
    rw [hCS] at hj
    unfold ivs at hj
    rw [List.getElem?_map, List.getElem?_eq_getElem hjl] at hj
    simp at hj
    subst hj
    have hcell : wx.cell? ⟨b, off + j, none⟩ = w.cell? ⟨b, off + j, none⟩ := World.cell?_of_block (hb.block b hlt)
    rw [show ((⟨b, off, none⟩ : Addr).add j) = ⟨b, off + j, none⟩ from by simp [Addr.add], hcell, hc']
    simp [List.getD, List.getElem?_eq_getElem hjl]
  have HOne : Hid (∀ v ∈ CS, v.oneCell' = true) := fun v hv => by
    rw [hCS] at hv
    obtain ⟨z, _, rfl⟩ := List.mem_map.1 hv
    rfl
  clear h hmi hnt hN hCS h2 h3 h4 hZ h1
  go_enter Try.func30, Try.ntmps30
  go_upto_region 2 with fail
  obtain ⟨w1, hw1⟩ : ∃ w1, w1 = w.alloc (.cells Z.toArray 3) := ⟨_, rfl⟩
  have HV1 : Hid (Blk w1 w.heap.size 3 Z.toArray) := by rw [hw1]; exact Blk.new w 3 _
  have HB1 : Hid (Below w.heap.size w w1) := by rw [hw1]; exact (Below.refl w.heap.size w).alloc (Nat.le_refl _) _
  rw [← hw1]
  obtain ⟨vb, hvb⟩ : ∃ vb, vb = w.heap.size := ⟨_, rfl⟩
  rw [← hvb] at HV1 ⊢
  have HVb : Hid (vb = w.heap.size) := hvb
  clear hw1 hmk hvb
  go_wp2_with
    (refine copy_only (by rfl) _ _ _ _ (by rfl) 3 Try.underlying24 hsz (some ⟨vb, 0, none⟩) ma mem.length mem.length mem.length mc (by rfl) (by rfl) vb Z 3 HV1.out CS (by rw [hCl]; simp) (by rw [hCl, hZl])
       (fun hp => ⟨rfl, HSrc.out _ HB1.out hp⟩) HOne.out ?_;
     intro w2 hV2 hO2)
  have HB2 : Hid (Below w.heap.size w w2) := (HB1.out).trans (below_of_only hO2.out (by rw [HVb.out]; exact Nat.le_refl _) (HB1.out).size)
  have HV2 : Hid (Blk w2 vb 3 (ivs mem).toArray) := by rw [← HCS.out]; exact hV2.out
  clear hV2 hO2 HV1 HB1 HSrc HOne HCS hZl hCl hsz
  refine (orderedJ_any L N HNl.out hL j hj a cp w2 (((HH.out).up HB2.out).mono (HB2.out).size)).mono ?_
  rintro e w3 ⟨l, la, lc, n, rfl, hln, hnN, hpw, hmem, hli, hb3, hfar⟩
  rw [← show f = atL L from HF.out] at hpw
  simp only [← show f = atL L from HF.out] at hmem
  have HB3 : Hid (Below w.heap.size w w3) := (HB2.out).trans (hb3.mono (HB2.out).size)
  have HV3 : Hid (Blk w3 vb 3 (ivs mem).toArray) := (HV2.out).below hb3 (HV2.out).lt
  have HL : Hid (l.length = n ∧ l.Pairwise (Kl f) ∧ ∀ i, i ∈ l ↔ (i < N ∧ Kl f i j ∧ 0 < (f i).stamp)) := ⟨hln, hpw, hmem⟩
  have HLi : Hid (∀ i, i < n → ∃ b, la = some ⟨b, 0, none⟩ ∧ b < w3.heap.size ∧ b ≠ vb ∧ w3.cell? ⟨b, i, none⟩ = some (.int .i64 ((l.getD i 0 : Nat) : Int))) := fun i hi => by
    obtain ⟨b, k1, k2, k3⟩ := hli i (by omega)
    refine ⟨b, k1, k2, ?_, k3⟩
    have k4 := hfar _ k1
    have k5 := (HV2.out).lt
    simp only at k4
    omega
  have hnN2 : n ≤ 2097152 := by omega
  have HAt : Hid (∀ k, k < N → ∃ b off na nc, a = some ⟨b, off, none⟩ ∧ b < w.heap.size ∧ w.cell? ⟨b, off + k * 8 + 7, none⟩ = some (.slice na (f k).notes.length nc) ∧ NotesIn w w.heap.size na (f k).notes) := fun k hk => by
    obtain ⟨b, off, na, nc, ha, hl, ⟨_, _, _, _, _, _, _, c7⟩, hn⟩ := (HH.out).att (k := k) (by rw [HNl.out]; exact hk)
    exact ⟨b, off, na, nc, ha, hl, by rw [HF.out]; exact c7, by rw [HF.out]; exact hn⟩
  clear hln hpw hmem hli hb3 hfar HB2 HV2 HH HNl HI hnN
  go_wp2_with fail
  go_loopg [9] (n + 1) (fun m t9 wr => ∃ i : Nat, t9 = .int .i64 (i : Int) ∧ i ≤ n ∧ m = n + 1 - i ∧ Hid (Blk wr vb 3 (ivs (wrL f (l.take i) mem)).toArray) ∧ Hid (Only vb w3 wr))
  case atStart => exact ⟨0, rfl, by omega, by omega, HV3, Only.refl _ _⟩
  case round =>
    obtain ⟨i, rfl, hi, hgi, HV, HO⟩ := hrel
    obtain ⟨wi, hwi⟩ : ∃ wi, wi = wr := ⟨_, rfl⟩
    subst hwi
    clear HV3
    have HBi : Hid (Below w.heap.size w wi) := (HB3.out).trans (below_of_only HO.out (by rw [HVb.out]; exact Nat.le_refl _) (HB3.out).size)
    by_cases hin : i < n
    · obtain ⟨lb, hla, hlbl, hlne, hc⟩ := HLi.out i hin
      have hc2 : wi.cell? ⟨lb, i, none⟩ = some (.int .i64 ((l.getD i 0 : Nat) : Int)) := (World.cell?_of_block ((HO.out).block lb hlbl hlne)).trans hc
      have hll := (HL.out).1
      have hmemX : l.getD i 0 ∈ l := by
        rw [List.getD_eq_getElem?_getD, List.getElem?_eq_getElem (show i < l.length by omega)]
        exact List.getElem_mem _
      have hXN := (((HL.out).2.2 _).1 hmemX).1
      have hts := takeSnoc (o := l) (i := i) (by omega)
      obtain ⟨X, hX⟩ : ∃ X, X = l.getD i 0 := ⟨_, rfl⟩
      rw [← hX] at hc2 hXN hts
      obtain ⟨hb, hoff, na, nc, ha, hbl, c7, hnn⟩ := HAt.out X hXN
      have c72 : wi.cell? ⟨hb, hoff + X * 8 + 7, none⟩ = some (.slice na (f X).notes.length nc) := (World.cell?_of_block ((HBi.out).block hb hbl)).trans c7
      obtain ⟨ns, hns⟩ : ∃ ns, ns = (f X).notes := ⟨_, rfl⟩
      have hnsl := HNt.out X hXN
      rw [← hns] at c72 hnn hnsl
      obtain ⟨Y, hY⟩ : ∃ Y, Y = wrL f (l.take i) mem := ⟨_, rfl⟩
      have HYn : Hid (wrL f (l.take (i + 1)) mem = wrN ns Y) := by show _ = _; rw [hts, wrL_snoc, ← hns, ← hY]
      have hYl : Y.length = mem.length := by rw [hY, wrL_len]
      rw [← hY] at HV
      have HNn : Hid (NotesIn w w.heap.size na ns) := hnn
      have i0 : (0 : Int) ≤ (i : Int) := by omega
      have i1 : (i : Int) < (n : Int) := by omega
      have x0 : (0 : Int) ≤ (X : Int) := by omega
      have x1 : (X : Int) < (N : Int) := by omega
      have hwi1 : IntKind.i64.wrap ((i : Int) + 1) = (i : Int) + 1 := wrapJ9 _ (by omega) (by omega)
      subst hla ha
      clear hc hX hns hY hts c7 hnn hmemX hll
      go_wp2_with fail
      go_loopg [11] (ns.length + 1) (fun m t11 wx => ∃ k : Nat, t11 = .int .i64 (k : Int) ∧ k ≤ ns.length ∧ m = ns.length + 1 - k ∧ Hid (Blk wx vb 3 (ivs (wrN (ns.take k) Y)).toArray) ∧ Hid (Only vb w3 wx))
      case atStart => exact ⟨0, rfl, by omega, by omega, HV, HO⟩
      case round =>
        obtain ⟨k, rfl, hk, hgk, HVk, HOk⟩ := hrel
        obtain ⟨wk, hwk⟩ : ∃ wk, wk = wr := ⟨_, rfl⟩
        subst hwk
        clear HV HO
        have HBk : Hid (Below w.heap.size w wk) := (HB3.out).trans (below_of_only HOk.out (by rw [HVb.out]; exact Nat.le_refl _) (HB3.out).size)
        by_cases hkn : k < ns.length
        · obtain ⟨nb, noff, hna, hnl, n0, n1, n2⟩ := HNn.out k hkn
          have up : ∀ o, wk.cell? ⟨nb, o, none⟩ = w.cell? ⟨nb, o, none⟩ := fun o => World.cell?_of_block ((HBk.out).block nb hnl)
          have hns := noteSnoc hkn
          obtain ⟨nt, hnt⟩ : ∃ nt, nt = ns.getD k noNt := ⟨_, rfl⟩
          rw [← hnt] at n0 n1 n2 hns
          have d0 := (up _).trans n0
          have d1 := (up _).trans n1
          have d2 := (up _).trans n2
          have HWr : Hid (Calls Try.prog 41 #[.slice (some ⟨vb, 0, none⟩) mem.length mem.length, .agg #[.int .i64 nt.op, .int .i64 nt.addr, .int .i64 nt.val]] wk (WrtIs wk vb (wrN (ns.take (k + 1)) Y))) := by
            have h9 := written_any vb mem.length mem.length (wrN (ns.take k) Y) (by rw [wrN_len]; exact hYl) nt hm wk HVk.out
            rw [← wrN_snoc, ← hns] at h9
            exact h9
          have k0 : (0 : Int) ≤ (k : Int) := by omega
          have k1 : (k : Int) < (ns.length : Int) := by omega
          have hwk1 : IntKind.i64.wrap ((k : Int) + 1) = (k : Int) + 1 := wrapJ9 _ (by omega) (by omega)
          subst hna
          clear n0 n1 n2 up hns hnt
          go_wp2_with fail
          refine (HWr.out).mono ?_
          rintro e wz ⟨rfl, hVz, hOz⟩
          have HVz : Hid (Blk wz vb 3 (ivs (wrN (ns.take (k + 1)) Y)).toArray) := hVz
          have HOz : Hid (Only vb w3 wz) := (HOk.out).trans hOz
          clear hVz hOz d0 d1 d2 HWr
          go_wp2_with fail
          go_roundg (ns.length + 1 - (k + 1))
          case rel => exact ⟨k + 1, by simp, by omega, rfl, HVz, HOz⟩
          case measure => omega
        · have hkI : ¬ (k : Int) < (ns.length : Int) := by omega
          have HVe : Hid (Blk wk vb 3 (ivs (wrL f (l.take (i + 1)) mem)).toArray) := by
            have h9 := HVk.out
            rw [take_all (show ns.length ≤ k by omega), ← HYn.out] at h9
            exact h9
          clear HVk
          go_wp2_with fail
          go_roundg (n + 1 - (i + 1))
          case rel => exact ⟨i + 1, by simp, by omega, rfl, HVe, HOk⟩
          case measure => omega
    · have hiI : ¬ (i : Int) < (n : Int) := by omega
      have hll := (HL.out).1
      rw [take_all (show l.length ≤ i by omega)] at HV
      obtain ⟨Y, hY⟩ : ∃ Y, Y = wrL f l mem := ⟨_, rfl⟩
      rw [← hY] at HV
      have HYe : Hid (Y = wrL f l mem) := hY
      have hYl : Y.length = mem.length := by rw [hY, wrL_len]
      obtain ⟨hb, hoff, na, nc, ha, hbl, c7, hnn⟩ := HAt.out j hj
      have c72 : wi.cell? ⟨hb, hoff + j * 8 + 7, none⟩ = some (.slice na (f j).notes.length nc) := (World.cell?_of_block ((HBi.out).block hb hbl)).trans c7
      obtain ⟨ns, hns⟩ : ∃ ns, ns = (f j).notes := ⟨_, rfl⟩
      have hnsl := HNt.out j hj
      rw [← hns] at c72 hnn hnsl
      have HNs : Hid (ns = (f j).notes) := hns
      have HNn : Hid (NotesIn w w.heap.size na ns) := hnn
      have j0 : (0 : Int) ≤ (j : Int) := by omega
      have j1 : (j : Int) < (N : Int) := by omega
      subst ha
      clear hY hns c7 hnn hll
      go_wp2_with fail
      go_loopg [13] (ns.length + 1) (fun m t13 wx => ∃ k : Nat, t13 = .int .i64 (k : Int) ∧ k ≤ ns.length ∧ m = ns.length + 1 - k ∧ Hid (rdN (ns.take k) Y = true) ∧ Hid (Blk wx vb 3 (ivs (wrN (ns.take k) Y)).toArray) ∧ Hid (Below w.heap.size w wx))
      case atStart => exact ⟨0, rfl, by omega, by omega, rfl, HV, HBi⟩
      case round =>
        obtain ⟨k, rfl, hk, hgk, HRk, HVk, HBk⟩ := hrel
        obtain ⟨wk, hwk⟩ : ∃ wk, wk = wr := ⟨_, rfl⟩
        subst hwk
        clear HV HO HBi
        by_cases hkn : k < ns.length
        · obtain ⟨nb, noff, hna, hnl, n0, n1, n2⟩ := HNn.out k hkn
          have up : ∀ o, wk.cell? ⟨nb, o, none⟩ = w.cell? ⟨nb, o, none⟩ := fun o => World.cell?_of_block ((HBk.out).block nb hnl)
          have hnsn := noteSnoc hkn
          obtain ⟨nt, hnt⟩ : ∃ nt, nt = ns.getD k noNt := ⟨_, rfl⟩
          rw [← hnt] at n0 n1 n2 hnsn
          have d0 := (up _).trans n0
          have d1 := (up _).trans n1
          have d2 := (up _).trans n2
          obtain ⟨YK, hYK⟩ : ∃ YK, YK = wrN (ns.take k) Y := ⟨_, rfl⟩
          have hYKl : YK.length = mem.length := by rw [hYK, wrN_len]; exact hYl
          rw [← hYK] at HVk
          have HRn : Hid (rdN (ns.take (k + 1)) Y = nRead nt YK) := by show _ = _; rw [hnsn, rdN_snoc, HRk.out, ← hYK]; simp
          have HWn : Hid (wrN (ns.take (k + 1)) Y = nStep nt YK) := by show _ = _; rw [hnsn, wrN_snoc, ← hYK]
          have HFl : Hid (nRead nt YK = false → rdN ns Y = false) := fun q => by
            have h9 := rdN_app (ns.take (k + 1)) (ns.drop (k + 1)) Y
            rw [List.take_append_drop, HRn.out, q] at h9
            simpa using h9
          obtain ⟨op, ad, va⟩ := nt
          simp only at d0 d1 d2
          obtain ⟨wn, hwn⟩ : ∃ wn, wn = wk.alloc (.cells #[.int .i64 op, .int .i64 ad, .int .i64 va] 99) := ⟨_, rfl⟩
          have hBn : Below wk.heap.size wk wn := by rw [hwn]; exact (Below.refl _ _).alloc (Nat.le_refl _) _
          have HNb : Hid (Blk wn wk.heap.size 99 #[.int .i64 op, .int .i64 ad, .int .i64 va]) := by rw [hwn]; exact Blk.new wk _ _
          have HVn : Hid (Blk wn vb 3 (ivs YK).toArray) := (HVk.out).below hBn (HVk.out).lt
          have HBn : Hid (Below w.heap.size w wn) := (HBk.out).trans (hBn.mono (HBk.out).size)
          have k0 : (0 : Int) ≤ (k : Int) := by omega
          have k1 : (k : Int) < (ns.length : Int) := by omega
          have hwk1 : IntKind.i64.wrap ((k : Int) + 1) = (k : Int) + 1 := wrapJ9 _ (by omega) (by omega)
          subst hna
          clear n0 n1 n2 up hnsn hnt hYK hBn HVk HBk HRk
          go_upto_region 17 with fail
          rw [← hwn]
          obtain ⟨tk, htk⟩ : ∃ tk, tk = wk.heap.size := ⟨_, rfl⟩
          rw [← htk] at HNb ⊢
          clear hwn htk d0 d1 d2
          have hnc := (HNb.out).cell
          have HWr : Hid (∀ wx, Blk wx vb 3 (ivs YK).toArray → Calls Try.prog 41 #[.slice (some ⟨vb, 0, none⟩) mem.length mem.length, .agg #[.int .i64 op, .int .i64 ad, .int .i64 va]] wx (WrtIs wx vb (wrN (ns.take (k + 1)) Y))) := fun wx hb => by
            have h9 := written_any vb mem.length mem.length YK hYKl ⟨op, ad, va⟩ hm wx hb
            rw [← HWn.out] at h9
            exact h9
          by_cases h7 : op = 7
          · by_cases h0 : ad < 0
            · have hrd : nRead ⟨op, ad, va⟩ YK = false := by
                unfold nRead
                rw [if_pos h7]
                simp only [decide_eq_false_iff_not]
                exact fun q => by omega
              have HE : Hid (rdN (f j).notes (wrL f l mem) = false) := by rw [← HNs.out, ← HYe.out]; exact HFl.out hrd
              subst h7
              clear hrd HFl HWr HRn HWn
              go_wp2_with fail
              go_quiet (fail)
              go_wp2
              go_ret
              exact ⟨l, (HL.out).2.1, (HL.out).2.2, by rw [HE.out]; rfl, (HBn.out).trans ((belowQ nq).mono (HBn.out).size)⟩
            · by_cases h1 : ad ≥ (mem.length : Int)
              · have hrd : nRead ⟨op, ad, va⟩ YK = false := by
                  unfold nRead
                  rw [if_pos h7]
                  simp only [decide_eq_false_iff_not]
                  exact fun q => by have := q.2.1; omega
                have HE : Hid (rdN (f j).notes (wrL f l mem) = false) := by rw [← HNs.out, ← HYe.out]; exact HFl.out hrd
                have h0d : decide (ad < 0) = false := by simpa using h0
                have h1d : decide (ad ≥ (mem.length : Int)) = true := by simpa using h1
                clear h0 h1
                subst h7
                clear hrd HFl HWr HRn HWn
                go_wp2_with fail
                go_quiet (fail)
                go_wp2
                go_ret
                exact ⟨l, (HL.out).2.1, (HL.out).2.2, by rw [HE.out]; rfl, (HBn.out).trans ((belowQ nq).mono (HBn.out).size)⟩
              · obtain ⟨p, hp⟩ := Int.eq_ofNat_of_zero_le (show 0 ≤ ad by omega)
                have hp' : ad = (p : Int) := hp
                clear hp
                subst hp'
                have hpl : p < YK.length := by omega
                have hvc : wn.cell? ⟨vb, p, none⟩ = some (.int .i64 (YK.getD p 0)) := by
                  rw [(HVn.out).cell p]
                  simp [ivs, List.getElem?_eq_getElem hpl, List.getD]
                obtain ⟨V, hV⟩ : ∃ V, V = YK.getD p 0 := ⟨_, rfl⟩
                rw [← hV] at hvc
                have p0 : (0 : Int) ≤ (p : Int) := by omega
                have p1 : (p : Int) < (mem.length : Int) := by omega
                have pn1 : ¬ mem.length ≤ p := by omega
                have pn2 : p < mem.length := by omega
                have pn3 : decide ((p : Int) ≥ (mem.length : Int)) = false := by simp; omega
                have pn4 : decide ((p : Int) < 0) = false := by simp
                by_cases he : V = va
                · have hrd : nRead ⟨op, (p : Int), va⟩ YK = true := by
                    unfold nRead
                    rw [if_pos h7]
                    simp only [decide_eq_true_eq, Int.toNat_natCast]
                    exact ⟨p0, by omega, by rw [← hV]; exact he⟩
                  have HRd : Hid (rdN (ns.take (k + 1)) Y = true) := by show _ = _; rw [HRn.out]; exact hrd
                  subst he h7
                  clear hrd HFl HRn HWn hV
                  go_wp2_with fail
                  go_quiet (fail)
                  go_wp2_with fail
                  refine (HWr.out _ ((HVn.out).drewN nq)).mono ?_
                  rintro e wz ⟨rfl, hVz, hOz⟩
                  have HVz : Hid (Blk wz vb 3 (ivs (wrN (ns.take (k + 1)) Y)).toArray) := hVz
                  have HBz : Hid (Below w.heap.size w wz) := ((HBn.out).trans ((belowQ nq).mono (HBn.out).size)).trans (below_of_only hOz (by rw [HVb.out]; exact Nat.le_refl _) (HBn.out).size)
                  clear hVz hOz HWr hnc hvc
                  go_wp2_with fail
                  go_roundg (ns.length + 1 - (k + 1))
                  case rel => exact ⟨k + 1, by simp, by omega, rfl, HRd, HVz, HBz⟩
                  case measure => omega
                · have hrd : nRead ⟨op, (p : Int), va⟩ YK = false := by
                    unfold nRead
                    rw [if_pos h7]
                    simp only [decide_eq_false_iff_not, Int.toNat_natCast, ← hV]
                    exact fun q => he q.2.2
                  have HE : Hid (rdN (f j).notes (wrL f l mem) = false) := by rw [← HNs.out, ← HYe.out]; exact HFl.out hrd
                  have hne : (V != va) = true := by simp [he]
                  subst h7
                  clear hrd HFl HWr HRn HWn hV he
                  go_wp2_with fail
                  go_quiet (fail)
                  go_wp2
                  go_ret
                  exact ⟨l, (HL.out).2.1, (HL.out).2.2, by rw [HE.out]; rfl, (HBn.out).trans ((belowQ nq).mono (HBn.out).size)⟩
          · have hrd : nRead ⟨op, ad, va⟩ YK = true := by
              unfold nRead
              rw [if_neg h7]
            have HRd : Hid (rdN (ns.take (k + 1)) Y = true) := by show _ = _; rw [HRn.out]; exact hrd
            have h7' : (op == 7) = false := by simp [h7]
            clear hrd HFl HRn HWn h7
            go_wp2_with fail
            refine (HWr.out _ HVn.out).mono ?_
            rintro e wz ⟨rfl, hVz, hOz⟩
            have HVz : Hid (Blk wz vb 3 (ivs (wrN (ns.take (k + 1)) Y)).toArray) := hVz
            have HBz : Hid (Below w.heap.size w wz) := (HBn.out).trans (below_of_only hOz (by rw [HVb.out]; exact Nat.le_refl _) (HBn.out).size)
            clear hVz hOz HWr hnc
            go_wp2_with fail
            go_roundg (ns.length + 1 - (k + 1))
            case rel => exact ⟨k + 1, by simp, by omega, rfl, HRd, HVz, HBz⟩
            case measure => omega
        · have hkI : ¬ (k : Int) < (ns.length : Int) := by omega
          have HE : Hid (rdN (f j).notes (wrL f l mem) = true) := by
            have h9 := HRk.out
            rw [take_all (show ns.length ≤ k by omega), HNs.out, HYe.out] at h9
            exact h9
          clear HRk HVk
          go_wp2_with fail
          go_ret
          exact ⟨l, (HL.out).2.1, (HL.out).2.2, by rw [HE.out]; rfl, HBk.out⟩

end Go.Proofs.Ytejadojilncbjab
