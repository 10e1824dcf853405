import Derived.Test.YtejadojilncbjabJ06
namespace Go.Proofs.Ytejadojilncbjab
open Go.RowKit
set_option linter.unusedVariables false
attribute [local go_sem ↓] Go.wp_at_zero Go.wp_at_succ

/-- In the midst of a pass: the element at m goes down. -/
def MidP (f : Nat → AttD) (l0 : List Nat) (k m : Nat) (D : List Nat) : Prop :=
  ∃ A x C E, D = A ++ x :: (C ++ E) ∧ A.length = m ∧ C.length + m = k ∧ (A ++ C).Pairwise (Kl f) ∧ (∀ c ∈ C, Kl f x c) ∧ D.Perm l0

theorem ordAt2 {o : List Nat} {i : Nat} (h : i < o.length) : o = o.take i ++ o.getD i 0 :: o.drop (i + 1) := by
  rw [List.getD_eq_getElem?_getD, List.getElem?_eq_getElem h]
  simp

theorem MidP.start {f : Nat → AttD} {l0 D : List Nat} {k : Nat} (hk : k < D.length) (hs : (D.take k).Pairwise (Kl f)) (hp : D.Perm l0) : MidP f l0 k k D :=
  ⟨D.take k, D.getD k 0, [], D.drop (k + 1), ordAt2 hk, by simp; omega, by simp, by simpa using hs, fun c hc => absurd hc (by simp), hp⟩

theorem MidP.done {f : Nat → AttD} {l0 D : List Nat} {k : Nat} (h : MidP f l0 k 0 D) : (D.take (k + 1)).Pairwise (Kl f) ∧ D.Perm l0 := by
  obtain ⟨A, x, C, E, hD, hA, hC, hp, hx, hP⟩ := h
  obtain rfl : A = [] := List.length_eq_zero_iff.1 hA
  refine ⟨?_, hP⟩
  rw [hD, List.nil_append, List.take_succ_cons, List.take_append_of_le_length (by omega), List.take_of_length_le (by omega)]
  exact List.pairwise_cons.2 ⟨hx, by simpa using hp⟩

theorem MidP.at {f : Nat → AttD} {l0 D : List Nat} {k m : Nat} (h : MidP f l0 k (m + 1) D) (hn : l0.Nodup) :
    (Kl f (D.getD (m + 1) 0) (D.getD m 0) → MidP f l0 k m ((D.set (m + 1) (D.getD m 0)).set m (D.getD (m + 1) 0))) ∧ (¬ Kl f (D.getD (m + 1) 0) (D.getD m 0) → MidP f l0 k m D) := by
  obtain ⟨A, x, C, E, hD, hA, hC, hp, hx, hP⟩ := h
  rcases List.eq_nil_or_concat A with h0 | ⟨A', y, hA'⟩
  · rw [h0] at hA; simp at hA
  rw [List.concat_eq_append] at hA'
  have hAl : A'.length = m := by rw [hA'] at hA; simpa using hA
  subst hA'
  have hDe : D = A' ++ y :: x :: (C ++ E) := by rw [hD]; simp
  have e1 : D.getD m 0 = y := by rw [hDe, ← hAl]; simp [List.getD]
  have e2 : D.getD (m + 1) 0 = x := by
    rw [hDe, List.getD_eq_getElem?_getD, List.getElem?_append_right (by omega), show m + 1 - A'.length = 1 by omega]
    rfl
  have hnd : D.Nodup := hP.nodup_iff.2 hn
  have hxy : x ≠ y := by
    rw [hDe] at hnd
    have := (List.nodup_append.1 hnd).2.1
    have h2 := (List.nodup_cons.1 this).1
    intro q
    exact h2 (by rw [q]; simp)
  rw [e1, e2]
  have hp2 : (A' ++ y :: C).Pairwise (Kl f) := by simpa using hp
  obtain ⟨p1, p2, p3⟩ := List.pairwise_append.1 hp2
  obtain ⟨p4, p5⟩ := List.pairwise_cons.1 p2
  constructor
  · intro hk
    have hS : (D.set (m + 1) y).set m x = A' ++ x :: ((y :: C) ++ E) := by
      rw [hDe, List.set_append_right _ _ (by omega), show m + 1 - A'.length = 1 by omega, List.set_append_right _ _ (by omega), show m - A'.length = 0 by omega]
      rfl
    refine ⟨A', x, y :: C, E, hS, hAl, by simp only [List.length_cons]; omega, hp2, fun c hc => ?_, ?_⟩
    · rcases List.mem_cons.1 hc with rfl | hc
      · exact hk
      · exact hx c hc
    · rw [hS]
      refine List.Perm.trans ?_ hP
      rw [hDe]
      exact List.Perm.append_left _ (List.Perm.swap _ _ _)
  · intro hk
    have hyx : Kl f y x := (kl_tri hxy).resolve_left hk
    refine ⟨A', y, x :: C, E, by rw [hDe]; rfl, hAl, by simp only [List.length_cons]; omega, ?_, fun c hc => ?_, hP⟩
    · refine List.pairwise_append.2 ⟨p1, List.pairwise_cons.2 ⟨hx, p5⟩, fun u hu c hc => ?_⟩
      rcases List.mem_cons.1 hc with rfl | hc
      · exact kl_trans (p3 u hu y List.mem_cons_self) hyx
      · exact p3 u hu c (List.mem_cons_of_mem _ hc)
    · rcases List.mem_cons.1 hc with rfl | hc
      · exact hyx
      · exact p4 c hc

theorem MidP.len {f : Nat → AttD} {l0 D : List Nat} {k m : Nat} (h : MidP f l0 k m D) : D.length = l0.length := by
  obtain ⟨_, _, _, _, _, _, _, _, _, hP⟩ := h
  exact hP.length_eq

theorem own_setN {w : World} {base n c g m : Nat} {D : List Nat} {v : Nat} (h : w.ownsRow base 3 1 (.slice (some ⟨g, 0, none⟩) n c) n (nvs D)) (hm : m < n) : (w.setCell ⟨g, m, none⟩ (.int .i64 (v : Int))).ownsRow base 3 1 (.slice (some ⟨g, 0, none⟩) n c) n (nvs (D.set m v)) := by
  rcases h.2 with ⟨h1, _⟩ | ⟨g2, cap, cur, h1, h2, h3, h4, h5, h6, h7⟩
  · cases h1
  · cases h1
    have hb : Blk w g 3 cur := h3
    have hs : Blk (w.setCell ⟨g, m, none⟩ (.int .i64 (v : Int))) g 3 (cur.setIfInBounds m (.int .i64 (v : Int))) := hb.set
    refine ⟨?_, Or.inr ⟨g, c, _, rfl, h2, hs, h4, h5, by simp [h6], ?_⟩⟩
    · have := h.1
      simp [nvs] at this ⊢
      exact this
    · simp only [Array.toList_setIfInBounds]
      rw [List.take_set, h7]
      unfold nvs
      rw [List.map_set]

theorem own_frozN {w : World} {base n c g : Nat} {xs : List Value} (h : w.ownsRow base 3 1 (.slice (some ⟨g, 0, none⟩) n c) n xs) : ∀ i, w.frozen? ⟨g, i, none⟩ = false := by
  rcases h.2 with ⟨h1, _⟩ | ⟨g2, cap, cur, h1, h2, h3, _⟩
  · cases h1
  · cases h1
    have hb : Blk w g 3 cur := h3
    exact hb.frozen

theorem own_blkN {w : World} {base n c g : Nat} {xs : List Value} (h : w.ownsRow base 3 1 (.slice (some ⟨g, 0, none⟩) n c) n xs) : ∃ cur, Blk w g 3 cur := by
  rcases h.2 with ⟨h1, _⟩ | ⟨g2, cap, cur, h1, h2, h3, _⟩
  · cases h1
  · cases h1
    exact ⟨cur, h3⟩

theorem cell_set_ne {w : World} {b p m : Nat} {t : TypeId} {cs : Array Value} {v : Value} (h : Blk w b t cs) (hne : p ≠ m) : (w.setCell ⟨b, p, none⟩ v).cell? ⟨b, m, none⟩ = w.cell? ⟨b, m, none⟩ := by
  rw [(h.set).cell, h.cell, Array.getElem?_setIfInBounds, if_neg hne]

/-- The part of the numbers below i that is ahead of j and has a stamp. -/
def selN (f : Nat → AttD) (j i : Nat) : List Nat := (List.range i).filter fun x => decide (Kl f x j ∧ 0 < (f x).stamp)

theorem selN_succ (f : Nat → AttD) (j i : Nat) : selN f j (i + 1) = if Kl f i j ∧ 0 < (f i).stamp then selN f j i ++ [i] else selN f j i := by
  unfold selN
  rw [List.range_succ, List.filter_append]
  split
  · rename_i h; simp [h]
  · rename_i h; simp [h]

theorem selN_nodup (f : Nat → AttD) (j i : Nat) : (selN f j i).Nodup := List.nodup_range.filter _
theorem selN_mem (f : Nat → AttD) (j i x : Nat) : x ∈ selN f j i ↔ (x < i ∧ Kl f x j ∧ 0 < (f x).stamp) := by unfold selN; simp
/-- What ordered tells. -/
def OrdJ (w : World) (f : Nat → AttD) (N j : Nat) (e : Ending) (w' : World) : Prop := ∃ (l : List Nat) (la : Option Addr) (lc n : Nat), e = .returned (.slice la n lc) ∧ l.length = n ∧ n ≤ N ∧ l.Pairwise (Kl f) ∧ (∀ i, i ∈ l ↔ (i < N ∧ Kl f i j ∧ 0 < (f i).stamp)) ∧ NatsIn w' w'.heap.size la l ∧ Below w.heap.size w w' ∧ ∀ x, la = some x → w.heap.size ≤ x.block

set_option maxRecDepth 100000 in
set_option maxHeartbeats 8000000 in
/-- The document's ordered. -/
theorem orderedJ_any (L : List AttD) (N : Nat) (hN : L.length = N) (hL : N ≤ 2097152) (j : Nat) (hj : j < N) (a : Option Addr) (cp : Nat) (w : World) (h : HistIn w w.heap.size a L) :
    Calls Try.prog 40 #[.slice a N cp, .int .i64 (j : Int)] w (OrdJ w (atL L) N j) := by
  obtain ⟨i3, hi3, hz30, hz31, hz32⟩ := info_parts Try.info3
  have HH : Hid (HistIn w w.heap.size a L) := h
  obtain ⟨f, hf⟩ : ∃ f, f = atL L := ⟨_, rfl⟩
  rw [← hf]
  have HAh : Hid (∀ (x y : Nat) (wx : World), x < N → y < N → Below w.heap.size w wx → Calls Try.prog 29 #[.slice a N cp, .int .i64 (x : Int), .int .i64 (y : Int)] wx fun e w' => e = .returned (.bool (decide (Kl f x y))) ∧ Below wx.heap.size wx w') := fun x y wx hx hy hb => by
    rw [hf]
    exact dahead_any L N hN x y hx hy (by omega) a cp wx (((HH.out).up hb).mono hb.size)
  have HSt : Hid (∀ k, k < N → ∃ b off, a = some ⟨b, off, none⟩ ∧ b < w.heap.size ∧ w.cell? ⟨b, off + k * 8 + 5, none⟩ = some (.int .i64 (f k).stamp)) := fun k hk => by
    obtain ⟨b, off, na, nc, ha, hl, c0, c1, c2, c3, c4, c5, _⟩ := h k (by omega)
    exact ⟨b, off, ha, hl, by rw [hf]; exact c5⟩
  clear h hf hN
  go_enter Try.func40, Try.ntmps40
  go_wp2_with fail
  go_loopg [5, 6] (N + 1) (fun m t5 t6 wr => ∃ (i k : Nat) (la : Option Addr) (lc : Nat), t5 = .slice la k lc ∧ t6 = .int .i64 (i : Int) ∧ i ≤ N ∧ m = N + 1 - i ∧ k ≤ i ∧ Hid ((selN f j i).length = k) ∧ Hid (wr.ownsRow w.heap.size 3 1 (.slice la k lc) k (nvs (selN f j i))) ∧ Hid (Below w.heap.size w wr))
  case atStart => exact ⟨0, 0, none, 0, rfl, rfl, by omega, by omega, by omega, rfl, World.ownsRow_nil _ _ _ _, Below.refl _ _⟩
  case round =>
    obtain ⟨i, k, la, lc, rfl, rfl, hi, hgi, hki, HK, HR, HB⟩ := hrel
    obtain ⟨wi, hwi⟩ : ∃ wi, wi = wr := ⟨_, rfl⟩
    subst hwi
    have hszi := (HB.out).size
    by_cases hiN : i < N
    · have hii : (i : Int) < (N : Int) := by omega
      have i0 : (0 : Int) ≤ (i : Int) := by omega
      have hwi1 : IntKind.i64.wrap ((i : Int) + 1) = (i : Int) + 1 := wrapJ9 _ (by omega) (by omega)
      go_wp2_with fail
      refine (HAh.out i j _ hiN hj HB.out).mono ?_
      rintro e w2 ⟨rfl, hb2⟩
      have HB2 : Hid (Below w.heap.size w w2) := (HB.out).trans (hb2.mono hszi)
      have HR2 : Hid (w2.ownsRow w.heap.size 3 1 (.slice la k lc) k (nvs (selN f j i))) := own_up HR.out hb2
      have hsz2 := (HB2.out).size
      obtain ⟨hb, hoff, ha, hbl, hs⟩ := HSt.out i hiN
      have hs2 : w2.cell? ⟨hb, hoff + i * 8 + 5, none⟩ = some (.int .i64 (f i).stamp) := (World.cell?_of_block ((HB2.out).block hb hbl)).trans hs
      have hsel := selN_succ f j i
      obtain ⟨st, hst⟩ : ∃ st, st = (f i).stamp := ⟨_, rfl⟩
      rw [← hst] at hs2 hsel
      subst ha
      clear hs hb2 HR HB hst
      by_cases h1 : Kl f i j
      · have h1d : decide (Kl f i j) = true := by simpa using h1
        rw [h1d]
        by_cases h2 : st > 0
        · rw [if_pos ⟨h1, h2⟩] at hsel
          obtain ⟨OT, hOT⟩ : ∃ OT, OT = nvs (selN f j i) := ⟨_, rfl⟩
          have HOT : Hid (nvs (selN f j (i + 1)) = OT ++ [.int .i64 (i : Int)]) := by show _ = _; rw [hsel, nvs_snoc, hOT]
          have HKn : Hid ((selN f j (i + 1)).length = k + 1) := by show _ = _; rw [hsel, List.length_append, HK.out]; rfl
          have HRc : Hid (w2.ownsRow w.heap.size 3 1 (.slice la k lc) k OT) := by rw [hOT]; exact HR2.out
          clear hsel hOT h1 h1d HK HR2
          go_wp2_with
            (at_builtin;
             refine wpList_append_lies _ (by rfl) _ _ _ (by rfl) w.heap.size 3 i3 _ 1 8 Try.underlying24 hi3 hz30 hz31 hz32 rfl (by omega) (.slice la k lc) k OT (by rfl) ((HRc.out).alloc _)
               ⟨w2.heap.size, 0, none⟩ 1 1 [.int .i64 (i : Int)] (by rfl) (by rfl) (World.news_of_block (cs := #[.int .i64 (i : Int)]) (t := 3) (fr := (0, 0)) (heap_alloc_new w2 _)) (by simp [Value.oneCell'])
               (by omega) (by unfold maxLen; omega) (by omega) (by simp; omega) (w2.heap.size + 1) (by simp) ?_;
             intro gg cap wz hown1 hgrow hat hlt;
             have HBz : Hid (Below w.heap.size w wz) := Below.grown ((HB2.out).alloc (HB2.out).size _) hgrow (by simp; omega) (own_ge HRc.out);
             have HRz : Hid (wz.ownsRow w.heap.size 3 1 (.slice (some ⟨gg, 0, none⟩) (k + 1) cap) (k + 1) (OT ++ [.int .i64 (i : Int)])) := hown1;
             clear hown1 hgrow hat hlt)
          go_roundg (N + 1 - (i + 1))
          case rel => exact ⟨i + 1, k + 1, _, _, rfl, by simp, by omega, rfl, by omega, HKn, by rw [HOT.out]; exact HRz, HBz⟩
          case measure => omega
        · rw [if_neg (fun q => h2 q.2)] at hsel
          have HKn : Hid ((selN f j (i + 1)).length = k) := by show _ = _; rw [hsel]; exact HK.out
          have HRn : Hid (w2.ownsRow w.heap.size 3 1 (.slice la k lc) k (nvs (selN f j (i + 1)))) := by rw [hsel]; exact HR2.out
          clear hsel h1 h1d HK HR2
          go_wp2_with fail
          go_roundg (N + 1 - (i + 1))
          case rel => exact ⟨i + 1, k, la, lc, rfl, by simp, by omega, rfl, by omega, HKn, HRn, HB2⟩
          case measure => omega
      · have h1d : decide (Kl f i j) = false := by simpa using h1
        rw [h1d]
        rw [if_neg (fun q => h1 q.1)] at hsel
        have HKn : Hid ((selN f j (i + 1)).length = k) := by show _ = _; rw [hsel]; exact HK.out
        have HRn : Hid (w2.ownsRow w.heap.size 3 1 (.slice la k lc) k (nvs (selN f j (i + 1)))) := by rw [hsel]; exact HR2.out
        clear hsel h1 h1d HK HR2
        go_wp2_with fail
        go_roundg (N + 1 - (i + 1))
        case rel => exact ⟨i + 1, k, la, lc, rfl, by simp, by omega, rfl, by omega, HKn, HRn, HB2⟩
        case measure => omega
    · obtain rfl : i = N := by omega
      have hiI : ¬ (i : Int) < (i : Int) := by omega
      obtain ⟨l0, hl0⟩ : ∃ l0, l0 = selN f j i := ⟨_, rfl⟩
      have HL0 : Hid (l0.Nodup ∧ (∀ x, x ∈ l0 ↔ (x < i ∧ Kl f x j ∧ 0 < (f x).stamp)) ∧ l0.length = k) := by rw [hl0]; exact ⟨selN_nodup f j i, selN_mem f j i, HK.out⟩
      rw [← hl0] at HR
      clear hl0 HK HSt
      go_wp2_with fail
      go_loopg [8] (k + 1) (fun m t8 wx => ∃ (q : Nat) (D : List Nat), t8 = .int .i64 (q : Int) ∧ 1 ≤ q ∧ q ≤ k + 1 ∧ m = k + 2 - q ∧ Hid (D.Perm l0 ∧ (D.take q).Pairwise (Kl f)) ∧ Hid (wx.ownsRow w.heap.size 3 1 (.slice la k lc) k (nvs D)) ∧ Hid (Below w.heap.size w wx))
      case atStart =>
        refine ⟨1, l0, rfl, by omega, by omega, by omega, ⟨List.Perm.refl _, ?_⟩, HR, HB⟩
        rcases l0 with _ | ⟨x, r⟩
        · simp
        · simp
      case round =>
        obtain ⟨q, D, rfl, hq1, hq2, hgq, HD, HRq, HBq⟩ := hrel
        obtain ⟨wi2, hwi2⟩ : ∃ wi2, wi2 = wr := ⟨_, rfl⟩
        subst hwi2
        clear HR HB
        by_cases hqk : q < k
        · have hqI : (q : Int) < (k : Int) := by omega
          have hwq : IntKind.i64.wrap ((q : Int) + 1) = (q : Int) + 1 := wrapJ9 _ (by omega) (by omega)
          have hDl : D.length = k := (HD.out).1.length_eq.trans (HL0.out).2.2
          have HM0 : Hid (MidP f l0 q q D) := MidP.start (by omega) (HD.out).2 (HD.out).1
          clear HD hDl
          go_wp2_with fail
          go_loopg [9] (q + 1) (fun m t9 wx => ∃ (p : Nat) (D : List Nat), t9 = .int .i64 (p : Int) ∧ p ≤ q ∧ m = p + 1 ∧ Hid (MidP f l0 q p D) ∧ Hid (wx.ownsRow w.heap.size 3 1 (.slice la k lc) k (nvs D)) ∧ Hid (Below w.heap.size w wx))
          case atStart => exact ⟨q, D, rfl, by omega, rfl, HM0, HRq, HBq⟩
          case round =>
            obtain ⟨p, D, rfl, hp, hgp, HM, HRp, HBp⟩ := hrel
            obtain ⟨wj, hwj⟩ : ∃ wj, wj = wr := ⟨_, rfl⟩
            subst hwj
            clear HM0 HRq HBq
            have hszj := (HBp.out).size
            by_cases hp0 : p = 0
            · subst hp0
              have hpz : ¬ ((0 : Nat) : Int) > 0 := by omega
              have HDn : Hid (D.Perm l0 ∧ (D.take (q + 1)).Pairwise (Kl f)) := ⟨(HM.out).done.2, (HM.out).done.1⟩
              clear HM
              go_wp2_with fail
              go_roundg (k + 2 - (q + 1))
              case rel => exact ⟨q + 1, D, by simp, by omega, by omega, rfl, HDn, HRp, HBp⟩
              case measure => omega
            · obtain ⟨m, hm⟩ : ∃ m, p = m + 1 := ⟨p - 1, by omega⟩
              have hDl : D.length = k := (HM.out).len.trans (HL0.out).2.2
              have hM := HM.out
              rw [hm] at hM
              obtain ⟨hMt, hMf⟩ := hM.at (HL0.out).1
              obtain ⟨lb, hla, hlbl, hc1⟩ := natsIn_row HRp.out p (by omega)
              obtain ⟨lb', hla', _, hc2⟩ := natsIn_row HRp.out m (by omega)
              rw [hla] at hla'
              cases hla'
              have hmemD : ∀ t, t < D.length → D.getD t 0 < i := fun t ht => by
                have h1 : D.getD t 0 ∈ D := by
                  rw [List.getD_eq_getElem?_getD, List.getElem?_eq_getElem ht]
                  exact List.getElem_mem ht
                have hPm : D.Perm l0 := by obtain ⟨_, _, _, _, _, _, _, _, _, hP⟩ := HM.out; exact hP
                exact (((HL0.out).2.1 _).1 (hPm.mem_iff.1 h1)).1
              have hXl := hmemD p (by omega)
              have hYl := hmemD m (by omega)
              rw [← hm] at hMt hMf
              obtain ⟨X, hX⟩ : ∃ X, X = D.getD p 0 := ⟨_, rfl⟩
              obtain ⟨Y, hY⟩ : ∃ Y, Y = D.getD m 0 := ⟨_, rfl⟩
              rw [← hX] at hc1 hMt hMf hXl
              rw [← hY] at hc2 hMt hMf hYl
              have p0 : (0 : Int) ≤ (p : Int) := by omega
              have pg : (p : Int) > 0 := by omega
              have p1 : (p : Int) < (k : Int) := by omega
              have m0 : (0 : Int) ≤ (m : Int) := by omega
              have m1 : (m : Int) < (k : Int) := by omega
              have hws : IntKind.i64.wrap ((p : Int) - 1) = (m : Int) := by rw [show (p : Int) - 1 = (m : Int) by omega]; exact wrapJ9 _ (by omega) (by omega)
              subst hla
              have HKp : Hid (∀ wx, Below wj.heap.size wj wx → TwoS lb p m (X : Int) (Y : Int) wx) := fun wx hb => ⟨(World.cell?_of_block (hb.block lb hlbl)).trans hc1, (World.cell?_of_block (hb.block lb hlbl)).trans hc2⟩
              have HS0 : Hid (TwoS lb p m (X : Int) (Y : Int) wj.drew) := HKp.out _ (jbDrew wj)
              have HAx : Hid (∀ wx, Below wj.heap.size wj wx → Calls Try.prog 29 #[.slice a i cp, .int .i64 (X : Int), .int .i64 (Y : Int)] wx fun e w' => e = .returned (.bool (decide (Kl f X Y))) ∧ Below wx.heap.size wx w') := fun wx hb => HAh.out X Y wx hXl hYl ((HBp.out).trans (hb.mono hszj))
              obtain ⟨T, hT⟩ : ∃ T, T = decide (Kl f X Y) := ⟨_, rfl⟩
              rw [← hT] at HAx
              have HT : Hid (T = decide (Kl f X Y)) := hT
              have HPm : Hid (p = m + 1) := hm
              clear hT hX hY hc1 hc2 hM hmemD HM hm
              go_wp2_with fail
              go_cut [10] (fun t wx => t = .bool T ∧ Hid (Below wj.heap.size wj wx))
              case first =>
                go_region_held3 (fun w' => TwoS lb p m (X : Int) (Y : Int) w')
                  (first | exact HS1.out | exact HS0.out | fail)
                  (first
                    | (go_at_call 29; refine (HAx.out _ (jbDrew wj)).mono ?_; rintro e w6 ⟨rfl, hb6⟩; have HB6 : Hid (Below wj.heap.size wj w6) := jbOf hb6; clear hb6; have HS1 : Hid (TwoS lb p m (X : Int) (Y : Int) w6) := HKp.out _ HB6.out)
                    | fail)
                all_goals
                  go_wp2
                  go_meet
                  case rel => exact ⟨rfl, HB6⟩
              case rest =>
                obtain ⟨rfl, HBc⟩ := hcut
                have HRc : Hid (wc.ownsRow w.heap.size 3 1 (.slice (some ⟨lb, 0, none⟩) k lc) k (nvs D)) := own_up HRp.out HBc.out
                have HBw : Hid (Below w.heap.size w wc) := (HBp.out).trans ((HBc.out).mono hszj)
                have hlw : w.heap.size ≤ lb := own_ge HRp.out lb rfl
                obtain ⟨c1, c2⟩ := HKp.out wc HBc.out
                have hfz := own_frozN HRc.out
                clear HS0 HKp HAx HBp HRp
                cases T with
                | true =>
                  have HMn : Hid (MidP f l0 q m ((D.set p Y).set m X)) := hMt (of_decide_eq_true (HT.out).symm)
                  obtain ⟨w3, hw3⟩ : ∃ w3, w3 = wc.setCell ⟨lb, p, none⟩ (.int .i64 (Y : Int)) := ⟨_, rfl⟩
                  have hpm : p ≠ m := by have := HPm.out; omega
                  have HR3 : Hid (w3.ownsRow w.heap.size 3 1 (.slice (some ⟨lb, 0, none⟩) k lc) k (nvs (D.set p Y))) := by rw [hw3]; exact own_setN HRc.out (by omega)
                  have c3 : w3.cell? ⟨lb, m, none⟩ = some (.int .i64 (Y : Int)) := by
                    obtain ⟨cur, hcur⟩ := own_blkN HRc.out
                    rw [hw3, cell_set_ne hcur hpm]
                    exact c2
                  have hf3 := own_frozN HR3.out
                  have HB3 : Hid (Below w.heap.size w w3) := by rw [hw3]; exact (HBw.out).setCell hlw _
                  have HR4 : Hid ((w3.setCell ⟨lb, m, none⟩ (.int .i64 (X : Int))).ownsRow w.heap.size 3 1 (.slice (some ⟨lb, 0, none⟩) k lc) k (nvs ((D.set p Y).set m X))) := own_setN HR3.out (by omega)
                  have HB4 : Hid (Below w.heap.size w (w3.setCell ⟨lb, m, none⟩ (.int .i64 (X : Int)))) := (HB3.out).setCell hlw _
                  clear hMt hMf HT
                  go_upto_region 18 with fail
                  rw [← hw3]
                  clear hw3 c1 c2 hfz HRc
                  go_wp2_with fail
                  go_roundg (m + 1)
                  case rel => exact ⟨m, _, rfl, by have := HPm.out; omega, rfl, HMn, HR4, HB4⟩
                  case measure => have := HPm.out; omega
                | false =>
                  have HMn : Hid (MidP f l0 q m D) := hMf (of_decide_eq_false (HT.out).symm)
                  clear hMt hMf HT
                  go_wp2_with fail
                  go_roundg (m + 1)
                  case rel => exact ⟨m, D, rfl, by have := HPm.out; omega, rfl, HMn, HRc, HBw⟩
                  case measure => have := HPm.out; omega
        · have hqI : ¬ (q : Int) < (k : Int) := by omega
          have HE : Hid (D.length = k ∧ D.Pairwise (Kl f) ∧ ∀ x, x ∈ D ↔ (x < i ∧ Kl f x j ∧ 0 < (f x).stamp)) := by
            have hDl : D.length = k := (HD.out).1.length_eq.trans (HL0.out).2.2
            refine ⟨hDl, ?_, fun x => (HD.out).1.mem_iff.trans ((HL0.out).2.1 x)⟩
            have h1 := (HD.out).2
            rw [List.take_of_length_le (by omega)] at h1
            exact h1
          have HNI : Hid (NatsIn wi2 wi2.heap.size la D) := natsIn_row HRq.out
          clear HD
          go_wp2_with fail
          go_ret
          exact ⟨D, la, lc, k, rfl, (HE.out).1, hki, (HE.out).2.1, (HE.out).2.2, HNI.out, HBq.out, fun x hx => own_ge HRq.out x.block (by rw [hx]; rfl)⟩

end Go.Proofs.Ytejadojilncbjab
