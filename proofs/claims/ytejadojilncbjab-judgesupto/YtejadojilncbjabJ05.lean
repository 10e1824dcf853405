import Derived.Test.YtejadojilncbjabJ04
namespace Go.Proofs.Ytejadojilncbjab
open Go.RowKit
set_option linter.unusedVariables false
attribute [local go_sem ↓] Go.wp_at_zero Go.wp_at_succ

abbrev TwoS (b i j : Nat) (x y : Int) (w : World) : Prop := w.cell? ⟨b, i, none⟩ = some (.int .i64 x) ∧ w.cell? ⟨b, j, none⟩ = some (.int .i64 y)

theorem wrapJ9 (z : Int) (h1 : -4611686018427387904 ≤ z) (h2 : z ≤ 4611686018427387904) : IntKind.i64.wrap z = z := by rw [IntKind.wrap_i64]; omega

theorem NotesIn.mono {w : World} {B C : Nat} {a : Option Addr} {ns : List NoteD} (h : NotesIn w B a ns) (hb : B ≤ C) : NotesIn w C a ns := fun i hi => by
  obtain ⟨b, off, h1, h2, h3⟩ := h i hi
  exact ⟨b, off, h1, Nat.lt_of_lt_of_le h2 hb, h3⟩

theorem HistIn.mono {w : World} {B C : Nat} {a : Option Addr} {L : List AttD} (h : HistIn w B a L) (hb : B ≤ C) : HistIn w C a L := fun i hi => by
  obtain ⟨b, off, na, nc, h1, h2, c0, c1, c2, c3, c4, c5, c6, c7, hn⟩ := h i hi
  exact ⟨b, off, na, nc, h1, Nat.lt_of_lt_of_le h2 hb, c0, c1, c2, c3, c4, c5, c6, c7, hn.mono hb⟩

theorem own_ge {w : World} {base e s n : Nat} {v : Value} {xs : List Value} (h : w.ownsRow base e s v n xs) : ∀ k, v.ownBlock = some k → base ≤ k := fun k hk => by
  rcases h.2 with ⟨rfl, _⟩ | ⟨g, cap, cur, rfl, hb, _⟩
  · cases hk
  · cases hk
    exact hb

theorem own_up {w w' : World} {base e s n : Nat} {v : Value} {xs : List Value} (h : w.ownsRow base e s v n xs) (hb : Below w.heap.size w w') : w'.ownsRow base e s v n xs := by
  refine ⟨h.1, ?_⟩
  rcases h.2 with q | ⟨g, cap, cur, h1, h2, h3, h4⟩
  · exact Or.inl q
  · exact Or.inr ⟨g, cap, cur, h1, h2, (hb.block g (Array.getElem?_eq_some_iff.1 h3).1).trans h3, h4⟩

theorem belowQ {w : World} (n : Nat) : Below w.heap.size w (w.drewN n) := ⟨rfl, rfl, rfl, Nat.le_refl _, fun _ _ => rfl⟩

theorem nvs_snoc (M : List Nat) (x : Nat) : nvs (M ++ [x]) = nvs M ++ [.int .i64 (x : Int)] := by simp [nvs]

set_option maxRecDepth 100000 in
set_option maxHeartbeats 8000000 in
/-- mergeRuns. -/
theorem merge_any (L : List AttD) (o : List Nat) (W : Nat) (hW : 1 ≤ W) (hWn : W < o.length) (hn : o.length ≤ 2097152) (ho : ∀ i, i < o.length → o.getD i 0 < L.length) (hL : L.length ≤ 2097152) (a oa : Option Addr) (cp oc : Nat) (w : World) (h : HistIn w w.heap.size a L) (hoi : NatsIn w w.heap.size oa o) :
    Calls Try.prog 36 #[.slice a L.length cp, .slice oa o.length oc, .int .i64 (W : Int)] w (MrgIs w o.length fun o' => ∃ q, o.length ≤ q * (2 * W) ∧ o' = pass (atL L) W o q) := by
  have HH : Hid (HistIn w w.heap.size a L) := h
  have HO : Hid (NatsIn w w.heap.size oa o) := hoi
  have HLt : Hid (∀ i, i < o.length → o.getD i 0 < L.length) := ho
  obtain ⟨Z, hZ⟩ : ∃ Z, Z = List.replicate o.length (Value.int .i64 0) := ⟨_, rfl⟩
  have hZl : Z.length = o.length := by rw [hZ]; simp
  have hmk := run_makeN o.length hn
  rw [← hZ] at hmk
  obtain ⟨i3, hi3, hz30, hz31, hz32⟩ := info_parts Try.info3
  obtain ⟨N, hN⟩ : ∃ N, N = o.length := ⟨_, rfl⟩
  have HN : Hid (N = o.length) := hN
  rw [← hN] at hn hmk hZl hWn ⊢
  have hob : ∃ b, oa = some ⟨b, 0, none⟩ ∧ b < w.heap.size := by obtain ⟨b, h1, h2, _⟩ := hoi 0 (by omega); exact ⟨b, h1, h2⟩
  obtain ⟨ob, hoa, hobl⟩ := hob
  have HOc : Hid (∀ i, i < N → w.cell? ⟨ob, i, none⟩ = some (.int .i64 ((o.getD i 0 : Nat) : Int))) := fun i hi => by
    obtain ⟨b', h1, _, h3⟩ := hoi i (by omega)
    rw [hoa] at h1
    cases h1
    exact h3
  obtain ⟨f, hf⟩ : ∃ f, f = atL L := ⟨_, rfl⟩
  have HF : Hid (f = atL L) := hf
  rw [← hf]
  have HPl : Hid (∀ q, (pass f W o q).length = min (q * (2 * W)) N) := fun q => by show _ = _; rw [pass_len, hN]
  subst hoa
  clear h hoi ho hZ hN hf HO
  go_enter Try.func36, Try.ntmps36
  go_wp2_with fail
  obtain ⟨w0, hw0⟩ : ∃ w0, w0 = w.alloc (.cells Z.toArray 3) := ⟨_, rfl⟩
  have HB0 : Hid (Below w.heap.size w w0) := by rw [hw0]; exact (Below.refl w.heap.size w).alloc (Nat.le_refl _) _
  have HR0 : Hid (w0.ownsRow w.heap.size 3 1 (.slice (some ⟨w.heap.size, 0, none⟩) 0 N) 0 (nvs [])) := by
    rw [hw0]
    refine ⟨rfl, Or.inr ⟨w.heap.size, N, Z.toArray, rfl, Nat.le_refl _, heap_alloc_new w _, by omega, by unfold maxLen; omega, by simp [hZl], by simp [nvs]⟩⟩
  rw [← hw0]
  clear hw0 hmk hZl
  go_loopg [7, 8] (N + 2 * W + 1) (fun m t7 t8 wr => ∃ (q p : Nat) (M : List Nat) (ra : Option Addr) (rc k : Nat), t7 = .slice ra k rc ∧ t8 = .int .i64 (p : Int) ∧ p = q * (2 * W) ∧ p ≤ N + 2 * W ∧ m = N + 2 * W + 1 - p ∧ M.length = k ∧ Hid (M = pass f W o q) ∧ Hid (wr.ownsRow w.heap.size 3 1 (.slice ra k rc) k (nvs M)) ∧ Hid (Below w.heap.size w wr))
  case atStart => exact ⟨0, 0, [], _, _, 0, rfl, rfl, by simp, by omega, by omega, rfl, rfl, HR0, HB0⟩
  case round =>
    obtain ⟨q, p, M, ra, rc, k, rfl, rfl, hpq, hpb, hgk, hMk, HM, HRo, HBr⟩ := hrel
    clear HR0 HB0
    have hszr := (HBr.out).size
    by_cases hpN : p < N
    · have hpI : (p : Int) < (N : Int) := by omega
      have hkp : k = p := by
        have := HPl.out q
        rw [← show M = _ from HM.out, hMk, ← hpq] at this
        omega
      subst hkp
      obtain ⟨mm, hmm⟩ : ∃ mm, mm = (if k + W < N then k + W else N) := ⟨_, rfl⟩
      obtain ⟨ee, hee⟩ : ∃ ee, ee = (if k + 2 * W < N then k + 2 * W else N) := ⟨_, rfl⟩
      have hm1 : k ≤ mm ∧ mm ≤ ee ∧ ee ≤ N := by rw [hmm, hee]; split <;> split <;> omega
      have HL1 : Hid (∀ wx, Calls Try.prog 26 #[.int .i64 ((k : Int) + (W : Int)), .int .i64 (N : Int)] wx fun e w' => e = .returned (.int .i64 (mm : Int)) ∧ w' = wx) := fun wx => by
        have h := least_any (k + W) N wx
        rw [← hmm, show ((k + W : Nat) : Int) = (k : Int) + (W : Int) by omega] at h
        exact h
      have HL2 : Hid (∀ wx, Calls Try.prog 26 #[.int .i64 ((k : Int) + 2 * (W : Int)), .int .i64 (N : Int)] wx fun e w' => e = .returned (.int .i64 (ee : Int)) ∧ w' = wx) := fun wx => by
        have h := least_any (k + 2 * W) N wx
        rw [← hee, show ((k + 2 * W : Nat) : Int) = (k : Int) + 2 * (W : Int) by omega] at h
        exact h
      have HG : Hid (M ++ mrg f (seg o k mm) (seg o mm ee) = pass f W o (q + 1)) := by
        show _ = _
        rw [pass, ← show M = _ from HM.out, ← hpq]
        congr 2
        · unfold seg
          rw [hmm]
          split
          · rw [show k + W - k = W by omega]
          · rw [List.take_of_length_le (l := o.drop k) (i := W) (by rw [List.length_drop, ← HN.out]; omega), List.take_of_length_le (by rw [List.length_drop, ← HN.out]; omega)]
        · unfold seg
          by_cases c1 : k + W < N
          · rw [hmm, hee, if_pos c1]
            by_cases c2 : k + 2 * W < N
            · rw [if_pos c2, show k + 2 * W - (k + W) = W by omega]
            · rw [if_neg c2, List.take_of_length_le (l := o.drop (k + W)) (i := W) (by rw [List.length_drop, ← HN.out]; omega), List.take_of_length_le (by rw [List.length_drop, ← HN.out]; omega)]
          · rw [hmm, hee, if_neg c1, if_neg (show ¬ k + 2 * W < N by omega), List.drop_eq_nil_of_le (i := k + W) (by rw [← HN.out]; omega), List.drop_eq_nil_of_le (i := N) (by rw [← HN.out]; omega)]
            simp
      have hw1 : IntKind.i64.wrap ((k : Int) + (W : Int)) = (k : Int) + (W : Int) := wrapJ9 _ (by omega) (by omega)
      have hw2 : IntKind.i64.wrap (2 * (W : Int)) = 2 * (W : Int) := wrapJ9 _ (by omega) (by omega)
      have hw3 : IntKind.i64.wrap ((k : Int) + 2 * (W : Int)) = (k : Int) + 2 * (W : Int) := wrapJ9 _ (by omega) (by omega)
      have HPq : Hid (k = q * (2 * W)) := hpq
      have HMl : Hid (M.length = k) := hMk
      clear HM hmm hee hpq hMk
      go_wp2_with fail
      refine (HL1.out _).mono ?_
      rintro e w1 ⟨rfl, rfl⟩
      go_wp2_with fail
      refine (HL2.out _).mono ?_
      rintro e w1 ⟨rfl, rfl⟩
      go_wp2_with fail
      go_loopg [7, 9, 11] ((mm - k) + (ee - mm) + 1) (fun m t7 t9 t11 wx => ∃ (l r kk : Nat) (M2 : List Nat) (rb : Option Addr) (rd : Nat), t7 = .slice rb kk rd ∧ t9 = .int .i64 (l : Int) ∧ t11 = .int .i64 (r : Int) ∧ k ≤ l ∧ l ≤ mm ∧ mm ≤ r ∧ r ≤ ee ∧ m = (mm - l) + (ee - r) + 1 ∧ kk + (mm - l) + (ee - r) = ee ∧ Hid (M2.length = kk ∧ M2 ++ mrg f (seg o l mm) (seg o r ee) = pass f W o (q + 1)) ∧ Hid (wx.ownsRow w.heap.size 3 1 (.slice rb kk rd) kk (nvs M2)) ∧ Hid (Below w.heap.size w wx))
      case atStart => exact ⟨k, mm, k, M, ra, rc, rfl, rfl, rfl, by omega, by omega, by omega, by omega, rfl, by omega, ⟨HMl.out, HG.out⟩, HRo, HBr⟩
      case round =>
        obtain ⟨l, r, kk, M2, rb, rd, rfl, rfl, rfl, hl1, hl2, hr1, hr2, hgm, hkk, HG2, HR2, HB2⟩ := hrel
        obtain ⟨wi, hwi⟩ : ∃ wi, wi = wr := ⟨_, rfl⟩
        subst hwi
        clear HRo HBr HG HMl HL1 HL2
        have hszi := (HB2.out).size
        by_cases hw : l < mm ∨ r < ee
        · obtain ⟨D, hD⟩ : ∃ D, D = tkL f o l mm r ee := ⟨_, rfl⟩
          have HD : Hid (D = tkL f o l mm r ee) := hD
          clear hD
          have hwl : IntKind.i64.wrap ((l : Int) + 1) = (l : Int) + 1 := wrapJ9 _ (by omega) (by omega)
          have hwr : IntKind.i64.wrap ((r : Int) + 1) = (r : Int) + 1 := wrapJ9 _ (by omega) (by omega)
          by_cases c1 : l < mm
          · have c1' : (l : Int) < (mm : Int) := by omega
            go_wp2_with fail
            go_cut [66] (fun t wx => t = .bool D ∧ Hid (Below wi.heap.size wi wx))
            case first =>
              by_cases c2 : r < ee
              · have c2' : ((r : Int) == (ee : Int)) = false := by simp; omega
                have l0 : (0 : Int) ≤ (l : Int) := by omega
                have l1 : (l : Int) < (N : Int) := by omega
                have r0 : (0 : Int) ≤ (r : Int) := by omega
                have r1 : (r : Int) < (N : Int) := by omega
                obtain ⟨x, hx⟩ : ∃ x, x = o.getD l 0 := ⟨_, rfl⟩
                obtain ⟨y, hy⟩ : ∃ y, y = o.getD r 0 := ⟨_, rfl⟩
                have HKp : Hid (∀ wx, Below wi.heap.size wi wx → TwoS ob l r (x : Int) (y : Int) wx) := fun wx hb => by
                  have hbx : Below w.heap.size w wx := (HB2.out).trans (hb.mono hszi)
                  rw [hx, hy]
                  exact ⟨(World.cell?_of_block (hbx.block ob hobl)).trans (HOc.out l (by omega)), (World.cell?_of_block (hbx.block ob hobl)).trans (HOc.out r (by omega))⟩
                have HAh : Hid (∀ wx, Below wi.heap.size wi wx → Calls Try.prog 45 #[.slice a L.length cp, .int .i64 (x : Int), .int .i64 (y : Int)] wx fun e w' => e = .returned (.bool D) ∧ Below wx.heap.size wx w') := fun wx hb => by
                  have hbx : Below w.heap.size w wx := (HB2.out).trans (hb.mono hszi)
                  have h := jahead_any L x y (by rw [hx]; exact HLt.out l (by rw [← HN.out]; omega)) (by rw [hy]; exact HLt.out r (by rw [← HN.out]; omega)) (by omega) a cp wx (((HH.out).up hbx).mono hbx.size)
                  have e1 : D = decide (Kl (atL L) x y) := by
                    rw [HD.out, tkL, hx, hy, ← show f = _ from HF.out]
                    congr 1
                    have : ¬ r = ee := by omega
                    simp [this, c1]
                  rw [e1]
                  exact h
                have HS0 : Hid (TwoS ob l r (x : Int) (y : Int) wi.drew) := HKp.out _ (jbDrew wi)
                clear hx hy
                go_region_held3 (fun w' => TwoS ob l r (x : Int) (y : Int) w')
                  (first | exact HS1.out | exact HS0.out | fail)
                  (first
                    | (go_at_call 45; refine (HAh.out _ (jbDrew wi)).mono ?_; rintro e w6 ⟨rfl, hb6⟩; have HB6 : Hid (Below wi.heap.size wi w6) := jbOf hb6; clear hb6; have HS1 : Hid (TwoS ob l r (x : Int) (y : Int) w6) := HKp.out _ HB6.out))
                all_goals
                  go_wp2
                  go_meet
                  case rel => exact ⟨by first | rfl | simp, HB6⟩
              · obtain rfl : r = ee := by omega
                obtain rfl : D = true := (HD.out).trans (by simp [tkL])
                go_quiet (fail)
                go_wp2
                go_meet
                case rel => exact ⟨by first | rfl | simp, belowQ nq⟩
            case rest =>
              obtain ⟨rfl, HBc⟩ := hcut
              have HBw : Hid (Below w.heap.size w wc) := (HB2.out).trans ((HBc.out).mono hszi)
              obtain ⟨OT, hOT⟩ : ∃ OT, OT = nvs M2 := ⟨_, rfl⟩
              have HOT : Hid (OT = nvs M2) := hOT
              have HRc : Hid (wc.ownsRow w.heap.size 3 1 (.slice rb kk rd) kk OT) := by rw [hOT]; exact own_up HR2.out HBc.out
              have hszw := (HBw.out).size
              clear hOT HR2 HB2
              by_cases hDt : D = true
              · obtain ⟨hlm, hst⟩ := tkL_true ((HD.out).symm.trans hDt) hw (by rw [← HN.out]; omega) (by rw [← HN.out]; omega)
                obtain ⟨x, hx⟩ : ∃ x, x = o.getD l 0 := ⟨_, rfl⟩
                rw [← hx] at hst
                have hc : wc.cell? ⟨ob, l, none⟩ = some (.int .i64 (x : Int)) := by
                  rw [hx]
                  exact (World.cell?_of_block ((HBw.out).block ob hobl)).trans (HOc.out l (by omega))
                have HGn : Hid ((M2 ++ [x]).length = kk + 1 ∧ (M2 ++ [x]) ++ mrg f (seg o (l + 1) mm) (seg o r ee) = pass f W o (q + 1)) := by
                  refine ⟨by rw [List.length_append, (HG2.out).1]; rfl, ?_⟩
                  rw [List.append_assoc]
                  have := (HG2.out).2
                  rw [hst] at this
                  exact this
                have l0 : (0 : Int) ≤ (l : Int) := by omega
                have l1 : (l : Int) < (N : Int) := by omega
                subst hDt
                clear hst hx HG2 HD hw
                go_wp2_with
                  (at_builtin;
                   refine wpList_append_lies _ (by rfl) _ _ _ (by rfl) w.heap.size 3 i3 _ 1 8 Try.underlying24 hi3 hz30 hz31 hz32 rfl (by omega) (.slice rb kk rd) kk OT (by rfl) ((HRc.out).alloc _)
                     ⟨wc.heap.size, 0, none⟩ 1 1 [.int .i64 (x : Int)] (by rfl) (by rfl) (World.news_of_block (cs := #[.int .i64 (x : Int)]) (t := 3) (fr := (0, 0)) (heap_alloc_new wc _)) (by simp [Value.oneCell'])
                     (by omega) (by unfold maxLen; omega) (by omega) (by simp; omega) (wc.heap.size + 1) (by simp) ?_;
                   intro gg cap wz hown1 hgrow hat hlt;
                   have HBz : Hid (Below w.heap.size w wz) := Below.grown ((HBw.out).alloc (HBw.out).size _) hgrow (by simp; omega) (own_ge HRc.out);
                   have HRz : Hid (wz.ownsRow w.heap.size 3 1 (.slice (some ⟨gg, 0, none⟩) (kk + 1) cap) (kk + 1) (OT ++ [.int .i64 (x : Int)])) := hown1;
                   clear hown1 hgrow hat hlt)
                go_roundg ((mm - (l + 1)) + (ee - r) + 1)
                case rel => exact ⟨(l + 1), r, kk + 1, M2 ++ [x], _, _, rfl, by first | rfl | simp, by first | rfl | simp, by omega, by omega, by omega, by omega, rfl, by omega, HGn, by rw [nvs_snoc, ← show OT = _ from HOT.out]; exact HRz, HBz⟩
                case measure => omega
              · obtain rfl : D = false := by simpa using hDt
                clear hDt
                obtain ⟨hlm, hst⟩ := tkL_false (HD.out).symm hw hl2 hr2 (by rw [← HN.out]; omega) (by rw [← HN.out]; omega)
                obtain ⟨x, hx⟩ : ∃ x, x = o.getD r 0 := ⟨_, rfl⟩
                rw [← hx] at hst
                have hc : wc.cell? ⟨ob, r, none⟩ = some (.int .i64 (x : Int)) := by
                  rw [hx]
                  exact (World.cell?_of_block ((HBw.out).block ob hobl)).trans (HOc.out r (by omega))
                have HGn : Hid ((M2 ++ [x]).length = kk + 1 ∧ (M2 ++ [x]) ++ mrg f (seg o l mm) (seg o (r + 1) ee) = pass f W o (q + 1)) := by
                  refine ⟨by rw [List.length_append, (HG2.out).1]; rfl, ?_⟩
                  rw [List.append_assoc]
                  have := (HG2.out).2
                  rw [hst] at this
                  exact this
                have l0 : (0 : Int) ≤ (r : Int) := by omega
                have l1 : (r : Int) < (N : Int) := by omega
                clear hst hx HG2 HD hw
                go_wp2_with
                  (at_builtin;
                   refine wpList_append_lies _ (by rfl) _ _ _ (by rfl) w.heap.size 3 i3 _ 1 8 Try.underlying24 hi3 hz30 hz31 hz32 rfl (by omega) (.slice rb kk rd) kk OT (by rfl) ((HRc.out).alloc _)
                     ⟨wc.heap.size, 0, none⟩ 1 1 [.int .i64 (x : Int)] (by rfl) (by rfl) (World.news_of_block (cs := #[.int .i64 (x : Int)]) (t := 3) (fr := (0, 0)) (heap_alloc_new wc _)) (by simp [Value.oneCell'])
                     (by omega) (by unfold maxLen; omega) (by omega) (by simp; omega) (wc.heap.size + 1) (by simp) ?_;
                   intro gg cap wz hown1 hgrow hat hlt;
                   have HBz : Hid (Below w.heap.size w wz) := Below.grown ((HBw.out).alloc (HBw.out).size _) hgrow (by simp; omega) (own_ge HRc.out);
                   have HRz : Hid (wz.ownsRow w.heap.size 3 1 (.slice (some ⟨gg, 0, none⟩) (kk + 1) cap) (kk + 1) (OT ++ [.int .i64 (x : Int)])) := hown1;
                   clear hown1 hgrow hat hlt)
                go_roundg ((mm - l) + (ee - (r + 1)) + 1)
                case rel => exact ⟨l, (r + 1), kk + 1, M2 ++ [x], _, _, rfl, by first | rfl | simp, by first | rfl | simp, by omega, by omega, by omega, by omega, rfl, by omega, HGn, by rw [nvs_snoc, ← show OT = _ from HOT.out]; exact HRz, HBz⟩
                case measure => omega
          · have c1' : ¬ (l : Int) < (mm : Int) := by omega
            have c2 : (r : Int) < (ee : Int) := by omega
            have c2' : ((r : Int) == (ee : Int)) = false := by simp; omega
            obtain rfl : D = false := (HD.out).trans (by have h1 : ¬ r = ee := by omega
                                                         simp [tkL, h1, c1])
            go_wp2_with fail
            go_cut [66] (fun t wx => t = .bool false ∧ Hid (Below wi.heap.size wi wx))
            case first =>
              go_quiet (fail)
              go_wp2
              go_meet
              case rel => exact ⟨by first | rfl | simp, belowQ nq⟩
            case rest =>
              obtain ⟨rfl, HBc⟩ := hcut
              have HBw : Hid (Below w.heap.size w wc) := (HB2.out).trans ((HBc.out).mono hszi)
              obtain ⟨OT, hOT⟩ : ∃ OT, OT = nvs M2 := ⟨_, rfl⟩
              have HOT : Hid (OT = nvs M2) := hOT
              have HRc : Hid (wc.ownsRow w.heap.size 3 1 (.slice rb kk rd) kk OT) := by rw [hOT]; exact own_up HR2.out HBc.out
              have hszw := (HBw.out).size
              clear hOT HR2 HB2
              obtain ⟨hlm, hst⟩ := tkL_false (HD.out).symm hw hl2 hr2 (by rw [← HN.out]; omega) (by rw [← HN.out]; omega)
              obtain ⟨x, hx⟩ : ∃ x, x = o.getD r 0 := ⟨_, rfl⟩
              rw [← hx] at hst
              have hc : wc.cell? ⟨ob, r, none⟩ = some (.int .i64 (x : Int)) := by
                rw [hx]
                exact (World.cell?_of_block ((HBw.out).block ob hobl)).trans (HOc.out r (by omega))
              have HGn : Hid ((M2 ++ [x]).length = kk + 1 ∧ (M2 ++ [x]) ++ mrg f (seg o l mm) (seg o (r + 1) ee) = pass f W o (q + 1)) := by
                refine ⟨by rw [List.length_append, (HG2.out).1]; rfl, ?_⟩
                rw [List.append_assoc]
                have := (HG2.out).2
                rw [hst] at this
                exact this
              have l0 : (0 : Int) ≤ (r : Int) := by omega
              have l1 : (r : Int) < (N : Int) := by omega
              clear hst hx HG2 HD hw
              go_wp2_with
                (at_builtin;
                 refine wpList_append_lies _ (by rfl) _ _ _ (by rfl) w.heap.size 3 i3 _ 1 8 Try.underlying24 hi3 hz30 hz31 hz32 rfl (by omega) (.slice rb kk rd) kk OT (by rfl) ((HRc.out).alloc _)
                   ⟨wc.heap.size, 0, none⟩ 1 1 [.int .i64 (x : Int)] (by rfl) (by rfl) (World.news_of_block (cs := #[.int .i64 (x : Int)]) (t := 3) (fr := (0, 0)) (heap_alloc_new wc _)) (by simp [Value.oneCell'])
                   (by omega) (by unfold maxLen; omega) (by omega) (by simp; omega) (wc.heap.size + 1) (by simp) ?_;
                 intro gg cap wz hown1 hgrow hat hlt;
                 have HBz : Hid (Below w.heap.size w wz) := Below.grown ((HBw.out).alloc (HBw.out).size _) hgrow (by simp; omega) (own_ge HRc.out);
                 have HRz : Hid (wz.ownsRow w.heap.size 3 1 (.slice (some ⟨gg, 0, none⟩) (kk + 1) cap) (kk + 1) (OT ++ [.int .i64 (x : Int)])) := hown1;
                 clear hown1 hgrow hat hlt)
              go_roundg ((mm - l) + (ee - (r + 1)) + 1)
              case rel => exact ⟨l, (r + 1), kk + 1, M2 ++ [x], _, _, rfl, by first | rfl | simp, by first | rfl | simp, by omega, by omega, by omega, by omega, rfl, by omega, HGn, by rw [nvs_snoc, ← show OT = _ from HOT.out]; exact HRz, HBz⟩
              case measure => omega
        · have c1' : ¬ (l : Int) < (mm : Int) := by omega
          have c2' : ¬ (r : Int) < (ee : Int) := by omega
          have HMe : Hid (M2 = pass f W o (q + 1)) := by
            have h1 := (HG2.out).2
            obtain rfl : l = mm := by omega
            obtain rfl : r = ee := by omega
            rw [seg_nil, seg_nil, mrg_nil, List.append_nil] at h1
            exact h1
          have hMl2 := (HG2.out).1
          have hpq2 : k + 2 * W = (q + 1) * (2 * W) := by rw [Nat.add_mul, Nat.one_mul, ← HPq.out]
          have HX : Hid (M2.length = kk ∧ k + 2 * W = (q + 1) * (2 * W)) := ⟨hMl2, hpq2⟩
          clear HG2 hMl2 hpq2 hw
          go_wp2_with fail
          go_roundg (N + 2 * W + 1 - (k + 2 * W))
          case rel => exact ⟨q + 1, k + 2 * W, M2, rb, rd, kk, rfl, by simp, (HX.out).2, by omega, rfl, (HX.out).1, HMe, HR2, HB2⟩
          case measure => omega
    · have hpI : ¬ (p : Int) < (N : Int) := by omega
      have hkN : k = N := by
        have := HPl.out q
        rw [← show M = _ from HM.out, hMk, ← hpq] at this
        omega
      subst hkN
      have HE : Hid (k ≤ q * (2 * W) ∧ M.length = k) := ⟨by omega, hMk⟩
      clear hpq hMk
      go_wp2_with fail
      go_ret
      exact ⟨M, ra, rc, rfl, (HE.out).2, ⟨q, (HE.out).1, HM.out⟩, HRo.out, HBr.out⟩

end Go.Proofs.Ytejadojilncbjab
