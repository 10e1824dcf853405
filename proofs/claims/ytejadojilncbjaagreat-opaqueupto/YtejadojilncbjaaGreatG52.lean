import Derived.Test.YtejadojilncbjaaGreatG44
import Derived.Test.YtejadojilncbjaaGreatG40
import Derived.Test.YtejadojilncbjaaGreatG51
namespace Go.Proofs.YtejadojilncbjaaGreat
open Go.RowKit
set_option linter.unusedVariables false
attribute [local go_sem ↓] Go.wp_at_zero Go.wp_at_succ

theorem cntS_snoc (v : Int) (l : List AttD) (a : AttD) : cntS v (l ++ [a]) = cntS v l + (if a.stamp = v then 1 else 0) := by
  unfold cntS
  rw [List.countP_append]
  congr 1
  by_cases h : a.stamp = v <;> simp [h]
theorem cntS_le (v : Int) (l : List AttD) : cntS v l ≤ l.length := List.countP_le_length

set_option maxRecDepth 100000 in
set_option maxHeartbeats 1000000 in
/-- The keepers' stamped. -/
theorem stamped_any (AN : List (AttD × Value)) (n : Nat) (ok1 : ∀ v : Int, 1 ≤ v → v ≤ (n : Int) → cntS v (AN.map (·.1)) = 1) (ok2 : ∀ a ∈ AN.map (·.1), 0 ≤ a.stamp ∧ a.stamp ≤ (n : Int)) (la : Option Addr) (lc base : Nat) (w : World) (hn : AN.length ≤ 2 ^ 40) (hnn : n ≤ 2 ^ 40) (hr : AttsRow w base la lc AN) :
    Calls Tryz.prog 50 #[.slice la AN.length lc, .int .i64 (n : Int)] w fun e w' => e = .returned (.bool true) ∧ Below w.heap.size w w' := by
  obtain ⟨L, hL⟩ : ∃ L, L = AN.map (·.1) := ⟨_, rfl⟩
  rw [← hL] at ok1 ok2
  have HO1 : Hid (∀ v : Int, 1 ≤ v → v ≤ (n : Int) → cntS v L = 1) := ok1
  have HO2 : Hid (∀ a ∈ L, 0 ≤ a.stamp ∧ a.stamp ≤ (n : Int)) := ok2
  have HL : Hid (L = AN.map (·.1)) := hL
  have HLl : Hid (L.length = AN.length) := by show _ = _; rw [hL]; simp
  have HR : Hid (AttsRow w base la lc AN) := hr
  have hn1 : AN.length ≤ 1099511627776 := hn
  have hn2 : n ≤ 1099511627776 := hnn
  clear ok1 ok2 hL hr hn hnn
  go_enter Tryz.func50, Tryz.ntmps50
  go_wp2_with fail
  go_loopg [5] (n + 1) (fun m t5 wr => ∃ k : Nat, t5 = .int .i64 ((k : Int) + 1) ∧ k ≤ n ∧ m = n + 1 - k ∧ Hid (wr = w))
  case atStart => exact ⟨0, rfl, by omega, by omega, rfl⟩
  case round =>
    obtain ⟨k, rfl, hk, hgk, HW⟩ := hrel
    have hw : w = wr := (HW.out).symm
    subst hw
    clear HW
    by_cases hkl : k < n
    · have hk1 : (k : Int) + 1 ≤ (n : Int) := by omega
      have hwk : IntKind.i64.wrap ((k : Int) + 1 + 1) = (k : Int) + 1 + 1 := wrapF _ (by omega) (by omega)
      obtain ⟨v, hv⟩ : ∃ v : Int, v = (k : Int) + 1 := ⟨_, rfl⟩
      have HV : Hid (v = (k : Int) + 1) := hv
      have HC1 : Hid (cntS v L = 1) := HO1.out v (by omega) (by omega)
      rw [← hv] at hk1 hwk ⊢
      clear hv
      go_wp2_with fail
      go_loopg [6, 7] (AN.length + 1) (fun m t6 t7 wr => ∃ i : Nat, t6 = .int .i64 (cntS v (L.take i) : Int) ∧ t7 = .int .i64 (i : Int) ∧ i ≤ AN.length ∧ m = AN.length + 1 - i ∧ Hid (wr = w))
      case atStart => exact ⟨0, rfl, rfl, by omega, by omega, rfl⟩
      case round =>
        obtain ⟨i, rfl, rfl, hi, hgi, HW⟩ := hrel
        have hw : w = wr := (HW.out).symm
        subst hw
        clear HW
        by_cases hil : i < AN.length
        · obtain ⟨x, hx⟩ : ∃ x, AN[i]? = some x := ⟨_, List.getElem?_eq_getElem hil⟩
          obtain ⟨b, hb, hbl, c0, c1, c2, c3, c4, c5, c6, c7⟩ := AttsRow.at HR.out i x hx
          have hLk : L[i]? = some x.1 := by rw [HL.out]; exact fst_at hx
          have hsn : cntS v (L.take (i + 1)) = cntS v (L.take i) + (if x.1.stamp = v then 1 else 0) := by rw [tk_snoc hLk, cntS_snoc]
          have hcl := cntS_le v (L.take i)
          have htl : (L.take i).length ≤ i := by simp; omega
          obtain ⟨ct, hct⟩ : ∃ ct, ct = cntS v (L.take i) := ⟨_, rfl⟩
          rw [← hct] at hsn hcl ⊢
          have hi0 : (0 : Int) ≤ (i : Int) := by omega
          have hi1 : (i : Int) < (AN.length : Int) := by omega
          have hwi : IntKind.i64.wrap ((i : Int) + 1) = (i : Int) + 1 := wrapF _ (by omega) (by omega)
          have hwc : IntKind.i64.wrap ((ct : Int) + 1) = (ct : Int) + 1 := wrapF _ (by omega) (by omega)
          obtain ⟨sp, hsp⟩ : ∃ sp, sp = x.1.stamp := ⟨_, rfl⟩
          rw [← hsp] at c5 hsn
          subst hb
          clear hct hcl htl hx hLk hsp c0 c1 c2 c3 c4 c6 c7
          by_cases hs : sp = v
          · rw [if_pos hs] at hsn
            have HSn : Hid (cntS v (L.take (i + 1)) = ct + 1) := hsn
            have hsb : (sp == v) = true := by simp [hs]
            clear hsn hs
            go_wp2_with fail
            go_roundg (AN.length + 1 - (i + 1))
            case rel => exact ⟨i + 1, by rw [HSn.out]; simp, by simp, by omega, by omega, rfl⟩
            case measure => omega
          · rw [if_neg hs] at hsn
            have HSn : Hid (cntS v (L.take (i + 1)) = ct) := hsn
            have hsb : (sp == v) = false := by simp [hs]
            clear hsn hs
            go_wp2_with fail
            go_roundg (AN.length + 1 - (i + 1))
            case rel => exact ⟨i + 1, by rw [HSn.out], by simp, by omega, by omega, rfl⟩
            case measure => omega
        · have hie : ¬ (i : Int) < (AN.length : Int) := by omega
          have htk : L.take i = L := List.take_of_length_le (by rw [HLl.out]; omega)
          rw [htk, HC1.out]
          clear htk
          go_wp2_with fail
          go_roundg (n + 1 - (k + 1))
          case rel => exact ⟨k + 1, by rw [HV.out]; simp, by omega, by omega, rfl⟩
          case measure => omega
    · have hk1 : ¬ (k : Int) + 1 ≤ (n : Int) := by omega
      obtain ⟨v, hv⟩ : ∃ v : Int, v = (k : Int) + 1 := ⟨_, rfl⟩
      rw [← hv] at hk1 ⊢
      clear hv
      go_wp2_with fail
      go_loopg [8] (AN.length + 1) (fun m t8 wr => ∃ i : Nat, t8 = .int .i64 (i : Int) ∧ i ≤ AN.length ∧ m = AN.length + 1 - i ∧ Hid (wr = w))
      case atStart => exact ⟨0, rfl, by omega, by omega, rfl⟩
      case round =>
        obtain ⟨i, rfl, hi, hgi, HW⟩ := hrel
        have hw : w = wr := (HW.out).symm
        subst hw
        clear HW
        by_cases hil : i < AN.length
        · obtain ⟨x, hx⟩ : ∃ x, AN[i]? = some x := ⟨_, List.getElem?_eq_getElem hil⟩
          obtain ⟨b, hb, hbl, c0, c1, c2, c3, c4, c5, c6, c7⟩ := AttsRow.at HR.out i x hx
          have hLk : L[i]? = some x.1 := by rw [HL.out]; exact fst_at hx
          obtain ⟨g1, g2⟩ := HO2.out x.1 (List.mem_of_getElem? hLk)
          obtain ⟨sp, hsp⟩ : ∃ sp, sp = x.1.stamp := ⟨_, rfl⟩
          rw [← hsp] at c5 g1 g2
          have j1 : ¬ sp < 0 := by omega
          have j2 : ¬ sp > (n : Int) := by omega
          have hi0 : (0 : Int) ≤ (i : Int) := by omega
          have hi1 : (i : Int) < (AN.length : Int) := by omega
          have hwi : IntKind.i64.wrap ((i : Int) + 1) = (i : Int) + 1 := wrapF _ (by omega) (by omega)
          subst hb
          clear hx hLk hsp c0 c1 c2 c3 c4 c6 c7 g1 g2
          go_wp2_with fail
          go_roundg (AN.length + 1 - (i + 1))
          case rel => exact ⟨i + 1, by simp, by omega, by omega, rfl⟩
          case measure => omega
        · have hie : ¬ (i : Int) < (AN.length : Int) := by omega
          go_wp2_with fail
          go_ret
          exact ⟨rfl, Below.refl _ _⟩

end Go.Proofs.YtejadojilncbjaaGreat
