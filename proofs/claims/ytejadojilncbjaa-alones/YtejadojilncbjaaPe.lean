import Derived.Test.YtejadojilncbjaaPb
namespace Go.Proofs.Ytejadojilncbjaa
open Go.RowKit
set_option linter.unusedVariables false
attribute [local go_sem ↓] Go.wp_at_zero Go.wp_at_succ

set_option maxRecDepth 100000 in
set_option maxHeartbeats 8000000 in
theorem word_read (p ka kb : Nat) (m : MS) (c wd : Int) (w : World) (hb : Blk w p 92 (mArr m)) (hkb : kb < 4) (hw1 : 1 ≤ wd) (hw2 : wd ≤ 8) :
    Calls Try.prog 56 #[.pointer (some ⟨p, 0, none⟩), .agg #[.int .i64 7, .int .i64 (ka : Int), .int .i64 (kb : Int), .int .i64 c], .int .i64 wd] w fun e w' =>
      e = .returned (.agg (if inB (m.regs.getD kb 0) 0 (wd - 1) then #[.int .i64 0, .int .i64 7, .int .i64 (m.regs.getD kb 0), .int .i64 0] else #[.int .i64 3, .int .i64 0, .int .i64 0, .int .i64 0])) ∧
        Blk w' p 92 (mArr { m with into := ka }) ∧ Only p w w' := by
  have HB : Hid (Blk w p 92 (mArr m)) := hb
  have h6 : w.cell? ⟨p, 6, none⟩ = some (.int .i64 m.into) := by rw [hb.cell]; rfl
  have hf := hb.frozen 6
  have hrb := mArr_reg hb kb hkb
  have hlt := hb.lt
  have hlt1 : p < w.heap.size + 1 := by omega
  have hlt2 : p < w.heap.size + 1 + 1 := by omega
  have hlt3 : p < w.heap.size + 2 := by omega
  have hkb0 : (0 : Int) ≤ (kb : Int) := by omega
  have hkb1 : (kb : Int) < 4 := by omega
  have hww : IntKind.i64.wrap (wd - 1) = wd - 1 := wrapP _ (by omega) (by omega)
  clear hb
  generalize m.regs.getD kb 0 = rb at *
  cases hin : inB rb 0 (wd - 1) with
  | true =>
    go_enter Try.func56, Try.ntmps56
    go_wp2_with fail
    go_region
    all_goals
      go_wp2_with (go_at_call 54; refine (within_any _ _ _ _).mono ?_; rintro e w' ⟨rfl, hw'⟩; rw [hin]; subst hw')
      refine bodyPost_ret (v := .agg #[.int .i64 0, .int .i64 7, .int .i64 rb, .int .i64 0]) (by simp [results, Try.results56, go_sem]) rfl ⟨rfl, ?_, ?_⟩
      · exact (((((HB.out).set (i := 6) (v := .int .i64 (ka : Int))).congr (show _ = mArr { m with into := ka } by simp [mArr])).alloc _).alloc _).alloc _
      · exact ((((Only.refl _ _).set).trans (Only.below ((((Below.refl _ _).alloc (Nat.le_refl _) _).alloc (by simp) _).alloc (by simp; omega) _)))).drew
  | false =>
    go_enter Try.func56, Try.ntmps56
    go_wp2_with fail
    go_region
    all_goals
      go_wp2_with (go_at_call 54; refine (within_any _ _ _ _).mono ?_; rintro e w' ⟨rfl, hw'⟩; rw [hin]; subst hw')
      refine bodyPost_ret (v := .agg #[.int .i64 3, .int .i64 0, .int .i64 0, .int .i64 0]) (by simp [results, Try.results56, go_sem]) rfl ⟨rfl, ?_, ?_⟩
      · exact (((((HB.out).set (i := 6) (v := .int .i64 (ka : Int))).congr (show _ = mArr { m with into := ka } by simp [mArr])).alloc _).alloc _).alloc _
      · exact ((((Only.refl _ _).set).trans (Only.below ((((Below.refl _ _).alloc (Nat.le_refl _) _).alloc (by simp) _).alloc (by simp; omega) _)))).drew

set_option maxRecDepth 100000 in
set_option maxHeartbeats 8000000 in
theorem word_write (p ka kb : Nat) (m : MS) (c wd : Int) (w : World) (hb : Blk w p 92 (mArr m)) (hka : ka < 4) (hkb : kb < 4) (hw1 : 1 ≤ wd) (hw2 : wd ≤ 8) :
    Calls Try.prog 56 #[.pointer (some ⟨p, 0, none⟩), .agg #[.int .i64 8, .int .i64 (ka : Int), .int .i64 (kb : Int), .int .i64 c], .int .i64 wd] w fun e w' =>
      e = .returned (.agg (if inB (m.regs.getD ka 0) 0 (wd - 1) then #[.int .i64 0, .int .i64 8, .int .i64 (m.regs.getD ka 0), .int .i64 (m.regs.getD kb 0)] else #[.int .i64 3, .int .i64 0, .int .i64 0, .int .i64 0])) ∧
        Blk w' p 92 (mArr m) ∧ Only p w w' := by
  have HB : Hid (Blk w p 92 (mArr m)) := hb
  have hra := mArr_reg hb ka hka
  have hrb := mArr_reg hb kb hkb
  have hlt := hb.lt
  have hlt1 : p < w.heap.size + 1 := by omega
  have hlt2 : p < w.heap.size + 1 + 1 := by omega
  have hlt3 : p < w.heap.size + 2 := by omega
  have hka0 : (0 : Int) ≤ (ka : Int) := by omega
  have hka1 : (ka : Int) < 4 := by omega
  have hkb0 : (0 : Int) ≤ (kb : Int) := by omega
  have hkb1 : (kb : Int) < 4 := by omega
  have hww : IntKind.i64.wrap (wd - 1) = wd - 1 := wrapP _ (by omega) (by omega)
  clear hb
  generalize m.regs.getD ka 0 = ra at *
  generalize m.regs.getD kb 0 = rb at *
  cases hin : inB ra 0 (wd - 1) with
  | true =>
    go_enter Try.func56, Try.ntmps56
    go_wp2_with fail
    go_region
    all_goals
      go_wp2_with fail
      go_region
      all_goals
        go_wp2_with (go_at_call 54; refine (within_any _ _ _ _).mono ?_; rintro e w' ⟨rfl, hw'⟩; rw [hin]; subst hw')
        refine bodyPost_ret (v := .agg #[.int .i64 0, .int .i64 8, .int .i64 ra, .int .i64 rb]) (by simp [results, Try.results56, go_sem]) rfl ⟨rfl, ?_, ?_⟩
        · exact ((((HB.out).alloc _).alloc _).alloc _)
        · exact (((Only.below ((((Below.refl _ _).alloc (Nat.le_refl _) _).alloc (by simp) _).alloc (by simp; omega) _)))).drew.drew
  | false =>
    go_enter Try.func56, Try.ntmps56
    go_wp2_with fail
    go_region
    all_goals
      go_wp2_with fail
      go_region
      all_goals
        go_wp2_with (go_at_call 54; refine (within_any _ _ _ _).mono ?_; rintro e w' ⟨rfl, hw'⟩; rw [hin]; subst hw')
        refine bodyPost_ret (v := .agg #[.int .i64 3, .int .i64 0, .int .i64 0, .int .i64 0]) (by simp [results, Try.results56, go_sem]) rfl ⟨rfl, ?_, ?_⟩
        · exact ((((HB.out).alloc _).alloc _).alloc _)
        · exact (((Only.below ((((Below.refl _ _).alloc (Nat.le_refl _) _).alloc (by simp) _).alloc (by simp; omega) _)))).drew.drew

end Go.Proofs.Ytejadojilncbjaa
