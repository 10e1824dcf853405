import Derived.Test.YtejadojilncbjaaGreatG50
import Derived.Test.YtejadojilncbjaaGreatG52
import Derived.Deep.RegionHeld3
namespace Go.Proofs.YtejadojilncbjaaGreat
open Go.RowKit
set_option linter.unusedVariables false
attribute [local go_sem ↓] Go.wp_at_zero Go.wp_at_succ

/-- What a scan of the log reads: the setup and an access. -/
abbrev ScanS (c : Cfg) (ma ja : Option Addr) (ML mc JL jc sb ab o : Nat) (kd cl : Int) (w : World) : Prop :=
  (∀ i, i < 9 → w.cell? ⟨sb, i, none⟩ = (#[.int .i64 c.t, .int .i64 c.wd, .int .i64 c.s, .int .i64 c.g, .int .i64 c.r, .int .i64 c.cp, .int .i64 c.f, .slice ma ML mc, .slice ja JL jc] : Array Value)[i]?) ∧ w.cell? ⟨ab, o, none⟩ = some (.int .i64 kd) ∧ w.cell? ⟨ab, o + 1, none⟩ = some (.int .i64 cl)

/-- What is asked of the keepers' framed. -/
def FramedGood : Prop := ∀ (c : Cfg) (mem : List Int) (jobs : List (Int × List InsD)) (ps : List PickD) (L : List AccD) (x : AttD) (ma ja pa aa xa : Option Addr) (mc jc pc ac xn xc : Nat) (w : World), cfgB c = true → jobs.length ≤ 8 → ps.length ≤ 2097152 → L.length = ps.length → FrmOk c jobs ps L x →
    JobsRep w w.heap.size ja jobs → PicksIn w w.heap.size pa ps → LogIn w w.heap.size aa L →
    Calls Tryz.prog 51 #[.agg #[.int .i64 c.t, .int .i64 c.wd, .int .i64 c.s, .int .i64 c.g, .int .i64 c.r, .int .i64 c.cp, .int .i64 c.f, .slice ma mem.length mc, .slice ja jobs.length jc], .slice pa ps.length pc, .slice aa ps.length ac, .agg #[.int .i64 x.thread, .int .i64 x.job, .int .i64 x.start, .int .i64 x.fin, .int .i64 x.valid, .int .i64 x.stamp, .int .i64 x.fate, .slice xa xn xc]] w fun e w' => e = .returned (.bool true) ∧ Below w.heap.size w w'

set_option maxRecDepth 100000 in
set_option maxHeartbeats 16000000 in
theorem whole_of (FG : FramedGood) : WholeGood := by
  intro c mem jobs ps AN ma ja pa aa la mc jc pc ac lc base w S hjt hps hH hsl hj hp hl hr
  have HFG : Hid FramedGood := FG
  obtain ⟨R, hR⟩ : ∃ R : Rn, R = ⟨c, mem, jobs, ps⟩ := ⟨_, rfl⟩
  have O : R.Ok := by rw [hR]; exact ⟨S.cfg, S.mw, S.mb⟩
  have hRp : R.ps = ps := by rw [hR]
  have hRc : R.c = c := by rw [hR]
  rw [← hR] at hH
  obtain ⟨L, hL⟩ : ∃ L, L = accs c mem jobs ps := ⟨_, rfl⟩
  have hLR : accs R.c R.mem R.jobs R.ps = L := by rw [hR, hL]
  have HLl : Hid (L.length = ps.length) := by show _ = _; rw [hL]; exact gLog_len c mem jobs ps ps.length
  rw [← hL] at hl
  have HD : Hid (∀ k, k < ps.length → R.draws (k + 1) = R.draws k + (if (accAt L k).kind = 2 ∧ (accAt L k).cell = 0 then 1 else 0)) := fun k hk => by
    have h := draws_acc (R := R) (k := k) (by rw [hRp]; exact hk)
    rw [hLR] at h
    exact h
  have HE : Hid (∀ k, k < ps.length → R.ends (k + 1) = R.ends k + (if (accAt L k).kind = 2 ∧ 3 + 2 * c.s ≤ (accAt L k).cell ∧ (accAt L k).cell < 3 + 2 * c.s + c.t then 1 else 0)) := fun k hk => by
    have h := ends_acc (R := R) (k := k) (by rw [hRp]; exact hk)
    rw [hLR, hRc] at h
    exact h
  have HDl : Hid (∀ k, R.draws k ≤ k) := draws_le R
  have HEl : Hid (∀ k, R.ends k ≤ k) := ends_le R
  have HF : Hid (∀ x ∈ AN.map (·.1), FrmOk c jobs ps L x) := fun x hx => by
    rw [hH] at hx
    have h := framed_at O hx
    rw [hLR] at h
    rw [hR] at h
    exact h
  have hst := stamped_at O
  rw [← hH, hRp] at hst
  have HSt : Hid ((∀ v : Int, 1 ≤ v → v ≤ (R.draws ps.length : Int) → cntS v (AN.map (·.1)) = 1) ∧ ∀ a ∈ AN.map (·.1), 0 ≤ a.stamp ∧ a.stamp ≤ (R.draws ps.length : Int)) := hst
  have HSr : Hid ((AN.map (·.1)).Pairwise fun a b => a.start < b.start) := by rw [hH]; exact hist_srt O
  have HEn : Hid (R.ends ps.length = cntE (AN.map (·.1))) := by
    have h := ends_hist O
    rw [hRp, ← hH] at h
    exact h
  have hNl : AN.length ≤ 2097152 := by
    have h1 := hist_len O
    rw [← hH, List.length_map, hRp] at h1
    omega
  obtain ⟨dr, hdr⟩ : ∃ dr, dr = R.draws := ⟨_, rfl⟩
  obtain ⟨en, hen⟩ : ∃ en, en = R.ends := ⟨_, rfl⟩
  rw [← hdr] at HD HDl HSt
  rw [← hen] at HE HEl HEn
  have HD0 : Hid (dr 0 = 0 ∧ en 0 = 0) := by rw [hdr, hen]; exact ⟨rfl, rfl⟩
  have HC : Hid (cfgB c = true ∧ jobs.length ≤ 8) := ⟨S.cfg, S.j8⟩
  obtain ⟨⟨ct1, ct2⟩, _, ⟨cs1, cs2⟩, _⟩ := cfgB_true S.cfg
  have HCb : Hid (1 ≤ c.t ∧ c.t ≤ 4 ∧ 1 ≤ c.s ∧ c.s ≤ 8) := ⟨ct1, ct2, cs1, cs2⟩
  obtain ⟨w0, hw0⟩ : ∃ w0, w0 = w.alloc (.cells #[.int .i64 c.t, .int .i64 c.wd, .int .i64 c.s, .int .i64 c.g, .int .i64 c.r, .int .i64 c.cp, .int .i64 c.f, .slice ma mem.length mc, .slice ja jobs.length jc] 27) := ⟨_, rfl⟩
  have hB0 : Below w.heap.size w w0 := by rw [hw0]; exact (Below.refl w.heap.size w).alloc (Nat.le_refl _) _
  have HSb : Hid (Blk w0 w.heap.size 27 #[.int .i64 c.t, .int .i64 c.wd, .int .i64 c.s, .int .i64 c.g, .int .i64 c.r, .int .i64 c.cp, .int .i64 c.f, .slice ma mem.length mc, .slice ja jobs.length jc]) := by rw [hw0]; exact Blk.new w 27 _
  have HB0 : Hid (Below w.heap.size w w0) := hB0
  have HJ : Hid (JobsRep w0 w0.heap.size ja jobs) := hj.up2 hB0
  have HP : Hid (PicksIn w0 w0.heap.size pa ps) := hp.up2 hB0
  have HLg : Hid (LogIn w0 w0.heap.size aa L) := hl.up hB0
  have HA : Hid (AttsRow w0 base la lc AN) := ownsRow_below hr hB0
  have HSl : Hid (∀ q ∈ AN, ∃ a n c, q.2 = Value.slice a n c) := hsl
  obtain ⟨sv, hsv⟩ : ∃ sv, sv = 3 + 2 * c.s := ⟨_, rfl⟩
  obtain ⟨wv, hwv⟩ : ∃ wv, wv = 3 + 2 * c.s + c.t := ⟨_, rfl⟩
  have HSW : Hid (sv = 3 + 2 * c.s ∧ wv = 3 + 2 * c.s + c.t) := ⟨hsv, hwv⟩
  have HSts : Hid (∀ wx, Calls Tryz.prog 49 #[.agg #[.int .i64 c.t, .int .i64 c.wd, .int .i64 c.s, .int .i64 c.g, .int .i64 c.r, .int .i64 c.cp, .int .i64 c.f, .slice ma mem.length mc, .slice ja jobs.length jc], .int .i64 0] wx fun e w' => e = .returned (.int .i64 sv) ∧ Below wx.heap.size wx w') := fun wx => by
    have h := kstatus_any c S.cfg 0 ma ja mem.length mc jobs.length jc wx (by omega) (by omega)
    rw [Int.add_zero, ← hsv] at h
    exact h
  have HWrd : Hid (∀ wx, Calls Tryz.prog 36 #[.agg #[.int .i64 c.t, .int .i64 c.wd, .int .i64 c.s, .int .i64 c.g, .int .i64 c.r, .int .i64 c.cp, .int .i64 c.f, .slice ma mem.length mc, .slice ja jobs.length jc], .int .i64 0] wx fun e w' => e = .returned (.int .i64 wv) ∧ Below wx.heap.size wx w') := fun wx => by
    have h := kword_any c S.cfg 0 ma ja mem.length mc jobs.length jc wx (by omega) (by omega)
    rw [Int.add_zero, ← hwv] at h
    exact h
  rw [← hwv, ← hsv] at HE
  clear hsv hwv FG O hR hRp hRc hH hL hLR hst hdr hen S hjt hj hp hl hr hsl hB0 ct1 ct2 cs1 cs2
  go_enter Tryz.func25, Tryz.ntmps25
  go_upto_region 1 with fail
  rw [← hw0]
  clear hw0
  go_wp2_with fail
  go_loopg [9, 10, 11] (ps.length + 1) (fun m t9 t10 t11 wr => ∃ k : Nat, t9 = .int .i64 (dr k : Int) ∧ t10 = .int .i64 (en k : Int) ∧ t11 = .int .i64 (k : Int) ∧ k ≤ ps.length ∧ m = ps.length + 1 - k ∧ Hid (Below w0.heap.size w0 wr))
  case atStart => exact ⟨0, by rw [(HD0.out).1]; rfl, by rw [(HD0.out).2]; rfl, rfl, by omega, by omega, Below.refl _ _⟩
  case round =>
    obtain ⟨k, rfl, rfl, rfl, hk, hgk, HBk⟩ := hrel
    have hszk := (HBk.out).size
    by_cases hkl : k < ps.length
    · obtain ⟨ab, aoff, haa, hab, a0, a1, _, _⟩ := HLg.out k (by rw [HLl.out]; exact hkl)
      have up : ∀ (b o : Nat), b < w0.heap.size → wr.cell? ⟨b, o, none⟩ = w0.cell? ⟨b, o, none⟩ := fun b o hb => World.cell?_of_block ((HBk.out).block b hb)
      have d0 := (up ab _ hab).trans a0
      have d1 := (up ab _ hab).trans a1
      have hdn := HD.out k hkl
      have hen := HE.out k hkl
      have hd1 := HDl.out k
      have he1 := HEl.out k
      obtain ⟨kd, hkd⟩ : ∃ kd, kd = (accAt L k).kind := ⟨_, rfl⟩
      obtain ⟨cl, hcl⟩ : ∃ cl, cl = (accAt L k).cell := ⟨_, rfl⟩
      rw [← hkd] at d0 hdn hen
      rw [← hcl] at d1 hdn hen
      have k0 : (0 : Int) ≤ (k : Int) := by omega
      have k1 : (k : Int) < (ps.length : Int) := by omega
      have hwk : IntKind.i64.wrap ((k : Int) + 1) = (k : Int) + 1 := wrapF _ (by omega) (by omega)
      have hwd : IntKind.i64.wrap ((dr k : Int) + 1) = (dr k : Int) + 1 := wrapF _ (by omega) (by omega)
      have hwe : IntKind.i64.wrap ((en k : Int) + 1) = (en k : Int) + 1 := wrapF _ (by omega) (by omega)
      have hsx : ∀ i, wr.cell? ⟨w.heap.size, i, none⟩ = (#[.int .i64 c.t, .int .i64 c.wd, .int .i64 c.s, .int .i64 c.g, .int .i64 c.r, .int .i64 c.cp, .int .i64 c.f, .slice ma mem.length mc, .slice ja jobs.length jc] : Array Value)[i]? := ((HSb.out).below HBk.out (HSb.out).lt).cell
      have hsl2 : w.heap.size < wr.heap.size := Nat.lt_of_lt_of_le (HSb.out).lt hszk
      have habr : ab < wr.heap.size := Nat.lt_of_lt_of_le hab hszk
      subst haa
      have HKp : Hid (∀ wx, Below wr.heap.size wr wx → ScanS c ma ja mem.length mc jobs.length jc w.heap.size ab (aoff + k * 4) kd cl wx) := fun wx hb => ⟨fun i _ => (World.cell?_of_block (hb.block _ hsl2)).trans (hsx i), (World.cell?_of_block (a := ⟨ab, aoff + k * 4, none⟩) (hb.block _ habr)).trans d0, (World.cell?_of_block (a := ⟨ab, aoff + k * 4 + 1, none⟩) (hb.block _ habr)).trans d1⟩
      clear a0 a1 up hkd hcl hd1 he1
      by_cases h2 : kd = 2
      · subst h2
        by_cases hc0 : cl = 0
        · have hcb : (cl == 0) = true := by simp [hc0]
          have h3 : ¬ cl ≥ sv := by have := HCb.out; have := HSW.out; omega
          have h3d : decide (cl ≥ sv) = false := by simpa using h3
          have HDn : Hid (dr (k + 1) = dr k + 1) := by show _ = _; rw [hdn, if_pos ⟨rfl, hc0⟩]
          have HEn2 : Hid (en (k + 1) = en k) := by show _ = _; rw [hen, if_neg (fun q => h3 q.2.1)]; rfl
          clear hdn hen hc0
          go_wp2_with fail
          go_cut [61] (fun t wx => t = .bool false ∧ Hid (Below wr.heap.size wr wx))
          case first =>
            have HS0 : Hid (ScanS c ma ja mem.length mc jobs.length jc w.heap.size ab (aoff + k * 4) 2 cl wr.drew) := HKp.out _ (below_drew wr)
            refine wp_region_held_drew (S := fun w' => ScanS c ma ja mem.length mc jobs.length jc w.heap.size ab (aoff + k * 4) 2 cl w') (by kernel_rfl) HS0.out (fun hHeld => ?_)
            refine wpAnyH_take (i := 0) (oi := { dst := some 36, op := Op.move (Operand.tmp 2), type := 31, pos := "order.go:133", after := #[], guard := none }) (v := ?_) rfl (by kernel_rfl) (by kernel_rfl) (by kernel_rfl) (fun _ _ _ h => h) (Or.inl ⟨by rfl, ?_⟩) (by assumption) ?_
            rotate_left
            · (intro wq hSw; (try dsimp only at hSw); go_simp <;> with_reducible rfl)
            simp only [Act.put, List.setIfInBounds_toArray, List.set_cons_zero, List.set_cons_succ]
            refine wpAnyH_take (i := 1) (oi := { dst := some 37, op := Op.move (Operand.tmp 11), type := 3, pos := "order.go:133", after := #[], guard := none }) (v := ?_) rfl (by kernel_rfl) (by kernel_rfl) (by kernel_rfl) (fun _ _ _ h => h) (Or.inl ⟨by rfl, ?_⟩) (by assumption) ?_
            rotate_left
            · (intro wq hSw; (try dsimp only at hSw); go_simp <;> with_reducible rfl)
            simp only [Act.put, List.setIfInBounds_toArray, List.set_cons_zero, List.set_cons_succ]
            refine wpAnyH_take (i := 2) (oi := { dst := some 38, op := Op.indexAddr 31 (Operand.tmp 36) (Operand.tmp 37), type := 0, pos := "order.go:133", after := #[{ on := 0, ground := Ground.data }, { on := 1, ground := Ground.data }], guard := none }) (v := ?_) rfl (by kernel_rfl) (by kernel_rfl) (by kernel_rfl) (fun _ _ _ h => h) (Or.inl ⟨by rfl, ?_⟩) (by assumption) ?_
            rotate_left
            · (intro wq hSw; (try dsimp only at hSw); go_simp <;> with_reducible rfl)
            simp only [Act.put, List.setIfInBounds_toArray, List.set_cons_zero, List.set_cons_succ]
            refine wpAnyH_take (i := 3) (oi := { dst := some 39, op := Op.fieldAddr 40 (Operand.tmp 38) 0, type := 0, pos := "order.go:133", after := #[{ on := 2, ground := Ground.data }], guard := none }) (v := ?_) rfl (by kernel_rfl) (by kernel_rfl) (by kernel_rfl) (fun _ _ _ h => h) (Or.inl ⟨by rfl, ?_⟩) (by assumption) ?_
            rotate_left
            · (intro wq hSw; (try dsimp only at hSw); go_simp <;> with_reducible rfl)
            simp only [Act.put, List.setIfInBounds_toArray, List.set_cons_zero, List.set_cons_succ]
            refine wpAnyH_take (i := 4) (oi := { dst := some 40, op := Op.load 3 (Operand.tmp 39), type := 3, pos := "order.go:133", after := #[{ on := 3, ground := Ground.data }], guard := none }) (v := ?_) rfl (by kernel_rfl) (by kernel_rfl) (by kernel_rfl) (fun _ _ _ h => h) (Or.inl ⟨by rfl, ?_⟩) (by assumption) ?_
            rotate_left
            · (intro wq hSw; (try dsimp only at hSw); go_simp <;> with_reducible rfl)
            simp only [Act.put, List.setIfInBounds_toArray, List.set_cons_zero, List.set_cons_succ]
            refine wpAnyH_take (i := 5) (oi := { dst := some 41, op := Op.binOp BinOp.eql 3 (Operand.tmp 40) (Operand.const (Value.int IntKind.i64 2)) 3, type := 4, pos := "order.go:133", after := #[{ on := 4, ground := Ground.data }], guard := none }) (v := ?_) rfl (by kernel_rfl) (by kernel_rfl) (by kernel_rfl) (fun _ _ _ h => h) (Or.inl ⟨by rfl, ?_⟩) (by assumption) ?_
            rotate_left
            · (intro wq hSw; (try dsimp only at hSw); go_simp <;> with_reducible rfl)
            simp only [Act.put, List.setIfInBounds_toArray, List.set_cons_zero, List.set_cons_succ]
            refine wpAnyH_take (i := 6) (oi := { dst := some 42, op := Op.move (Operand.tmp 41), type := 4, pos := "order.go:133", after := #[{ on := 5, ground := Ground.data }], guard := none }) (v := ?_) rfl (by kernel_rfl) (by kernel_rfl) (by kernel_rfl) (fun _ _ _ h => h) (Or.inl ⟨by rfl, ?_⟩) (by assumption) ?_
            rotate_left
            · (intro wq hSw; (try dsimp only at hSw); go_simp <;> with_reducible rfl)
            simp only [Act.put, List.setIfInBounds_toArray, List.set_cons_zero, List.set_cons_succ]
            refine wpAnyH_take (i := 7) (oi := { dst := some 43, op := Op.move (Operand.tmp 2), type := 31, pos := "order.go:133", after := #[{ on := 6, ground := Ground.guard }], guard := some (6, true) }) (v := ?_) rfl (by kernel_rfl) (by kernel_rfl) (by kernel_rfl) (fun _ _ _ h => h) (Or.inl ⟨by rfl, ?_⟩) (by assumption) ?_
            rotate_left
            · (intro wq hSw; (try dsimp only at hSw); go_simp <;> with_reducible rfl)
            simp only [Act.put, List.setIfInBounds_toArray, List.set_cons_zero, List.set_cons_succ]
            refine wpAnyH_take (i := 8) (oi := { dst := some 44, op := Op.move (Operand.tmp 11), type := 3, pos := "order.go:133", after := #[{ on := 6, ground := Ground.guard }], guard := some (6, true) }) (v := ?_) rfl (by kernel_rfl) (by kernel_rfl) (by kernel_rfl) (fun _ _ _ h => h) (Or.inl ⟨by rfl, ?_⟩) (by assumption) ?_
            rotate_left
            · (intro wq hSw; (try dsimp only at hSw); go_simp <;> with_reducible rfl)
            simp only [Act.put, List.setIfInBounds_toArray, List.set_cons_zero, List.set_cons_succ]
            refine wpAnyH_take (i := 9) (oi := { dst := some 45, op := Op.indexAddr 31 (Operand.tmp 43) (Operand.tmp 44), type := 0, pos := "order.go:133", after := #[{ on := 7, ground := Ground.data }, { on := 8, ground := Ground.data }, { on := 6, ground := Ground.guard }], guard := some (6, true) }) (v := ?_) rfl (by kernel_rfl) (by kernel_rfl) (by kernel_rfl) (fun _ _ _ h => h) (Or.inl ⟨by rfl, ?_⟩) (by assumption) ?_
            rotate_left
            · (intro wq hSw; (try dsimp only at hSw); go_simp <;> with_reducible rfl)
            simp only [Act.put, List.setIfInBounds_toArray, List.set_cons_zero, List.set_cons_succ]
            refine wpAnyH_take (i := 10) (oi := { dst := some 46, op := Op.fieldAddr 40 (Operand.tmp 45) 1, type := 0, pos := "order.go:133", after := #[{ on := 9, ground := Ground.data }, { on := 6, ground := Ground.guard }], guard := some (6, true) }) (v := ?_) rfl (by kernel_rfl) (by kernel_rfl) (by kernel_rfl) (fun _ _ _ h => h) (Or.inl ⟨by rfl, ?_⟩) (by assumption) ?_
            rotate_left
            · (intro wq hSw; (try dsimp only at hSw); go_simp <;> with_reducible rfl)
            simp only [Act.put, List.setIfInBounds_toArray, List.set_cons_zero, List.set_cons_succ]
            refine wpAnyH_take (i := 11) (oi := { dst := some 47, op := Op.load 3 (Operand.tmp 46), type := 3, pos := "order.go:133", after := #[{ on := 10, ground := Ground.data }, { on := 6, ground := Ground.guard }], guard := some (6, true) }) (v := ?_) rfl (by kernel_rfl) (by kernel_rfl) (by kernel_rfl) (fun _ _ _ h => h) (Or.inl ⟨by rfl, ?_⟩) (by assumption) ?_
            rotate_left
            · (intro wq hSw; (try dsimp only at hSw); go_simp <;> with_reducible rfl)
            simp only [Act.put, List.setIfInBounds_toArray, List.set_cons_zero, List.set_cons_succ]
            refine wpAnyH_take (i := 12) (oi := { dst := some 48, op := Op.load 27 (Operand.tmp 4), type := 27, pos := "order.go:133", after := #[{ on := 6, ground := Ground.guard }], guard := some (6, true) }) (v := ?_) rfl (by kernel_rfl) (by kernel_rfl) (by kernel_rfl) (fun _ _ _ h => h) (Or.inl ⟨by rfl, ?_⟩) (by assumption) ?_
            rotate_left
            · (intro wq hSw; (try dsimp only at hSw); go_simp <;> with_reducible rfl)
            simp only [Act.put, List.setIfInBounds_toArray, List.set_cons_zero, List.set_cons_succ]
            refine wpAnyH_ready (rs := [13]) (by kernel_rfl) (by simp) ?_
            refine AllReadyH.cons (o := { dst := some 49, op := Op.call { callee := Callee.value (Operand.func 49), args := #[Operand.tmp 48, Operand.const (Value.int IntKind.i64 0)], argTypes := #[27, 3] }, type := 3, pos := "order.go:133", after := #[{ on := 12, ground := Ground.data }, { on := 6, ground := Ground.chain }, { on := 6, ground := Ground.guard }], guard := some (6, true) }) rfl (fun K hK => ?_) AllReadyH.nil
            go_simp
            go_at_call 49
            refine (HSts.out _).mono ?_
            rintro e w6 ⟨rfl, hb6⟩
            have HB6 : Hid (Below wr.heap.size wr w6) := of_drew hb6
            have HS1 : Hid (ScanS c ma ja mem.length mc jobs.length jc w.heap.size ab (aoff + k * 4) 2 cl w6) := HKp.out _ HB6.out
            clear hb6
            try go_wp2_with fail
            refine hK.out _ _ HS1.out (fun hHeld2 => ?_)
            clear hK K hHeld
            try simp only [Act.put, List.setIfInBounds_toArray, List.set_cons_zero, List.set_cons_succ]
            refine wpAnyH_take (i := 14) (oi := { dst := some 50, op := Op.binOp BinOp.geq 3 (Operand.tmp 47) (Operand.tmp 49) 3, type := 4, pos := "order.go:133", after := #[{ on := 11, ground := Ground.data }, { on := 13, ground := Ground.data }, { on := 6, ground := Ground.guard }], guard := some (6, true) }) (v := ?_) rfl (by kernel_rfl) (by kernel_rfl) (by kernel_rfl) (fun _ _ _ h => h) (Or.inl ⟨by rfl, ?_⟩) (by assumption) ?_
            rotate_left
            · (intro wq hSw; (try dsimp only at hSw); go_simp <;> with_reducible rfl)
            simp only [Act.put, List.setIfInBounds_toArray, List.set_cons_zero, List.set_cons_succ]
            refine wpAnyH_take (i := 15) (oi := { dst := some 51, op := Op.pick (Operand.tmp 42) (Operand.tmp 50) (Operand.const (Value.bool false)), type := 4, pos := "order.go:133", after := #[{ on := 6, ground := Ground.data }, { on := 14, ground := Ground.data }], guard := none }) (v := ?_) rfl (by kernel_rfl) (by kernel_rfl) (by kernel_rfl) (fun _ _ _ h => h) (Or.inl ⟨by rfl, ?_⟩) (by assumption) ?_
            rotate_left
            · (intro wq hSw; (try dsimp only at hSw); go_simp <;> with_reducible rfl)
            simp only [Act.put, List.setIfInBounds_toArray, List.set_cons_zero, List.set_cons_succ]
            refine wpAnyH_take (i := 16) (oi := { dst := some 52, op := Op.move (Operand.tmp 51), type := 4, pos := "order.go:133", after := #[{ on := 15, ground := Ground.data }, { on := 13, ground := Ground.chain }], guard := none }) (v := ?_) rfl (by kernel_rfl) (by kernel_rfl) (by kernel_rfl) (fun _ _ _ h => h) (Or.inl ⟨by rfl, ?_⟩) (by assumption) ?_
            rotate_left
            · (intro wq hSw; (try dsimp only at hSw); go_simp <;> with_reducible rfl)
            simp only [Act.put, List.setIfInBounds_toArray, List.set_cons_zero, List.set_cons_succ]
            refine wpAnyH_take (i := 17) (oi := { dst := some 53, op := Op.move (Operand.tmp 2), type := 31, pos := "order.go:133", after := #[{ on := 16, ground := Ground.guard }], guard := some (16, true) }) (v := undef) rfl (by kernel_rfl) (by kernel_rfl) (by kernel_rfl) (fun _ _ _ h => h) (Or.inr ⟨by rfl, rfl⟩) (by assumption) ?_
            simp only [Act.put, List.setIfInBounds_toArray, List.set_cons_zero, List.set_cons_succ]
            refine wpAnyH_take (i := 18) (oi := { dst := some 54, op := Op.move (Operand.tmp 11), type := 3, pos := "order.go:133", after := #[{ on := 16, ground := Ground.guard }], guard := some (16, true) }) (v := undef) rfl (by kernel_rfl) (by kernel_rfl) (by kernel_rfl) (fun _ _ _ h => h) (Or.inr ⟨by rfl, rfl⟩) (by assumption) ?_
            simp only [Act.put, List.setIfInBounds_toArray, List.set_cons_zero, List.set_cons_succ]
            refine wpAnyH_take (i := 19) (oi := { dst := some 55, op := Op.indexAddr 31 (Operand.tmp 53) (Operand.tmp 54), type := 0, pos := "order.go:133", after := #[{ on := 17, ground := Ground.data }, { on := 18, ground := Ground.data }, { on := 16, ground := Ground.guard }], guard := some (16, true) }) (v := undef) rfl (by kernel_rfl) (by kernel_rfl) (by kernel_rfl) (fun _ _ _ h => h) (Or.inr ⟨by rfl, rfl⟩) (by assumption) ?_
            simp only [Act.put, List.setIfInBounds_toArray, List.set_cons_zero, List.set_cons_succ]
            refine wpAnyH_take (i := 20) (oi := { dst := some 56, op := Op.fieldAddr 40 (Operand.tmp 55) 1, type := 0, pos := "order.go:133", after := #[{ on := 19, ground := Ground.data }, { on := 16, ground := Ground.guard }], guard := some (16, true) }) (v := undef) rfl (by kernel_rfl) (by kernel_rfl) (by kernel_rfl) (fun _ _ _ h => h) (Or.inr ⟨by rfl, rfl⟩) (by assumption) ?_
            simp only [Act.put, List.setIfInBounds_toArray, List.set_cons_zero, List.set_cons_succ]
            refine wpAnyH_take (i := 21) (oi := { dst := some 57, op := Op.load 3 (Operand.tmp 56), type := 3, pos := "order.go:133", after := #[{ on := 20, ground := Ground.data }, { on := 16, ground := Ground.guard }], guard := some (16, true) }) (v := undef) rfl (by kernel_rfl) (by kernel_rfl) (by kernel_rfl) (fun _ _ _ h => h) (Or.inr ⟨by rfl, rfl⟩) (by assumption) ?_
            simp only [Act.put, List.setIfInBounds_toArray, List.set_cons_zero, List.set_cons_succ]
            refine wpAnyH_take (i := 22) (oi := { dst := some 58, op := Op.load 27 (Operand.tmp 4), type := 27, pos := "order.go:133", after := #[{ on := 16, ground := Ground.guard }], guard := some (16, true) }) (v := undef) rfl (by kernel_rfl) (by kernel_rfl) (by kernel_rfl) (fun _ _ _ h => h) (Or.inr ⟨by rfl, rfl⟩) (by assumption) ?_
            simp only [Act.put, List.setIfInBounds_toArray, List.set_cons_zero, List.set_cons_succ]
            refine wpAnyH_take (i := 23) (oi := { dst := some 59, op := Op.call { callee := Callee.value (Operand.func 36), args := #[Operand.tmp 58, Operand.const (Value.int IntKind.i64 0)], argTypes := #[27, 3] }, type := 3, pos := "order.go:133", after := #[{ on := 22, ground := Ground.data }, { on := 16, ground := Ground.chain }, { on := 16, ground := Ground.guard }], guard := some (16, true) }) (v := undef) rfl (by kernel_rfl) (by kernel_rfl) (by kernel_rfl) (fun _ _ _ h => h) (Or.inr ⟨by rfl, rfl⟩) (by assumption) ?_
            simp only [Act.put, List.setIfInBounds_toArray, List.set_cons_zero, List.set_cons_succ]
            refine wpAnyH_take (i := 24) (oi := { dst := some 60, op := Op.binOp BinOp.lss 3 (Operand.tmp 57) (Operand.tmp 59) 3, type := 4, pos := "order.go:133", after := #[{ on := 21, ground := Ground.data }, { on := 23, ground := Ground.data }, { on := 16, ground := Ground.guard }], guard := some (16, true) }) (v := undef) rfl (by kernel_rfl) (by kernel_rfl) (by kernel_rfl) (fun _ _ _ h => h) (Or.inr ⟨by rfl, rfl⟩) (by assumption) ?_
            simp only [Act.put, List.setIfInBounds_toArray, List.set_cons_zero, List.set_cons_succ]
            refine wpAnyH_take (i := 25) (oi := { dst := some 61, op := Op.pick (Operand.tmp 52) (Operand.tmp 60) (Operand.const (Value.bool false)), type := 4, pos := "order.go:133", after := #[{ on := 16, ground := Ground.data }, { on := 24, ground := Ground.data }], guard := none }) (v := ?_) rfl (by kernel_rfl) (by kernel_rfl) (by kernel_rfl) (fun _ _ _ h => h) (Or.inl ⟨by rfl, ?_⟩) (by assumption) ?_
            rotate_left
            · (intro wq hSw; (try dsimp only at hSw); go_simp <;> with_reducible rfl)
            simp only [Act.put, List.setIfInBounds_toArray, List.set_cons_zero, List.set_cons_succ]
            refine wpAnyH_done (by kernel_rfl) ?_ _
            go_wp2
            go_meet
            case rel => exact ⟨by first | rfl | simp, HB6⟩
          case rest =>
            obtain ⟨rfl, HBc⟩ := hcut
            clear d0 d1 hsx
            go_wp2_with fail
            go_roundg (gk - 1)
            case rel => exact ⟨k + 1, by rw [HDn.out]; simp, by rw [HEn2.out], by simp, by omega, by omega, (HBk.out).trans ((HBc.out).mono hszk)⟩
            case measure => omega
        · have hcb : (cl == 0) = false := by simp [hc0]
          have HDn : Hid (dr (k + 1) = dr k) := by show _ = _; rw [hdn, if_neg (fun q => hc0 q.2)]; rfl
          clear hdn hc0
          by_cases h3 : cl ≥ sv
          · have h3d : decide (cl ≥ sv) = true := by simpa using h3
            by_cases h4 : cl < wv
            · have HEn2 : Hid (en (k + 1) = en k + 1) := by show _ = _; rw [hen, if_pos ⟨rfl, h3, h4⟩]
              clear hen
              go_wp2_with fail
              go_cut [61] (fun t wx => t = .bool true ∧ Hid (Below wr.heap.size wr wx))
              case first =>
                have HS0 : Hid (ScanS c ma ja mem.length mc jobs.length jc w.heap.size ab (aoff + k * 4) 2 cl wr.drew) := HKp.out _ (below_drew wr)
                go_region_held3 (fun w' => ScanS c ma ja mem.length mc jobs.length jc w.heap.size ab (aoff + k * 4) 2 cl w')
                  (first | exact HS2.out | exact HS1.out | exact HS0.out)
                  (first
                    | (go_at_call 49; refine (HSts.out _).mono ?_; rintro e w6 ⟨rfl, hb6⟩; have HB6 : Hid (Below wr.heap.size wr w6) := of_drew hb6; clear hb6; have HS1 : Hid (ScanS c ma ja mem.length mc jobs.length jc w.heap.size ab (aoff + k * 4) 2 cl w6) := HKp.out _ HB6.out)
                    | (go_at_call 36; refine (HWrd.out _).mono ?_; rintro e w7 ⟨rfl, hb7⟩; have HB7 : Hid (Below wr.heap.size wr w7) := (HB6.out).trans (hb7.mono (HB6.out).size); clear hb7; have HS2 : Hid (ScanS c ma ja mem.length mc jobs.length jc w.heap.size ab (aoff + k * 4) 2 cl w7) := HKp.out _ HB7.out))
                all_goals
                  go_wp2
                  go_meet
                  case rel => exact ⟨by first | rfl | simp, by first | exact HB7 | exact HB6⟩
              case rest =>
                obtain ⟨rfl, HBc⟩ := hcut
                clear d0 d1 hsx
                go_wp2_with fail
                go_roundg (gk - 1)
                case rel => exact ⟨k + 1, by rw [HDn.out], by rw [HEn2.out]; simp, by simp, by omega, by omega, (HBk.out).trans ((HBc.out).mono hszk)⟩
                case measure => omega
            · have HEn2 : Hid (en (k + 1) = en k) := by show _ = _; rw [hen, if_neg (fun q => h4 q.2.2)]; rfl
              clear hen
              go_wp2_with fail
              go_cut [61] (fun t wx => t = .bool false ∧ Hid (Below wr.heap.size wr wx))
              case first =>
                have HS0 : Hid (ScanS c ma ja mem.length mc jobs.length jc w.heap.size ab (aoff + k * 4) 2 cl wr.drew) := HKp.out _ (below_drew wr)
                go_region_held3 (fun w' => ScanS c ma ja mem.length mc jobs.length jc w.heap.size ab (aoff + k * 4) 2 cl w')
                  (first | exact HS2.out | exact HS1.out | exact HS0.out)
                  (first
                    | (go_at_call 49; refine (HSts.out _).mono ?_; rintro e w6 ⟨rfl, hb6⟩; have HB6 : Hid (Below wr.heap.size wr w6) := of_drew hb6; clear hb6; have HS1 : Hid (ScanS c ma ja mem.length mc jobs.length jc w.heap.size ab (aoff + k * 4) 2 cl w6) := HKp.out _ HB6.out)
                    | (go_at_call 36; refine (HWrd.out _).mono ?_; rintro e w7 ⟨rfl, hb7⟩; have HB7 : Hid (Below wr.heap.size wr w7) := (HB6.out).trans (hb7.mono (HB6.out).size); clear hb7; have HS2 : Hid (ScanS c ma ja mem.length mc jobs.length jc w.heap.size ab (aoff + k * 4) 2 cl w7) := HKp.out _ HB7.out))
                all_goals
                  go_wp2
                  go_meet
                  case rel => exact ⟨by first | rfl | (simp; done) | (simp [h4]; done) | simpa using h4, by first | exact HB7 | exact HB6⟩
              case rest =>
                obtain ⟨rfl, HBc⟩ := hcut
                clear d0 d1 hsx
                go_wp2_with fail
                go_roundg (gk - 1)
                case rel => exact ⟨k + 1, by rw [HDn.out], by rw [HEn2.out], by simp, by omega, by omega, (HBk.out).trans ((HBc.out).mono hszk)⟩
                case measure => omega
          · have h3d : decide (cl ≥ sv) = false := by simpa using h3
            have HEn2 : Hid (en (k + 1) = en k) := by show _ = _; rw [hen, if_neg (fun q => h3 q.2.1)]; rfl
            clear hen
            go_wp2_with fail
            go_cut [61] (fun t wx => t = .bool false ∧ Hid (Below wr.heap.size wr wx))
            case first =>
              have HS0 : Hid (ScanS c ma ja mem.length mc jobs.length jc w.heap.size ab (aoff + k * 4) 2 cl wr.drew) := HKp.out _ (below_drew wr)
              refine wp_region_held_drew (S := fun w' => ScanS c ma ja mem.length mc jobs.length jc w.heap.size ab (aoff + k * 4) 2 cl w') (by kernel_rfl) HS0.out (fun hHeld => ?_)
              refine wpAnyH_take (i := 0) (oi := { dst := some 36, op := Op.move (Operand.tmp 2), type := 31, pos := "order.go:133", after := #[], guard := none }) (v := ?_) rfl (by kernel_rfl) (by kernel_rfl) (by kernel_rfl) (fun _ _ _ h => h) (Or.inl ⟨by rfl, ?_⟩) (by assumption) ?_
              rotate_left
              · (intro wq hSw; (try dsimp only at hSw); go_simp <;> with_reducible rfl)
              simp only [Act.put, List.setIfInBounds_toArray, List.set_cons_zero, List.set_cons_succ]
              refine wpAnyH_take (i := 1) (oi := { dst := some 37, op := Op.move (Operand.tmp 11), type := 3, pos := "order.go:133", after := #[], guard := none }) (v := ?_) rfl (by kernel_rfl) (by kernel_rfl) (by kernel_rfl) (fun _ _ _ h => h) (Or.inl ⟨by rfl, ?_⟩) (by assumption) ?_
              rotate_left
              · (intro wq hSw; (try dsimp only at hSw); go_simp <;> with_reducible rfl)
              simp only [Act.put, List.setIfInBounds_toArray, List.set_cons_zero, List.set_cons_succ]
              refine wpAnyH_take (i := 2) (oi := { dst := some 38, op := Op.indexAddr 31 (Operand.tmp 36) (Operand.tmp 37), type := 0, pos := "order.go:133", after := #[{ on := 0, ground := Ground.data }, { on := 1, ground := Ground.data }], guard := none }) (v := ?_) rfl (by kernel_rfl) (by kernel_rfl) (by kernel_rfl) (fun _ _ _ h => h) (Or.inl ⟨by rfl, ?_⟩) (by assumption) ?_
              rotate_left
              · (intro wq hSw; (try dsimp only at hSw); go_simp <;> with_reducible rfl)
              simp only [Act.put, List.setIfInBounds_toArray, List.set_cons_zero, List.set_cons_succ]
              refine wpAnyH_take (i := 3) (oi := { dst := some 39, op := Op.fieldAddr 40 (Operand.tmp 38) 0, type := 0, pos := "order.go:133", after := #[{ on := 2, ground := Ground.data }], guard := none }) (v := ?_) rfl (by kernel_rfl) (by kernel_rfl) (by kernel_rfl) (fun _ _ _ h => h) (Or.inl ⟨by rfl, ?_⟩) (by assumption) ?_
              rotate_left
              · (intro wq hSw; (try dsimp only at hSw); go_simp <;> with_reducible rfl)
              simp only [Act.put, List.setIfInBounds_toArray, List.set_cons_zero, List.set_cons_succ]
              refine wpAnyH_take (i := 4) (oi := { dst := some 40, op := Op.load 3 (Operand.tmp 39), type := 3, pos := "order.go:133", after := #[{ on := 3, ground := Ground.data }], guard := none }) (v := ?_) rfl (by kernel_rfl) (by kernel_rfl) (by kernel_rfl) (fun _ _ _ h => h) (Or.inl ⟨by rfl, ?_⟩) (by assumption) ?_
              rotate_left
              · (intro wq hSw; (try dsimp only at hSw); go_simp <;> with_reducible rfl)
              simp only [Act.put, List.setIfInBounds_toArray, List.set_cons_zero, List.set_cons_succ]
              refine wpAnyH_take (i := 5) (oi := { dst := some 41, op := Op.binOp BinOp.eql 3 (Operand.tmp 40) (Operand.const (Value.int IntKind.i64 2)) 3, type := 4, pos := "order.go:133", after := #[{ on := 4, ground := Ground.data }], guard := none }) (v := ?_) rfl (by kernel_rfl) (by kernel_rfl) (by kernel_rfl) (fun _ _ _ h => h) (Or.inl ⟨by rfl, ?_⟩) (by assumption) ?_
              rotate_left
              · (intro wq hSw; (try dsimp only at hSw); go_simp <;> with_reducible rfl)
              simp only [Act.put, List.setIfInBounds_toArray, List.set_cons_zero, List.set_cons_succ]
              refine wpAnyH_take (i := 6) (oi := { dst := some 42, op := Op.move (Operand.tmp 41), type := 4, pos := "order.go:133", after := #[{ on := 5, ground := Ground.data }], guard := none }) (v := ?_) rfl (by kernel_rfl) (by kernel_rfl) (by kernel_rfl) (fun _ _ _ h => h) (Or.inl ⟨by rfl, ?_⟩) (by assumption) ?_
              rotate_left
              · (intro wq hSw; (try dsimp only at hSw); go_simp <;> with_reducible rfl)
              simp only [Act.put, List.setIfInBounds_toArray, List.set_cons_zero, List.set_cons_succ]
              refine wpAnyH_take (i := 7) (oi := { dst := some 43, op := Op.move (Operand.tmp 2), type := 31, pos := "order.go:133", after := #[{ on := 6, ground := Ground.guard }], guard := some (6, true) }) (v := ?_) rfl (by kernel_rfl) (by kernel_rfl) (by kernel_rfl) (fun _ _ _ h => h) (Or.inl ⟨by rfl, ?_⟩) (by assumption) ?_
              rotate_left
              · (intro wq hSw; (try dsimp only at hSw); go_simp <;> with_reducible rfl)
              simp only [Act.put, List.setIfInBounds_toArray, List.set_cons_zero, List.set_cons_succ]
              refine wpAnyH_take (i := 8) (oi := { dst := some 44, op := Op.move (Operand.tmp 11), type := 3, pos := "order.go:133", after := #[{ on := 6, ground := Ground.guard }], guard := some (6, true) }) (v := ?_) rfl (by kernel_rfl) (by kernel_rfl) (by kernel_rfl) (fun _ _ _ h => h) (Or.inl ⟨by rfl, ?_⟩) (by assumption) ?_
              rotate_left
              · (intro wq hSw; (try dsimp only at hSw); go_simp <;> with_reducible rfl)
              simp only [Act.put, List.setIfInBounds_toArray, List.set_cons_zero, List.set_cons_succ]
              refine wpAnyH_take (i := 9) (oi := { dst := some 45, op := Op.indexAddr 31 (Operand.tmp 43) (Operand.tmp 44), type := 0, pos := "order.go:133", after := #[{ on := 7, ground := Ground.data }, { on := 8, ground := Ground.data }, { on := 6, ground := Ground.guard }], guard := some (6, true) }) (v := ?_) rfl (by kernel_rfl) (by kernel_rfl) (by kernel_rfl) (fun _ _ _ h => h) (Or.inl ⟨by rfl, ?_⟩) (by assumption) ?_
              rotate_left
              · (intro wq hSw; (try dsimp only at hSw); go_simp <;> with_reducible rfl)
              simp only [Act.put, List.setIfInBounds_toArray, List.set_cons_zero, List.set_cons_succ]
              refine wpAnyH_take (i := 10) (oi := { dst := some 46, op := Op.fieldAddr 40 (Operand.tmp 45) 1, type := 0, pos := "order.go:133", after := #[{ on := 9, ground := Ground.data }, { on := 6, ground := Ground.guard }], guard := some (6, true) }) (v := ?_) rfl (by kernel_rfl) (by kernel_rfl) (by kernel_rfl) (fun _ _ _ h => h) (Or.inl ⟨by rfl, ?_⟩) (by assumption) ?_
              rotate_left
              · (intro wq hSw; (try dsimp only at hSw); go_simp <;> with_reducible rfl)
              simp only [Act.put, List.setIfInBounds_toArray, List.set_cons_zero, List.set_cons_succ]
              refine wpAnyH_take (i := 11) (oi := { dst := some 47, op := Op.load 3 (Operand.tmp 46), type := 3, pos := "order.go:133", after := #[{ on := 10, ground := Ground.data }, { on := 6, ground := Ground.guard }], guard := some (6, true) }) (v := ?_) rfl (by kernel_rfl) (by kernel_rfl) (by kernel_rfl) (fun _ _ _ h => h) (Or.inl ⟨by rfl, ?_⟩) (by assumption) ?_
              rotate_left
              · (intro wq hSw; (try dsimp only at hSw); go_simp <;> with_reducible rfl)
              simp only [Act.put, List.setIfInBounds_toArray, List.set_cons_zero, List.set_cons_succ]
              refine wpAnyH_take (i := 12) (oi := { dst := some 48, op := Op.load 27 (Operand.tmp 4), type := 27, pos := "order.go:133", after := #[{ on := 6, ground := Ground.guard }], guard := some (6, true) }) (v := ?_) rfl (by kernel_rfl) (by kernel_rfl) (by kernel_rfl) (fun _ _ _ h => h) (Or.inl ⟨by rfl, ?_⟩) (by assumption) ?_
              rotate_left
              · (intro wq hSw; (try dsimp only at hSw); go_simp <;> with_reducible rfl)
              simp only [Act.put, List.setIfInBounds_toArray, List.set_cons_zero, List.set_cons_succ]
              refine wpAnyH_ready (rs := [13]) (by kernel_rfl) (by simp) ?_
              refine AllReadyH.cons (o := { dst := some 49, op := Op.call { callee := Callee.value (Operand.func 49), args := #[Operand.tmp 48, Operand.const (Value.int IntKind.i64 0)], argTypes := #[27, 3] }, type := 3, pos := "order.go:133", after := #[{ on := 12, ground := Ground.data }, { on := 6, ground := Ground.chain }, { on := 6, ground := Ground.guard }], guard := some (6, true) }) rfl (fun K hK => ?_) AllReadyH.nil
              go_simp
              go_at_call 49
              refine (HSts.out _).mono ?_
              rintro e w6 ⟨rfl, hb6⟩
              have HB6 : Hid (Below wr.heap.size wr w6) := of_drew hb6
              have HS1 : Hid (ScanS c ma ja mem.length mc jobs.length jc w.heap.size ab (aoff + k * 4) 2 cl w6) := HKp.out _ HB6.out
              clear hb6
              try go_wp2_with fail
              refine hK.out _ _ HS1.out (fun hHeld2 => ?_)
              clear hK K hHeld
              try simp only [Act.put, List.setIfInBounds_toArray, List.set_cons_zero, List.set_cons_succ]
              refine wpAnyH_take (i := 14) (oi := { dst := some 50, op := Op.binOp BinOp.geq 3 (Operand.tmp 47) (Operand.tmp 49) 3, type := 4, pos := "order.go:133", after := #[{ on := 11, ground := Ground.data }, { on := 13, ground := Ground.data }, { on := 6, ground := Ground.guard }], guard := some (6, true) }) (v := ?_) rfl (by kernel_rfl) (by kernel_rfl) (by kernel_rfl) (fun _ _ _ h => h) (Or.inl ⟨by rfl, ?_⟩) (by assumption) ?_
              rotate_left
              · (intro wq hSw; (try dsimp only at hSw); go_simp <;> with_reducible rfl)
              simp only [Act.put, List.setIfInBounds_toArray, List.set_cons_zero, List.set_cons_succ]
              refine wpAnyH_take (i := 15) (oi := { dst := some 51, op := Op.pick (Operand.tmp 42) (Operand.tmp 50) (Operand.const (Value.bool false)), type := 4, pos := "order.go:133", after := #[{ on := 6, ground := Ground.data }, { on := 14, ground := Ground.data }], guard := none }) (v := ?_) rfl (by kernel_rfl) (by kernel_rfl) (by kernel_rfl) (fun _ _ _ h => h) (Or.inl ⟨by rfl, ?_⟩) (by assumption) ?_
              rotate_left
              · (intro wq hSw; (try dsimp only at hSw); go_simp <;> with_reducible rfl)
              simp only [Act.put, List.setIfInBounds_toArray, List.set_cons_zero, List.set_cons_succ]
              refine wpAnyH_take (i := 16) (oi := { dst := some 52, op := Op.move (Operand.tmp 51), type := 4, pos := "order.go:133", after := #[{ on := 15, ground := Ground.data }, { on := 13, ground := Ground.chain }], guard := none }) (v := ?_) rfl (by kernel_rfl) (by kernel_rfl) (by kernel_rfl) (fun _ _ _ h => h) (Or.inl ⟨by rfl, ?_⟩) (by assumption) ?_
              rotate_left
              · (intro wq hSw; (try dsimp only at hSw); go_simp <;> with_reducible rfl)
              simp only [Act.put, List.setIfInBounds_toArray, List.set_cons_zero, List.set_cons_succ]
              refine wpAnyH_take (i := 17) (oi := { dst := some 53, op := Op.move (Operand.tmp 2), type := 31, pos := "order.go:133", after := #[{ on := 16, ground := Ground.guard }], guard := some (16, true) }) (v := undef) rfl (by kernel_rfl) (by kernel_rfl) (by kernel_rfl) (fun _ _ _ h => h) (Or.inr ⟨by rfl, rfl⟩) (by assumption) ?_
              simp only [Act.put, List.setIfInBounds_toArray, List.set_cons_zero, List.set_cons_succ]
              refine wpAnyH_take (i := 18) (oi := { dst := some 54, op := Op.move (Operand.tmp 11), type := 3, pos := "order.go:133", after := #[{ on := 16, ground := Ground.guard }], guard := some (16, true) }) (v := undef) rfl (by kernel_rfl) (by kernel_rfl) (by kernel_rfl) (fun _ _ _ h => h) (Or.inr ⟨by rfl, rfl⟩) (by assumption) ?_
              simp only [Act.put, List.setIfInBounds_toArray, List.set_cons_zero, List.set_cons_succ]
              refine wpAnyH_take (i := 19) (oi := { dst := some 55, op := Op.indexAddr 31 (Operand.tmp 53) (Operand.tmp 54), type := 0, pos := "order.go:133", after := #[{ on := 17, ground := Ground.data }, { on := 18, ground := Ground.data }, { on := 16, ground := Ground.guard }], guard := some (16, true) }) (v := undef) rfl (by kernel_rfl) (by kernel_rfl) (by kernel_rfl) (fun _ _ _ h => h) (Or.inr ⟨by rfl, rfl⟩) (by assumption) ?_
              simp only [Act.put, List.setIfInBounds_toArray, List.set_cons_zero, List.set_cons_succ]
              refine wpAnyH_take (i := 20) (oi := { dst := some 56, op := Op.fieldAddr 40 (Operand.tmp 55) 1, type := 0, pos := "order.go:133", after := #[{ on := 19, ground := Ground.data }, { on := 16, ground := Ground.guard }], guard := some (16, true) }) (v := undef) rfl (by kernel_rfl) (by kernel_rfl) (by kernel_rfl) (fun _ _ _ h => h) (Or.inr ⟨by rfl, rfl⟩) (by assumption) ?_
              simp only [Act.put, List.setIfInBounds_toArray, List.set_cons_zero, List.set_cons_succ]
              refine wpAnyH_take (i := 21) (oi := { dst := some 57, op := Op.load 3 (Operand.tmp 56), type := 3, pos := "order.go:133", after := #[{ on := 20, ground := Ground.data }, { on := 16, ground := Ground.guard }], guard := some (16, true) }) (v := undef) rfl (by kernel_rfl) (by kernel_rfl) (by kernel_rfl) (fun _ _ _ h => h) (Or.inr ⟨by rfl, rfl⟩) (by assumption) ?_
              simp only [Act.put, List.setIfInBounds_toArray, List.set_cons_zero, List.set_cons_succ]
              refine wpAnyH_take (i := 22) (oi := { dst := some 58, op := Op.load 27 (Operand.tmp 4), type := 27, pos := "order.go:133", after := #[{ on := 16, ground := Ground.guard }], guard := some (16, true) }) (v := undef) rfl (by kernel_rfl) (by kernel_rfl) (by kernel_rfl) (fun _ _ _ h => h) (Or.inr ⟨by rfl, rfl⟩) (by assumption) ?_
              simp only [Act.put, List.setIfInBounds_toArray, List.set_cons_zero, List.set_cons_succ]
              refine wpAnyH_take (i := 23) (oi := { dst := some 59, op := Op.call { callee := Callee.value (Operand.func 36), args := #[Operand.tmp 58, Operand.const (Value.int IntKind.i64 0)], argTypes := #[27, 3] }, type := 3, pos := "order.go:133", after := #[{ on := 22, ground := Ground.data }, { on := 16, ground := Ground.chain }, { on := 16, ground := Ground.guard }], guard := some (16, true) }) (v := undef) rfl (by kernel_rfl) (by kernel_rfl) (by kernel_rfl) (fun _ _ _ h => h) (Or.inr ⟨by rfl, rfl⟩) (by assumption) ?_
              simp only [Act.put, List.setIfInBounds_toArray, List.set_cons_zero, List.set_cons_succ]
              refine wpAnyH_take (i := 24) (oi := { dst := some 60, op := Op.binOp BinOp.lss 3 (Operand.tmp 57) (Operand.tmp 59) 3, type := 4, pos := "order.go:133", after := #[{ on := 21, ground := Ground.data }, { on := 23, ground := Ground.data }, { on := 16, ground := Ground.guard }], guard := some (16, true) }) (v := undef) rfl (by kernel_rfl) (by kernel_rfl) (by kernel_rfl) (fun _ _ _ h => h) (Or.inr ⟨by rfl, rfl⟩) (by assumption) ?_
              simp only [Act.put, List.setIfInBounds_toArray, List.set_cons_zero, List.set_cons_succ]
              refine wpAnyH_take (i := 25) (oi := { dst := some 61, op := Op.pick (Operand.tmp 52) (Operand.tmp 60) (Operand.const (Value.bool false)), type := 4, pos := "order.go:133", after := #[{ on := 16, ground := Ground.data }, { on := 24, ground := Ground.data }], guard := none }) (v := ?_) rfl (by kernel_rfl) (by kernel_rfl) (by kernel_rfl) (fun _ _ _ h => h) (Or.inl ⟨by rfl, ?_⟩) (by assumption) ?_
              rotate_left
              · (intro wq hSw; (try dsimp only at hSw); go_simp <;> with_reducible rfl)
              simp only [Act.put, List.setIfInBounds_toArray, List.set_cons_zero, List.set_cons_succ]
              refine wpAnyH_done (by kernel_rfl) ?_ _
              go_wp2
              go_meet
              case rel => exact ⟨by first | rfl | simp, HB6⟩
            case rest =>
              obtain ⟨rfl, HBc⟩ := hcut
              clear d0 d1 hsx
              go_wp2_with fail
              go_roundg (gk - 1)
              case rel => exact ⟨k + 1, by rw [HDn.out], by rw [HEn2.out], by simp, by omega, by omega, (HBk.out).trans ((HBc.out).mono hszk)⟩
              case measure => omega
      · have h2b : (kd == 2) = false := by simp [h2]
        have HDn : Hid (dr (k + 1) = dr k) := by show _ = _; rw [hdn, if_neg (fun q => h2 q.1)]; rfl
        have HEn2 : Hid (en (k + 1) = en k) := by show _ = _; rw [hen, if_neg (fun q => h2 q.1)]; rfl
        clear hdn hen h2
        go_wp2_with fail
        go_quiet (fail)
        go_wp2
        go_roundg (gk - 1)
        case rel => exact ⟨k + 1, by rw [HDn.out], by rw [HEn2.out], by simp, by omega, by omega, belowDrewN HBk.out nq⟩
        case measure => omega
    · have hke : ¬ (k : Int) < (ps.length : Int) := by omega
      have hkp : k = ps.length := by omega
      obtain ⟨w1, hw1⟩ : ∃ w1, w1 = wr := ⟨_, rfl⟩
      subst hw1
      have HA1 : Hid (AttsRow w1 base la lc AN) := ownsRow_below HA.out HBk.out
      obtain ⟨dn, hdn⟩ : ∃ dn, dn = dr k := ⟨_, rfl⟩
      have hdl : dn ≤ 2097152 := by rw [hdn]; have := HDl.out k; omega
      have hdp : dr ps.length = dn := by rw [hdn, hkp]
      have HStm : Hid (Calls Tryz.prog 50 #[.slice la AN.length lc, .int .i64 (dn : Int)] w1 fun e w' => e = .returned (.bool true) ∧ Below w1.heap.size w1 w') := by
        have h := HSt.out
        rw [hdp] at h
        exact stamped_any AN dn h.1 h.2 la lc base w1 (by omega) (by omega) HA1.out
      obtain ⟨EN, hEN⟩ : ∃ EN, EN = en k := ⟨_, rfl⟩
      obtain ⟨LH, hLH⟩ : ∃ LH, LH = AN.map (·.1) := ⟨_, rfl⟩
      have HLH : Hid (LH = AN.map (·.1)) := hLH
      have HEN : Hid (EN = cntE LH) := by show _ = _; rw [hEN, hkp, hLH]; exact HEn.out
      have hEl : EN ≤ 2097152 := by rw [hEN]; have := HEl.out k; omega
      have HSr2 : Hid (LH.Pairwise fun a b => a.start < b.start) := by rw [hLH]; exact HSr.out
      rw [← hdn, ← hEN]
      clear hdn hdp hEN hLH HEn HSt HSr HD HE HD0
      go_wp2_with fail
      refine (HStm.out).mono ?_
      rintro e w2 ⟨rfl, hb2⟩
      have HB2 : Hid (Below w0.heap.size w0 w2) := (HBk.out).trans (hb2.mono (HBk.out).size)
      have HA2 : Hid (AttsRow w2 base la lc AN) := ownsRow_below HA1.out hb2
      have HZ : Hid (EN = EN - cntE (LH.take 0)) := by show _ = _; simp [cntE]
      clear hb2 HStm HA1 HBk
      go_wp2_with fail
      go_loopg [10, 13] (AN.length + 1) (fun m t10 t13 wr => ∃ i : Nat, t10 = .int .i64 ((EN - cntE (LH.take i) : Nat) : Int) ∧ t13 = .int .i64 (i : Int) ∧ i ≤ AN.length ∧ m = AN.length + 1 - i ∧ Hid (Below w2.heap.size w2 wr))
      case atStart => exact ⟨0, by rw [← HZ.out], rfl, by omega, by omega, Below.refl _ _⟩
      case round =>
        obtain ⟨i, rfl, rfl, hi, hgi, HBi⟩ := hrel
        clear HZ
        have hszi := (HBi.out).size
        have HB0i : Hid (Below w0.heap.size w0 wr) := (HB2.out).trans ((HBi.out).mono (HB2.out).size)
        by_cases hil : i < AN.length
        · obtain ⟨x, hx⟩ : ∃ x, AN[i]? = some x := ⟨_, List.getElem?_eq_getElem hil⟩
          have HAi : Hid (AttsRow wr base la lc AN) := ownsRow_below HA2.out HBi.out
          obtain ⟨b, hb, hbl, c0, c1, c2, c3, c4, c5, c6, c7⟩ := AttsRow.at HAi.out i x hx
          obtain ⟨na, nn, nc, hxs⟩ := HSl.out x (List.mem_of_getElem? hx)
          rw [hxs] at c7
          have hLk : LH[i]? = some x.1 := by rw [HLH.out]; exact fst_at hx
          have HFr : Hid (∀ wx, Below wr.heap.size wr wx → Calls Tryz.prog 51 #[.agg #[.int .i64 c.t, .int .i64 c.wd, .int .i64 c.s, .int .i64 c.g, .int .i64 c.r, .int .i64 c.cp, .int .i64 c.f, .slice ma mem.length mc, .slice ja jobs.length jc], .slice pa ps.length pc, .slice aa ps.length ac, .agg #[.int .i64 x.1.thread, .int .i64 x.1.job, .int .i64 x.1.start, .int .i64 x.1.fin, .int .i64 x.1.valid, .int .i64 x.1.stamp, .int .i64 x.1.fate, .slice na nn nc]] wx fun e w' => e = .returned (.bool true) ∧ Below wx.heap.size wx w') := fun wx hbx => by
            have hb0 : Below w0.heap.size w0 wx := (HB0i.out).trans (hbx.mono (HB0i.out).size)
            exact HFG.out c mem jobs ps L x.1 ma ja pa aa na mc jc pc ac nn nc wx (HC.out).1 (HC.out).2 hps HLl.out (HF.out x.1 (List.mem_of_getElem? (fst_at hx))) ((HJ.out).up2 hb0) ((HP.out).up2 hb0) ((HLg.out).up hb0)
          have hsn : cntE (LH.take (i + 1)) = cntE (LH.take i) + (if x.1.fin > 0 then 1 else 0) := by rw [tk_snoc hLk, cntE_snoc]
          have hc1 := cntE_take LH i
          have hc2 := cntE_take LH (i + 1)
          rw [← show EN = cntE LH from HEN.out] at hc1 hc2
          have i0 : (0 : Int) ≤ (i : Int) := by omega
          have i1 : (i : Int) < (AN.length : Int) := by omega
          have hwi : IntKind.i64.wrap ((i : Int) + 1) = (i : Int) + 1 := wrapF _ (by omega) (by omega)
          have hsi : ∀ o, wr.cell? ⟨w.heap.size, o, none⟩ = (#[.int .i64 c.t, .int .i64 c.wd, .int .i64 c.s, .int .i64 c.g, .int .i64 c.r, .int .i64 c.cp, .int .i64 c.f, .slice ma mem.length mc, .slice ja jobs.length jc] : Array Value)[o]? := ((HSb.out).below HB0i.out (HSb.out).lt).cell
          have HSt2 : Hid (∀ y, 0 < i → LH[i - 1]? = some y → y.start < x.1.start) := fun y h0 hy => by
            obtain ⟨h1, rfl⟩ := List.getElem?_eq_some_iff.1 hy
            obtain ⟨h2, h3⟩ := List.getElem?_eq_some_iff.1 hLk
            have := List.pairwise_iff_getElem.1 HSr2.out (i - 1) i h1 h2 (by omega)
            rw [h3] at this
            exact this
          have HX : Hid (AN[i]? = some x) := hx
          subst hb
          obtain ⟨ct, hct⟩ : ∃ ct, ct = cntE (LH.take i) := ⟨_, rfl⟩
          rw [← hct] at hsn hc1 ⊢
          clear hx hxs hLk hct
          go_wp2_with fail
          go_cut [12] (fun t wx => t = .bool true ∧ Hid (Below wr.heap.size wr wx))
          case first =>
            go_region_with (go_at_call 51; refine (HFr.out _ (by first | exact Below.refl _ _ | exact below_drew wr)).mono ?_; rintro e w6 ⟨rfl, hb6⟩)
            all_goals
              go_wp2
              go_meet
              case rel => exact ⟨rfl, by first | assumption | exact of_drew (by assumption)⟩
          case rest =>
            obtain ⟨rfl, HBc⟩ := hcut
            have HAc : Hid (AttsRow wc base (some ⟨b, 0, none⟩) lc AN) := ownsRow_below HAi.out HBc.out
            have HBn : Hid (Below w2.heap.size w2 wc) := (HBi.out).trans ((HBc.out).mono hszi)
            clear c0 c1 c2 c3 c4 c5 c6 c7 hsi HFr HAi
            obtain ⟨b', hb', _, _, _, e2, e3, _⟩ := AttsRow.at HAc.out i x HX.out
            cases hb'
            obtain ⟨xs, hxs⟩ : ∃ xs, xs = x.1.start := ⟨_, rfl⟩
            obtain ⟨xf, hxf⟩ : ∃ xf, xf = x.1.fin := ⟨_, rfl⟩
            rw [← hxs] at e2 HSt2
            rw [← hxf] at e3 hsn
            clear hxs hxf
            have hws : xf > 0 → IntKind.i64.wrap (((EN - ct : Nat) : Int) - 1) = ((EN - (ct + 1) : Nat) : Int) := fun h => by
              rw [if_pos h] at hsn
              rw [show ((EN - ct : Nat) : Int) - 1 = ((EN - (ct + 1) : Nat) : Int) by omega]
              exact wrapF _ (by omega) (by omega)
            by_cases h0 : i = 0
            · have h0d : decide ((i : Int) > 0) = false := by simp [h0]
              have h0n : ¬ (i : Int) > 0 := by omega
              by_cases hf : xf > 0
              · have hw1 := hws hf
                rw [if_pos hf] at hsn
                have HSn : Hid (cntE (LH.take (i + 1)) = ct + 1) := hsn
                clear hws hsn
                go_wp2
                go_quiet (fail)
                have hE : ∀ a, (wc.drewN nq).cell? a = wc.cell? a := fun _ => rfl
                have HBw : Hid (Below w2.heap.size w2 (wc.drewN nq)) := belowDrewN HBn.out nq
                obtain ⟨we, hwe⟩ : ∃ we, we = wc.drewN nq := ⟨_, rfl⟩
                rw [← hwe] at hE HBw ⊢
                have e3' : we.cell? ⟨b, 3, none⟩ = some (.int .i64 xf) := by have h := (hE _).trans e3; rw [h0] at h; simpa using h
                clear e2 e3 hwe hE
                go_wp2_with fail
                go_roundg (AN.length + 1 - (i + 1))
                case rel => exact ⟨i + 1, by rw [HSn.out], by simp [h0], by omega, by omega, HBw⟩
                case measure => omega
              · rw [if_neg hf] at hsn
                have HSn : Hid (cntE (LH.take (i + 1)) = ct) := hsn
                clear hws hsn
                go_wp2
                go_quiet (fail)
                have hE : ∀ a, (wc.drewN nq).cell? a = wc.cell? a := fun _ => rfl
                have HBw : Hid (Below w2.heap.size w2 (wc.drewN nq)) := belowDrewN HBn.out nq
                obtain ⟨we, hwe⟩ : ∃ we, we = wc.drewN nq := ⟨_, rfl⟩
                rw [← hwe] at hE HBw ⊢
                have e3' : we.cell? ⟨b, 3, none⟩ = some (.int .i64 xf) := by have h := (hE _).trans e3; rw [h0] at h; simpa using h
                clear e2 e3 hwe hE
                go_wp2_with fail
                go_roundg (AN.length + 1 - (i + 1))
                case rel => exact ⟨i + 1, by rw [HSn.out], by simp [h0], by omega, by omega, HBw⟩
                case measure => omega
            · have h0p : (i : Int) > 0 := by omega
              have h0d : decide ((i : Int) > 0) = true := by simpa using h0p
              have h0q : 0 < i := by omega
              have h0r : decide (0 < i) = true := by simpa using h0q
              obtain ⟨y, hy⟩ : ∃ y, AN[i - 1]? = some y := ⟨_, List.getElem?_eq_getElem (by omega)⟩
              obtain ⟨b'', hb'', _, _, _, f2, _⟩ := AttsRow.at HAc.out (i - 1) y hy
              cases hb''
              have hyl := HSt2.out y.1 (by omega) (by rw [HLH.out]; exact fst_at hy)
              obtain ⟨p, hp⟩ : ∃ p, p = i - 1 := ⟨_, rfl⟩
              obtain ⟨ys, hys⟩ : ∃ ys, ys = y.1.start := ⟨_, rfl⟩
              rw [← hys] at f2 hyl
              rw [← hp] at f2
              have hsp : IntKind.i64.wrap ((i : Int) - 1) = (p : Int) := by rw [show (i : Int) - 1 = (p : Int) by omega]; exact wrapF _ (by omega) (by omega)
              have p0 : (0 : Int) ≤ (p : Int) := by omega
              have p1 : (p : Int) < (AN.length : Int) := by omega
              have hnl2 : ¬ xs ≤ ys := by omega
              have hnl3 : decide (xs ≤ ys) = false := by simpa using hnl2
              clear hy hyl hp hys h0
              by_cases hf : xf > 0
              · have hw1 := hws hf
                rw [if_pos hf] at hsn
                have HSn : Hid (cntE (LH.take (i + 1)) = ct + 1) := hsn
                clear hws hsn
                go_wp2
                go_quiet (fail)
                have hE : ∀ a, (wc.drewN nq).cell? a = wc.cell? a := fun _ => rfl
                have HBw : Hid (Below w2.heap.size w2 (wc.drewN nq)) := belowDrewN HBn.out nq
                obtain ⟨we, hwe⟩ : ∃ we, we = wc.drewN nq := ⟨_, rfl⟩
                rw [← hwe] at hE HBw ⊢
                have e3' := (hE _).trans e3
                clear e2 e3 hwe hE
                go_wp2_with fail
                go_roundg (AN.length + 1 - (i + 1))
                case rel => exact ⟨i + 1, by rw [HSn.out], by simp, by omega, by omega, HBw⟩
                case measure => omega
              · rw [if_neg hf] at hsn
                have HSn : Hid (cntE (LH.take (i + 1)) = ct) := hsn
                clear hws hsn
                go_wp2
                go_quiet (fail)
                have hE : ∀ a, (wc.drewN nq).cell? a = wc.cell? a := fun _ => rfl
                have HBw : Hid (Below w2.heap.size w2 (wc.drewN nq)) := belowDrewN HBn.out nq
                obtain ⟨we, hwe⟩ : ∃ we, we = wc.drewN nq := ⟨_, rfl⟩
                rw [← hwe] at hE HBw ⊢
                have e3' := (hE _).trans e3
                clear e2 e3 hwe hE
                go_wp2_with fail
                go_roundg (AN.length + 1 - (i + 1))
                case rel => exact ⟨i + 1, by rw [HSn.out], by simp, by omega, by omega, HBw⟩
                case measure => omega
        · have hie : ¬ (i : Int) < (AN.length : Int) := by omega
          have htk : LH.take i = LH := List.take_of_length_le (by rw [HLH.out, List.length_map]; omega)
          rw [htk, ← show EN = cntE LH from HEN.out, Nat.sub_self]
          have HFn : Hid (Below w.heap.size w wr) := (HB0.out).trans ((HB0i.out).mono (HB0.out).size)
          clear htk HBi HB0i
          go_wp2_with fail
          go_ret
          exact ⟨by first | rfl | simp, HFn.out⟩

end Go.Proofs.YtejadojilncbjaaGreat
