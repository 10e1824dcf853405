import Derived.Test.YtejadojilncbjaaGreatG14
namespace Go.Proofs.YtejadojilncbjaaGreat
open Go.RowKit
set_option linter.unusedVariables false
attribute [local go_sem ↓] Go.wp_at_zero Go.wp_at_succ
structure AccD where
 kind : Int
 cell : Int
 seen : Int
 put : Int
def noAcc : AccD := ⟨0, 0, 0, 0⟩
def accAt (l : List AccD) (i : Nat) : AccD := l.getD i noAcc
def accCells (a : AccD) : List Value := [.int .i64 a.kind, .int .i64 a.cell, .int .i64 a.seen, .int .i64 a.put]
def LogIn (w : World) (B : Nat) (a : Option Addr) (l : List AccD) : Prop :=
 ∀ i, i < l.length → ∃ b off, a = some ⟨b, off, none⟩ ∧ b < B ∧ w.cell? ⟨b, off + i * 4, none⟩ = some (.int .i64 (accAt l i).kind) ∧ w.cell? ⟨b, off + i * 4 + 1, none⟩ = some (.int .i64 (accAt l i).cell) ∧
  w.cell? ⟨b, off + i * 4 + 2, none⟩ = some (.int .i64 (accAt l i).seen) ∧ w.cell? ⟨b, off + i * 4 + 3, none⟩ = some (.int .i64 (accAt l i).put)
def hits (cell : Int) (a : AccD) : Bool := a.kind != 0 && a.cell == cell
def lastStep (cell : Int) (o : Option Int) (a : AccD) : Option Int := if hits cell a then some a.put else o
def lastPut (cell : Int) (l : List AccD) : Option Int := l.foldl (lastStep cell) none
theorem lastPut_snoc (cell : Int) (l : List AccD) (a : AccD) : lastPut cell (l ++ [a]) = if hits cell a then some a.put else lastPut cell l := by
 unfold lastPut
 rw [List.foldl_append]
 rfl
theorem take_snoc (l : List AccD) (k : Nat) (h : k < l.length) : l.take (k + 1) = l.take k ++ [accAt l k] := by
 rw [List.take_add_one]
 simp [accAt, List.getD, List.getElem?_eq_getElem h]
def wordBase (c : Cfg) : Int := 3 + 2 * c.s + c.t
def startVal (c : Cfg) (mem : List Int) (cell : Int) : Int := if wordBase c ≤ cell then mem.getD (cell - wordBase c).toNat 0 else 0
def mValue (c : Cfg) (mem : List Int) (l : List AccD) (cell : Int) : Int := (lastPut cell l).getD (startVal c mem cell)
set_option maxRecDepth 100000 in
set_option maxHeartbeats 4000000 in
theorem value_any (c : Cfg) (hc : cfgB c = true) (ma ja la : Option Addr) (mc jl jc lc : Nat) (mem : List Int) (log : List AccD) (cell : Int) (w : World) (hm : Ints w w.heap.size ma mem) (hl : LogIn w w.heap.size la log) (hn : log.length ≤ 2 ^ 40)
  (hc0 : -1000 ≤ cell) (hc1 : cell ≤ 1125899906842624) (hcm : cell < wordBase c + mem.length) :
  Calls Tryz.prog 56 #[.agg #[.int .i64 c.t, .int .i64 c.wd, .int .i64 c.s, .int .i64 c.g, .int .i64 c.r, .int .i64 c.cp, .int .i64 c.f, .slice ma mem.length mc, .slice ja jl jc], .slice la log.length lc, .int .i64 cell] w fun e w' =>
   e = .returned (.int .i64 (mValue c mem log cell)) ∧ Below w.heap.size w w' := by
 have HM : Hid (Ints w w.heap.size ma mem) := hm
 have HL : Hid (LogIn w w.heap.size la log) := hl
 obtain ⟨⟨ht1, ht2⟩, _, ⟨hs1, hs2⟩, _⟩ := cfgB_true hc
 obtain ⟨V, HV⟩ : ∃ V, Hid (mValue c mem log cell = V) := ⟨_, rfl⟩
 rw [show mValue c mem log cell = V from HV.out]
 clear hm hl hc
 have hwl : IntKind.i64.wrap ((log.length : Int) - 1) = (log.length : Int) - 1 := wrapF _ (by omega) (by omega)
 go_enter Tryz.func56, Tryz.ntmps56
 go_wp2
 go_loop [7] (fun i => ∃ k : Nat, k ≤ log.length ∧ i = .int .i64 ((k : Int) - 1) ∧ Hid (lastPut cell log = lastPut cell (log.take k))) (fun i => (intOf i + 1).toNat)
 case atStart => exact ⟨log.length, Nat.le_refl _, rfl, by rw [List.take_length]; rfl⟩
 case round =>
  obtain ⟨k, hk, rfl, HA⟩ := hrel
  by_cases hk0 : k = 0
  ·subst hk0
   have HN : Hid (lastPut cell log = none) := by rw [show lastPut cell log = _ from HA.out]; rfl
   have HV2 : Hid (V = startVal c mem cell) := by show _ = _; rw [← HV.out]; unfold mValue; rw [HN.out]; rfl
   clear HA HN HV
   go_wp2_with fail
   refine (wordV _ _ _ _ _ _ _ _ _ _ _ _ _ _ _ hs1 hs2 ht1 ht2 (by omega) (by omega)).mono ?_
   rintro e w1 ⟨rfl, hb1⟩
   have HB1 : Hid (Below w.heap.size w w1) := ((Below.refl w.heap.size w).alloc (Nat.le_refl _) _).trans (hb1.mono (by simp))
   have hbx : ∀ i, w1.cell? ⟨w.heap.size, i, none⟩ = (w.alloc (.cells #[.int .i64 c.t, .int .i64 c.wd, .int .i64 c.s, .int .i64 c.g, .int .i64 c.r, .int .i64 c.cp, .int .i64 c.f, .slice ma mem.length mc, .slice ja jl jc] 27)).cell? ⟨w.heap.size, i, none⟩ := fun i => by
    exact World.cell?_of_block (hb1.block _ (by simp))
   have hb8 := hbx 7
   simp at hb8
   clear hb1 hbx
   have hwbase : wordBase c = 3 + 2 * c.s + c.t + 0 := by unfold wordBase; omega
   rw [hwbase] at hcm
   have HV3 : Hid (V = if 3 + 2 * c.s + c.t + 0 ≤ cell then mem.getD (cell - (3 + 2 * c.s + c.t + 0)).toNat 0 else 0) := by
    show _ = _
    rw [HV2.out]
    unfold startVal
    rw [hwbase]
   clear HV2 hwbase
   generalize hwb : 3 + 2 * c.s + c.t + 0 = wb at *
   have hwb1 : 0 ≤ wb ∧ wb ≤ 100 := by omega
   obtain ⟨hwb1, hwb2⟩ := hwb1
   clear hwb
   by_cases hcb : wb ≤ cell
   ·obtain ⟨m, hmm⟩ : ∃ m : Nat, (m : Int) = cell - wb := ⟨(cell - wb).toNat, by omega⟩
    obtain ⟨b, off, hma, hbl, hcl⟩ := HM.out m (by omega)
    have HF : Hid (V = mem.getD m 0) := by show _ = _; rw [HV3.out, if_pos hcb, ← hmm]; rfl
    generalize mem.getD m 0 = z at *
    rw [hma] at hb8
    have hm0 : (0 : Int) ≤ (m : Int) := by omega
    have hm1 : (m : Int) < (mem.length : Int) := by omega
    have hwm : IntKind.i64.wrap (cell - wb) = (m : Int) := by rw [← hmm]; exact wrapF _ (by omega) (by omega)
    have hcl1 : w1.cell? ⟨b, off + m, none⟩ = some (.int .i64 z) := by
     rw [World.cell?_of_block ((HB1.out).block b hbl)]
     exact hcl
    clear hcl hma HV3 hmm
    go_wp2
    go_ret
    exact ⟨by rw [HF.out]; rfl, HB1.out⟩
   ·have HF : Hid (V = 0) := by show _ = _; rw [HV3.out, if_neg hcb]
    clear HV3
    go_wp2
    go_ret
    exact ⟨by rw [HF.out]; rfl, HB1.out⟩
  ·obtain ⟨m, rfl⟩ : ∃ m, k = m + 1 := ⟨k - 1, by omega⟩
   obtain ⟨b, off, hla, hbl, hk0', hk1', hk2', hk3'⟩ := HL.out m (by omega)
   have HT : Hid (lastPut cell log = if hits cell (accAt log m) then some (accAt log m).put else lastPut cell (log.take m)) := by
    show _ = _
    rw [HA.out, take_snoc log m (by omega), lastPut_snoc]
   generalize accAt log m = ac at *
   subst hla
   have hcst : (((m + 1 : Nat) : Int) - 1) = (m : Int) := by omega
   rw [hcst]
   have hm0 : (0 : Int) ≤ (m : Int) := by omega
   have hm1 : (m : Int) < (log.length : Int) := by omega
   have hwm : IntKind.i64.wrap ((m : Int) - 1) = (m : Int) - 1 := wrapF _ (by omega) (by omega)
   clear HA hcst
   by_cases hkd : ac.kind = 0
   ·have hkb : (ac.kind != 0) = false := by simp [hkd]
    have H1 : Hid (lastPut cell log = lastPut cell (log.take m)) := (HT.out).trans (if_neg (by simp [hits, hkd]))
    clear HT hkd
    go_wp2
    go_round
    case rel => exact ⟨m, by omega, rfl, H1⟩
    case measure => simp [intOf]
   ·have hkb : (ac.kind != 0) = true := by simpa using hkd
    by_cases hce : ac.cell = cell
    ·have hcb : (ac.cell == cell) = true := by simp [hce]
     have HF : Hid (V = ac.put) := by
      show _ = _
      rw [← HV.out]
      unfold mValue
      rw [HT.out, if_pos (by simp [hits, hkd, hce])]
      rfl
     clear HT HV hkd hce
     go_wp2
     go_ret
     exact ⟨by rw [HF.out]; rfl, (Below.refl w.heap.size w).alloc (Nat.le_refl _) _⟩
    ·have hcb : (ac.cell == cell) = false := by simpa using hce
     have H1 : Hid (lastPut cell log = lastPut cell (log.take m)) := (HT.out).trans (if_neg (by simp [hits, hce]))
     clear HT hkd hce
     go_wp2
     go_round
     case rel => exact ⟨m, by omega, rfl, H1⟩
     case measure => simp [intOf]
def mMade (c : Cfg) (mem : List Int) (l : List AccD) (q : AskD) : AccD :=
 if q.kind = 0 then noAcc else
  let v := mValue c mem l q.cell
  ⟨q.kind, q.cell, v, if q.kind = 2 then q.to else if q.kind = 4 then v + 1 else if q.kind = 3 then (if v = q.frm then q.to else v) else v⟩
theorem Ints.up {w w' : World} {a : Option Addr} {zs : List Int} (h : Ints w w.heap.size a zs) (hb : Below w.heap.size w w') : Ints w' w'.heap.size a zs := by
 intro i hi
 obtain ⟨b, off, ha, hlt, hc⟩ := h i hi
 exact ⟨b, off, ha, Nat.lt_of_lt_of_le hlt hb.size, (World.cell?_of_block (hb.block b hlt)).trans hc⟩
theorem LogIn.up {w w' : World} {a : Option Addr} {l : List AccD} (h : LogIn w w.heap.size a l) (hb : Below w.heap.size w w') : LogIn w' w'.heap.size a l := by
 intro i hi
 obtain ⟨b, off, ha, hlt, h0, h1, h2, h3⟩ := h i hi
 have e : ∀ o, w'.cell? ⟨b, o, none⟩ = w.cell? ⟨b, o, none⟩ := fun o => World.cell?_of_block (hb.block b hlt)
 exact ⟨b, off, ha, Nat.lt_of_lt_of_le hlt hb.size, (e _).trans h0, (e _).trans h1, (e _).trans h2, (e _).trans h3⟩
theorem made_end {w w3 : World} {n rb : Nat} {x0 x1 x2 x3 : Value} (hr : Blk w3 rb 40 #[x0, x1, x2, x3]) (hB : Below n w w3) (hn : n ≤ rb) (hw : n ≤ w3.heap.size) (a b c d : Value) (o : Obj) :
  (((((w3.setCell ⟨rb, 0, none⟩ a).setCell ⟨rb, 1, none⟩ b).setCell ⟨rb, 2, none⟩ c).setCell ⟨rb, 3, none⟩ d).alloc o).cell? ⟨rb, 0, none⟩ = some a ∧
  (((((w3.setCell ⟨rb, 0, none⟩ a).setCell ⟨rb, 1, none⟩ b).setCell ⟨rb, 2, none⟩ c).setCell ⟨rb, 3, none⟩ d).alloc o).cell? ⟨rb, 1, none⟩ = some b ∧
  (((((w3.setCell ⟨rb, 0, none⟩ a).setCell ⟨rb, 1, none⟩ b).setCell ⟨rb, 2, none⟩ c).setCell ⟨rb, 3, none⟩ d).alloc o).cell? ⟨rb, 2, none⟩ = some c ∧
  (((((w3.setCell ⟨rb, 0, none⟩ a).setCell ⟨rb, 1, none⟩ b).setCell ⟨rb, 2, none⟩ c).setCell ⟨rb, 3, none⟩ d).alloc o).cell? ⟨rb, 3, none⟩ = some d ∧
  Below n w (((((w3.setCell ⟨rb, 0, none⟩ a).setCell ⟨rb, 1, none⟩ b).setCell ⟨rb, 2, none⟩ c).setCell ⟨rb, 3, none⟩ d).alloc o) := by
 have hs := hr.set (i := 0) (v := a) |>.set (i := 1) (v := b) |>.set (i := 2) (v := c) |>.set (i := 3) (v := d)
 have hs2 := hs.below ((Below.refl _ _).alloc (Nat.le_refl _) o) hs.lt
 have ho : Only rb w3 ((((w3.setCell ⟨rb, 0, none⟩ a).setCell ⟨rb, 1, none⟩ b).setCell ⟨rb, 2, none⟩ c).setCell ⟨rb, 3, none⟩ d) := (((((Only.refl _ _).set).set).set).set)
 refine ⟨by rw [hs2.cell]; simp, by rw [hs2.cell]; simp, by rw [hs2.cell]; simp, by rw [hs2.cell]; simp, ?_⟩
 refine hB.trans (Below.trans ⟨ho.os, ho.tape, ho.output, ho.size, fun k hk => ho.block k (by omega) (by omega)⟩ ((Below.refl _ _).alloc (by have := ho.size; omega) o))
set_option maxRecDepth 100000 in
set_option maxHeartbeats 4000000 in
theorem made_any (c : Cfg) (hc : cfgB c = true) (ma ja la : Option Addr) (mc jl jc lc : Nat) (mem : List Int) (log : List AccD) (q : AskD) (w : World) (hm : Ints w w.heap.size ma mem) (hl : LogIn w w.heap.size la log) (hn : log.length ≤ 2 ^ 40)
  (hq : q.kind ≠ 0 → -1000 ≤ q.cell ∧ q.cell ≤ 1125899906842624 ∧ q.cell < wordBase c + mem.length ∧ -1 ≤ mValue c mem log q.cell ∧ mValue c mem log q.cell ≤ 1125899906842624) :
  Calls Tryz.prog 64 #[.agg #[.int .i64 c.t, .int .i64 c.wd, .int .i64 c.s, .int .i64 c.g, .int .i64 c.r, .int .i64 c.cp, .int .i64 c.f, .slice ma mem.length mc, .slice ja jl jc], .slice la log.length lc, .agg #[.int .i64 q.kind, .int .i64 q.cell, .int .i64 q.frm, .int .i64 q.to]] w fun e w' =>
   e = .returned (.agg #[.int .i64 (mMade c mem log q).kind, .int .i64 (mMade c mem log q).cell, .int .i64 (mMade c mem log q).seen, .int .i64 (mMade c mem log q).put]) ∧ Below w.heap.size w w' := by
 have HM : Hid (Ints w w.heap.size ma mem) := hm
 have HL : Hid (LogIn w w.heap.size la log) := hl
 have HC : Hid (cfgB c = true) := hc
 obtain ⟨R, HR⟩ : ∃ R, Hid (mMade c mem log q = R) := ⟨_, rfl⟩
 rw [show mMade c mem log q = R from HR.out]
 obtain ⟨kind, cell, frm, to⟩ := q
 simp only at hq
 clear hm hl hc
 by_cases hk : kind = 0
 ·subst hk
  have HF : Hid (R = noAcc) := by rw [← show mMade c mem log _ = R from HR.out]; rfl
  clear HR hq
  go_enter Tryz.func64, Tryz.ntmps64
  go_wp2
  refine bodyPost_ret (v := .agg #[.int .i64 0, .int .i64 0, .int .i64 0, .int .i64 0]) (by simp [results, Tryz.results64, go_sem]) rfl ⟨by rw [HF.out]; rfl, ?_⟩
  exact (((Below.refl w.heap.size w).alloc (Nat.le_refl _) _).alloc (by simp) _).alloc (by simp; omega) _
 ·obtain ⟨hq1, hq2, hq3, hq4, hq5⟩ := hq hk
  have HF : Hid (R = ⟨kind, cell, mValue c mem log cell, if kind = 2 then to else if kind = 4 then mValue c mem log cell + 1 else if kind = 3 then (if mValue c mem log cell = frm then to else mValue c mem log cell) else mValue c mem log cell⟩) := by
   rw [← show mMade c mem log _ = R from HR.out]
   exact if_neg hk
  have hkb : (kind == 0) = false := by simpa using hk
  clear HR hk hq
  go_enter Tryz.func64, Tryz.ntmps64
  go_wp2_with fail
  have hbl : Below w.heap.size w (((w.alloc (.cells #[.int .i64 c.t, .int .i64 c.wd, .int .i64 c.s, .int .i64 c.g, .int .i64 c.r, .int .i64 c.cp, .int .i64 c.f, .slice ma mem.length mc, .slice ja jl jc] 27)).alloc (.cells #[.int .i64 kind, .int .i64 cell, .int .i64 frm, .int .i64 to] 86)).alloc (.cells #[.int .i64 0, .int .i64 0, .int .i64 0, .int .i64 0] 40)) :=
   (((Below.refl w.heap.size w).alloc (Nat.le_refl _) _).alloc (by simp) _).alloc (by simp; omega) _
  have hq2b : Blk (((w.alloc (.cells #[.int .i64 c.t, .int .i64 c.wd, .int .i64 c.s, .int .i64 c.g, .int .i64 c.r, .int .i64 c.cp, .int .i64 c.f, .slice ma mem.length mc, .slice ja jl jc] 27)).alloc (.cells #[.int .i64 kind, .int .i64 cell, .int .i64 frm, .int .i64 to] 86)).alloc (.cells #[.int .i64 0, .int .i64 0, .int .i64 0, .int .i64 0] 40)) (w.heap.size + 1) 86 #[.int .i64 kind, .int .i64 cell, .int .i64 frm, .int .i64 to] := by
   refine Blk.below (B := w.heap.size + 2) (w := (w.alloc (.cells #[.int .i64 c.t, .int .i64 c.wd, .int .i64 c.s, .int .i64 c.g, .int .i64 c.r, .int .i64 c.cp, .int .i64 c.f, .slice ma mem.length mc, .slice ja jl jc] 27)).alloc (.cells #[.int .i64 kind, .int .i64 cell, .int .i64 frm, .int .i64 to] 86)) ?_ ((Below.refl _ _).alloc (by simp) _) (by omega)
   have := Blk.new (w.alloc (.cells #[.int .i64 c.t, .int .i64 c.wd, .int .i64 c.s, .int .i64 c.g, .int .i64 c.r, .int .i64 c.cp, .int .i64 c.f, .slice ma mem.length mc, .slice ja jl jc] 27)) 86 #[.int .i64 kind, .int .i64 cell, .int .i64 frm, .int .i64 to]
   simpa using this
  have hq3b : Blk (((w.alloc (.cells #[.int .i64 c.t, .int .i64 c.wd, .int .i64 c.s, .int .i64 c.g, .int .i64 c.r, .int .i64 c.cp, .int .i64 c.f, .slice ma mem.length mc, .slice ja jl jc] 27)).alloc (.cells #[.int .i64 kind, .int .i64 cell, .int .i64 frm, .int .i64 to] 86)).alloc (.cells #[.int .i64 0, .int .i64 0, .int .i64 0, .int .i64 0] 40)) (w.heap.size + 1 + 1) 40 #[.int .i64 0, .int .i64 0, .int .i64 0, .int .i64 0] := by
   have := Blk.new ((w.alloc (.cells #[.int .i64 c.t, .int .i64 c.wd, .int .i64 c.s, .int .i64 c.g, .int .i64 c.r, .int .i64 c.cp, .int .i64 c.f, .slice ma mem.length mc, .slice ja jl jc] 27)).alloc (.cells #[.int .i64 kind, .int .i64 cell, .int .i64 frm, .int .i64 to] 86)) 40 #[.int .i64 0, .int .i64 0, .int .i64 0, .int .i64 0]
   simpa using this
  generalize (((w.alloc (.cells #[.int .i64 c.t, .int .i64 c.wd, .int .i64 c.s, .int .i64 c.g, .int .i64 c.r, .int .i64 c.cp, .int .i64 c.f, .slice ma mem.length mc, .slice ja jl jc] 27)).alloc (.cells #[.int .i64 kind, .int .i64 cell, .int .i64 frm, .int .i64 to] 86)).alloc (.cells #[.int .i64 0, .int .i64 0, .int .i64 0, .int .i64 0] 40)) = w2 at *
  refine (value_any c HC.out ma ja la mc jl jc lc mem log cell w2 ((HM.out).up hbl) ((HL.out).up hbl) hn hq1 hq2 hq3).mono ?_
  rintro e w3 ⟨rfl, hb3⟩
  have HB3 : Hid (Below w.heap.size w w3) := hbl.trans (hb3.mono hbl.size)
  have hqb := hq2b.below hb3 hq2b.lt
  have hrb := hq3b.below hb3 hq3b.lt
  have HQB : Hid (Blk w3 (w.heap.size + 1) 86 #[.int .i64 kind, .int .i64 cell, .int .i64 frm, .int .i64 to]) := hqb
  have HRB : Hid (Blk w3 (w.heap.size + 1 + 1) 40 #[.int .i64 0, .int .i64 0, .int .i64 0, .int .i64 0]) := hrb
  have hqc := hqb.cell
  have hrc := hrb.cell
  have hrf := hrb.frozen
  have hql := hqb.lt
  have hrl := hrb.lt
  have hwsz : w.heap.size ≤ w3.heap.size := (HB3.out).size
  clear hq2b hq3b hbl hb3 hqb hrb
  generalize hrr : w.heap.size + 1 + 1 = rb at *
  generalize hqq : w.heap.size + 1 = qb at *
  have hne : qb ≠ rb := by omega
  have hwr : w.heap.size ≤ rb := by omega
  generalize mValue c mem log cell = v at *
  have hwv : IntKind.i64.wrap (v + 1) = v + 1 := wrapF _ (by omega) (by omega)
  have fin : ∀ o1 o2 o3 o4 : Obj, True := fun _ _ _ _ => trivial
  clear fin hqq hrr
  have hcs : kind = 2 ∨ kind = 4 ∨ (kind = 3 ∧ v = frm) ∨ (kind = 3 ∧ v ≠ frm) ∨ (kind ≠ 2 ∧ kind ≠ 4 ∧ kind ≠ 3) := by omega
  rcases hcs with rfl | rfl | ⟨rfl, rfl⟩ | ⟨rfl, hvf⟩ | ⟨h2, h4, h3⟩
  ·have HF2 : Hid (R = ⟨2, cell, v, to⟩) := HF.out
   clear HF
   go_wp2
   obtain ⟨e0, e1, e2, e3, hfin⟩ := made_end HRB.out HB3.out hwr hwsz (.int .i64 2) (.int .i64 cell) (.int .i64 v) (.int .i64 (to)) (.cells #[.int .i64 2, .int .i64 cell, .int .i64 v, .int .i64 (to)] 40)
   exact bodyPost_ret (v := .agg #[.int .i64 2, .int .i64 cell, .int .i64 v, .int .i64 (to)]) (by simp [results, Tryz.results64, go_sem, e0, e1, e2, e3]) rfl ⟨by rw [HF2.out], hfin⟩
  ·have HF2 : Hid (R = ⟨4, cell, v, v + 1⟩) := HF.out
   clear HF
   go_wp2
   obtain ⟨e0, e1, e2, e3, hfin⟩ := made_end HRB.out HB3.out hwr hwsz (.int .i64 4) (.int .i64 cell) (.int .i64 v) (.int .i64 (v + 1)) (.cells #[.int .i64 4, .int .i64 cell, .int .i64 v, .int .i64 (v + 1)] 40)
   exact bodyPost_ret (v := .agg #[.int .i64 4, .int .i64 cell, .int .i64 v, .int .i64 (v + 1)]) (by simp [results, Tryz.results64, go_sem, e0, e1, e2, e3]) rfl ⟨by rw [HF2.out], hfin⟩
  ·have HF2 : Hid (R = ⟨3, cell, v, to⟩) := by show R = _; have h := HF.out; simpa using h
   clear HF
   go_wp2
   obtain ⟨e0, e1, e2, e3, hfin⟩ := made_end HRB.out HB3.out hwr hwsz (.int .i64 3) (.int .i64 cell) (.int .i64 v) (.int .i64 (to)) (.cells #[.int .i64 3, .int .i64 cell, .int .i64 v, .int .i64 (to)] 40)
   exact bodyPost_ret (v := .agg #[.int .i64 3, .int .i64 cell, .int .i64 v, .int .i64 (to)]) (by simp [results, Tryz.results64, go_sem, e0, e1, e2, e3]) rfl ⟨by rw [HF2.out], hfin⟩
  ·have HF2 : Hid (R = ⟨3, cell, v, v⟩) := by show R = _; have h := HF.out; simpa [hvf] using h
   clear HF
   have hvb : (v == frm) = false := by simpa using hvf
   clear hvf
   go_wp2
   obtain ⟨e0, e1, e2, e3, hfin⟩ := made_end HRB.out HB3.out hwr hwsz (.int .i64 3) (.int .i64 cell) (.int .i64 v) (.int .i64 (v)) (.cells #[.int .i64 3, .int .i64 cell, .int .i64 v, .int .i64 (v)] 40)
   exact bodyPost_ret (v := .agg #[.int .i64 3, .int .i64 cell, .int .i64 v, .int .i64 (v)]) (by simp [results, Tryz.results64, go_sem, e0, e1, e2, e3]) rfl ⟨by rw [HF2.out], hfin⟩
  ·have HF2 : Hid (R = ⟨kind, cell, v, v⟩) := by show R = _; have h := HF.out; simpa [h2, h4, h3] using h
   clear HF
   have hk2 : (kind == 2) = false := by simpa using h2
   have hk4 : (kind == 4) = false := by simpa using h4
   have hk3 : (kind == 3) = false := by simpa using h3
   clear h2 h4 h3
   go_wp2
   obtain ⟨e0, e1, e2, e3, hfin⟩ := made_end HRB.out HB3.out hwr hwsz (.int .i64 kind) (.int .i64 cell) (.int .i64 v) (.int .i64 (v)) (.cells #[.int .i64 kind, .int .i64 cell, .int .i64 v, .int .i64 (v)] 40)
   exact bodyPost_ret (v := .agg #[.int .i64 kind, .int .i64 cell, .int .i64 v, .int .i64 (v)]) (by simp [results, Tryz.results64, go_sem, e0, e1, e2, e3]) rfl ⟨by rw [HF2.out], hfin⟩
end Go.Proofs.YtejadojilncbjaaGreat
