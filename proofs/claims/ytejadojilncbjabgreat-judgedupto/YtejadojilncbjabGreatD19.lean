import Derived.Test.YtejadojilncbjabGreatD18
import Derived.Test.YtejadojilncbjabGreatD02
import Derived.Laws.OwnMore
namespace Go.Proofs.YtejadojilncbjabGreat
open Go.RowKit
set_option linter.unusedVariables false
attribute [local go_sem ↓] Go.wp_at_zero Go.wp_at_succ
structure TOkF (c : Cfg) (num : Int) (mine : List Int) (cur : Nat) (rank fails : Int) (reads writes : List EntD) (held : List Int) (notes : List NoteD) (res : List ResD) : Prop where
 cfg : cfgB c = true
 num : 0 ≤ num ∧ num < c.t
 rank : 0 ≤ rank ∧ rank ≤ 2 ^ 40
 fails : 0 ≤ fails ∧ fails ≤ 2 ^ 40
 rd : ∀ e ∈ reads, 0 ≤ e.what ∧ e.what < c.s
 wr : ∀ e ∈ writes, 0 ≤ e.what ∧ e.what < c.wd
 hd : ∀ s ∈ held, 0 ≤ s ∧ s < c.s
 rl : reads.length ≤ 100
 wl : writes.length ≤ 100
 hl : held.length ≤ 100
 ml : mine.length ≤ 100
 cur : cur ≤ 200
 nl : notes.length ≤ 2 ^ 37
 sl : res.length ≤ 200
def TOk (t : PT) : Prop := TOkF t.c t.num t.mine t.cur t.rank t.fails t.reads t.writes t.held t.notes t.res
theorem TOkF.cb {c : Cfg} {num : Int} {mine : List Int} {cur : Nat} {rank fails : Int} {reads writes : List EntD} {held : List Int} {notes : List NoteD} {res : List ResD} (h : TOkF c num mine cur rank fails reads writes held notes res) : (1 ≤ c.t ∧ c.t ≤ 4) ∧ (1 ≤ c.wd ∧ c.wd ≤ 8) ∧ (1 ≤ c.s ∧ c.s ≤ 8) ∧ (0 ≤ c.g ∧ c.g ≤ 8) ∧ (0 ≤ c.r ∧ c.r ≤ 4) ∧ (0 ≤ c.cp ∧ c.cp ≤ 8) ∧ (1 ≤ c.f ∧ c.f ≤ 40) := cfgB_true h.cfg
def intCells (l : List Int) : List Value := l.map (.int .i64 ·)
structure TR (base p z : Nat) (A B : List Value) (w : World) (t : PT) (L : Ls) : Prop where
 tt : TAt w p z A B t L
 rd : w.ownsRow base 222 2 (.slice L.ra t.reads.length L.rc) t.reads.length (t.reads.flatMap entCells)
 wr : w.ownsRow base 230 2 (.slice L.wa t.writes.length L.wc) t.writes.length (t.writes.flatMap entCells)
 hd : w.ownsRow base 3 1 (.slice L.ha t.held.length L.hc) t.held.length (intCells t.held)
 mi : w.ownsRow base 3 1 (.slice L.ma t.mine.length L.mc) t.mine.length (intCells t.mine)
 ne : ∀ k, (Value.slice L.ha t.held.length L.hc).ownBlock = some k → (Value.slice L.ma t.mine.length L.mc).ownBlock ≠ some k
 nt : w.ownsRow base 93 3 (.slice L.na t.notes.length L.nc) t.notes.length (t.notes.flatMap noteCells)
 sr : w.ownsRow base 47 5 (.slice L.sa t.res.length L.sc) t.res.length (t.res.flatMap resCells)
theorem ownsRow_only {w w' : World} {p base : Nat} {e : TypeId} {size n : Nat} {v : Value} {xs : List Value} (h : w.ownsRow base e size v n xs) (ho : Only p w w') (hne : ∀ k, v.ownBlock = some k → k ≠ p) : w'.ownsRow base e size v n xs := by
 refine ⟨h.1, ?_⟩
 rcases h.2 with hn | ⟨g, cap, cur, rfl, hb, hg, rest⟩
 ·exact .inl hn
 ·exact .inr ⟨g, cap, cur, rfl, hb, (ho.block g (lt_of_heap hg) (hne g (by simp [Value.ownBlock]))).trans hg, rest⟩
theorem own_tag {w : World} {p base : Nat} {e T : TypeId} {size n : Nat} {v : Value} {xs : List Value} {cs : Array Value} (h : w.ownsRow base e size v n xs) (hp : Blk w p T cs) (ht : e ≠ T) : ∀ k, v.ownBlock = some k → k ≠ p := by
 intro k hk
 rcases h.2 with ⟨rfl, _⟩ | ⟨g, cap, cur, rfl, hb, hg, rest⟩
 ·simp [Value.ownBlock] at hk
 ·simp [Value.ownBlock] at hk
  subst hk
  exact Blk.ne hg hp ht
theorem TR.next {base p z : Nat} {A B : List Value} {w w' : World} {t t' : PT} {L : Ls} (R : TR base p z A B w t L) (h : TAt w' p z A B t' L) (ho : Only p w w') (h1 : t'.reads = t.reads) (h2 : t'.writes = t.writes) (h3 : t'.held = t.held) (h4 : t'.mine = t.mine) (h5 : t'.notes = t.notes) (h6 : t'.res = t.res) : TR base p z A B w' t' L := by
 have hp := R.tt.2
 refine ⟨h, ?_, ?_, ?_, ?_, ?_, ?_, ?_⟩
 ·rw [h1]; exact ownsRow_only R.rd ho (own_tag R.rd hp (by decide))
 ·rw [h2]; exact ownsRow_only R.wr ho (own_tag R.wr hp (by decide))
 ·rw [h3]; exact ownsRow_only R.hd ho (own_tag R.hd hp (by decide))
 ·rw [h4]; exact ownsRow_only R.mi ho (own_tag R.mi hp (by decide))
 ·rw [h3, h4]; exact R.ne
 ·rw [h5]; exact ownsRow_only R.nt ho (own_tag R.nt hp (by decide))
 ·rw [h6]; exact ownsRow_only R.sr ho (own_tag R.sr hp (by decide))
theorem TR.below {base p z : Nat} {A B : List Value} {w w' : World} {t : PT} {L : Ls} (R : TR base p z A B w t L) (hb : Below w.heap.size w w') : TR base p z A B w' t L := R.next (R.tt.below hb) (Only.below hb) rfl rfl rfl rfl rfl rfl
theorem TR.drewN {base p z : Nat} {A B : List Value} {w : World} {t : PT} {L : Ls} (R : TR base p z A B w t L) (n : Nat) : TR base p z A B (w.drewN n) t L := ⟨R.tt.drewN n, R.rd, R.wr, R.hd, R.mi, R.ne, R.nt, R.sr⟩
theorem ents_at {w : World} {base : Nat} {e : TypeId} {a : Option Addr} {c : Nat} {es : List EntD} (h : w.ownsRow base e 2 (.slice a es.length c) es.length (es.flatMap entCells)) : EntsIn w a es := by
 intro i hi
 obtain ⟨g, cap, cur, hv, hb, hg, h1, h2, h3, h4⟩ := own_block h (by omega)
 simp at hv
 obtain ⟨rfl, rfl⟩ := hv
 have hat : ∀ j, j < 2 → w.cell? ⟨g, i * 2 + j, none⟩ = (entCells (es.getD i ⟨0, 0⟩))[j]? := by
  intro j hj
  rw [hg.cell]
  have e1 : (es.flatMap entCells)[i * 2 + j]? = (entCells (es.getD i ⟨0, 0⟩))[j]? := by
   rw [flat_at (n := 2) (fun _ => rfl) es i j hj]
   simp [List.getElem?_eq_getElem hi]
  rw [← e1, ← h4, List.getElem?_take, if_pos (by omega), Array.getElem?_toList]
 refine ⟨g, rfl, ?_, ?_, hg.frozen _⟩
 ·have := hat 0 (by omega); simpa [entCells] using this
 ·have := hat 1 (by omega); simpa [entCells] using this
theorem nums_at {w : World} {base : Nat} {e : TypeId} {a : Option Addr} {c : Nat} {zs : List Int} (h : w.ownsRow base e 1 (.slice a zs.length c) zs.length (intCells zs)) : NumsIn w a zs := by
 intro i hi
 obtain ⟨g, cap, cur, hv, hb, hg, h1, h2, h3, h4⟩ := own_block h (by omega)
 simp at hv
 obtain ⟨rfl, rfl⟩ := hv
 refine ⟨g, rfl, ?_⟩
 rw [hg.cell]
 have e1 : (intCells zs)[i]? = some (.int .i64 (zs.getD i 0)) := by simp [intCells, List.getElem?_eq_getElem hi]
 rw [← e1, ← h4, List.getElem?_take, if_pos (by omega), Array.getElem?_toList]
theorem below_drewX (w : World) (n : Nat) : Below w.heap.size w (w.drewN n) := ⟨rfl, rfl, rfl, Nat.le_refl _, fun _ _ => rfl⟩
theorem of_drew {w w' : World} (h : Below w.drew.heap.size w.drew w') : Below w.heap.size w w' := ⟨h.os, h.tape, h.output, h.size, h.block⟩
theorem tdiv8w (v : Int) (h1 : -1 ≤ v) (h2 : v ≤ 1125899906842624) : wrap64 (v.tdiv 8) = v.tdiv 8 := by
 have : v.tdiv 8 ≤ 1125899906842624 ∧ -1 ≤ v.tdiv 8 := by
  rcases Int.lt_or_le v 0 with h | h
  ·have : v = -1 := by omega
   subst this; decide
  ·rw [Int.tdiv_eq_ediv_of_nonneg h]; omega
 unfold wrap64
 omega
theorem t_rankIn (v : Int) (w : World) (h1 : -1 ≤ v) (h2 : v ≤ 1125899906842624) : Calls Tryz.prog 207 #[.int .i64 v] w fun e w' => e = .returned (.int .i64 (v.tdiv 8)) ∧ w' = w := by
 have e1 := tdiv8w v h1 h2
 go_enter Tryz.func207, Tryz.ntmps207
 go_wp2
 go_ret
 exact ⟨rfl, rfl⟩
theorem t_markIn (v : Int) (w : World) : Calls Tryz.prog 204 #[.int .i64 v] w fun e w' => e = .returned (.int .i64 (v.tmod 8)) ∧ w' = w := by
 go_enter Tryz.func204, Tryz.ntmps204
 go_wp2
 go_ret
 exact ⟨rfl, rfl⟩
theorem t_marked (v : Int) (w : World) : Calls Tryz.prog 181 #[.int .i64 v] w fun e w' => e = .returned (.bool (v.tmod 8 != 0)) ∧ w' = w := by
 go_enter Tryz.func181, Tryz.ntmps181
 go_wp2_with (go_at_call 204; refine (t_markIn _ _).mono ?_; rintro e w' ⟨rfl, rfl⟩)
 go_ret
 exact ⟨rfl, rfl⟩
section
variable (p z : Nat) (A B : List Value) (t : PT) (L : Ls) (w : World)
theorem t_name (hb : TAt w p z A B t L) (ok : TOk t) : Calls Tryz.prog 185 #[.pointer (some ⟨p, z, none⟩)] w fun e w' => e = .returned (.int .i64 (t.num + 1)) ∧ w' = w := by
 have h7 := hb.cNum
 have := ok.num
 have := ok.cb.1
 have e1 : IntKind.i64.wrap (t.num + 1) = t.num + 1 := wrapP _ (by omega) (by omega)
 clear hb
 go_enter Tryz.func185, Tryz.ntmps185
 go_wp2
 go_ret
 exact ⟨rfl, rfl⟩
theorem t_stamp (hb : TAt w p z A B t L) (h1 : -1 ≤ t.clock) (h2 : t.clock ≤ 2 ^ 50) : Calls Tryz.prog 196 #[.pointer (some ⟨p, z + 19, none⟩)] w fun e w' => e = .returned (.int .i64 (t.clock + 1)) ∧ w' = w := by
 have h7 := hb.cClock
 have e1 : IntKind.i64.wrap (t.clock + 1) = t.clock + 1 := wrapP _ (by omega) (by omega)
 clear hb
 go_enter Tryz.func196, Tryz.ntmps196
 go_wp2
 go_ret
 exact ⟨rfl, rfl⟩
set_option maxHeartbeats 1000000 in
theorem t_stripe (hb : TAt w p z A B t L) (ok : TOk t) : Calls Tryz.prog 179 #[.pointer (some ⟨p, z, none⟩)] w fun e w' => e = .returned (.int .i64 t.stripe) ∧ ∃ n, w' = w.drewN n := by
 have h27 := hb.cAddr
 have h2 := hb.cS
 have hs := ok.cb.2.2.1
 have hs0 : t.c.s ≠ 0 := by omega
 have hs1 : (t.c.s == 0) = false := by simp; omega
 unfold PT.stripe
 clear hb hs
 go_enter Tryz.func179, Tryz.ntmps179
 go_wp2
 go_quiet (fail)
 go_wp2
 go_ret
 exact ⟨rfl, _, rfl⟩
set_option maxHeartbeats 1000000 in
theorem t_ownStatus (hb : TAt w p z A B t L) (ok : TOk t) : Calls Tryz.prog 192 #[.pointer (some ⟨p, z, none⟩)] w fun e w' => e = .returned (.int .i64 t.sta) ∧ Below w.heap.size w w' := by
 have h0 := hb.cT
 have h1 := hb.cWd
 have h2 := hb.cS
 have h3 := hb.cG
 have h4 := hb.cR
 have h5 := hb.cCp
 have h6 := hb.cF
 have h7 := hb.cNum
 have hn := ok.num
 obtain ⟨ht, _, hs, _⟩ := ok.cb
 have HS : Hid (∀ w1, Calls Tryz.prog 220 #[.agg #[.int .i64 t.c.t, .int .i64 t.c.wd, .int .i64 t.c.s, .int .i64 t.c.g, .int .i64 t.c.r, .int .i64 t.c.cp, .int .i64 t.c.f], .int .i64 t.num] w1 fun e w' => e = .returned (.int .i64 t.sta) ∧ Below w1.heap.size w1 w') :=
  fun w1 => status_any t.c ⟨t.c, 0, []⟩ rfl t.num w1 (by omega) (by omega) (by omega) (by omega)
 clear hb ok hn ht hs
 go_enter Tryz.func192, Tryz.ntmps192
 go_wp2_with fail
 go_region_with (go_at_call 220; refine (HS.out _).mono ?_; rintro e w1 ⟨rfl, hB⟩)
 all_goals
  go_wp2
  go_ret
  exact ⟨rfl, by first | assumption | exact of_drew (by assumption)⟩
set_option maxHeartbeats 1000000 in
theorem t_statusOf (hb : TAt w p z A B t L) (ok : TOk t) (u : Int) (h1 : 0 ≤ u) (h2 : u ≤ 100) : Calls Tryz.prog 205 #[.pointer (some ⟨p, z, none⟩), .int .i64 u] w fun e w' => e = .returned (.int .i64 (t.staOf u)) ∧ Below w.heap.size w w' := by
 have h0 := hb.cT
 have h1' := hb.cWd
 have h2' := hb.cS
 have h3 := hb.cG
 have h4 := hb.cR
 have h5 := hb.cCp
 have h6 := hb.cF
 obtain ⟨ht, _, hs, _⟩ := ok.cb
 have HS : Hid (∀ w1, Calls Tryz.prog 220 #[.agg #[.int .i64 t.c.t, .int .i64 t.c.wd, .int .i64 t.c.s, .int .i64 t.c.g, .int .i64 t.c.r, .int .i64 t.c.cp, .int .i64 t.c.f], .int .i64 (u - 1)] w1 fun e w' => e = .returned (.int .i64 (t.staOf u)) ∧ Below w1.heap.size w1 w') :=
  fun w1 => status_any t.c ⟨t.c, 0, []⟩ rfl (u - 1) w1 (by omega) (by omega) (by omega) (by omega)
 have e1 : IntKind.i64.wrap (u - 1) = u - 1 := wrapP _ (by omega) (by omega)
 clear hb ok ht hs h1 h2
 go_enter Tryz.func205, Tryz.ntmps205
 go_wp2_with (go_at_call 220; refine (HS.out _).mono ?_; rintro e w1 ⟨rfl, hB⟩)
 go_ret
 exact ⟨rfl, by assumption⟩
set_option maxHeartbeats 1000000 in
theorem t_holds (hb : TAt w p z A B t L) (hl : t.held.length ≤ 100) (h : NumsIn w L.ha t.held) (s : Int) : Calls Tryz.prog 221 #[.pointer (some ⟨p, z + 19, none⟩), .int .i64 s] w fun e w' => e = .returned (.bool (t.holds s)) ∧ w' = w := by
 have hc := hb.cHeld
 have HI : Hid (NumsIn w L.ha t.held) := h
 unfold PT.holds
 generalize L.ha = ha at *
 generalize L.hc = cap at *
 generalize t.held = held at *
 clear hb h
 go_enter Tryz.func221, Tryz.ntmps221
 go_wp2
 go_loop [12] (fun i => ∃ k : Nat, k ≤ held.length ∧ i = .int .i64 k ∧ Hid (∀ j, j < k → (held.getD j 0 == s) = false)) (fun i => held.length - (intOf i).toNat)
 case atStart => exact ⟨0, Nat.zero_le _, rfl, fun j hj => absurd hj (by omega)⟩
 case round =>
  obtain ⟨k, hk, rfl, HA⟩ := hrel
  by_cases hlt : k < held.length
  ·obtain ⟨b, rfl, hc1⟩ := HI.out k hlt
   obtain ⟨v, hv⟩ : ∃ v, v = held.getD k 0 := ⟨_, rfl⟩
   rw [← hv] at hc1
   have HZ : Hid (v = held.getD k 0) := hv
   clear hv
   cases hin : (v == s) with
   | false =>
    have H1 : Hid (∀ j, j < k + 1 → (held.getD j 0 == s) = false) := fun j hj => by
     rcases Nat.lt_succ_iff_lt_or_eq.1 hj with h | rfl
     ·exact HA.out j h
     ·rw [← HZ.out]; exact hin
    clear HA
    go_wp2
    go_round
    case rel => exact ⟨k + 1, by omega, by go_num, H1⟩
    case measure => simp [intOf]; omega
   | true =>
    have HF : Hid ((held.any fun h => h == s) = true) := by
     show (held.any fun h => h == s) = true
     rw [List.any_eq_true]
     refine ⟨held.getD k 0, ?_, by rw [← HZ.out]; exact hin⟩
     rw [show held.getD k 0 = held[k] from by simp [List.getD, List.getElem?_eq_getElem hlt]]
     exact List.getElem_mem hlt
    go_wp2
    go_ret
    exact ⟨by rw [HF.out]; rfl, rfl⟩
  ·have HF : Hid ((held.any fun h => h == s) = false) := by
    show (held.any fun h => h == s) = false
    rw [List.any_eq_false]
    intro x hx
    obtain ⟨j, hj, rfl⟩ := List.mem_iff_getElem.1 hx
    have := HA.out j (by omega)
    rw [show held.getD j 0 = held[j] from by simp [List.getD, List.getElem?_eq_getElem hj]] at this
    simpa using this
   go_wp2
   go_ret
   exact ⟨by rw [HF.out]; rfl, rfl⟩
end
def findN (es : List EntD) (a : Int) : Nat := (entIdx es a).getD es.length
set_option maxRecDepth 100000 in
set_option maxHeartbeats 2000000 in
theorem t_find (p z : Nat) (A B : List Value) (t : PT) (L : Ls) (w : World) (hb : TAt w p z A B t L) (hl : t.writes.length ≤ 100) (h : EntsIn w L.wa t.writes) (what : Int) :
  Calls Tryz.prog 223 #[.pointer (some ⟨p, z + 19, none⟩), .int .i64 what] w fun e w' => e = .returned (.int .i64 (findN t.writes what)) ∧ Below w.heap.size w w' := by
 have HI : Hid (EntsIn w L.wa t.writes) := h
 have HC : Hid (w.cell? ⟨p, z + 19 + 20, none⟩ = some (.slice L.wa t.writes.length L.wc)) := hb.cWrites
 have HP : Hid (p < w.heap.size) := hb.lt
 generalize L.wa = wa at *
 generalize L.wc = cap at *
 generalize t.writes = es at *
 clear hb h
 have hc := HC.out
 go_enter Tryz.func223, Tryz.ntmps223
 go_wp2
 go_loopg [12] (es.length + 1) (fun m t12 wr => ∃ k : Nat, t12 = .int .i64 (k : Int) ∧ k ≤ es.length ∧ m = es.length + 1 - k ∧ Hid (Below w.heap.size w wr) ∧ Hid (∀ i, i < k → ((es.getD i ⟨0, 0⟩).what == what) = false))
 case atStart => exact ⟨0, rfl, by omega, by omega, Below.refl _ _, fun i hi => absurd hi (Nat.not_lt_zero _)⟩
 case round =>
  obtain ⟨k, rfl, hk, hgk, HB, HN⟩ := hrel
  have hcr : wr.cell? ⟨p, z + 19 + 20, none⟩ = some (.slice wa es.length cap) := (World.cell?_of_block ((HB.out).block p HP.out)).trans HC.out
  by_cases hlt : k < es.length
  ·obtain ⟨b, rfl, hc1, hc2, _⟩ := HI.out k hlt
   have hr1 : wr.cell? ⟨b, k * 2, none⟩ = some (.int .i64 (es.getD k ⟨0, 0⟩).what) := (World.cell?_of_block ((HB.out).block b (block_lt hc1))).trans hc1
   have hr2 : wr.cell? ⟨b, k * 2 + 1, none⟩ = some (.int .i64 (es.getD k ⟨0, 0⟩).val) := (World.cell?_of_block ((HB.out).block b (block_lt hc1))).trans hc2
   have hk0 : (0 : Int) ≤ (k : Int) := by omega
   have hk1 : (k : Int) < (es.length : Int) := by omega
   have hwk : IntKind.i64.wrap ((k : Int) + 1) = (k : Int) + 1 := wrapP _ (by omega) (by omega)
   obtain ⟨v, hv⟩ : ∃ v, v = (es.getD k ⟨0, 0⟩).what := ⟨_, rfl⟩
   obtain ⟨u, hu⟩ : ∃ u, u = (es.getD k ⟨0, 0⟩).val := ⟨_, rfl⟩
   rw [← hv] at hr1
   rw [← hu] at hr2
   have HZ : Hid (v = (es.getD k ⟨0, 0⟩).what) := hv
   clear hv hu hc1 hc2 hc
   cases hin : (v == what) with
   | false =>
    have H1 : Hid (∀ j, j < k + 1 → ((es.getD j ⟨0, 0⟩).what == what) = false) := fun j hj => by
     rcases Nat.lt_succ_iff_lt_or_eq.1 hj with h | rfl
     ·exact HN.out j h
     ·rw [← HZ.out]; exact hin
    clear HN
    go_wp2
    go_roundg (gk - 1)
    case rel => exact ⟨k + 1, by simp, by omega, by omega, (HB.out).trans ((Below.refl _ _).alloc (HB.out).size _), H1⟩
    case measure => omega
   | true =>
    have HF : Hid (findN es what = k) := by
     show findN es what = k
     unfold findN
     rw [entIdx_some hlt HN.out (by rw [← HZ.out]; exact hin)]
     rfl
    go_wp2
    go_ret
    exact ⟨by rw [HF.out]; rfl, (HB.out).trans ((Below.refl _ _).alloc (HB.out).size _)⟩
  ·have HF : Hid (findN es what = es.length) := by
    show findN es what = es.length
    unfold findN
    rw [entIdx_none (fun j hj => HN.out j (by omega))]
    rfl
   have hk2 : ¬ ((k : Int) < (es.length : Int)) := by omega
   clear hc
   go_wp2
   go_ret
   exact ⟨by rw [HF.out]; rfl, HB.out⟩
section
variable (base p z : Nat) (A B : List Value) (t : PT) (L : Ls) (w : World)
set_option maxHeartbeats 1000000 in
theorem t_begin (hb : TAt w p z A B t L) : Calls Tryz.prog 134 #[.pointer (some ⟨p, z, none⟩)] w (DidT p z A B (yBegin t) L w) := by
 have h9 := hb.cCur
 have h8 := hb.cMine
 have h13 := hb.cStep
 have hf := hb.froz
 have HB : Hid (TAt w p z A B t L) := hb
 clear hb
 unfold yBegin
 by_cases hc : t.cur < t.mine.length
 ·rw [if_pos hc]
  have h1 : (t.cur : Int) < (t.mine.length : Int) := by omega
  go_enter Tryz.func134, Tryz.ntmps134
  go_wp2_with fail
  go_quiet (fail)
  go_wp2_with fail
  refine (t_load p z A B t L 2 0 _ ((HB.out).drewN _)).mono ?_
  rintro e w1 ⟨rfl, a1, a2⟩
  go_wp2
  go_end0
  exact ⟨rfl, a1, ((Only.refl _ _).drewN _).trans a2⟩
 ·rw [if_neg hc]
  have h1 : ¬ (t.cur : Int) < (t.mine.length : Int) := by omega
  go_enter Tryz.func134, Tryz.ntmps134
  go_wp2_with fail
  go_quiet (fail)
  go_wp2
  go_end0
  exact ⟨rfl, ((HB.out).drewN _).set 14 (by decide) _ rfl, ((Only.refl _ _).drewN _).set⟩
set_option maxHeartbeats 1000000 in
theorem t_end (hb : TAt w p z A B t L) (ok : TOk t) : Calls Tryz.prog 201 #[.pointer (some ⟨p, z, none⟩)] w (DidT p z A B (yEnd t) L w) := by
 have HB : Hid (TAt w p z A B t L) := hb
 have HK : Hid (TOk t) := ok
 clear hb ok
 go_enter Tryz.func201, Tryz.ntmps201
 go_wp2_with fail
 refine (t_ownStatus p z A B t L _ HB.out HK.out).mono ?_
 rintro e w1 ⟨rfl, hB⟩
 go_wp2_with fail
 refine (t_store p z A B t L 27 t.sta 0 _ ((HB.out).below hB)).mono ?_
 rintro e w2 ⟨rfl, a1, a2⟩
 go_wp2
 go_end0
 exact ⟨rfl, a1, (Only.below hB).trans a2⟩
set_option maxHeartbeats 1000000 in
theorem t_owner (hb : TAt w p z A B t L) (ok : TOk t) (s : Int) (h1 : 0 ≤ s) (h2 : s ≤ 100) : Calls Tryz.prog 184 #[.agg #[.int .i64 t.c.t, .int .i64 t.c.wd, .int .i64 t.c.s, .int .i64 t.c.g, .int .i64 t.c.r, .int .i64 t.c.cp, .int .i64 t.c.f], .int .i64 s] w fun e w' => e = .returned (.int .i64 (cOwnOf t.c s)) ∧ Below w.heap.size w w' := by
 obtain ⟨ht, _, hs, _⟩ := ok.cb
 exact owner_any t.c ⟨t.c, 0, []⟩ rfl s w h1 (by omega) (by omega) (by omega)
set_option maxHeartbeats 2000000 in
theorem t_giveBack (R : TR base p z A B w t L) (ok : TOk t) (hat : t.at_ < t.held.length) (step : Int) : Calls Tryz.prog 200 #[.pointer (some ⟨p, z, none⟩), .int .i64 step] w (DidT p z A B (yGiveBack step t) L w) := by
 have hb := R.tt
 have h38 := hb.cAt
 have h32 := hb.cHeld
 have h0 := hb.cT
 have h1 := hb.cWd
 have h2 := hb.cS
 have h3 := hb.cG
 have h4 := hb.cR
 have h5 := hb.cCp
 have h6 := hb.cF
 obtain ⟨g, hg, hgc⟩ := nums_at R.hd t.at_ hat
 rw [hg] at h32
 have hm : t.held.getD t.at_ 0 ∈ t.held := by rw [show t.held.getD t.at_ 0 = t.held[t.at_] from by simp [List.getD, List.getElem?_eq_getElem hat]]; exact List.getElem_mem hat
 have hsr := ok.hd _ hm
 have hs8 := ok.cb.2.2.1
 have HB : Hid (TAt w p z A B t L) := hb
 have HK : Hid (TOk t) := ok
 obtain ⟨s, HS⟩ : ∃ s, Hid (t.held.getD t.at_ 0 = s) := ⟨_, rfl⟩
 rw [show t.held.getD t.at_ 0 = s from HS.out] at hgc hsr
 have hk0 : (0 : Int) ≤ (t.at_ : Int) := by omega
 have hk1 : (t.at_ : Int) < (t.held.length : Int) := by omega
 have HG : Hid (∀ w', DidT p z A B (yStore step (cOwnOf t.c s) 0 t) L w (.returned (.tuple #[])) w' → DidT p z A B (yGiveBack step t) L w (.returned (.tuple #[])) w') := fun w' h => by unfold yGiveBack; rw [show t.held.getD t.at_ 0 = s from HS.out]; exact h
 have HS8 : Hid (0 ≤ s ∧ s ≤ 100) := ⟨hsr.1, by omega⟩
 clear hb ok R hm hsr hs8 HS hat
 go_enter Tryz.func200, Tryz.ntmps200
 go_wp2_with fail
 go_quiet (fail)
 go_wp2_with fail
 refine (t_owner p z A B t L _ ((HB.out).drewN _) HK.out s (HS8.out).1 (HS8.out).2).mono ?_
 rintro e w1 ⟨rfl, hB⟩
 go_wp2_with fail
 refine (t_store p z A B t L step (cOwnOf t.c s) 0 _ (((HB.out).drewN _).below hB)).mono ?_
 rintro e w2 ⟨rfl, a1, a2⟩
 go_wp2
 go_end0
 exact HG.out _ ⟨rfl, a1, (((Only.refl _ _).drewN _).trans (Only.below hB)).trans a2⟩
set_option maxHeartbeats 1000000 in
theorem t_letGo (R : TR base p z A B w t L) (ok : TOk t) : Calls Tryz.prog 161 #[.pointer (some ⟨p, z, none⟩)] w (DidT p z A B (yLetGo t) L w) := by
 have hb := R.tt
 have h38 := hb.cAt
 have h32 := hb.cHeld
 have HR : Hid (TR base p z A B w t L) := R
 have HK : Hid (TOk t) := ok
 clear hb ok R
 unfold yLetGo
 by_cases hc : t.at_ < t.held.length
 ·rw [if_pos hc]
  have HC : Hid (t.at_ < t.held.length) := hc
  have h1 : (t.at_ : Int) < (t.held.length : Int) := by omega
  clear hc
  go_enter Tryz.func161, Tryz.ntmps161
  go_wp2_with fail
  go_quiet (fail)
  go_wp2_with fail
  refine (t_giveBack base p z A B t L _ ((HR.out).drewN _) HK.out HC.out 26).mono ?_
  rintro e w1 ⟨rfl, a1, a2⟩
  go_wp2
  go_end0
  exact ⟨rfl, a1, ((Only.refl _ _).drewN _).trans a2⟩
 ·rw [if_neg hc]
  have h1 : ¬ (t.at_ : Int) < (t.held.length : Int) := by omega
  clear hc
  go_enter Tryz.func161, Tryz.ntmps161
  go_wp2_with fail
  go_quiet (fail)
  go_wp2_with fail
  refine (t_end p z A B t L _ ((HR.out).drewN _).tt HK.out).mono ?_
  rintro e w1 ⟨rfl, a1, a2⟩
  go_wp2
  go_end0
  exact ⟨rfl, a1, ((Only.refl _ _).drewN _).trans a2⟩
set_option maxHeartbeats 1000000 in
theorem t_finish (hb : TAt w p z A B t L) (ok : TOk t) : Calls Tryz.prog 168 #[.pointer (some ⟨p, z, none⟩)] w (DidT p z A B (yFinish t) L w) := by
 have h32 := hb.cHeld
 have HB : Hid (TAt w p z A B t L) := hb
 have HK : Hid (TOk t) := ok
 clear hb ok
 unfold yFinish
 by_cases hc : t.held.length = 0
 ·rw [if_pos hc]
  have h1 : ((t.held.length : Int) == 0) = true := by simp [hc]
  rw [hc] at h32
  clear hc
  go_enter Tryz.func168, Tryz.ntmps168
  go_wp2_with fail
  refine (t_end p z A B t L _ HB.out HK.out).mono ?_
  rintro e w1 ⟨rfl, a1, a2⟩
  go_wp2
  go_end0
  exact ⟨rfl, a1, a2⟩
 ·rw [if_neg hc]
  have h1 : ((t.held.length : Int) == 0) = false := by rw [beq_eq_false_iff_ne]; omega
  clear hc
  go_enter Tryz.func168, Tryz.ntmps168
  go_wp2_with fail
  refine (t_ownStatus p z A B t L _ HB.out HK.out).mono ?_
  rintro e w1 ⟨rfl, hB⟩
  go_wp2_with fail
  refine (t_load p z A B t L 16 t.sta _ ((HB.out).below hB)).mono ?_
  rintro e w2 ⟨rfl, a1, a2⟩
  go_wp2
  go_end0
  exact ⟨rfl, a1, (Only.below hB).trans a2⟩
end
section
variable (base p z : Nat) (A B : List Value) (t : PT) (L : Ls) (w : World)
set_option maxHeartbeats 2000000 in
theorem t_show (hb : TAt w p z A B t L) (ok : TOk t) : Calls Tryz.prog 203 #[.pointer (some ⟨p, z, none⟩)] w (DidT p z A B (yShow t) L w) := by
 have h10 := hb.cRank
 have hrk := ok.rank
 have hw8 : IntKind.i64.wrap (8 * t.rank) = 8 * t.rank := wrapP _ (by omega) (by omega)
 have HB : Hid (TAt w p z A B t L) := hb
 have HK : Hid (TOk t) := ok
 clear hb ok hrk
 go_enter Tryz.func203, Tryz.ntmps203
 go_wp2_with fail
 go_region_with (first
     | (go_at_call 192; refine (t_ownStatus p z A B t L _ (by exact HB.out) HK.out).mono ?_; rintro e w1 ⟨rfl, hB⟩; have hb1 : TAt w1 p z A B t L := TAt.below (by exact HB.out) hB; have h10b := hb1.cRank)
     | (go_at_call 197; refine (t_store p z A B t L 31 t.sta (8 * t.rank) _ (by assumption)).mono ?_; rintro e w2 ⟨rfl, a1, a2⟩))
 all_goals
  go_wp2
  go_end0
  exact ⟨rfl, a1, by first | exact (Only.below hB).trans a2 | exact (((Only.refl _ _).drew).trans (Only.below hB)).trans a2⟩
set_option maxHeartbeats 2000000 in
theorem t_count (hb : TAt w p z A B t L) (ok : TOk t) (hfl : t.fails + 1 ≤ 2 ^ 40) : Calls Tryz.prog 222 #[.pointer (some ⟨p, z, none⟩)] w (DidT p z A B (yCount t) L w) := by
 have h11 := hb.cFails
 have hf := hb.froz
 have hfa := ok.fails
 have hw1 : IntKind.i64.wrap (t.fails + 1) = t.fails + 1 := wrapP _ (by omega) (by omega)
 have ok1 : TOk { t with fails := t.fails + 1 } := ⟨ok.cfg, ok.num, ok.rank, ⟨by show 0 ≤ t.fails + 1; omega, hfl⟩, ok.rd, ok.wr, ok.hd, ok.rl, ok.wl, ok.hl, ok.ml, ok.cur, ok.nl, ok.sl⟩
 have HK : Hid (TOk { t with fails := t.fails + 1 }) := ok1
 have HB : Hid (TAt (w.setCell ⟨p, z + 12, none⟩ (.int .i64 (t.fails + 1))) p z A B { t with fails := t.fails + 1 } L) := hb.set 12 (by decide) _ rfl
 have HO : Hid (Only p w (w.setCell ⟨p, z + 12, none⟩ (.int .i64 (t.fails + 1)))) := (Only.refl _ _).set
 clear hb ok ok1 hfa hfl
 unfold yCount
 by_cases hr : t.rank = 0
 ·have hrb : (t.rank == 0) = true := by simp [hr]
  by_cases hc : t.c.r < t.fails + 1
  ·rw [if_pos ⟨hr, hc⟩]
   clear hr
   go_enter Tryz.func222, Tryz.ntmps222
   go_wp2_with fail
   generalize w.setCell ⟨p, z + 12, none⟩ (.int .i64 (t.fails + 1)) = w1 at *
   have h10b : w1.cell? ⟨p, z + 11, none⟩ = some (.int .i64 t.rank) := (HB.out).cRank
   have h11b : w1.cell? ⟨p, z + 12, none⟩ = some (.int .i64 (t.fails + 1)) := (HB.out).cFails
   have h4b : w1.cell? ⟨p, z + 4, none⟩ = some (.int .i64 t.c.r) := (HB.out).cR
   clear h11 hf hw1
   go_quiet (fail)
   go_wp2_with fail
   refine (t_take p z A B { t with fails := t.fails + 1 } L 30 1 _ (by exact HB.out)).mono ?_
   rintro e w2 ⟨rfl, a1, a2⟩
   go_wp2
   go_end0
   exact ⟨rfl, a1, ((HO.out).drewN _).trans a2⟩
  ·rw [if_neg (fun q => hc q.2)]
   clear hr
   go_enter Tryz.func222, Tryz.ntmps222
   go_wp2_with fail
   generalize w.setCell ⟨p, z + 12, none⟩ (.int .i64 (t.fails + 1)) = w1 at *
   have h10b : w1.cell? ⟨p, z + 11, none⟩ = some (.int .i64 t.rank) := (HB.out).cRank
   have h11b : w1.cell? ⟨p, z + 12, none⟩ = some (.int .i64 (t.fails + 1)) := (HB.out).cFails
   have h4b : w1.cell? ⟨p, z + 4, none⟩ = some (.int .i64 t.c.r) := (HB.out).cR
   clear h11 hf hw1
   go_quiet (fail)
   go_wp2_with fail
   refine (t_show p z A B { t with fails := t.fails + 1 } L _ (by exact HB.out) HK.out).mono ?_
   rintro e w2 ⟨rfl, a1, a2⟩
   go_wp2
   go_end0
   exact ⟨rfl, a1, ((HO.out).drewN _).trans a2⟩
 ·have hrb : (t.rank == 0) = false := by rw [beq_eq_false_iff_ne]; exact hr
  rw [if_neg (fun q => hr q.1)]
  clear hr
  go_enter Tryz.func222, Tryz.ntmps222
  go_wp2_with fail
  generalize w.setCell ⟨p, z + 12, none⟩ (.int .i64 (t.fails + 1)) = w1 at *
  have h10b : w1.cell? ⟨p, z + 11, none⟩ = some (.int .i64 t.rank) := (HB.out).cRank
  have h11b : w1.cell? ⟨p, z + 12, none⟩ = some (.int .i64 (t.fails + 1)) := (HB.out).cFails
  have h4b : w1.cell? ⟨p, z + 4, none⟩ = some (.int .i64 t.c.r) := (HB.out).cR
  clear h11 hf hw1
  go_quiet (fail)
  go_wp2_with fail
  refine (t_show p z A B { t with fails := t.fails + 1 } L _ (by exact HB.out) HK.out).mono ?_
  rintro e w2 ⟨rfl, a1, a2⟩
  go_wp2
  go_end0
  exact ⟨rfl, a1, ((HO.out).drewN _).trans a2⟩
set_option maxHeartbeats 1000000 in
theorem t_undo (R : TR base p z A B w t L) (ok : TOk t) (hfl : t.fails + 1 ≤ 2 ^ 40) : Calls Tryz.prog 202 #[.pointer (some ⟨p, z, none⟩)] w (DidT p z A B (yUndo t) L w) := by
 have hb := R.tt
 have h38 := hb.cAt
 have h32 := hb.cHeld
 have HR : Hid (TR base p z A B w t L) := R
 have HK : Hid (TOk t) := ok
 have HF : Hid (t.fails + 1 ≤ 2 ^ 40) := hfl
 clear hb ok R hfl
 unfold yUndo
 by_cases hc : t.at_ < t.held.length
 ·rw [if_pos hc]
  have HC : Hid (t.at_ < t.held.length) := hc
  have h1 : (t.at_ : Int) < (t.held.length : Int) := by omega
  clear hc
  go_enter Tryz.func202, Tryz.ntmps202
  go_wp2_with fail
  go_quiet (fail)
  go_wp2_with fail
  refine (t_giveBack base p z A B t L _ ((HR.out).drewN _) HK.out HC.out 29).mono ?_
  rintro e w1 ⟨rfl, a1, a2⟩
  go_wp2
  go_end0
  exact ⟨rfl, a1, ((Only.refl _ _).drewN _).trans a2⟩
 ·rw [if_neg hc]
  have h1 : ¬ (t.at_ : Int) < (t.held.length : Int) := by omega
  clear hc
  go_enter Tryz.func202, Tryz.ntmps202
  go_wp2_with fail
  go_quiet (fail)
  go_wp2_with fail
  refine (t_count p z A B t L _ ((HR.out).drewN _).tt HK.out HF.out).mono ?_
  rintro e w1 ⟨rfl, a1, a2⟩
  go_wp2
  go_end0
  exact ⟨rfl, a1, ((Only.refl _ _).drewN _).trans a2⟩
set_option maxHeartbeats 1000000 in
theorem t_fail (R : TR base p z A B w t L) (ok : TOk t) (hfl : t.fails + 1 ≤ 2 ^ 40) : Calls Tryz.prog 182 #[.pointer (some ⟨p, z, none⟩)] w (DidT p z A B (yFail t) L w) := by
 have hb := R.tt
 have h38 := hb.cAt
 have hf := hb.froz
 have hb1 : TAt (w.setCell ⟨p, z + 19 + 27, none⟩ (.int .i64 0)) p z A B { t with at_ := 0 } L := hb.set 46 (by decide) _ rfl
 have HO : Hid (Only p w (w.setCell ⟨p, z + 19 + 27, none⟩ (.int .i64 0))) := (Only.refl _ _).set
 have HR : Hid (TR base p z A B (w.setCell ⟨p, z + 19 + 27, none⟩ (.int .i64 0)) { t with at_ := 0 } L) := R.next hb1 HO.out rfl rfl rfl rfl rfl rfl
 have HK : Hid (TOk { t with at_ := 0 }) := ok
 have HF : Hid (t.fails + 1 ≤ 2 ^ 40) := hfl
 clear hb ok R hfl hb1
 go_enter Tryz.func182, Tryz.ntmps182
 go_wp2_with fail
 refine (t_undo base p z A B { t with at_ := 0 } L _ HR.out HK.out HF.out).mono ?_
 rintro e w1 ⟨rfl, a1, a2⟩
 go_wp2
 go_end0
 exact ⟨rfl, a1, (HO.out).trans a2⟩
theorem t_failGate (hb : TAt w p z A B t L) : Calls Tryz.prog 194 #[.pointer (some ⟨p, z, none⟩)] w (DidT p z A B (yFailGate t) L w) := by
 have HB : Hid (TAt w p z A B t L) := hb
 clear hb
 go_enter Tryz.func194, Tryz.ntmps194
 go_wp2_with fail
 refine (t_store p z A B t L 28 2 0 _ HB.out).mono ?_
 rintro e w1 ⟨rfl, a1, a2⟩
 go_wp2
 go_end0
 exact ⟨rfl, a1, a2⟩
theorem t_extend (hb : TAt w p z A B t L) : Calls Tryz.prog 189 #[.pointer (some ⟨p, z, none⟩)] w (DidT p z A B (yExtend t) L w) := by
 have HB : Hid (TAt w p z A B t L) := hb
 clear hb
 go_enter Tryz.func189, Tryz.ntmps189
 go_wp2_with fail
 refine (t_load p z A B t L 12 0 _ HB.out).mono ?_
 rintro e w1 ⟨rfl, a1, a2⟩
 go_wp2
 go_end0
 exact ⟨rfl, a1, a2⟩
theorem t_get (hb : TAt w p z A B t L) (ok : TOk t) : Calls Tryz.prog 188 #[.pointer (some ⟨p, z, none⟩)] w (DidT p z A B (yGet t) L w) := by
 have HB : Hid (TAt w p z A B t L) := hb
 have HK : Hid (TOk t) := ok
 clear hb ok
 go_enter Tryz.func188, Tryz.ntmps188
 go_wp2_with fail
 refine (t_ownStatus p z A B t L _ HB.out HK.out).mono ?_
 rintro e w1 ⟨rfl, hB⟩
 go_wp2_with fail
 refine (t_load p z A B t L 7 t.sta _ ((HB.out).below hB)).mono ?_
 rintro e w2 ⟨rfl, a1, a2⟩
 go_wp2
 go_end0
 exact ⟨rfl, a1, (Only.below hB).trans a2⟩
set_option maxHeartbeats 1000000 in
theorem t_restBy (hb : TAt w p z A B t L) (ok : TOk t) (draw : Int) : Calls Tryz.prog 206 #[.pointer (some ⟨p, z, none⟩), .int .i64 draw] w fun e w' => e = .returned (.int .i64 (yRestBy t draw)) ∧ w' = w := by
 have h11 := hb.cFails
 have h5 := hb.cCp
 have hfa := ok.fails
 obtain ⟨_, _, _, _, _, hcp, _⟩ := ok.cb
 clear hb ok
 unfold yRestBy
 by_cases h0 : draw < 0
 ·rw [if_pos h0]
  go_enter Tryz.func206, Tryz.ntmps206
  go_wp2
  go_ret
  exact ⟨rfl, rfl⟩
 ·rw [if_neg h0]
  by_cases hc : t.c.cp < t.fails
  ·rw [if_pos hc]
   have hw : IntKind.i64.wrap (1 + t.c.cp) = 1 + t.c.cp := wrapP _ (by omega) (by omega)
   have hz : (1 + t.c.cp == 0) = false := by rw [beq_eq_false_iff_ne]; omega
   have hz2 : ¬ 1 + t.c.cp = 0 := by omega
   clear hfa hcp
   go_enter Tryz.func206, Tryz.ntmps206
   go_wp2
   go_ret
   exact ⟨by rw [Int.tmod_eq_emod_of_nonneg (by omega)]; rfl, rfl⟩
  ·rw [if_neg hc]
   have hw : IntKind.i64.wrap (1 + t.fails) = 1 + t.fails := wrapP _ (by omega) (by omega)
   have hz : (1 + t.fails == 0) = false := by rw [beq_eq_false_iff_ne]; omega
   have hz2 : ¬ 1 + t.fails = 0 := by omega
   clear hfa hcp
   go_enter Tryz.func206, Tryz.ntmps206
   go_wp2
   go_ret
   exact ⟨by rw [Int.tmod_eq_emod_of_nonneg (by omega)]; rfl, rfl⟩
end
theorem Only.quiet {p : Nat} {w w' w2 : World} (h : Only p w' w2) (h1 : w'.os = w.os) (h2 : w'.tape = w.tape) (h3 : w'.output = w.output) (h4 : w'.heap = w.heap) : Only p w w2 :=
 ⟨h.os.trans h1, h.tape.trans h2, h.output.trans h3, by rw [← h4]; exact h.size, fun k hk hp => (h.block k (by rw [h4]; exact hk) hp).trans (by rw [h4])⟩
section
variable (base p z : Nat) (A B : List Value) (t : PT) (L : Ls) (w : World)
def tHead (t : PT) (L : Ls) : List Value := (tArr t L).take 27
def tTail (t : PT) (L : Ls) : List Value := (tArr t L).drop 34
theorem TAt.mach {p z : Nat} {A B : List Value} {t : PT} {L : Ls} {w : World} (h : TAt w p z A B t L) : MAt w p (z + 19 + 8) 138 (A ++ tHead t L) (tTail t L ++ B) t.m :=
 Seg.mach (L := []) (Seg.part (L := []) (L1 := tHead t L) (L2 := (mArr t.m).toList) (L3 := tTail t L) h 27 rfl)
theorem TAt.ofMach {p z : Nat} {A B : List Value} {t : PT} {L : Ls} {w : World} {m : MS} (hz : A.length = z) (h : MAt w p (z + 19 + 8) 138 (A ++ tHead t L) (tTail t L ++ B) m) : TAt w p z A B { t with m := m } L :=
 Seg.whole (L := []) (k := 27) (L1 := tHead t L) (L2 := (mArr m).toList) (L3 := tTail t L) (MAt.seg (L := []) h) hz
set_option maxHeartbeats 1000000 in
theorem t_followFail (R : TR base p z A B w t L) (ok : TOk t) (hfl : t.fails + 1 ≤ 2 ^ 40) (hs : t.step = 29 ∨ False) (hat : t.at_ ≤ 1000) (put : Int) (hp : 0 ≤ put ∧ put ≤ 2 ^ 40) :
  Calls Tryz.prog 163 #[.pointer (some ⟨p, z, none⟩), .int .i64 put] w (DidT p z A B (yFollowFail put t) L w) := by
 have hb := R.tt
 have h13 := hb.cStep
 have h38 := hb.cAt
 have h10 := hb.cRank
 have hf := hb.froz
 have HR : Hid (TR base p z A B w t L) := R
 have HK : Hid (TOk t) := ok
 have HF : Hid (t.fails + 1 ≤ 2 ^ 40) := hfl
 unfold yFollowFail
 rcases hs with hs | hs
 ·rw [if_neg (by omega), if_pos hs]
  rw [hs] at h13
  have hw : IntKind.i64.wrap ((t.at_ : Int) + 1) = ((t.at_ + 1 : Nat) : Int) := by rw [wrapP _ (by omega) (by omega)]; omega
  have hb1 : TAt (w.setCell ⟨p, z + 19 + 27, none⟩ (.int .i64 ((t.at_ + 1 : Nat) : Int))) p z A B { t with at_ := t.at_ + 1 } L := hb.set 46 (by decide) _ rfl
  have HO : Hid (Only p w (w.setCell ⟨p, z + 19 + 27, none⟩ (.int .i64 ((t.at_ + 1 : Nat) : Int)))) := (Only.refl _ _).set
  have HR1 : Hid (TR base p z A B (w.setCell ⟨p, z + 19 + 27, none⟩ (.int .i64 ((t.at_ + 1 : Nat) : Int))) { t with at_ := t.at_ + 1 } L) := R.next hb1 HO.out rfl rfl rfl rfl rfl rfl
  clear hb ok R hfl hs hp hat hb1 HR
  go_enter Tryz.func163, Tryz.ntmps163
  go_wp2_with fail
  refine (t_undo base p z A B { t with at_ := t.at_ + 1 } L _ HR1.out HK.out HF.out).mono ?_
  rintro e w1 ⟨rfl, a1, a2⟩
  go_wp2
  go_end0
  exact ⟨rfl, a1, (HO.out).trans a2⟩
 ·exact hs.elim
set_option maxHeartbeats 1000000 in
theorem t_lose (hb : TAt w p z A B t L) (ok : TOk t) (status draw : Int) (h0 : 0 ≤ status) (hway : 0 ≤ t.wayTo ∧ t.wayTo ≤ 100) :
  Calls Tryz.prog 165 #[.pointer (some ⟨p, z, none⟩), .int .i64 status, .int .i64 draw] w (DidT p z A B (yLose status draw t) L w) := by
 have h36 := hb.cWay
 have h12 := hb.cRest
 have hf := hb.froz
 have HB : Hid (TAt w p z A B t L) := hb
 have HK : Hid (TOk t) := ok
 have hm0 := Int.tmod_nonneg 8 h0
 have hm8 := Int.tmod_lt_of_pos status (show (0 : Int) < 8 by decide)
 unfold yLose yWinner
 by_cases hz : status.tmod 8 = 0
 ·rw [if_pos hz]
  by_cases hw : t.wayTo = 0
  ·rw [if_neg (fun q => q hw)]
   rw [hw] at h36
   clear hb ok hm0 hm8 hway h0
   go_enter Tryz.func165, Tryz.ntmps165
   go_wp2_with fail
   refine (t_markIn _ _).mono ?_
   rintro e w1 ⟨rfl, rfl⟩
   rw [hz]
   go_wp2_with fail
   refine (t_restBy p z A B t L _ HB.out HK.out draw).mono ?_
   rintro e w1 ⟨rfl, rfl⟩
   go_wp2_with fail
   refine (t_begin p z A B { t with rest := yRestBy t draw } L _ ((HB.out).set 13 (by decide) _ rfl)).mono ?_
   rintro e w2 ⟨rfl, a1, a2⟩
   go_wp2
   go_end0
   exact ⟨rfl, a1, ((Only.refl _ _).set).trans a2⟩
  ·rw [if_pos hw]
   have HW : Hid (0 ≤ t.wayTo ∧ t.wayTo ≤ 100) := hway
   have hwb : (t.wayTo != 0) = true := by simpa using hw
   have hwb2 : (t.wayTo == 0) = false := by simpa using hw
   clear hb ok hm0 hm8 hway h0
   go_enter Tryz.func165, Tryz.ntmps165
   go_wp2_with fail
   refine (t_markIn _ _).mono ?_
   rintro e w1 ⟨rfl, rfl⟩
   rw [hz]
   go_wp2_with fail
   refine (t_statusOf p z A B t L _ HB.out HK.out t.wayTo (HW.out).1 (HW.out).2).mono ?_
   rintro e w1 ⟨rfl, hB⟩
   go_wp2_with fail
   refine (t_load p z A B t L 32 (t.staOf t.wayTo) _ ((HB.out).below hB)).mono ?_
   rintro e w2 ⟨rfl, a1, a2⟩
   go_wp2
   refine bodyPost_ret (results_none rfl _ _ _) rfl ?_
   exact ⟨rfl, a1, (Only.below hB).trans a2⟩
 ·rw [if_neg hz, if_pos hz]
  have HW : Hid (0 ≤ status.tmod 8 ∧ status.tmod 8 ≤ 100) := ⟨hm0, by omega⟩
  obtain ⟨m, hm⟩ : ∃ m, m = status.tmod 8 := ⟨_, rfl⟩
  have HM : Hid (∀ w, Calls Tryz.prog 204 #[.int .i64 status] w fun e w' => e = .returned (.int .i64 m) ∧ w' = w) := fun w => by rw [hm]; exact t_markIn status w
  rw [← hm] at HW hz ⊢
  have hwb : (m != 0) = true := by simpa using hz
  have hwb2 : (m == 0) = false := by simpa using hz
  clear hb ok hm0 hm8 hway h0 hm
  go_enter Tryz.func165, Tryz.ntmps165
  go_wp2_with fail
  refine (HM.out _).mono ?_
  rintro e w1 ⟨rfl, rfl⟩
  go_wp2_with fail
  refine (t_statusOf p z A B t L _ HB.out HK.out m (HW.out).1 (HW.out).2).mono ?_
  rintro e w1 ⟨rfl, hB⟩
  go_wp2_with fail
  refine (t_load p z A B t L 32 (t.staOf m) _ ((HB.out).below hB)).mono ?_
  rintro e w2 ⟨rfl, a1, a2⟩
  go_wp2
  refine bodyPost_ret (results_none rfl _ _ _) rfl ?_
  exact ⟨rfl, a1, (Only.below hB).trans a2⟩
set_option maxHeartbeats 1000000 in
theorem t_meet (R : TR base p z A B w t L) (ok : TOk t) (hfl : t.fails + 1 ≤ 2 ^ 40) (u : Int) (hu : 0 ≤ u ∧ u ≤ 100) :
  Calls Tryz.prog 186 #[.pointer (some ⟨p, z, none⟩), .int .i64 u] w (DidT p z A B (yMeet u t) L w) := by
 have hb := R.tt
 have h10 := hb.cRank
 have h35 := hb.cRival
 have hf := hb.froz
 have HR : Hid (TR base p z A B w t L) := R
 have HK : Hid (TOk t) := ok
 have HF : Hid (t.fails + 1 ≤ 2 ^ 40) := hfl
 have HU : Hid (0 ≤ u ∧ u ≤ 100) := hu
 unfold yMeet
 by_cases hr : t.rank = 0
 ·rw [if_pos hr]
  rw [hr] at h10
  clear hb ok R hfl hr hu
  go_enter Tryz.func186, Tryz.ntmps186
  go_wp2_with fail
  refine (t_fail base p z A B t L _ HR.out HK.out HF.out).mono ?_
  rintro e w1 ⟨rfl, a1, a2⟩
  go_wp2
  refine bodyPost_ret (results_none rfl _ _ _) rfl ?_
  exact ⟨rfl, a1, a2⟩
 ·rw [if_neg hr]
  have hrb : (t.rank == 0) = false := by rw [beq_eq_false_iff_ne]; exact hr
  have hb1 : TAt (w.setCell ⟨p, z + 19 + 24, none⟩ (.int .i64 u)) p z A B { t with rival := u } L := hb.set 43 (by decide) _ rfl
  have HB1 : Hid (TAt (w.setCell ⟨p, z + 19 + 24, none⟩ (.int .i64 u)) p z A B { t with rival := u } L) := hb1
  have HO : Hid (Only p w (w.setCell ⟨p, z + 19 + 24, none⟩ (.int .i64 u))) := (Only.refl _ _).set
  clear hb ok R hfl hr hu hb1
  go_enter Tryz.func186, Tryz.ntmps186
  go_wp2_with fail
  refine (t_statusOf p z A B { t with rival := u } L _ HB1.out HK.out u (HU.out).1 (HU.out).2).mono ?_
  rintro e w1 ⟨rfl, hB⟩
  go_wp2_with fail
  refine (t_load p z A B { t with rival := u } L 9 (t.staOf u) _ ((HB1.out).below hB)).mono ?_
  rintro e w2 ⟨rfl, a1, a2⟩
  go_wp2
  go_end0
  exact ⟨rfl, a1, ((HO.out).trans (Only.below hB)).trans a2⟩
end
end Go.Proofs.YtejadojilncbjabGreat
