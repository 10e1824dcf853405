import Derived.Test.YtejadojilncbjabGreatD34
import Derived.Deep.Cut
import Derived.Test.YtejadojilncbjabGreatD31
import Derived.Test.YtejadojilncbjabGreatD18
import Derived.Test.YtejadojilncbjabGreatD15
namespace Go.Proofs.YtejadojilncbjabGreat
open Go.RowKit
set_option linter.unusedVariables false
attribute [local go_sem ↓] Go.wp_at_zero Go.wp_at_succ
def t0 (c : Cfg) (i : Int) (mine : List Int) : PT := ⟨c, i, mine, 0, [], 0, 0, 0, 0, ⟨0, 0, 0, 0⟩, 0, 0, 0, 0, 0, 0, 0, [], ⟨[0, 0, 0, 0], 0, 0, 0⟩, ⟨0, 0, 0, 0⟩, [], [], [], 0, 0, 0, 0, 0, 0⟩
def L0 (ma : Option Addr) (mc : Nat) : Ls := ⟨ma, mc, none, 0, none, 0, none, 0, none, 0, none, 0⟩
def zc : Array Value := (tArr (t0 ⟨0, 0, 0, 0, 0, 0, 0⟩ 0 []) (L0 none 0)).toArray
theorem Tryz.size138 : (Tryz.prog.info? 138).map (·.size) = some 47 := by kernel_rfl
theorem mineF_snoc (me : Int) (b : Int × List InsD) : ∀ (l : List (Int × List InsD)) (j : Nat), mineF me j (l ++ [b]) = mineF me j l ++ (if b.1 = me then [((j + l.length : Nat) : Int)] else [])
 | [], j => by
  show (if b.1 = me then (j : Int) :: mineF me (j + 1) [] else mineF me (j + 1) []) = _
  split <;> simp [mineF]
 | a :: l, j => by
  rw [List.cons_append, mineF_cons, mineF_cons, mineF_snoc me b l (j + 1)]
  have e : j + 1 + l.length = j + (a :: l).length := by simp; omega
  rw [e]
  split <;> simp
theorem mineF_len (me : Int) : ∀ (l : List (Int × List InsD)) (j : Nat), (mineF me j l).length ≤ l.length
 | [], j => by simp [mineF]
 | a :: l, j => by
  rw [mineF_cons]
  have := mineF_len me l (j + 1)
  split <;> simp <;> omega
theorem TAt.range {w : World} {p z : Nat} {A B : List Value} {t : PT} {L : Ls} (h : TAt w p z A B t L) : w.rangeAt p z (tArr t L) := fun j v hv => by
 have hj : j < (tArr t L).length := (List.getElem?_eq_some_iff.1 hv).1
 rw [Seg.cell h j hj]
 exact hv
theorem Blk.there {w : World} {b : Nat} {T : TypeId} {cs : Array Value} (h : Blk w b T cs) : w.there b 0 cs.size := fun j hj => by
 refine ⟨?_, h.frozen _⟩
 rw [h.cell]
 simp [hj]
theorem Blk.setCells {w : World} {b : Nat} {T : TypeId} {cs : Array Value} (h : Blk w b T cs) (V : List Value) (hV : V.length = cs.size) : Blk (w.setCells b 0 V) b T V.toArray := by
 have hs : Seg w b 0 T [] [] cs.toList := Blk.seg (z := 0) (A := []) (B := []) (L := []) (cs := cs.toList) (by simpa using h)
 have := Seg.setCells V w [] cs.toList [] 0 rfl (by simpa using hV) (by simpa using hs)
 exact Seg.blk (z := 0) (A := []) (B := []) (by simpa using this)
theorem results_cell {fn : Func} {p : Tmp} {ty : TypeId} (h : fn.results = #[.cell p ty]) (tmps : Array Value) (P : Program) (w : World) :
  (results fn tmps).run P w = ((asAddr (tmps.getD p undef)).run P w).andThen fun a w₁ => (loadVar ty a).run P w₁ := by
 simp only [results, h]
 simp [Sem.run_bind, Result.andThen]
set_option maxRecDepth 100000 in
set_option maxHeartbeats 8000000 in
theorem new_any (c : Cfg) (i : Int) (jobs : List (Int × List InsD)) (ja : Option Addr) (jc : Nat) (w : World) (hj : JobsRep w w.heap.size ja jobs) (hjl : jobs.length ≤ 8) :
  Calls Tryz.prog 121 #[.agg #[.int .i64 c.t, .int .i64 c.wd, .int .i64 c.s, .int .i64 c.g, .int .i64 c.r, .int .i64 c.cp, .int .i64 c.f], .int .i64 i, .slice ja jobs.length jc] w fun e w' =>
   ∃ ma mc, e = .returned (.agg (tArr (yBegin (t0 c i (mineF i 0 jobs))) (L0 ma mc)).toArray) ∧ w'.ownsRow w.heap.size 3 1 (.slice ma (mineF i 0 jobs).length mc) (mineF i 0 jobs).length (intCells (mineF i 0 jobs)) ∧ Below w.heap.size w w' := by
 obtain ⟨V, hV⟩ : ∃ V : Array Value, V = (tArr (t0 c i []) (L0 none 0)).toArray := ⟨_, rfl⟩
 have HV : Hid (V = (tArr (t0 c i []) (L0 none 0)).toArray) := hV
 have hVs : V.size = 47 := by rw [hV]; rfl
 have hV1 : V.all (·.oneCell') = true := by rw [hV]; simp [tArr, t0, L0, Value.oneCell']
 have HJ : Hid (JobsRep w w.heap.size ja jobs) := hj
 have hB3 : Below w.heap.size w (((w.alloc (.cells #[.int .i64 c.t, .int .i64 c.wd, .int .i64 c.s, .int .i64 c.g, .int .i64 c.r, .int .i64 c.cp, .int .i64 c.f] 23)).alloc (.cells zc 138)).alloc (.cells zc 138)) := (((Below.refl _ _).alloc (Nat.le_refl _) _).alloc (by simp) _).alloc (by simp; omega) _
 have hs3 : (((w.alloc (.cells #[.int .i64 c.t, .int .i64 c.wd, .int .i64 c.s, .int .i64 c.g, .int .i64 c.r, .int .i64 c.cp, .int .i64 c.f] 23)).alloc (.cells zc 138)).alloc (.cells zc 138)).heap.size = w.heap.size + 3 := by simp
 have hb2 : Blk (((w.alloc (.cells #[.int .i64 c.t, .int .i64 c.wd, .int .i64 c.s, .int .i64 c.g, .int .i64 c.r, .int .i64 c.cp, .int .i64 c.f] 23)).alloc (.cells zc 138)).alloc (.cells zc 138)) (w.heap.size + 2) 138 zc := by
  have := Blk.new ((w.alloc (.cells #[.int .i64 c.t, .int .i64 c.wd, .int .i64 c.s, .int .i64 c.g, .int .i64 c.r, .int .i64 c.cp, .int .i64 c.f] 23)).alloc (.cells zc 138)) 138 zc
  simpa using this
 have hb1 : Blk (((w.alloc (.cells #[.int .i64 c.t, .int .i64 c.wd, .int .i64 c.s, .int .i64 c.g, .int .i64 c.r, .int .i64 c.cp, .int .i64 c.f] 23)).alloc (.cells zc 138)).alloc (.cells zc 138)) (w.heap.size + 1) 138 zc := by
  have := (Blk.new (w.alloc (.cells #[.int .i64 c.t, .int .i64 c.wd, .int .i64 c.s, .int .i64 c.g, .int .i64 c.r, .int .i64 c.cp, .int .i64 c.f] 23)) 138 zc).alloc (.cells zc 138)
  simpa using this
 have HT : Hid ((((w.alloc (.cells #[.int .i64 c.t, .int .i64 c.wd, .int .i64 c.s, .int .i64 c.g, .int .i64 c.r, .int .i64 c.cp, .int .i64 c.f] 23)).alloc (.cells zc 138)).alloc (.cells zc 138)).there (w.heap.size + 2) 0 V.size) := by
  show World.there _ _ _ _
  rw [hVs]; exact hb2.there
 have ho : Only (w.heap.size + 2) (((w.alloc (.cells #[.int .i64 c.t, .int .i64 c.wd, .int .i64 c.s, .int .i64 c.g, .int .i64 c.r, .int .i64 c.cp, .int .i64 c.f] 23)).alloc (.cells zc 138)).alloc (.cells zc 138)) ((((w.alloc (.cells #[.int .i64 c.t, .int .i64 c.wd, .int .i64 c.s, .int .i64 c.g, .int .i64 c.r, .int .i64 c.cp, .int .i64 c.f] 23)).alloc (.cells zc 138)).alloc (.cells zc 138)).setCells (w.heap.size + 2) 0 V.toList) := Only.setCells _ _ _
 have HTA : Hid (TAt ((((w.alloc (.cells #[.int .i64 c.t, .int .i64 c.wd, .int .i64 c.s, .int .i64 c.g, .int .i64 c.r, .int .i64 c.cp, .int .i64 c.f] 23)).alloc (.cells zc 138)).alloc (.cells zc 138)).setCells (w.heap.size + 2) 0 V.toList) (w.heap.size + 2) 0 [] [] (t0 c i []) (L0 none 0)) := by
  have h1 := hb2.setCells V.toList (by rw [Array.length_toList, hVs]; rfl)
  have h2 : Seg _ (w.heap.size + 2) 0 138 [] [] V.toList := Blk.seg (z := 0) (A := []) (B := []) (L := []) h1
  rw [hV] at h2 ⊢
  exact h2
 have HRB : Hid (Blk ((((w.alloc (.cells #[.int .i64 c.t, .int .i64 c.wd, .int .i64 c.s, .int .i64 c.g, .int .i64 c.r, .int .i64 c.cp, .int .i64 c.f] 23)).alloc (.cells zc 138)).alloc (.cells zc 138)).setCells (w.heap.size + 2) 0 V.toList) (w.heap.size + 1) 138 zc) := hb1.only ho (by omega)
 have HBl : Hid (Below w.heap.size w ((((w.alloc (.cells #[.int .i64 c.t, .int .i64 c.wd, .int .i64 c.s, .int .i64 c.g, .int .i64 c.r, .int .i64 c.cp, .int .i64 c.f] 23)).alloc (.cells zc 138)).alloc (.cells zc 138)).setCells (w.heap.size + 2) 0 V.toList)) := below_onto hB3 ho (by omega) (by omega)
 clear hj hB3 hs3 hb2 hb1 ho
 obtain ⟨tb, htb⟩ : ∃ tb, tb = w.heap.size + 2 := ⟨_, rfl⟩
 obtain ⟨rb, hrb⟩ : ∃ rb, rb = w.heap.size + 1 := ⟨_, rfl⟩
 go_enter Tryz.func121, Tryz.ntmps121
 go_wp2_with
  (refine wpList_store_mid (by rfl) 138 _ _ (by rfl) (w.heap.size + 2) 0 V (by rfl) (by rw [HV.out]; rfl) (by exact HT.out) (by rw [hVs]; exact Tryz.size138) hV1 ?_;
      show wpList _ _ _ _ _ ((((w.alloc (.cells #[.int .i64 c.t, .int .i64 c.wd, .int .i64 c.s, .int .i64 c.g, .int .i64 c.r, .int .i64 c.cp, .int .i64 c.f] 23)).alloc (.cells zc 138)).alloc (.cells zc 138)).setCells (w.heap.size + 2) 0 V.toList);
      clear HT;
      generalize (((w.alloc (.cells #[.int .i64 c.t, .int .i64 c.wd, .int .i64 c.s, .int .i64 c.g, .int .i64 c.r, .int .i64 c.cp, .int .i64 c.f] 23)).alloc (.cells zc 138)).alloc (.cells zc 138)).setCells (w.heap.size + 2) 0 V.toList = w9 at *)
 rw [show w.heap.size + 1 + 1 = tb from htb.symm, ← hrb]
 rw [← htb] at HTA
 rw [← hrb] at HRB
 have hjl1 : jobs.length ≤ 8 := hjl
 obtain ⟨iz, hiz, hz0, hz1, hz2⟩ := info_parts Tryz.info3
 have HTb : Hid (tb = w.heap.size + 2 ∧ rb = w.heap.size + 1) := ⟨htb, hrb⟩
 clear htb hrb hVs hV1 HV hV
 go_loopg [15] (jobs.length + 1) (fun m t15 wr => ∃ (k : Nat) (ma : Option Addr) (mc : Nat), t15 = .int .i64 (k : Int) ∧ k ≤ jobs.length ∧ m = jobs.length + 1 - k ∧ Hid (Below w.heap.size w wr) ∧ Hid (TAt wr tb 0 [] [] (t0 c i (mineF i 0 (jobs.take k))) (L0 ma mc)) ∧
     Hid (wr.ownsRow w.heap.size 3 1 (.slice ma (mineF i 0 (jobs.take k)).length mc) (mineF i 0 (jobs.take k)).length (intCells (mineF i 0 (jobs.take k)))) ∧ Hid (Blk wr rb 138 zc))
 case atStart => exact ⟨0, none, 0, rfl, by omega, by omega, HBl, HTA, World.ownsRow_nil _ _ _ _, HRB⟩
 case round =>
  obtain ⟨k, ma, mc, rfl, hk, hgk, HB, HTk, HMk, HRk⟩ := hrel
  clear HBl HTA HRB
  have hml : (mineF i 0 (jobs.take k)).length ≤ 8 := by
   have h1 := mineF_len i (jobs.take k) 0
   have h2 : (jobs.take k).length ≤ jobs.length := by simp; omega
   omega
  have hk0 : (0 : Int) ≤ (k : Int) := by omega
  by_cases hlt : k < jobs.length
  ·obtain ⟨js, q1, q2, q3⟩ := (HJ.out).up HB.out
   obtain ⟨b, off, hja, hbl, hc0, hc1⟩ := q2 k (by omega)
   have hth := (q3 k (by omega)).1
   rw [hth] at hc0
   subst hja
   have hk1 : (k : Int) < (jobs.length : Int) := by omega
   have hwk : IntKind.i64.wrap ((k : Int) + 1) = (k : Int) + 1 := wrapP _ (by omega) (by omega)
   have hsn : mineF i 0 (jobs.take (k + 1)) = mineF i 0 (jobs.take k) ++ (if (jobs.getD k (0, [])).1 = i then [(k : Int)] else []) := by
    have e : jobs.take (k + 1) = jobs.take k ++ [jobs.getD k (0, [])] := by
     rw [List.take_add_one, List.getElem?_eq_getElem hlt]
     simp [List.getD, List.getElem?_eq_getElem hlt]
    rw [e, mineF_snoc]
    simp [Nat.min_eq_left (Nat.le_of_lt hlt)]
   have HSn : Hid (mineF i 0 (jobs.take (k + 1)) = mineF i 0 (jobs.take k) ++ (if (jobs.getD k (0, [])).1 = i then [(k : Int)] else [])) := hsn
   obtain ⟨th, hthv⟩ : ∃ th, th = (jobs.getD k (0, [])).1 := ⟨_, rfl⟩
   rw [← hthv] at hc0 HSn
   have hbw : b < wr.heap.size := by have := (HB.out).size; omega
   clear q1 q2 q3 hth hsn hthv
   generalize hmk : mineF i 0 (jobs.take k) = mk at *
   have hBa : Below w.heap.size w (wr.alloc (.cells #[.int .i64 th, .slice (jobAt js k).a (jobAt js k).len (jobAt js k).cap] 88)) := (HB.out).trans ((Below.refl _ _).alloc (HB.out).size _)
   have hBw : Below wr.heap.size wr (wr.alloc (.cells #[.int .i64 th, .slice (jobAt js k).a (jobAt js k).len (jobAt js k).cap] 88)) := (Below.refl _ _).alloc (Nat.le_refl _) _
   cases hin : (th == i) with
   | false =>
    have HM2 : Hid (mineF i 0 (jobs.take (k + 1)) = mk) := by
     show _ = mk
     rw [HSn.out, if_neg (by simpa using hin)]
     simp
    go_wp2
    go_roundg (gk - 1)
    case rel =>
     refine ⟨k + 1, ma, mc, by simp, by omega, by omega, hBa, ?_, ?_, ?_⟩
     ·show TAt _ tb 0 [] [] (t0 c i (mineF i 0 (jobs.take (k + 1)))) (L0 ma mc)
      rw [HM2.out]; exact (HTk.out).below hBw
     ·show World.ownsRow _ _ _ _ _ _ _
      rw [HM2.out]; exact (HMk.out).alloc _
     ·exact (HRk.out).below hBw (HRk.out).lt
    case measure => omega
   | true =>
    have HM2 : Hid (mineF i 0 (jobs.take (k + 1)) = mk ++ [(k : Int)]) := by
     show _ = mk ++ _
     rw [HSn.out, if_pos (by simpa using hin)]
    have HTq : Hid (TAt (wr.alloc (.cells #[.int .i64 th, .slice (jobAt js k).a (jobAt js k).len (jobAt js k).cap] 88)) tb 0 [] [] (t0 c i mk) (L0 ma mc)) := (HTk.out).below hBw
    have HMq : Hid ((wr.alloc (.cells #[.int .i64 th, .slice (jobAt js k).a (jobAt js k).len (jobAt js k).cap] 88)).ownsRow w.heap.size 3 1 (.slice ma mk.length mc) mk.length (intCells mk)) := (HMk.out).alloc _
    have HRq : Hid (Blk (wr.alloc (.cells #[.int .i64 th, .slice (jobAt js k).a (jobAt js k).len (jobAt js k).cap] 88)) rb 138 zc) := (HRk.out).below hBw (HRk.out).lt
    have HBq : Hid (Below w.heap.size w (wr.alloc (.cells #[.int .i64 th, .slice (jobAt js k).a (jobAt js k).len (jobAt js k).cap] 88))) := hBa
    have hsq : w.heap.size ≤ (wr.alloc (.cells #[.int .i64 th, .slice (jobAt js k).a (jobAt js k).len (jobAt js k).cap] 88)).heap.size := hBa.size
    clear HTk HMk HRk HB hBa hBw
    go_upto_region 6 with fail
    generalize wr.alloc (.cells #[.int .i64 th, .slice (jobAt js k).a (jobAt js k).len (jobAt js k).cap] 88) = wq at *
    have k8 : wq.cell? ⟨tb, 8, none⟩ = some (.slice ma mk.length mc) := (HTq.out).cMine
    have kf8 : wq.frozen? ⟨tb, 8, none⟩ = false := (HTq.out).froz _
    have hxlt : tb < wq.heap.size := (HTq.out).lt
    have hpne : (Value.slice ma mk.length mc).ownBlock ≠ some tb := fun q => own_tag HMq.out (HTq.out).2 (by decide) tb q rfl
    clear hc0 hc1
    go_wp2_with
     (at_builtin;
         refine wpList_append_lies _ (by rfl) _ _ _ (by rfl) w.heap.size 3 iz _ 1 8 Tryz.underlying24 hiz hz0 hz1 hz2 rfl (by omega) (.slice ma mk.length mc) mk.length (intCells mk) (by rfl) ((HMq.out).alloc _)
          ⟨wq.heap.size, 0, none⟩ 1 1 [.int .i64 (k : Int)] (by rfl) (by rfl) (World.news_of_block (cs := #[.int .i64 (k : Int)]) (t := 3) (fr := (0, 0)) (heap_alloc_new wq _)) (by simp [Value.oneCell'])
          (by omega) (by unfold maxLen; omega) (by omega) (by simp; omega) (wq.heap.size + 1) (by simp) ?_;
         intro gg cap w7 hown1 hgrow hat hlt7;
         have hd8 : w7.cell? ⟨tb, 8, none⟩ = some (.slice ma mk.length mc) := (by rw [hgrow.cell_far _ (by simp; omega) (Ne.symm hpne)]; simpa [World.cell?_alloc_lt, hxlt] using k8);
         have he8 : w7.frozen? ⟨tb, 8, none⟩ = false := (by rw [hgrow.frozen_far _ (by simp; omega) (Ne.symm hpne)]; simpa [World.frozen?_alloc_past, hxlt] using kf8))
    have hB0 : Below wq.heap.size wq (wq.alloc (.cells #[.int .i64 (k : Int)] 3)) := (Below.refl _ _).alloc (Nat.le_refl _) _
    have hT0 : TAt (wq.alloc (.cells #[.int .i64 (k : Int)] 3)) tb 0 [] [] (t0 c i mk) (L0 ma mc) := (HTq.out).below hB0
    have hM0 : (wq.alloc (.cells #[.int .i64 (k : Int)] 3)).ownsRow w.heap.size 3 1 (.slice ma mk.length mc) mk.length (intCells mk) := (HMq.out).alloc _
    have hT7 : TAt w7 tb 0 [] [] (t0 c i mk) (L0 ma mc) := tat_grown hT0 hM0 (by decide) hgrow
    have hT8 : TAt (w7.setCell ⟨tb, 8, none⟩ (.slice (some ⟨gg, 0, none⟩) (mk.length + 1) cap)) tb 0 [] [] (t0 c i (mk ++ [(k : Int)])) (L0 (some ⟨gg, 0, none⟩) cap) := hT7.set 8 (by decide) _ (by simp [tArr, t0, L0])
    have ho8 : Only tb w7 (w7.setCell ⟨tb, 8, none⟩ (.slice (some ⟨gg, 0, none⟩) (mk.length + 1) cap)) := (Only.refl _ _).set
    have hM8 : World.ownsRow (w7.setCell ⟨tb, 8, none⟩ (.slice (some ⟨gg, 0, none⟩) (mk.length + 1) cap)) w.heap.size 3 1 (.slice (some ⟨gg, 0, none⟩) (mk ++ [(k : Int)]).length cap) (mk ++ [(k : Int)]).length (intCells (mk ++ [(k : Int)])) := by
     have := ownsRow_only hown1 ho8 (own_tag hown1 hT7.2 (by decide))
     simpa [intCells] using this
    have hrow : ∀ q, (Value.slice ma mk.length mc).ownBlock = some q → w.heap.size ≤ q := fun q hq => (hM0.lt q hq).1
    have hB8 : Below w.heap.size w (w7.setCell ⟨tb, 8, none⟩ (.slice (some ⟨gg, 0, none⟩) (mk.length + 1) cap)) := by
     have h1 := (HBq.out).trans (hB0.mono hsq)
     refine below_onto (w' := w7) ⟨hgrow.os.trans h1.os, hgrow.tape.trans h1.tape, hgrow.output.trans h1.output, Nat.le_trans h1.size hgrow.size, fun q hq => ?_⟩ ho8 (by have := (HTb.out).1; omega) (by have := hgrow.size; have := hB0.size; omega)
     rw [hgrow.block q (by have := hB0.size; omega) (fun e => by have := hrow q e.symm; omega)]
     exact h1.block q hq
    have hR8 : Blk (w7.setCell ⟨tb, 8, none⟩ (.slice (some ⟨gg, 0, none⟩) (mk.length + 1) cap)) rb 138 zc := by
     have hr0 := (HRq.out).below hB0 (HRq.out).lt
     refine Blk.only ?_ ho8 (by have := HTb.out; omega)
     refine (hgrow.block rb hr0.lt (fun e => ?_)).trans hr0
     exact own_tag hM0 hr0 (by decide) rb e.symm rfl
    go_roundg (gk - 1)
    case rel =>
     refine ⟨k + 1, some ⟨gg, 0, none⟩, cap, by simp, by omega, by omega, hB8, ?_, ?_, hR8⟩
     ·show TAt _ tb 0 [] [] (t0 c i (mineF i 0 (jobs.take (k + 1)))) _
      rw [HM2.out]; exact hT8
     ·show World.ownsRow _ _ _ _ _ _ _
      rw [HM2.out]; exact hM8
    case measure => omega
  ·have hkj : k = jobs.length := by omega
   subst hkj
   rw [List.take_length] at HTk HMk hml
   have hk2 : ¬ ((jobs.length : Int) < (jobs.length : Int)) := by omega
   clear HJ
   go_wp2_with fail
   refine (t_begin tb 0 [] [] (t0 c i (mineF i 0 jobs)) (L0 ma mc) _ HTk.out).mono ?_
   rintro e w2 ⟨rfl, a1, a2⟩
   obtain ⟨T, hT⟩ : ∃ T, T = tArr (yBegin (t0 c i (mineF i 0 jobs))) (L0 ma mc) := ⟨_, rfl⟩
   have hTl : T.length = 47 := by rw [hT]; rfl
   have hT1 : T.toArray.all (·.oneCell') = true := by
    rw [hT]
    unfold yBegin yLoad
    split <;> simp [tArr, t0, L0, Value.oneCell']
   have HRg : Hid (w2.rangeAt tb 0 T) := by show World.rangeAt _ _ _ _; rw [hT]; exact TAt.range a1
   have HRb : Hid (Blk w2 rb 138 zc) := (HRk.out).only a2 (by have := HTb.out; omega)
   have HTh : Hid (w2.there rb 0 T.toArray.size) := by show World.there _ _ _ _; rw [show T.toArray.size = 47 from by simp [hTl]]; exact (HRb.out).there
   have HB2 : Hid (Below w.heap.size w w2) := below_onto HB.out a2 (by have := (HTb.out).1; omega) (HB.out).size
   have HM2 : Hid (w2.ownsRow w.heap.size 3 1 (.slice ma (mineF i 0 jobs).length mc) (mineF i 0 jobs).length (intCells (mineF i 0 jobs))) := ownsRow_only HMk.out a2 (own_tag HMk.out (HTk.out).2 (by decide))
   have HTe : Hid (T = tArr (yBegin (t0 c i (mineF i 0 jobs))) (L0 ma mc)) := hT
   clear HTk HMk HRk HB a1 a2 hT
   go_wp2_with
    (first
        | (refine wpList_load_mid (by rfl) 138 _ (by rfl) tb 0 (by rfl) T _ HRg.out Tryz.underlying138 (by rfl) (by rw [hTl]; exact Tryz.size138) ?_)
        | (refine wpList_store_mid (by rfl) 138 _ _ (by rfl) rb 0 T.toArray (by rfl) (by rfl) HTh.out (by rw [show T.toArray.size = 47 from by simp [hTl]]; exact Tryz.size138) hT1 ?_))
   have hB3 := (HRb.out).setCells T (by rw [hTl]; rfl)
   have ho3 : Only rb w2 (w2.setCells rb 0 T) := Only.setCells _ _ _
   (try simp only [Exit.inBlock, Exit.then])
   refine bodyPost_ret (v := .agg T.toArray) ?_ rfl ⟨ma, mc, by rw [HTe.out], ownsRow_only HM2.out ho3 (own_tag HM2.out HRb.out (by decide)), below_onto HB2.out ho3 (by have := (HTb.out).2; omega) (HB2.out).size⟩
   have hrg : (w2.setCells rb 0 T).rangeAt rb 0 T := World.rangeAt_setCells_same w2 rb 0 T (by have := HTh.out; simpa using this)
   have hld := run_loadVar_mid (P := Tryz.prog) (w2.setCells rb 0 T) rb 0 138 T _ hrg Tryz.underlying138 (by rfl) (by rw [hTl]; exact Tryz.size138)
   rw [results_cell rfl]
   show ((asAddr (.pointer (some ⟨rb, 0, none⟩))).run Tryz.prog (w2.setCells rb 0 T)).andThen _ = _
   simp only [asAddr, Sem.run_pure, Result.andThen_ok]
   exact hld
def NewIs (base : Nat) (mem : List Int) (w : World) (e : Ending) (w' : World) : Prop :=
 ∃ nb, e = .returned (.agg #[.slice (some ⟨nb, 0, none⟩) (base + mem.length) (base + mem.length)]) ∧ Blk w' nb 3 ((List.replicate base (0 : Int) ++ mem).map (Value.int .i64 ·)).toArray ∧ Below w.heap.size w w' ∧ w.heap.size ≤ nb
set_option maxRecDepth 100000 in
set_option maxHeartbeats 4000000 in
theorem newCells_any (c : Cfg) (base : Nat) (ma : Option Addr) (mc : Nat) (mem : List Int) (w : World) (hb : (base : Int) = 3 + 2 * c.s + c.t) (hm1 : 1 ≤ mem.length) (hm2 : mem.length ≤ 8) (g1 : 0 ≤ c.s) (g2 : c.s ≤ 100) (t1 : 0 ≤ c.t) (t2 : c.t ≤ 100) (hm : Ints w w.heap.size ma mem) :
  Calls Tryz.prog 120 #[.agg #[.int .i64 c.t, .int .i64 c.wd, .int .i64 c.s, .int .i64 c.g, .int .i64 c.r, .int .i64 c.cp, .int .i64 c.f], .slice ma mem.length mc] w (NewIs base mem w) := by
 have HI : Hid (Ints w w.heap.size ma mem) := hm
 have HB : Hid ((base : Int) = 3 + 2 * c.s + c.t) := hb
 have hbs : base ≤ 303 := by omega
 obtain ⟨N, hN⟩ : ∃ N, N = base + mem.length := ⟨_, rfl⟩
 have hmk := run_make3 N (by omega)
 obtain ⟨Z, hZ⟩ : ∃ Z, Z = List.replicate N (Value.int .i64 0) := ⟨_, rfl⟩
 have hZl : Z.length = N := by rw [hZ]; simp
 rw [← hZ] at hmk
 obtain ⟨i0, h1, h2, h3, h4⟩ := info_parts Tryz.info3
 have hsz : (Tryz.prog.info? 3).map (·.size) = some 1 := by rw [h1]; simp [h3]
 obtain ⟨CS, hCS⟩ : ∃ CS, CS = mem.map (Value.int .i64 ·) := ⟨_, rfl⟩
 have hCl : CS.length = mem.length := by rw [hCS]; simp
 have HOne : Hid (∀ v ∈ CS, v.oneCell' = true) := fun v hv => by
  rw [hCS] at hv
  obtain ⟨z, _, rfl⟩ := List.mem_map.1 hv
  rfl
 have HSp : Hid ((splice Z base CS) = ((List.replicate base (0 : Int) ++ mem).map (Value.int .i64 ·))) := by
  show _ = _
  unfold splice
  rw [hCS, hZ, hN]
  simp
 have HSrc : Hid (∀ wx : World, Below w.heap.size w wx → 0 < CS.length → ∃ ad, ma = some ad ∧ ∀ j v, CS[j]? = some v → wx.cell? (ad.add j) = some v) := fun wx hbx hp => by
  obtain ⟨b, off, ha, hlt, hc⟩ := HI.out 0 (by omega)
  refine ⟨_, ha, fun j v hj => ?_⟩
  have hjl : j < mem.length := by have := (List.getElem?_eq_some_iff.1 hj).1; omega
  obtain ⟨b', off', ha', hlt', hc'⟩ := HI.out j hjl
  rw [ha] at ha'
  cases ha'
  rw [hCS, List.getElem?_map, List.getElem?_eq_getElem hjl] at hj
  simp at hj
  subst hj
  have hcell : wx.cell? ⟨b, off + j, none⟩ = w.cell? ⟨b, off + j, none⟩ := World.cell?_of_block (hbx.block b hlt)
  rw [show ((⟨b, off, none⟩ : Addr).add j) = ⟨b, off + j, none⟩ from by simp [Addr.add], hcell, hc']
  simp [List.getD, List.getElem?_eq_getElem hjl]
 have HN : Hid (N = base + mem.length) := hN
 have hw1 : hWrd ⟨c, 0, []⟩ (mem.length : Int) = (N : Int) := by unfold hWrd; simp only; omega
 have hw0 : hWrd ⟨c, 0, []⟩ 0 = (base : Int) := by unfold hWrd; simp only; omega
 have HW1 : Hid (hWrd ⟨c, 0, []⟩ (mem.length : Int) = (N : Int)) := hw1
 have HW0 : Hid (hWrd ⟨c, 0, []⟩ 0 = (base : Int)) := hw0
 have hN1 : base ≤ N := by omega
 have hNm : N - base = mem.length := by omega
 clear hm hb hCS h2 h3 h4 hZ hw1 hw0 hN
 go_enter Tryz.func120, Tryz.ntmps120
 go_wp2_with fail
 obtain ⟨w1, hw1⟩ : ∃ w1, w1 = (w.alloc (.cells #[.int .i64 c.t, .int .i64 c.wd, .int .i64 c.s, .int .i64 c.g, .int .i64 c.r, .int .i64 c.cp, .int .i64 c.f] 23)).alloc (.cells #[.slice none 0 0] 122) := ⟨_, rfl⟩
 obtain ⟨ob, hob⟩ : ∃ ob, ob = w.heap.size := ⟨_, rfl⟩
 have hB1 : Below w.heap.size w w1 := by rw [hw1]; exact ((Below.refl _ _).alloc (Nat.le_refl _) _).alloc (by simp) _
 have HC1 : Hid (Blk w1 ob 23 #[.int .i64 c.t, .int .i64 c.wd, .int .i64 c.s, .int .i64 c.g, .int .i64 c.r, .int .i64 c.cp, .int .i64 c.f]) := by rw [hw1, hob]; exact (Blk.new w 23 _).alloc _
 have HR1 : Hid (Blk w1 (ob + 1) 122 #[.slice none 0 0]) := by
  have := Blk.new (w.alloc (.cells #[.int .i64 c.t, .int .i64 c.wd, .int .i64 c.s, .int .i64 c.g, .int .i64 c.r, .int .i64 c.cp, .int .i64 c.f] 23)) 122 #[.slice none 0 0]
  rw [hw1, hob]
  exact (by simpa using this : Blk _ (w.heap.size + 1) 122 _)
 have HB1 : Hid (Below w.heap.size w w1) := hB1
 have hs1 : ob + 2 ≤ w1.heap.size := by rw [hw1, hob]; simp
 have HOb : Hid (w.heap.size = ob) := hob.symm
 rw [← hw1, ← hob]
 clear hw1 hob hB1
 refine (wordCell_any c ⟨c, 0, []⟩ rfl _ w1 (by omega) (by omega) g1 (by omega) t1 (by omega)).mono ?_
 rintro e w2 ⟨rfl, hb2⟩
 rw [show hWrd ⟨c, 0, []⟩ (mem.length : Int) = (N : Int) from HW1.out]
 have HC2 : Hid (Blk w2 ob 23 #[.int .i64 c.t, .int .i64 c.wd, .int .i64 c.s, .int .i64 c.g, .int .i64 c.r, .int .i64 c.cp, .int .i64 c.f]) := (HC1.out).below hb2 (by omega)
 have HR2 : Hid (Blk w2 (ob + 1) 122 #[.slice none 0 0]) := (HR1.out).below hb2 (by omega)
 have HB2 : Hid (Below w.heap.size w w2) := (HB1.out).trans (hb2.mono (HB1.out).size)
 have hs2 : ob + 2 ≤ w2.heap.size := Nat.le_trans hs1 hb2.size
 have hcc := (HC2.out).cell
 clear HC1 HR1 HB1 hb2 hs1
 have hcn : ob ≠ w2.heap.size := by omega
 have hlt2 : ob < w2.heap.size := by omega
 go_wp2_with fail
 obtain ⟨w3, hw3⟩ : ∃ w3, w3 = w2.alloc (.cells Z.toArray 3) := ⟨_, rfl⟩
 obtain ⟨nb, hnb⟩ : ∃ nb, nb = w2.heap.size := ⟨_, rfl⟩
 have hB23 : Below w2.heap.size w2 w3 := by rw [hw3]; exact (Below.refl _ _).alloc (Nat.le_refl _) _
 have HZ3 : Hid (Blk w3 nb 3 Z.toArray) := by rw [hw3, hnb]; exact Blk.new w2 3 _
 have HR3 : Hid (Blk w3 (ob + 1) 122 #[.slice none 0 0]) := (HR2.out).below hB23 (by omega)
 have HB3 : Hid (Below w.heap.size w w3) := (HB2.out).trans (hB23.mono (HB2.out).size)
 have hnb3 : ob + 2 ≤ nb := by omega
 rw [← hw3, ← hnb]
 clear hw3 hnb hB23 HC2 HR2 HB2 hcc hcn hlt2 hs2
 refine (wordCell_any c ⟨c, 0, []⟩ rfl 0 w3 (by omega) (by omega) g1 (by omega) t1 (by omega)).mono ?_
 rintro e w4 ⟨rfl, hb4⟩
 rw [show hWrd ⟨c, 0, []⟩ 0 = (base : Int) from HW0.out]
 have HZ4 : Hid (Blk w4 nb 3 Z.toArray) := (HZ3.out).below hb4 (HZ3.out).lt
 have HR4 : Hid (Blk w4 (ob + 1) 122 #[.slice none 0 0]) := (HR3.out).below hb4 (HR3.out).lt
 have HB4 : Hid (Below w.heap.size w w4) := (HB3.out).trans (hb4.mono (HB3.out).size)
 clear HZ3 HR3 HB3 hb4
 have hb0 : (0 : Int) ≤ (base : Int) := by omega
 have hb1 : (base : Int) ≤ (N : Int) := by omega
 have HFit : Hid (base + CS.length ≤ Z.length) := by show _ ≤ _; omega
 have HLe : Hid (w.heap.size ≤ nb) := by have := HOb.out; show _ ≤ _; omega
 have HLr : Hid (ob + 1 < w4.heap.size) := (HR4.out).lt
 have hrn : ob + 1 ≠ nb := by omega
 have hrc := (HR4.out).cell
 have hrf := (HR4.out).frozen
 go_wp2_with
  (refine wpList_copy_splice (by rfl) _ _ _ _ (by rfl) 3 Tryz.underlying24 hsz (some ⟨nb, base, none⟩) ma mem.length mem.length mem.length mc (by rfl) (by rfl) nb base Z 3 (by exact HZ4.out) CS (by rw [hCl]; simp)
       (fun hp => ⟨rfl, HSrc.out _ HB4.out hp⟩) HFit.out HOne.out nb w4 (by exact Below.refl _ _) (Nat.le_refl _) ?_;
      intro w5 hrow hbel;
      have HR5 : Hid (Blk w5 (ob + 1) 122 #[.slice none 0 0]) := (HR4.out).below hbel (by omega);
      have hrc5 := (HR5.out).cell;
      have hrf5 := (HR5.out).frozen)
 have hs := (HR5.out).set (i := 0) (v := .slice (some ⟨nb, 0, none⟩) N N)
 have ho : Only (ob + 1) w5 (w5.setCell ⟨ob + 1, 0, none⟩ (.slice (some ⟨nb, 0, none⟩) N N)) := (Only.refl _ _).set
 have hq : (w5.setCell ⟨ob + 1, 0, none⟩ (.slice (some ⟨nb, 0, none⟩) N N)).cell? ⟨ob + 1, 0, none⟩ = some (.slice (some ⟨nb, 0, none⟩) N N) := by rw [hs.cell]; simp
 refine bodyPost_ret (v := .agg #[.slice (some ⟨nb, 0, none⟩) N N]) (by simp [results, Tryz.results120, go_sem, hq]) rfl ⟨nb, ?_, ?_, ?_, HLe.out⟩
 ·rw [HN.out]
 ·have h : Blk w5 nb 3 (splice Z base CS).toArray := hrow.out
  rw [HSp.out] at h
  exact h.only ho (by omega)
 ·exact below_only ((HB4.out).trans (hbel.mono HLe.out)) ho (by have := HOb.out; omega) ((HB4.out).trans (hbel.mono HLe.out)).size
def tInit (c : Cfg) (jobs : List (Int × List InsD)) (i : Nat) : PT := yBegin (t0 c i (mineF i 0 jobs))
theorem init_sim (c : Cfg) (jobs : List (Int × List InsD)) (i : Nat) : Sim (cxOf c jobs i) (tInit c jobs i) (hInit (cxOf c jobs i)) := by
 have hT : TolF (cxOf c jobs i) (mineF i 0 jobs) 0 [] (t0 c i (mineF i 0 jobs)).told [] ((cxOf c jobs i).jobs.map fun _ => ⟨0, 0, 0, 0, 0⟩) := by
  refine ⟨rfl, Nat.zero_le _, Or.inl rfl, by simp, rfl, fun j hj => absurd hj (Nat.not_lt_zero _), fun j _ => ?_⟩
  simp only [List.getD, List.getElem?_map]
  cases (cxOf c jobs i).jobs[j]? <;> rfl
 unfold tInit hInit hTo
 rcases seek_mine (cxOf c jobs i).me (cxOf c jobs i).jobs ((cxOf c jobs i).jobs.drop 0) 0 rfl with ⟨h1, h2⟩ | ⟨k, h1, h2, h3, h4⟩
 ·rw [h1]
  have h2' : mineF (i : Int) 0 jobs = [] := by simpa [cxOf] using h2
  unfold yBegin
  rw [if_neg (show ¬ (t0 c i (mineF i 0 jobs)).cur < (t0 c i (mineF i 0 jobs)).mine.length by show ¬ 0 < (mineF (i : Int) 0 jobs).length; rw [h2']; simp)]
  exact Or.inl ⟨rfl, rfl, hT⟩
 ·rw [h1]
  have h4' : mineF (i : Int) 0 jobs = (k : Int) :: mineF (i : Int) (k + 1) (jobs.drop (k + 1)) := by simpa [cxOf] using h4
  have b1 : Bas (cxOf c jobs i) (t0 c i (mineF i 0 jobs)) { (⟨0, 0, [], (cxOf c jobs i).jobs.map fun _ => ⟨0, 0, 0, 0, 0⟩, 0, newTS [] 0, .idle⟩ : Th) with rank := 0, fails := 0, job := k, st := .start } := ⟨rfl, rfl, rfl, rfl, h2, h3, h4', hT⟩
  exact sim_start b1 rfl
theorem init_own (c : Cfg) (jobs : List (Int × List InsD)) (i : Nat) (hj : jobs.length ≤ 8) : Own5 0 (tInit c jobs i) := by
 have h := mineF_len (i : Int) jobs 0
 unfold tInit yBegin
 split
 ·exact ⟨⟨Int.le_refl _, Int.le_refl _⟩, by show (mineF (i : Int) 0 jobs).length ≤ 100; omega, Nat.zero_le _, by show (0 : Int) ≤ 8; decide, by show ((0 : Nat) : Int) ≤ 60 * 0; decide⟩
 ·exact ⟨⟨Int.le_refl _, Int.le_refl _⟩, by show (mineF (i : Int) 0 jobs).length ≤ 100; omega, Nat.zero_le _, by show (0 : Int) ≤ 8; decide, by show ((0 : Nat) : Int) ≤ 60 * 0; decide⟩
theorem init_rows {base : Nat} {w : World} {c : Cfg} {jobs : List (Int × List InsD)} {i : Nat} {ma : Option Addr} {mc : Nat} (h : w.ownsRow base 3 1 (.slice ma (mineF i 0 jobs).length mc) (mineF i 0 jobs).length (intCells (mineF i 0 jobs))) : RowsOk base w (tInit c jobs i) (L0 ma mc) := by
 have e : (tInit c jobs i).reads = [] ∧ (tInit c jobs i).writes = [] ∧ (tInit c jobs i).held = [] ∧ (tInit c jobs i).mine = mineF i 0 jobs ∧ (tInit c jobs i).notes = [] ∧ (tInit c jobs i).res = [] := by unfold tInit yBegin yLoad; split <;> exact ⟨rfl, rfl, rfl, rfl, rfl, rfl⟩
 obtain ⟨e1, e2, e3, e4, e5, e6⟩ := e
 refine ⟨?_, ?_, ?_, ?_, ?_, ?_, ?_⟩
 ·rw [e1]; exact World.ownsRow_nil _ _ _ _
 ·rw [e2]; exact World.ownsRow_nil _ _ _ _
 ·rw [e3]; exact World.ownsRow_nil _ _ _ _
 ·rw [e4]; exact h
 ·rw [e3]; intro k hk; simp [Value.ownBlock, L0] at hk
 ·rw [e5]; exact World.ownsRow_nil _ _ _ _
 ·rw [e6]; exact World.ownsRow_nil _ _ _ _
theorem L0_own {ma : Option Addr} {mc k : Nat} (h : Own (L0 ma mc) k) : oB ma = some k := by
 unfold Own at h
 simp [L0, oB] at h
 simpa [oB] using h
structure BI (base nb wb sb r2 N cap : Nat) (S : Array Value) (c : Cfg) (jobs : List (Int × List InsD)) (Ds : List Int) (ta : Option Addr) (tcap k : Nat) (q : List (PT × Ls)) (w : World) : Prop where
 setup : Blk w sb 27 S
 res : Blk w r2 125 #[.slice none 0 0, .slice none 0 0, .int .i64 0]
 wst : Blk w wb 125 #[.slice (some ⟨nb, 0, none⟩) N cap, .slice ta k tcap, .int .i64 0]
 num : Blk w nb 3 (Ds.map (Value.int .i64 ·)).toArray
 thr : w.ownsRow base 138 47 (.slice ta k tcap) k (rowsOf q).flatten
 ql : q.length = k
 rows : ∀ i (h : i < q.length), RowsOk base w q[i].1 q[i].2
 dis : ∀ i j (hi : i < q.length) (hj : j < q.length), i ≠ j → ∀ k, Own q[i].2 k → ¬ Own q[j].2 k
 nown : ∀ i (h : i < q.length), ¬ Own q[i].2 nb
 init : ∀ i (h : i < q.length), q[i].1 = tInit c jobs i
 nbb : base ≤ nb
 sne : wb ≠ r2
theorem ownsRow_low {w : World} {base base' : Nat} {e : TypeId} {size n : Nat} {v : Value} {xs : List Value} (h : w.ownsRow base e size v n xs) (hb : base' ≤ base) : w.ownsRow base' e size v n xs :=
 ⟨h.1, h.2.imp id (fun ⟨g, cap, cur, hv, hb', r⟩ => ⟨g, cap, cur, hv, Nat.le_trans hb hb', r⟩)⟩
theorem ownsRow_below {w w' : World} {base : Nat} {e : TypeId} {size n : Nat} {v : Value} {xs : List Value} (h : w.ownsRow base e size v n xs) (hb : Below w.heap.size w w') : w'.ownsRow base e size v n xs :=
 ownsRow_same h (fun k hk => hb.block k (h.lt k hk).2)
theorem BI.below {base nb wb sb r2 N cap : Nat} {S : Array Value} {c : Cfg} {jobs : List (Int × List InsD)} {Ds : List Int} {ta : Option Addr} {tcap k : Nat} {q : List (PT × Ls)} {w w' : World} (I : BI base nb wb sb r2 N cap S c jobs Ds ta tcap k q w) (h : Below w.heap.size w w') :
  BI base nb wb sb r2 N cap S c jobs Ds ta tcap k q w' :=
 ⟨I.setup.below h I.setup.lt, I.res.below h I.res.lt, I.wst.below h I.wst.lt, I.num.below h I.num.lt, ownsRow_below I.thr h, I.ql, fun i hi => (I.rows i hi).kept (fun k o => h.block k ((I.rows i hi).own k o).2), I.dis, I.nown, I.init, I.nbb, I.sne⟩
theorem BI.add {base nb wb sb r2 N cap : Nat} {S : Array Value} {c : Cfg} {jobs : List (Int × List InsD)} {Ds : List Int} {ta : Option Addr} {tcap k : Nat} {q : List (PT × Ls)} {w w5 w6 w7 : World} {ma : Option Addr} {mc g cap' : Nat} (I : BI base nb wb sb r2 N cap S c jobs Ds ta tcap k q w)
  (hb5 : Below w.heap.size w w5) (hm : w5.ownsRow w.heap.size 3 1 (.slice ma (mineF k 0 jobs).length mc) (mineF k 0 jobs).length (intCells (mineF k 0 jobs))) (hbs : base ≤ w.heap.size) (hb6 : Below w5.heap.size w5 w6)
  (hgr : w6.grownBy w7 (Value.slice ta k tcap).ownBlock) (hown : w7.ownsRow base 138 47 (.slice (some ⟨g, 0, none⟩) (k + 1) cap') (k + 1) ((rowsOf q).flatten ++ tArr (tInit c jobs k) (L0 ma mc))) :
  BI base nb wb sb r2 N cap S c jobs Ds (some ⟨g, 0, none⟩) cap' (k + 1) (q ++ [(tInit c jobs k, L0 ma mc)]) (w7.setCell ⟨wb, 1, none⟩ (.slice (some ⟨g, 0, none⟩) (k + 1) cap')) := by
 have I6 := (I.below hb5).below hb6
 have hm6 := ownsRow_below hm hb6
 have tag7 : ∀ {b : Nat} {T : TypeId} {cs : Array Value}, Blk w6 b T cs → (138 : Nat) ≠ T → Blk w7 b T cs := fun h ht => (hgr.block _ h.lt (fun e => own_tag I6.thr h ht _ e.symm rfl)).trans h
 have ho : Only wb w7 (w7.setCell ⟨wb, 1, none⟩ (.slice (some ⟨g, 0, none⟩) (k + 1) cap')) := (Only.refl _ _).set
 have hs7 := tag7 I6.setup (by decide)
 have hr7 := tag7 I6.res (by decide)
 have hw7 := tag7 I6.wst (by decide)
 have hn7 := tag7 I6.num (by decide)
 have row7 : ∀ {e size n : Nat} {v : Value} {xs : List Value} {b0 : Nat}, w6.ownsRow b0 e size v n xs → e ≠ 138 → e ≠ 125 → (w7.setCell ⟨wb, 1, none⟩ (.slice (some ⟨g, 0, none⟩) (k + 1) cap')).ownsRow b0 e size v n xs := fun {e size n v xs b0} h he he2 => by
  have h7 : w7.ownsRow b0 e size v n xs := ownsRow_same h (fun q hq => hgr.block q (h.lt q hq).2 (fun e2 => by
         rcases h.2 with ⟨rfl, _⟩ | ⟨g1, cap1, cur1, rfl, _, hg1, _⟩
         ·simp [Value.ownBlock] at hq
         ·simp [Value.ownBlock] at hq
          subst hq
          exact own_tag I6.thr hg1 (Ne.symm he) _ e2.symm rfl))
  exact ownsRow_only h7 ho (own_tag h7 hw7 he2)
 have rows7 : ∀ {t : PT} {L : Ls}, RowsOk base w6 t L → RowsOk base (w7.setCell ⟨wb, 1, none⟩ (.slice (some ⟨g, 0, none⟩) (k + 1) cap')) t L := fun R => ⟨row7 R.rd (by decide) (by decide), row7 R.wr (by decide) (by decide), row7 R.hd (by decide) (by decide), row7 R.mi (by decide) (by decide), R.ne, row7 R.nt (by decide) (by decide), row7 R.sr (by decide) (by decide)⟩
 have hnew : ∀ b, Own (L0 ma mc) b → w.heap.size ≤ b := fun b o => by
  have := L0_own o
  rw [← oB_eq ma (mineF k 0 jobs).length mc] at this
  exact (hm.lt b this).1
 have hold : ∀ i (hi : i < q.length) b, Own q[i].2 b → b < w.heap.size := fun i hi b o => ((I.rows i hi).own b o).2
 have hget : ∀ i (h : i < (q ++ [(tInit c jobs k, L0 ma mc)]).length), (∃ h' : i < q.length, (q ++ [(tInit c jobs k, L0 ma mc)])[i] = q[i]) ∨ (i = k ∧ (q ++ [(tInit c jobs k, L0 ma mc)])[i] = (tInit c jobs k, L0 ma mc)) := fun i h => by
  by_cases hi : i < q.length
  ·exact Or.inl ⟨hi, List.getElem_append_left hi⟩
  ·have : i = q.length := by simp at h; omega
   subst this
   exact Or.inr ⟨I.ql, by simp⟩
 refine ⟨hs7.only ho (Blk.ne hs7 hw7 (by decide)), hr7.only ho (Ne.symm I.sne), ?_, hn7.only ho (Blk.ne hn7 hw7 (by decide)), ?_, by simp [I.ql], ?_, ?_, ?_, ?_, I.nbb, I.sne⟩
 ·exact hw7.set.congr (by simp)
 ·have := ownsRow_only hown ho (own_tag hown hw7 (by decide))
  unfold rowsOf at this ⊢
  simpa [List.flatten_append] using this
 ·intro i hi
  rcases hget i hi with ⟨h', e⟩ | ⟨e1, e⟩
  ·rw [e]; exact rows7 (I6.rows i h')
  ·rw [e]; exact rows7 (init_rows (ownsRow_low hm6 hbs))
 ·intro a b ha hb hab x oa ob
  rcases hget a ha with ⟨ha', ea⟩ | ⟨ea1, ea⟩ <;> rcases hget b hb with ⟨hb', eb⟩ | ⟨eb1, eb⟩
  ·rw [ea] at oa; rw [eb] at ob; exact I.dis a b ha' hb' hab x oa ob
  ·rw [ea] at oa; rw [eb] at ob; have := hold a ha' x oa; have := hnew x ob; omega
  ·rw [ea] at oa; rw [eb] at ob; have := hold b hb' x ob; have := hnew x oa; omega
  ·omega
 ·intro i hi o
  rcases hget i hi with ⟨h', e⟩ | ⟨e1, e⟩
  ·rw [e] at o; exact I.nown i h' o
  ·rw [e] at o; have := hnew nb o; have := I.num.lt; omega
 ·intro i hi
  rcases hget i hi with ⟨h', e⟩ | ⟨e1, e⟩
  ·rw [e]; exact I.init i h'
  ·rw [e, e1]
end Go.Proofs.YtejadojilncbjabGreat
namespace Go.Proofs.YtejadojilncbjabGreat
open Go.RowKit
set_option linter.unusedVariables false
def avCells (q : AttD × Value) : List Value := attCells q.1 q.2
def NotesOf (w : World) (AN : List (AttD × Value)) : Prop := ∀ q ∈ AN, w.ownsRow 0 93 3 q.2 q.1.notes.length (q.1.notes.flatMap noteCells)
def AttsRow (w : World) (base : Nat) (a : Option Addr) (c : Nat) (AN : List (AttD × Value)) : Prop := w.ownsRow base 82 8 (.slice a AN.length c) AN.length (AN.flatMap avCells)
theorem own_one {w : World} {base e size n : Nat} {v : Value} {xs : List Value} (h : w.ownsRow base e size v n xs) : v.oneCell' = true := by
 rcases h.2 with ⟨rfl, _⟩ | ⟨g, cap, cur, rfl, _⟩ <;> rfl
theorem av_one {w : World} {AN : List (AttD × Value)} (h : NotesOf w AN) : ∀ u ∈ AN.flatMap avCells, u.oneCell' = true := fun u hu => by
 obtain ⟨q, hq, hu⟩ := List.mem_flatMap.1 hu
 simp [avCells, attCells] at hu
 rcases hu with rfl | rfl | rfl | rfl | rfl | rfl | rfl | rfl
 all_goals first
  | rfl
  | exact own_one (h q hq)
theorem av_len (AN : List (AttD × Value)) : (AN.flatMap avCells).length = AN.length * 8 := flat_len (f := avCells) (n := 8) (fun _ => rfl) AN
theorem AttsRow.cells {w : World} {base : Nat} {a : Option Addr} {c : Nat} {AN : List (AttD × Value)} (h : AttsRow w base a c AN) (hn : 0 < AN.length) :
  ∃ b, a = some ⟨b, 0, none⟩ ∧ base ≤ b ∧ b < w.heap.size ∧ ∀ j u, (AN.flatMap avCells)[j]? = some u → w.cell? ⟨b, j, none⟩ = some u := by
 obtain ⟨g, cap, cur, hv, hb, hg, h1, h2, h3, h4⟩ := own_block h hn
 injection hv with ha
 refine ⟨g, ha, hb, lt_of_heap hg, fun j u hj => ?_⟩
 have hl := av_len AN
 have hjl : j < AN.length * 8 := by
  rw [← hl]
  exact (List.getElem?_eq_some_iff.1 hj).1
 rw [Blk.cell hg, ← hj, ← h4, List.getElem?_take_of_lt hjl]
 simp
theorem AttsRow.at {w : World} {base : Nat} {a : Option Addr} {c : Nat} {AN : List (AttD × Value)} (h : AttsRow w base a c AN) (k : Nat) (q : AttD × Value) (hk : AN[k]? = some q) :
  ∃ b, a = some ⟨b, 0, none⟩ ∧ b < w.heap.size ∧ w.cell? ⟨b, k * 8, none⟩ = some (.int .i64 q.1.thread) ∧ w.cell? ⟨b, k * 8 + 1, none⟩ = some (.int .i64 q.1.job) ∧ w.cell? ⟨b, k * 8 + 2, none⟩ = some (.int .i64 q.1.start) ∧ w.cell? ⟨b, k * 8 + 3, none⟩ = some (.int .i64 q.1.fin) ∧
   w.cell? ⟨b, k * 8 + 4, none⟩ = some (.int .i64 q.1.valid) ∧ w.cell? ⟨b, k * 8 + 5, none⟩ = some (.int .i64 q.1.stamp) ∧ w.cell? ⟨b, k * 8 + 6, none⟩ = some (.int .i64 q.1.fate) ∧ w.cell? ⟨b, k * 8 + 7, none⟩ = some q.2 := by
 have hkl := (List.getElem?_eq_some_iff.1 hk).1
 obtain ⟨b, ha, _, hb, hc⟩ := h.cells (by omega)
 have e : ∀ j, j < 8 → w.cell? ⟨b, k * 8 + j, none⟩ = (avCells q)[j]? := fun j hj => by
  have h0 := flat_at (f := avCells) (n := 8) (fun _ => rfl) AN k j hj
  rw [hk] at h0
  have h1 : (AN.flatMap avCells)[k * 8 + j]? = (avCells q)[j]? := by rw [h0]; rfl
  have h2 : (avCells q)[j]? = some ((avCells q)[j]'(by simpa [avCells, attCells] using hj)) := List.getElem?_eq_getElem _
  rw [h2] at h1 ⊢
  exact hc _ _ h1
 exact ⟨b, ha, hb, e 0 (by omega), e 1 (by omega), e 2 (by omega), e 3 (by omega), e 4 (by omega), e 5 (by omega), e 6 (by omega), e 7 (by omega)⟩
theorem starts_len : ∀ (l : List Int) (lo hi : Int), l.Pairwise (· < ·) → (∀ a ∈ l, lo < a ∧ a ≤ hi) → lo ≤ hi → (l.length : Int) ≤ hi - lo
 | [], lo, hi, _, _, h => by simp; omega
 | a :: l, lo, hi, hp, hb, h => by
  have h1 := hb a (by simp)
  have h2 := starts_len l a hi (List.pairwise_cons.1 hp).2 (fun b hb' => ⟨(List.pairwise_cons.1 hp).1 b hb', (hb b (by simp [hb'])).2⟩) h1.2
  simp
  omega
def histA (c : Cfg) (mem : List Int) (jobs : List (Int × List InsD)) (ps : List PickD) : List AttD := if errS c mem jobs = 0 then (⟨c, mem, jobs, ps⟩ : Rn).hist else []
def HistIs (w : World) (l : List AttD) (ER : Int) (e : Ending) (w' : World) : Prop :=
 ∃ (la : Option Addr) (lc : Nat) (AN : List (AttD × Value)), AN.map (·.1) = l ∧ e = .returned (.tuple #[.slice la AN.length lc, .int .i64 ER]) ∧ AttsRow w' w.heap.size la lc AN ∧ NotesOf w' AN ∧ Below w.heap.size w w'
end Go.Proofs.YtejadojilncbjabGreat
