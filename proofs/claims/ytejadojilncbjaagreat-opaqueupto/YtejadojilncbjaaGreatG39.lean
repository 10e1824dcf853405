import Derived.Test.YtejadojilncbjaaGreatG38
import Derived.Deep.Cut
namespace Go.Proofs.YtejadojilncbjaaGreat
open Go.RowKit
set_option linter.unusedVariables false
attribute [local go_sem ↓] Go.wp_at_zero Go.wp_at_succ

/-! The program's thread at its beginning. -/

def t0 (c : Cfg) (i : Int) (mine : List Int) : PT := ⟨c, i, mine, 0, [], 0, 0, 0, 0, ⟨0, 0, 0, 0⟩, 0, 0, 0, 0, 0, 0, 0, [], ⟨[0, 0, 0, 0], 0, 0, 0⟩, ⟨0, 0, 0, 0⟩, [], [], [], 0, 0, 0, 0, 0, 0⟩
def L0 (ma : Option Addr) (mc : Nat) : Ls := ⟨ma, mc, none, 0, none, 0, none, 0, none, 0, none, 0⟩
def zc : Array Value := (tArr (t0 ⟨0, 0, 0, 0, 0, 0, 0⟩ 0 []) (L0 none 0)).toArray

theorem Tryz.size119 : (Tryz.prog.info? 119).map (·.size) = some 47 := by kernel_rfl

theorem mineF_snoc (me : Int) (b : Int × List InsD) : ∀ (l : List (Int × List InsD)) (j : Nat), mineF me j (l ++ [b]) = mineF me j l ++ (if b.1 = me then [((j + l.length : Nat) : Int)] else [])
  | [], j => by
    show (if b.1 = me then (j : Int) :: mineF me (j + 1) [] else mineF me (j + 1) []) = _
    split <;> simp [mineF]
  | a :: l, j => by
    rw [List.cons_append, mineF_cons, mineF_cons, mineF_snoc me b l (j + 1)]
    have e : j + 1 + l.length = j + (a :: l).length := by simp; omega
    rw [e]
    split <;> simp
theorem mineF_len (me : Int) : ∀ (l : List (Int × List InsD)) (j : Nat), (mineF me j l).length ≤ l.length
  | [], j => by simp [mineF]
  | a :: l, j => by
    rw [mineF_cons]
    have := mineF_len me l (j + 1)
    split <;> simp <;> omega

theorem TAt.range {w : World} {p z : Nat} {A B : List Value} {t : PT} {L : Ls} (h : TAt w p z A B t L) : w.rangeAt p z (tArr t L) := fun j v hv => by
  have hj : j < (tArr t L).length := (List.getElem?_eq_some_iff.1 hv).1
  rw [Seg.cell h j hj]
  exact hv
theorem Blk.there {w : World} {b : Nat} {T : TypeId} {cs : Array Value} (h : Blk w b T cs) : w.there b 0 cs.size := fun j hj => by
  refine ⟨?_, h.frozen _⟩
  rw [h.cell]
  simp [hj]
theorem Blk.setCells {w : World} {b : Nat} {T : TypeId} {cs : Array Value} (h : Blk w b T cs) (V : List Value) (hV : V.length = cs.size) : Blk (w.setCells b 0 V) b T V.toArray := by
  have hs : Seg w b 0 T [] [] cs.toList := Blk.seg (z := 0) (A := []) (B := []) (L := []) (cs := cs.toList) (by simpa using h)
  have := Seg.setCells V w [] cs.toList [] 0 rfl (by simpa using hV) (by simpa using hs)
  exact Seg.blk (z := 0) (A := []) (B := []) (by simpa using this)

theorem results_cell {fn : Func} {p : Tmp} {ty : TypeId} (h : fn.results = #[.cell p ty]) (tmps : Array Value) (P : Program) (w : World) :
    (results fn tmps).run P w = ((asAddr (tmps.getD p undef)).run P w).andThen fun a w₁ => (loadVar ty a).run P w₁ := by
  simp only [results, h]
  simp [Sem.run_bind, Result.andThen]

set_option maxRecDepth 100000 in
set_option maxHeartbeats 8000000 in
theorem new_any (c : Cfg) (i : Int) (jobs : List (Int × List InsD)) (ja : Option Addr) (jc : Nat) (w : World) (hj : JobsRep w w.heap.size ja jobs) (hjl : jobs.length ≤ 8) :
    Calls Tryz.prog 80 #[.agg #[.int .i64 c.t, .int .i64 c.wd, .int .i64 c.s, .int .i64 c.g, .int .i64 c.r, .int .i64 c.cp, .int .i64 c.f], .int .i64 i, .slice ja jobs.length jc] w fun e w' =>
      ∃ ma mc, e = .returned (.agg (tArr (yBegin (t0 c i (mineF i 0 jobs))) (L0 ma mc)).toArray) ∧ w'.ownsRow w.heap.size 3 1 (.slice ma (mineF i 0 jobs).length mc) (mineF i 0 jobs).length (intCells (mineF i 0 jobs)) ∧ Below w.heap.size w w' := by
  obtain ⟨V, hV⟩ : ∃ V : Array Value, V = (tArr (t0 c i []) (L0 none 0)).toArray := ⟨_, rfl⟩
  have HV : Hid (V = (tArr (t0 c i []) (L0 none 0)).toArray) := hV
  have hVs : V.size = 47 := by rw [hV]; rfl
  have hV1 : V.all (·.oneCell') = true := by rw [hV]; simp [tArr, t0, L0, Value.oneCell']
  have HJ : Hid (JobsRep w w.heap.size ja jobs) := hj
  have hB3 : Below w.heap.size w (((w.alloc (.cells #[.int .i64 c.t, .int .i64 c.wd, .int .i64 c.s, .int .i64 c.g, .int .i64 c.r, .int .i64 c.cp, .int .i64 c.f] 23)).alloc (.cells zc 119)).alloc (.cells zc 119)) := (((Below.refl _ _).alloc (Nat.le_refl _) _).alloc (by simp) _).alloc (by simp; omega) _
  have hs3 : (((w.alloc (.cells #[.int .i64 c.t, .int .i64 c.wd, .int .i64 c.s, .int .i64 c.g, .int .i64 c.r, .int .i64 c.cp, .int .i64 c.f] 23)).alloc (.cells zc 119)).alloc (.cells zc 119)).heap.size = w.heap.size + 3 := by simp
  have hb2 : Blk (((w.alloc (.cells #[.int .i64 c.t, .int .i64 c.wd, .int .i64 c.s, .int .i64 c.g, .int .i64 c.r, .int .i64 c.cp, .int .i64 c.f] 23)).alloc (.cells zc 119)).alloc (.cells zc 119)) (w.heap.size + 2) 119 zc := by
    have := Blk.new ((w.alloc (.cells #[.int .i64 c.t, .int .i64 c.wd, .int .i64 c.s, .int .i64 c.g, .int .i64 c.r, .int .i64 c.cp, .int .i64 c.f] 23)).alloc (.cells zc 119)) 119 zc
    simpa using this
  have hb1 : Blk (((w.alloc (.cells #[.int .i64 c.t, .int .i64 c.wd, .int .i64 c.s, .int .i64 c.g, .int .i64 c.r, .int .i64 c.cp, .int .i64 c.f] 23)).alloc (.cells zc 119)).alloc (.cells zc 119)) (w.heap.size + 1) 119 zc := by
    have := (Blk.new (w.alloc (.cells #[.int .i64 c.t, .int .i64 c.wd, .int .i64 c.s, .int .i64 c.g, .int .i64 c.r, .int .i64 c.cp, .int .i64 c.f] 23)) 119 zc).alloc (.cells zc 119)
    simpa using this
  have HT : Hid ((((w.alloc (.cells #[.int .i64 c.t, .int .i64 c.wd, .int .i64 c.s, .int .i64 c.g, .int .i64 c.r, .int .i64 c.cp, .int .i64 c.f] 23)).alloc (.cells zc 119)).alloc (.cells zc 119)).there (w.heap.size + 2) 0 V.size) := by
    show World.there _ _ _ _
    rw [hVs]; exact hb2.there
  have ho : Only (w.heap.size + 2) (((w.alloc (.cells #[.int .i64 c.t, .int .i64 c.wd, .int .i64 c.s, .int .i64 c.g, .int .i64 c.r, .int .i64 c.cp, .int .i64 c.f] 23)).alloc (.cells zc 119)).alloc (.cells zc 119)) ((((w.alloc (.cells #[.int .i64 c.t, .int .i64 c.wd, .int .i64 c.s, .int .i64 c.g, .int .i64 c.r, .int .i64 c.cp, .int .i64 c.f] 23)).alloc (.cells zc 119)).alloc (.cells zc 119)).setCells (w.heap.size + 2) 0 V.toList) := Only.setCells _ _ _
  have HTA : Hid (TAt ((((w.alloc (.cells #[.int .i64 c.t, .int .i64 c.wd, .int .i64 c.s, .int .i64 c.g, .int .i64 c.r, .int .i64 c.cp, .int .i64 c.f] 23)).alloc (.cells zc 119)).alloc (.cells zc 119)).setCells (w.heap.size + 2) 0 V.toList) (w.heap.size + 2) 0 [] [] (t0 c i []) (L0 none 0)) := by
    have h1 := hb2.setCells V.toList (by rw [Array.length_toList, hVs]; rfl)
    have h2 : Seg _ (w.heap.size + 2) 0 119 [] [] V.toList := Blk.seg (z := 0) (A := []) (B := []) (L := []) h1
    rw [hV] at h2 ⊢
    exact h2
  have HRB : Hid (Blk ((((w.alloc (.cells #[.int .i64 c.t, .int .i64 c.wd, .int .i64 c.s, .int .i64 c.g, .int .i64 c.r, .int .i64 c.cp, .int .i64 c.f] 23)).alloc (.cells zc 119)).alloc (.cells zc 119)).setCells (w.heap.size + 2) 0 V.toList) (w.heap.size + 1) 119 zc) := hb1.only ho (by omega)
  have HBl : Hid (Below w.heap.size w ((((w.alloc (.cells #[.int .i64 c.t, .int .i64 c.wd, .int .i64 c.s, .int .i64 c.g, .int .i64 c.r, .int .i64 c.cp, .int .i64 c.f] 23)).alloc (.cells zc 119)).alloc (.cells zc 119)).setCells (w.heap.size + 2) 0 V.toList)) := below_onto hB3 ho (by omega) (by omega)
  clear hj hB3 hs3 hb2 hb1 ho
  obtain ⟨tb, htb⟩ : ∃ tb, tb = w.heap.size + 2 := ⟨_, rfl⟩
  obtain ⟨rb, hrb⟩ : ∃ rb, rb = w.heap.size + 1 := ⟨_, rfl⟩
  go_enter Tryz.func80, Tryz.ntmps80
  go_wp2_with
    (refine wpList_store_mid (by rfl) 119 _ _ (by rfl) (w.heap.size + 2) 0 V (by rfl) (by rw [HV.out]; rfl) (by exact HT.out) (by rw [hVs]; exact Tryz.size119) hV1 ?_;
     show wpList _ _ _ _ _ ((((w.alloc (.cells #[.int .i64 c.t, .int .i64 c.wd, .int .i64 c.s, .int .i64 c.g, .int .i64 c.r, .int .i64 c.cp, .int .i64 c.f] 23)).alloc (.cells zc 119)).alloc (.cells zc 119)).setCells (w.heap.size + 2) 0 V.toList);
     clear HT;
     generalize (((w.alloc (.cells #[.int .i64 c.t, .int .i64 c.wd, .int .i64 c.s, .int .i64 c.g, .int .i64 c.r, .int .i64 c.cp, .int .i64 c.f] 23)).alloc (.cells zc 119)).alloc (.cells zc 119)).setCells (w.heap.size + 2) 0 V.toList = w9 at *)
  rw [show w.heap.size + 1 + 1 = tb from htb.symm, ← hrb]
  rw [← htb] at HTA
  rw [← hrb] at HRB
  have hjl1 : jobs.length ≤ 8 := hjl
  obtain ⟨iz, hiz, hz0, hz1, hz2⟩ := info_parts Tryz.info3
  have HTb : Hid (tb = w.heap.size + 2 ∧ rb = w.heap.size + 1) := ⟨htb, hrb⟩
  clear htb hrb hVs hV1 HV hV
  go_loopg [15] (jobs.length + 1) (fun m t15 wr => ∃ (k : Nat) (ma : Option Addr) (mc : Nat), t15 = .int .i64 (k : Int) ∧ k ≤ jobs.length ∧ m = jobs.length + 1 - k ∧ Hid (Below w.heap.size w wr) ∧ Hid (TAt wr tb 0 [] [] (t0 c i (mineF i 0 (jobs.take k))) (L0 ma mc)) ∧
    Hid (wr.ownsRow w.heap.size 3 1 (.slice ma (mineF i 0 (jobs.take k)).length mc) (mineF i 0 (jobs.take k)).length (intCells (mineF i 0 (jobs.take k)))) ∧ Hid (Blk wr rb 119 zc))
  case atStart => exact ⟨0, none, 0, rfl, by omega, by omega, HBl, HTA, World.ownsRow_nil _ _ _ _, HRB⟩
  case round =>
    obtain ⟨k, ma, mc, rfl, hk, hgk, HB, HTk, HMk, HRk⟩ := hrel
    clear HBl HTA HRB
    have hml : (mineF i 0 (jobs.take k)).length ≤ 8 := by
      have h1 := mineF_len i (jobs.take k) 0
      have h2 : (jobs.take k).length ≤ jobs.length := by simp; omega
      omega
    have hk0 : (0 : Int) ≤ (k : Int) := by omega
    by_cases hlt : k < jobs.length
    · obtain ⟨js, q1, q2, q3⟩ := (HJ.out).up HB.out
      obtain ⟨b, off, hja, hbl, hc0, hc1⟩ := q2 k (by omega)
      have hth := (q3 k (by omega)).1
      rw [hth] at hc0
      subst hja
      have hk1 : (k : Int) < (jobs.length : Int) := by omega
      have hwk : IntKind.i64.wrap ((k : Int) + 1) = (k : Int) + 1 := wrapP _ (by omega) (by omega)
      have hsn : mineF i 0 (jobs.take (k + 1)) = mineF i 0 (jobs.take k) ++ (if (jobs.getD k (0, [])).1 = i then [(k : Int)] else []) := by
        have e : jobs.take (k + 1) = jobs.take k ++ [jobs.getD k (0, [])] := by
          rw [List.take_add_one, List.getElem?_eq_getElem hlt]
          simp [List.getD, List.getElem?_eq_getElem hlt]
        rw [e, mineF_snoc]
        simp [Nat.min_eq_left (Nat.le_of_lt hlt)]
      have HSn : Hid (mineF i 0 (jobs.take (k + 1)) = mineF i 0 (jobs.take k) ++ (if (jobs.getD k (0, [])).1 = i then [(k : Int)] else [])) := hsn
      obtain ⟨th, hthv⟩ : ∃ th, th = (jobs.getD k (0, [])).1 := ⟨_, rfl⟩
      rw [← hthv] at hc0 HSn
      have hbw : b < wr.heap.size := by have := (HB.out).size; omega
      clear q1 q2 q3 hth hsn hthv
      generalize hmk : mineF i 0 (jobs.take k) = mk at *
      have hBa : Below w.heap.size w (wr.alloc (.cells #[.int .i64 th, .slice (jobAt js k).a (jobAt js k).len (jobAt js k).cap] 66)) := (HB.out).trans ((Below.refl _ _).alloc (HB.out).size _)
      have hBw : Below wr.heap.size wr (wr.alloc (.cells #[.int .i64 th, .slice (jobAt js k).a (jobAt js k).len (jobAt js k).cap] 66)) := (Below.refl _ _).alloc (Nat.le_refl _) _
      cases hin : (th == i) with
      | false =>
        have HM2 : Hid (mineF i 0 (jobs.take (k + 1)) = mk) := by
          show _ = mk
          rw [HSn.out, if_neg (by simpa using hin)]
          simp
        go_wp2
        go_roundg (gk - 1)
        case rel =>
          refine ⟨k + 1, ma, mc, by simp, by omega, by omega, hBa, ?_, ?_, ?_⟩
          · show TAt _ tb 0 [] [] (t0 c i (mineF i 0 (jobs.take (k + 1)))) (L0 ma mc)
            rw [HM2.out]; exact (HTk.out).below hBw
          · show World.ownsRow _ _ _ _ _ _ _
            rw [HM2.out]; exact (HMk.out).alloc _
          · exact (HRk.out).below hBw (HRk.out).lt
        case measure => omega
      | true =>
        have HM2 : Hid (mineF i 0 (jobs.take (k + 1)) = mk ++ [(k : Int)]) := by
          show _ = mk ++ _
          rw [HSn.out, if_pos (by simpa using hin)]
        have HTq : Hid (TAt (wr.alloc (.cells #[.int .i64 th, .slice (jobAt js k).a (jobAt js k).len (jobAt js k).cap] 66)) tb 0 [] [] (t0 c i mk) (L0 ma mc)) := (HTk.out).below hBw
        have HMq : Hid ((wr.alloc (.cells #[.int .i64 th, .slice (jobAt js k).a (jobAt js k).len (jobAt js k).cap] 66)).ownsRow w.heap.size 3 1 (.slice ma mk.length mc) mk.length (intCells mk)) := (HMk.out).alloc _
        have HRq : Hid (Blk (wr.alloc (.cells #[.int .i64 th, .slice (jobAt js k).a (jobAt js k).len (jobAt js k).cap] 66)) rb 119 zc) := (HRk.out).below hBw (HRk.out).lt
        have HBq : Hid (Below w.heap.size w (wr.alloc (.cells #[.int .i64 th, .slice (jobAt js k).a (jobAt js k).len (jobAt js k).cap] 66))) := hBa
        have hsq : w.heap.size ≤ (wr.alloc (.cells #[.int .i64 th, .slice (jobAt js k).a (jobAt js k).len (jobAt js k).cap] 66)).heap.size := hBa.size
        clear HTk HMk HRk HB hBa hBw
        go_upto_region 6 with fail
        generalize wr.alloc (.cells #[.int .i64 th, .slice (jobAt js k).a (jobAt js k).len (jobAt js k).cap] 66) = wq at *
        have k8 : wq.cell? ⟨tb, 8, none⟩ = some (.slice ma mk.length mc) := (HTq.out).cMine
        have kf8 : wq.frozen? ⟨tb, 8, none⟩ = false := (HTq.out).froz _
        have hxlt : tb < wq.heap.size := (HTq.out).lt
        have hpne : (Value.slice ma mk.length mc).ownBlock ≠ some tb := fun q => own_tag HMq.out (HTq.out).2 (by decide) tb q rfl
        clear hc0 hc1
        go_wp2_with
          (at_builtin;
           refine wpList_append_lies _ (by rfl) _ _ _ (by rfl) w.heap.size 3 iz _ 1 8 Tryz.underlying24 hiz hz0 hz1 hz2 rfl (by omega) (.slice ma mk.length mc) mk.length (intCells mk) (by rfl) ((HMq.out).alloc _)
             ⟨wq.heap.size, 0, none⟩ 1 1 [.int .i64 (k : Int)] (by rfl) (by rfl) (World.news_of_block (cs := #[.int .i64 (k : Int)]) (t := 3) (fr := (0, 0)) (heap_alloc_new wq _)) (by simp [Value.oneCell'])
             (by omega) (by unfold maxLen; omega) (by omega) (by simp; omega) (wq.heap.size + 1) (by simp) ?_;
           intro gg cap w7 hown1 hgrow hat hlt7;
           have hd8 : w7.cell? ⟨tb, 8, none⟩ = some (.slice ma mk.length mc) := (by rw [hgrow.cell_far _ (by simp; omega) (Ne.symm hpne)]; simpa [World.cell?_alloc_lt, hxlt] using k8);
           have he8 : w7.frozen? ⟨tb, 8, none⟩ = false := (by rw [hgrow.frozen_far _ (by simp; omega) (Ne.symm hpne)]; simpa [World.frozen?_alloc_past, hxlt] using kf8))
        have hB0 : Below wq.heap.size wq (wq.alloc (.cells #[.int .i64 (k : Int)] 3)) := (Below.refl _ _).alloc (Nat.le_refl _) _
        have hT0 : TAt (wq.alloc (.cells #[.int .i64 (k : Int)] 3)) tb 0 [] [] (t0 c i mk) (L0 ma mc) := (HTq.out).below hB0
        have hM0 : (wq.alloc (.cells #[.int .i64 (k : Int)] 3)).ownsRow w.heap.size 3 1 (.slice ma mk.length mc) mk.length (intCells mk) := (HMq.out).alloc _
        have hT7 : TAt w7 tb 0 [] [] (t0 c i mk) (L0 ma mc) := tat_grown hT0 hM0 (by decide) hgrow
        have hT8 : TAt (w7.setCell ⟨tb, 8, none⟩ (.slice (some ⟨gg, 0, none⟩) (mk.length + 1) cap)) tb 0 [] [] (t0 c i (mk ++ [(k : Int)])) (L0 (some ⟨gg, 0, none⟩) cap) := hT7.set 8 (by decide) _ (by simp [tArr, t0, L0])
        have ho8 : Only tb w7 (w7.setCell ⟨tb, 8, none⟩ (.slice (some ⟨gg, 0, none⟩) (mk.length + 1) cap)) := (Only.refl _ _).set
        have hM8 : World.ownsRow (w7.setCell ⟨tb, 8, none⟩ (.slice (some ⟨gg, 0, none⟩) (mk.length + 1) cap)) w.heap.size 3 1 (.slice (some ⟨gg, 0, none⟩) (mk ++ [(k : Int)]).length cap) (mk ++ [(k : Int)]).length (intCells (mk ++ [(k : Int)])) := by
          have := ownsRow_only hown1 ho8 (own_tag hown1 hT7.2 (by decide))
          simpa [intCells] using this
        have hrow : ∀ q, (Value.slice ma mk.length mc).ownBlock = some q → w.heap.size ≤ q := fun q hq => (hM0.lt q hq).1
        have hB8 : Below w.heap.size w (w7.setCell ⟨tb, 8, none⟩ (.slice (some ⟨gg, 0, none⟩) (mk.length + 1) cap)) := by
          have h1 := (HBq.out).trans (hB0.mono hsq)
          refine below_onto (w' := w7) ⟨hgrow.os.trans h1.os, hgrow.tape.trans h1.tape, hgrow.output.trans h1.output, Nat.le_trans h1.size hgrow.size, fun q hq => ?_⟩ ho8 (by have := (HTb.out).1; omega) (by have := hgrow.size; have := hB0.size; omega)
          rw [hgrow.block q (by have := hB0.size; omega) (fun e => by have := hrow q e.symm; omega)]
          exact h1.block q hq
        have hR8 : Blk (w7.setCell ⟨tb, 8, none⟩ (.slice (some ⟨gg, 0, none⟩) (mk.length + 1) cap)) rb 119 zc := by
          have hr0 := (HRq.out).below hB0 (HRq.out).lt
          refine Blk.only ?_ ho8 (by have := HTb.out; omega)
          refine (hgrow.block rb hr0.lt (fun e => ?_)).trans hr0
          exact own_tag hM0 hr0 (by decide) rb e.symm rfl
        go_roundg (gk - 1)
        case rel =>
          refine ⟨k + 1, some ⟨gg, 0, none⟩, cap, by simp, by omega, by omega, hB8, ?_, ?_, hR8⟩
          · show TAt _ tb 0 [] [] (t0 c i (mineF i 0 (jobs.take (k + 1)))) _
            rw [HM2.out]; exact hT8
          · show World.ownsRow _ _ _ _ _ _ _
            rw [HM2.out]; exact hM8
        case measure => omega
    · have hkj : k = jobs.length := by omega
      subst hkj
      rw [List.take_length] at HTk HMk hml
      have hk2 : ¬ ((jobs.length : Int) < (jobs.length : Int)) := by omega
      clear HJ
      go_wp2_with fail
      refine (t_begin tb 0 [] [] (t0 c i (mineF i 0 jobs)) (L0 ma mc) _ HTk.out).mono ?_
      rintro e w2 ⟨rfl, a1, a2⟩
      obtain ⟨T, hT⟩ : ∃ T, T = tArr (yBegin (t0 c i (mineF i 0 jobs))) (L0 ma mc) := ⟨_, rfl⟩
      have hTl : T.length = 47 := by rw [hT]; rfl
      have hT1 : T.toArray.all (·.oneCell') = true := by
        rw [hT]
        unfold yBegin yLoad
        split <;> simp [tArr, t0, L0, Value.oneCell']
      have HRg : Hid (w2.rangeAt tb 0 T) := by show World.rangeAt _ _ _ _; rw [hT]; exact TAt.range a1
      have HRb : Hid (Blk w2 rb 119 zc) := (HRk.out).only a2 (by have := HTb.out; omega)
      have HTh : Hid (w2.there rb 0 T.toArray.size) := by show World.there _ _ _ _; rw [show T.toArray.size = 47 from by simp [hTl]]; exact (HRb.out).there
      have HB2 : Hid (Below w.heap.size w w2) := below_onto HB.out a2 (by have := (HTb.out).1; omega) (HB.out).size
      have HM2 : Hid (w2.ownsRow w.heap.size 3 1 (.slice ma (mineF i 0 jobs).length mc) (mineF i 0 jobs).length (intCells (mineF i 0 jobs))) := ownsRow_only HMk.out a2 (own_tag HMk.out (HTk.out).2 (by decide))
      have HTe : Hid (T = tArr (yBegin (t0 c i (mineF i 0 jobs))) (L0 ma mc)) := hT
      clear HTk HMk HRk HB a1 a2 hT
      go_wp2_with
        (first
          | (refine wpList_load_mid (by rfl) 119 _ (by rfl) tb 0 (by rfl) T _ HRg.out Tryz.underlying119 (by rfl) (by rw [hTl]; exact Tryz.size119) ?_)
          | (refine wpList_store_mid (by rfl) 119 _ _ (by rfl) rb 0 T.toArray (by rfl) (by rfl) HTh.out (by rw [show T.toArray.size = 47 from by simp [hTl]]; exact Tryz.size119) hT1 ?_))
      have hB3 := (HRb.out).setCells T (by rw [hTl]; rfl)
      have ho3 : Only rb w2 (w2.setCells rb 0 T) := Only.setCells _ _ _
      (try simp only [Exit.inBlock, Exit.then])
      refine bodyPost_ret (v := .agg T.toArray) ?_ rfl ⟨ma, mc, by rw [HTe.out], ownsRow_only HM2.out ho3 (own_tag HM2.out HRb.out (by decide)), below_onto HB2.out ho3 (by have := (HTb.out).2; omega) (HB2.out).size⟩
      have hrg : (w2.setCells rb 0 T).rangeAt rb 0 T := World.rangeAt_setCells_same w2 rb 0 T (by have := HTh.out; simpa using this)
      have hld := run_loadVar_mid (P := Tryz.prog) (w2.setCells rb 0 T) rb 0 119 T _ hrg Tryz.underlying119 (by rfl) (by rw [hTl]; exact Tryz.size119)
      rw [results_cell rfl]
      show ((asAddr (.pointer (some ⟨rb, 0, none⟩))).run Tryz.prog (w2.setCells rb 0 T)).andThen _ = _
      simp only [asAddr, Sem.run_pure, Result.andThen_ok]
      exact hld

end Go.Proofs.YtejadojilncbjaaGreat
