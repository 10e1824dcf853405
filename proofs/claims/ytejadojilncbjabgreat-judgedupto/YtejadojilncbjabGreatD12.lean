import Derived.Test.YtejadojilncbjabGreatD11
namespace Go.Proofs.YtejadojilncbjabGreat
set_option linter.unusedVariables false
def ghNext (h : Th) (G : Gh) : Gh := match h.st with
 | .cShut c (s :: r) => { G with nv := upd G.nv s (c + 1) }
 | .cStamp c => { G with W := fun n a => if n ≤ c then G.W n a else overW h.x.writes (G.W c) a }
 | _ => G
structure PI (c : Cfg) (jobs : List (Int × List InsD)) (m : Int → Int) (th : Int → Th) (G : Gh) : Prop where
 ver : ∀ s, 0 ≤ s → s < c.s → m (3 + s) ≠ -1 → G.nv s = m (3 + s) ∧ m (3 + s) ≤ m 0
 wd : ∀ a, 0 ≤ a → a < c.wd → (∀ t, 0 ≤ t → t < c.t → ¬ Wrt (th t) (a.tmod c.s)) → ∀ n, G.nv (a.tmod c.s) ≤ n → G.W n a = m (3 + 2 * c.s + c.t + a)
 late : ∀ n, m 0 ≤ n → ∀ a, 0 ≤ a → a < c.wd → G.W n a = G.W (m 0) a
 th : ∀ t, 0 ≤ t → t < c.t → SI (cxOf c jobs t) G m (th t)
theorem PI.phys {c : Cfg} {jobs : List (Int × List InsD)} {m : Int → Int} {th : Int → Th} {G : Gh} (I : LI c jobs m th) (P : PI c jobs m th G) (h0 : 0 ≤ m 0) (t : Int) : Phys (cxOf c jobs t) G m := by
 refine ⟨fun s s0 s1 ho => ?_, P.late, h0⟩
 obtain ⟨e1, e2⟩ := P.ver s s0 s1 ho
 refine ⟨e1, e2, fun a a0 a1 ea n hn => ?_⟩
 refine P.wd a a0 a1 (fun u u0 u1 hw => ?_) n (by rw [show a.tmod c.s = s from ea]; exact hn)
 rw [show a.tmod c.s = s from ea] at hw
 exact ho ((I.shut s s0 s1).2 ⟨u, u0, u1, wrt_shuts hw⟩)
theorem LI.one {c : Cfg} {jobs : List (Int × List InsD)} {m : Int → Int} {th : Int → Th} (I : LI c jobs m th) {s u v : Int} (s0 : 0 ≤ s) (s1 : s < c.s) (u0 : 0 ≤ u) (u1 : u < c.t) (v0 : 0 ≤ v) (v1 : v < c.t) (x : Holds (th u) s) (y : Holds (th v) s) : u = v := by
 have h1 := (I.own s s0 s1 u u0 u1).2 x
 have h2 := (I.own s s0 s1 v v0 v1).2 y
 omega
theorem LI.opn {c : Cfg} {jobs : List (Int × List InsD)} {m : Int → Int} {th : Int → Th} (I : LI c jobs m th) {s t : Int} (s0 : 0 ≤ s) (s1 : s < c.s) (t0 : 0 ≤ t) (t1 : t < c.t) (x : Holds (th t) s) (y : ¬ Shuts (th t) s) : m (3 + s) ≠ -1 := by
 intro e
 obtain ⟨u, u0, u1, q⟩ := (I.shut s s0 s1).1 e
 have := I.one s0 s1 u0 u1 t0 t1 (shuts_holds q) x
 rw [this] at q
 exact y q
theorem same3_quiet {K : Cx} {k : Int} {h : Th} {m : Int → Int} (hc : cfgB K.c = true) (hm : 0 ≤ K.me ∧ K.me < K.c.t) (A : StepOk K k h) (hq : Quiet h) : Same3 K m (mNext m (hOut K h)) := by
 obtain ⟨⟨t1, t2⟩, ⟨w1, w2⟩, ⟨s1, s2⟩, _⟩ := cfgB_true hc
 have off : ∀ q : AskD, (q.cell = 1 ∨ q.cell = 2 ∨ (3 + K.c.s ≤ q.cell ∧ q.cell < 3 + 2 * K.c.s + K.c.t)) → Same3 K m (mNext m q) := fun q hq' =>
  ⟨mNext_off m q (by omega), fun s s0 s1 => mNext_off m q (by omega), fun a a0 a1 => mNext_off m q (by unfold hWrd; omega)⟩
 have ld : ∀ x : Int, Same3 K m (mNext m ⟨1, x, 0, 0⟩) := fun x => by rw [mNext_load]; exact ⟨rfl, fun _ _ _ => rfl, fun _ _ _ => rfl⟩
 have no : Same3 K m (mNext m ⟨0, 0, 0, 0⟩) := by rw [mNext_none]; exact ⟨rfl, fun _ _ _ => rfl, fun _ _ _ => rfl⟩
 have sta : ∀ (q : AskD) (u : Int), 0 ≤ u → u < K.c.t → q.cell = hSta K u → Same3 K m (mNext m q) := fun q u u0 u1 e => off q (by rw [e]; unfold hSta; omega)
 have own : ∀ (q : AskD) (u : Int), 0 ≤ u → u < K.c.s → q.cell = hOwn K u → Same3 K m (mNext m q) := fun q u u0 u1 e => off q (by rw [e]; unfold hOwn; omega)
 unfold StepOk at A
 unfold Quiet at hq
 unfold hOut
 cases hst : h.st with
 | idle => exact no
 | start => exact ld _
 | rHeld i a => exact ld _
 | rVer i a => exact ld _
 | rWord i a one => exact ld _
 | rAgain i a one w => exact ld _
 | xClock x => exact ld _
 | xVer x c r =>
  cases r with
  | nil => exact no
  | cons q r => exact ld _
 | gStat i a => exact ld _
 | gOwn i a =>
  rw [hst] at A
  have b := tmodP s1 A.1.1
  exact own _ _ b.1 b.2 rfl
 | gTheir i a u => exact ld _
 | gMark i a u q =>
  rw [hst] at A
  exact sta _ (u - 1) (by have := A.2.1.1; omega) (by have := A.2.1.2; omega) rfl
 | gVer i a => exact ld _
 | tTake => exact off _ (Or.inl rfl)
 | tShow => exact sta _ _ hm.1 hm.2 rfl
 | cStat => exact ld _
 | cGate => exact off _ (Or.inr (Or.inl rfl))
 | cClock => exact ld _
 | cVer c r =>
  cases r with
  | nil => exact no
  | cons q r => exact ld _
 | cShut c r => rw [hst] at hq; exact hq.elim
 | cStamp c => rw [hst] at hq; exact hq.elim
 | cLeave c => exact off _ (Or.inr (Or.inl rfl))
 | cWord c r => rw [hst] at hq; exact hq.elim
 | cOpen c r => rw [hst] at hq; exact hq.elim
 | cOwn c r =>
  rw [hst] at A
  cases r with
  | nil => exact no
  | cons q r => exact own _ q (A.2.2 q List.mem_cons_self).1 (A.2.2 q List.mem_cons_self).2 rfl
 | free e r =>
  rw [hst] at A
  cases r with
  | nil => exact no
  | cons q r => exact own _ q (A.2 q List.mem_cons_self).1 (A.2 q List.mem_cons_self).2 rfl
 | fin e => exact sta _ _ hm.1 hm.2 rfl
 | fGate => exact off _ (Or.inr (Or.inl rfl))
 | fOwn r =>
  rw [hst] at A
  cases r with
  | nil => exact no
  | cons q r => exact own _ q (A.2 q List.mem_cons_self).1 (A.2 q List.mem_cons_self).2 rfl
 | fTake => exact off _ (Or.inl rfl)
 | fStat => exact sta _ _ hm.1 hm.2 rfl
 | wait w => exact ld _
 | rest n => exact no
theorem wrt_open {h : Th} {c s : Int} {r : List Int} (hs : s ∈ r) : Wrt (hOpenAt c r h) s := by
 cases r with
 | nil => cases hs
 | cons q r => exact hs
theorem wrt_word {h : Th} {c s : Int} {r : List EntD} (hs : s ∈ h.x.held) : Wrt (hWordAt c r h) s := by
 cases r with
 | nil => exact wrt_open hs
 | cons q r => exact hs
theorem wrt_quiet {K : Cx} {h : Th} {v : AnsD} {s : Int} (hq : Quiet h) (hw : Wrt h s) : Wrt (hNext K h v) s := by
 unfold Quiet at hq
 have hw0 := hw
 unfold Wrt at hw
 unfold hNext
 cases hst : h.st with
 | cLeave c => rw [hst] at hw; exact wrt_word hw
 | cOwn c r =>
  rw [hst] at hw
  cases r with
  | nil => cases hw
  | cons q r => exact wrt_open hw
 | cShut c r => rw [hst] at hq; exact hq.elim
 | cStamp c => rw [hst] at hq; exact hq.elim
 | cWord c r => rw [hst] at hq; exact hq.elim
 | cOpen c r => rw [hst] at hq; exact hq.elim
 | _ => rw [hst] at hw; exact hw.elim
theorem over_store {K : Cx} {m : Int → Int} {e : EntD} {r : List EntD} (hn : ((e :: r).map (·.what)).Nodup) (a : Int) : overW r (fun b => upd m (hWrd K e.what) e.val (hWrd K b)) a = overW (e :: r) (fun b => m (hWrd K b)) a := by
 show _ = if e.what = a then e.val else overW r (fun b => m (hWrd K b)) a
 have hne : e.what ∉ r.map (·.what) := (List.nodup_cons.1 hn).1
 by_cases ha : e.what = a
 ·rw [if_pos ha, ← ha, overW_out _ hne]
  exact upd_at _ _ _
 ·rw [if_neg ha]
  refine overW_congr ?_
  exact upd_off (by unfold hWrd; omega)
theorem thset_at (th : Int → Th) (t : Int) (h' : Th) : thSet th t h' t = h' := if_pos rfl
theorem thset_off {th : Int → Th} {t u : Int} {h' : Th} (hu : u ≠ t) : thSet th t h' u = th u := if_neg hu
theorem pi_step {c : Cfg} (hc : cfgB c = true) {jobs : List (Int × List InsD)} {m : Int → Int} {th : Int → Th} {G : Gh} {k t : Int} (t0 : 0 ≤ t) (t1 : t < c.t) (hk : 0 ≤ k) (M : CellsOk c k m) (T : ∀ u, 0 ≤ u → u < c.t → ThOk (cxOf c jobs u) k (th u)) (I : LI c jobs m th) (P : PI c jobs m th G) (v : AnsD)
  (hv : (hOut (cxOf c jobs t) (th t)).kind ≠ 0 → v.seen = m (hOut (cxOf c jobs t) (th t)).cell) :
  PI c jobs (mNext m (hOut (cxOf c jobs t) (th t))) (thSet th t (hNext (cxOf c jobs t) (th t) v)) (ghNext (th t) G) := by
 obtain ⟨⟨c1, c2⟩, ⟨w1, w2⟩, ⟨s1, s2⟩, _⟩ := cfgB_true hc
 have hcK : cfgB (cxOf c jobs t).c = true := hc
 have hm : 0 ≤ (cxOf c jobs t).me ∧ (cxOf c jobs t).me < (cxOf c jobs t).c.t := ⟨t0, t1⟩
 have A := T t t0 t1
 have L := I.loc t t0 t1
 have cok : 0 ≤ m 0 ∧ m 0 ≤ k := (M 0 (by omega) (by unfold total; omega)).cnt (Or.inl rfl)
 have Ph := P.phys I cok.1 t
 have S := P.th t t0 t1
 have O : ∀ s, 0 ≤ s → s < c.s → Holds (th t) s → ¬ Shuts (th t) s → m (3 + s) ≠ -1 := fun s a b x y => I.opn a b t0 t1 x y
 have hvK : (hOut (cxOf c jobs t) (th t)).kind ≠ 0 → VOk c k (hOut (cxOf c jobs t) (th t)).cell v.seen := fun h0 => by
  obtain ⟨hcell, _⟩ := ask_ok hcK hm hk A h0
  rw [hv h0]
  exact M _ hcell.1 hcell.2
 have A' := next_ok hcK hm hk A v hvK
 obtain ⟨L', E⟩ := eff_step hcK hm A L m v hv
 have I' := li_step hc t0 t1 I L' E
 have hout : ∀ u, u ≠ t → 0 ≤ u → u < c.t → ∀ {G' : Gh} {m' : Int → Int}, Fr (cxOf c jobs u) G G' m m' (th u) → SI (cxOf c jobs u) G' m' (th u) := fun u hu u0 u1 {G' m'} F => si_fr (K := cxOf c jobs u) s1 (T u u0 u1).step (I.loc u u0 u1) (I.clk u u0 u1) (P.th u u0 u1) F
 have S0 := S
 unfold SI at S
 have Lc := L
 unfold Loc at Lc
 have Ac := A.step
 unfold StepOk at Ac
 by_cases hq : Quiet (th t)
 ·have E3 := same3_quiet (m := m) hcK hm A.step hq
  have hG : ghNext (th t) G = G := by
   unfold Quiet at hq
   unfold ghNext
   cases hst : (th t).st <;> rw [hst] at hq <;> first
    | rfl
    | exact hq.elim
  rw [hG]
  have Sn := si_quiet hcK hm A L Ph O M v hv S0 hq
  generalize hm' : mNext m (hOut (cxOf c jobs t) (th t)) = m' at *
  refine ⟨fun s a b ho => ?_, fun a a0 a1 hn n hnn => ?_, fun n hn a a0 a1 => ?_, fun u u0 u1 => ?_⟩
  ·have e := E3.ver s a b
   rw [e] at ho ⊢
   rw [E3.clk]
   exact P.ver s a b ho
  ·rw [show m' (3 + 2 * c.s + c.t + a) = m (3 + 2 * c.s + c.t + a) from E3.wd a a0 a1]
   refine P.wd a a0 a1 (fun u u0 u1 hw => ?_) n hnn
   by_cases hu : u = t
   ·rw [hu] at hw
    refine hn t t0 t1 ?_
    rw [thset_at]
    exact wrt_quiet hq hw
   ·refine hn u u0 u1 ?_
    rw [thset_off hu]
    exact hw
  ·rw [E3.clk] at hn ⊢
   exact P.late n hn a a0 a1
  ·by_cases hu : u = t
   ·subst hu
    rw [thset_at]
    refine si_fr (K := cxOf c jobs u) s1 A'.step L' (fun w hw => ?_) Sn (E3.fr _)
    have := I'.clk u t0 t1 w (by rw [thset_at]; exact hw)
    rw [← this]
    exact E3.clk.symm
   ·rw [thset_off hu]
    refine hout u hu u0 u1 ?_
    exact ⟨by rw [E3.clk]; exact Int.le_refl _, fun _ _ _ => rfl, fun _ _ _ _ _ _ _ => rfl, fun _ => Or.inl rfl, fun _ _ => rfl, fun a a0 a1 => Or.inl (E3.wd a a0 a1), fun a a0 a1 _ => E3.wd a a0 a1, fun s s0 s1 e => Or.inl ⟨by rw [← E3.ver s s0 s1]; exact e, rfl⟩⟩
 ·unfold Quiet at hq
  cases hst : (th t).st with
  | cShut cc r =>
   rw [hst] at Ac Lc S
   cases r with
   | nil => exact absurd rfl Ac.2.1
   | cons s r =>
    have bs := Ac.2.2 s List.mem_cons_self
    have bs1 : s < c.s := bs.2
    have bs0 := bs.1
    have hcl := I.clk t t0 t1 cc (by simp [hClk, hst])
    have hin := Lc.2.2 s List.mem_cons_self
    have hHo : Holds (th t) s := by simp only [Holds, hst]; exact hin
    have ho := O s bs.1 bs.2 hHo (by simp [Shuts, hst])
    obtain ⟨v1, v2⟩ := P.ver s bs.1 bs.2 ho
    have hG : ghNext (th t) G = { G with nv := upd G.nv s (cc + 1) } := by unfold ghNext; rw [hst]
    have hM : mNext m (hOut (cxOf c jobs t) (th t)) = upd m (3 + s) (-1) := by
     unfold hOut; rw [hst]; exact mNext_store m _ _
    have hN : hNext (cxOf c jobs t) (th t) v = hShutAt cc r (th t) := by unfold hNext; rw [hst]
    rw [hG, hM, hN]
    have off : ∀ x, x ≠ 3 + s → upd m (3 + s) (-1) x = m x := fun x hx => upd_off hx
    have noW : ∀ u, 0 ≤ u → u < c.t → ∀ s', ¬ Wrt (thSet th t (hShutAt cc r (th t)) u) s' → ¬ Wrt (th u) s' := fun u u0 u1 s' hn hw => by
     by_cases hu : u = t
     ·rw [hu] at hw
      unfold Wrt at hw
      rw [hst] at hw
      exact hw
     ·rw [thset_off hu] at hn
      exact hn hw
    refine ⟨fun s' a b ho' => ?_, fun a a0 a1 hn n hnn => ?_, fun n hn a a0 a1 => ?_, fun u u0 u1 => ?_⟩
    ·by_cases hs : s' = s
     ·rw [hs, upd_at] at ho'
      exact absurd rfl ho'
     ·rw [off _ (by omega)] at ho' ⊢
      rw [off 0 (by omega)]
      show upd G.nv s (cc + 1) s' = _ ∧ _
      rw [upd_off hs]
      exact P.ver s' a b ho'
    ·rw [off _ (by omega)]
     refine P.wd a a0 a1 (fun u u0 u1 => noW u u0 u1 _ (hn u u0 u1)) n ?_
     have hnn' : upd G.nv s (cc + 1) (a.tmod c.s) ≤ n := hnn
     by_cases hs : a.tmod c.s = s
     ·rw [hs, upd_at] at hnn'
      rw [hs]
      omega
     ·rw [upd_off hs] at hnn'
      exact hnn'
    ·rw [off 0 (by omega)] at hn ⊢
     exact P.late n hn a a0 a1
    ·by_cases hu : u = t
     ·subst hu
      rw [thset_at]
      obtain ⟨C, C2⟩ := S
      have C' : ∀ st, Cm (cxOf c jobs u) { G with nv := upd G.nv s (cc + 1) } (upd m (3 + s) (-1)) cc { th u with st := st } := fun st => by
       refine ⟨fun q hq' => ?_, C.ne, C.sp, C.va, C.ok, C.ov⟩
       rw [off 0 (by omega)]
       exact ⟨(C.li q hq').inn, (C.li q hq').va, (C.li q hq').snd⟩
      cases r with
      | nil =>
       refine ⟨C' _, fun s' hs' => ?_⟩
       show upd G.nv s (cc + 1) s' = cc + 1
       by_cases hs : s' = s
       ·rw [hs, upd_at]
       ·rw [upd_off hs]; exact C2 s' hs' (by simp [hs])
      | cons q r =>
       refine ⟨C' _, fun s' hs' hr => ?_⟩
       show upd G.nv s (cc + 1) s' = cc + 1
       by_cases hs : s' = s
       ·rw [hs, upd_at]
       ·rw [upd_off hs]; exact C2 s' hs' (by simp only [List.mem_cons, not_or] at hr ⊢; exact ⟨hs, hr⟩)
     ·rw [thset_off hu]
      refine hout u hu u0 u1 ⟨by rw [off 0 (by omega)]; exact Int.le_refl _, fun _ _ _ => rfl, fun _ _ _ _ _ _ _ => rfl, fun s' => ?_, fun s' hs' => ?_, fun a a0 a1 => Or.inl (off _ (by show 3 + 2 * c.s + c.t + a ≠ _; omega)), fun a a0 a1 _ => off _ (by show 3 + 2 * c.s + c.t + a ≠ _; omega), fun s' a b e => ?_⟩
      ·show upd G.nv s (cc + 1) s' = G.nv s' ∨ m 0 < upd G.nv s (cc + 1) s'
       by_cases hs : s' = s
       ·rw [hs, upd_at]; exact Or.inr (by omega)
       ·rw [upd_off hs]; exact Or.inl rfl
      ·show upd G.nv s (cc + 1) s' = G.nv s'
       refine upd_off (fun hs => hu ?_)
       rw [hs] at hs'
       exact I.one bs.1 bs.2 u0 u1 t0 t1 hs' hHo
      ·show _ ∨ m 0 < upd G.nv s (cc + 1) s'
       by_cases hs : s' = s
       ·rw [hs, upd_at]; exact Or.inr (by omega)
       ·rw [off _ (by omega)] at e
        exact Or.inl ⟨e, by show upd G.nv s (cc + 1) s' = G.nv s'; exact upd_off hs⟩
  | cStamp cc =>
   rw [hst] at Ac Lc S
   have hcl := I.clk t t0 t1 cc (by simp [hClk, hst])
   obtain ⟨C, C2⟩ := S
   have hG : ghNext (th t) G = { G with W := fun n a => if n ≤ cc then G.W n a else overW (th t).x.writes (G.W cc) a } := by unfold ghNext; rw [hst]
   have hM : mNext m (hOut (cxOf c jobs t) (th t)) = upd m 0 (cc + 1) := by
    unfold hOut; rw [hst]; exact mNext_store m _ _
   have hN : hNext (cxOf c jobs t) (th t) v = { th t with list := modLast (th t).list (fun q => { q with stamp := cc + 1 }), st := .cLeave cc } := by unfold hNext; rw [hst]
   rw [hG, hM, hN]
   have off : ∀ x, x ≠ 0 → upd m 0 (cc + 1) x = m x := fun x hx => upd_off hx
   have at0 : upd m 0 (cc + 1) 0 = cc + 1 := upd_at _ _ _
   have hwr : ∀ a, a.tmod c.s ∉ (th t).x.held → a ∉ (th t).x.writes.map (·.what) := fun a hn hm' => by
    obtain ⟨e, he, ee⟩ := List.mem_map.1 hm'
    have := Lc e he
    rw [ee] at this
    exact hn this
   have Wout : ∀ n a, 0 ≤ a → a < c.wd → a.tmod c.s ∉ (th t).x.held → (if n ≤ cc then G.W n a else overW (th t).x.writes (G.W cc) a) = G.W n a := fun n a a0 a1 hn => by
    split
    ·rfl
    ·rw [overW_out _ (hwr a hn), P.late n (by omega) a a0 a1, hcl]
   have heldR := A.x.hd
   refine ⟨fun s' a b ho' => ?_, fun a a0 a1 hn n hnn => ?_, fun n hn a a0 a1 => ?_, fun u u0 u1 => ?_⟩
   ·rw [off _ (by omega)] at ho' ⊢
    rw [at0]
    have := P.ver s' a b ho'
    exact ⟨this.1, by omega⟩
   ·rw [off _ (by omega)]
    have hout' : a.tmod c.s ∉ (th t).x.held := fun hin => hn t t0 t1 (by rw [thset_at]; exact hin)
    show (if n ≤ cc then G.W n a else overW (th t).x.writes (G.W cc) a) = _
    rw [Wout n a a0 a1 hout']
    refine P.wd a a0 a1 (fun u u0 u1 hw => ?_) n hnn
    by_cases hu : u = t
    ·rw [hu] at hw
     unfold Wrt at hw
     rw [hst] at hw
     exact hw
    ·exact hn u u0 u1 (by rw [thset_off hu]; exact hw)
   ·rw [at0] at hn ⊢
    show (if n ≤ cc then G.W n a else overW (th t).x.writes (G.W cc) a) = (if cc + 1 ≤ cc then G.W (cc + 1) a else overW (th t).x.writes (G.W cc) a)
    rw [if_neg (by omega), if_neg (by omega)]
   ·by_cases hu : u = t
    ·subst hu
     rw [thset_at]
     have Wold : ∀ n, n ≤ m 0 → ∀ a, (if n ≤ cc then G.W n a else overW (th u).x.writes (G.W cc) a) = G.W n a := fun n hn a => if_pos (by omega)
     have Acur := C.li _ (cur_mem C.ne)
     have hlist : ∀ q ∈ modLast (th u).list (fun q => { q with stamp := cc + 1 }), AttOk (cxOf c jobs u) { G with W := fun n a => if n ≤ cc then G.W n a else overW (th u).x.writes (G.W cc) a } (cc + 1) q := by
      refine all_mod (fun q hq' => (C.li q hq').fr (by omega) Wold) ⟨Acur.inn, Acur.va, Or.inr ⟨?_, Int.le_refl _, ?_, fun a a0 a1 => ?_⟩⟩
      ·show (cur (th u).list).valid < cc + 1
       have := C.va
       omega
      ·show fOk (cur (th u).list).notes (fun a => if cc + 1 - 1 ≤ cc then G.W (cc + 1 - 1) a else overW (th u).x.writes (G.W cc) a)
       rw [show cc + 1 - 1 = cc from by omega]
       refine fOk_congr _ _ _ (fun n hn => ?_) C.ok
       rw [if_pos (Int.le_refl _)]
      ·show overN (cur (th u).list).notes (fun a => if cc + 1 - 1 ≤ cc then G.W (cc + 1 - 1) a else overW (th u).x.writes (G.W cc) a) a = (if cc + 1 ≤ cc then G.W (cc + 1) a else overW (th u).x.writes (G.W cc) a)
       rw [show cc + 1 - 1 = cc from by omega, if_neg (by omega), C.ov]
       refine overW_congr ?_
       rw [if_pos (Int.le_refl _)]
     refine ⟨?_, ?_, fun s' hs' => ⟨C2 s' hs', fun a a0 a1 ea n hn => ?_⟩⟩
     ·intro q hq'
      rw [at0]
      exact hlist q hq'
     ·rw [at0]; exact Int.le_refl _
     ·show (if n ≤ cc then G.W n a else overW (th u).x.writes (G.W cc) a) = overW (th u).x.writes (fun b => upd m 0 (cc + 1) (3 + 2 * c.s + c.t + b)) a
      rw [if_neg (by omega)]
      refine overW_congr ?_
      have ea' : a.tmod c.s = s' := ea
      have bs := heldR s' hs'
      have hwd := P.wd a a0 a1 (fun w w0 w1 hw => by
          rw [ea'] at hw
          have hw2 := I.one bs.1 bs.2 w0 w1 t0 t1 (shuts_holds (wrt_shuts hw)) (by simp only [Holds, hst]; exact hs')
          rw [hw2] at hw
          unfold Wrt at hw
          rw [hst] at hw
          exact hw) (cc + 1) (by rw [ea', C2 s' hs']; exact Int.le_refl _)
      rw [P.late (cc + 1) (by omega) a a0 a1, hcl] at hwd
      rw [hwd]
      exact (off _ (by omega)).symm
    ·rw [thset_off hu]
     refine hout u hu u0 u1 ⟨by rw [at0]; omega, fun n hn a => if_pos (by omega), fun s' hs' a a0 a1 ea n => ?_, fun s' => Or.inl rfl, fun s' _ => rfl, fun a a0 a1 => Or.inl (off _ (by show 3 + 2 * c.s + c.t + a ≠ _; have a0' := a0; omega)), fun a a0 a1 _ => off _ (by show 3 + 2 * c.s + c.t + a ≠ _; omega), fun s' a b e => ?_⟩
     ·refine Wout n a a0 a1 (fun hin => hu ?_)
      rw [show a.tmod c.s = s' from ea] at hin
      have bs := heldR s' hin
      exact I.one bs.1 bs.2 u0 u1 t0 t1 hs' (by simp only [Holds, hst]; exact hin)
     ·rw [off _ (by omega)] at e
      exact Or.inl ⟨e, rfl⟩
  | cWord cc r =>
   rw [hst] at Ac Lc S
   cases r with
   | nil => exact absurd rfl Ac.2.1
   | cons e r =>
    obtain ⟨l, l1, l2, l3⟩ := S
    have be := Ac.2.2 e List.mem_cons_self
    have be1 : e.what < c.wd := be.2.1
    have be0 := be.1
    have hin : e.what.tmod c.s ∈ (th t).x.held := Lc e List.mem_cons_self
    have hG : ghNext (th t) G = G := by unfold ghNext; rw [hst]
    have hM : mNext m (hOut (cxOf c jobs t) (th t)) = upd m (3 + 2 * c.s + c.t + e.what) e.val := by
     unfold hOut; rw [hst]; exact mNext_store m _ _
    have hN : hNext (cxOf c jobs t) (th t) v = hWordAt cc r (th t) := by unfold hNext; rw [hst]
    rw [hG, hM, hN]
    have off : ∀ x, x ≠ 3 + 2 * c.s + c.t + e.what → upd m (3 + 2 * c.s + c.t + e.what) e.val x = m x := fun x hx => upd_off hx
    have bst := A.x.hd _ hin
    refine ⟨fun s' a b ho' => ?_, fun a a0 a1 hn n hnn => ?_, fun n hn a a0 a1 => ?_, fun u u0 u1 => ?_⟩
    ·rw [off _ (by omega)] at ho' ⊢
     rw [off 0 (by omega)]
     exact P.ver s' a b ho'
    ·by_cases ha : a = e.what
     ·refine absurd ?_ (hn t t0 t1)
      rw [thset_at, ha]
      exact wrt_word hin
     ·rw [off _ (by omega)]
      refine P.wd a a0 a1 (fun u u0 u1 hw => ?_) n hnn
      by_cases hu : u = t
      ·rw [hu] at hw
       refine hn t t0 t1 ?_
       rw [thset_at]
       unfold Wrt at hw
       rw [hst] at hw
       exact wrt_word hw
      ·exact hn u u0 u1 (by rw [thset_off hu]; exact hw)
    ·rw [off 0 (by omega)] at hn ⊢
     exact P.late n hn a a0 a1
    ·by_cases hu : u = t
     ·subst hu
      rw [thset_at]
      have e0 : upd m (3 + 2 * c.s + c.t + e.what) e.val 0 = m 0 := off 0 (by omega)
      have hl : LiOk (cxOf c jobs u) G (upd m (3 + 2 * c.s + c.t + e.what) e.val) (th u) := by
       intro q hq'
       rw [e0]
       exact l q hq'
      have hp : ∀ s ∈ (th u).x.held, G.nv s = cc + 1 ∧ Pend (cxOf c jobs u) G (upd m (3 + 2 * c.s + c.t + e.what) e.val) cc r s := fun s hs' => by
       refine ⟨(l3 s hs').1, fun a a0 a1 ea n hn => ?_⟩
       rw [(l3 s hs').2 a a0 a1 ea n hn]
       exact (over_store (K := cxOf c jobs u) l2 a).symm
      cases r with
      | nil =>
       show SI _ _ _ (hOpenAt cc (th u).x.held (th u))
       cases hh : (th u).x.held with
       | nil => exact hl
       | cons q r => exact ⟨hl, by rw [e0]; exact l1, fun s hs' => hp s (by rw [hh]; exact hs')⟩
      | cons q r =>
       exact ⟨hl, by rw [e0]; exact l1, (List.nodup_cons.1 l2).2, hp⟩
     ·rw [thset_off hu]
      refine hout u hu u0 u1 ⟨by rw [off 0 (by omega)]; exact Int.le_refl _, fun _ _ _ => rfl, fun _ _ _ _ _ _ _ => rfl, fun _ => Or.inl rfl, fun _ _ => rfl, fun a a0 a1 => ?_, fun a a0 a1 hh => ?_, fun s' a b e' => ?_⟩
      ·by_cases ha : a = e.what
       ·refine Or.inr ((I.shut _ (by rw [ha]; exact bst.1) (by rw [ha]; exact bst.2)).2 ⟨t, t0, t1, ?_⟩)
        simp only [Shuts, hst, ha]
        exact hin
       ·exact Or.inl (off _ (by show 3 + 2 * c.s + c.t + a ≠ _; omega))
      ·refine off _ (fun ha => hu ?_)
       have ha' : 3 + 2 * c.s + c.t + a = 3 + 2 * c.s + c.t + e.what := ha
       have ha2 : a = e.what := by omega
       have hh' : Holds (th u) (a.tmod c.s) := hh
       rw [ha2] at hh'
       exact I.one bst.1 bst.2 u0 u1 t0 t1 hh' (by simp only [Holds, hst]; exact hin)
      ·have b' : s' < c.s := b
       rw [off _ (by omega)] at e'
       exact Or.inl ⟨e', rfl⟩
  | cOpen cc r =>
   rw [hst] at Ac Lc S
   cases r with
   | nil => exact absurd rfl Ac.2.1
   | cons s r =>
    obtain ⟨l, l1, l2⟩ := S
    have bs := Ac.2.2 s List.mem_cons_self
    have bs1 : s < c.s := bs.2
    have bs0 := bs.1
    have c0 := Ac.1.1
    have hs0 := l2 s List.mem_cons_self
    have hG : ghNext (th t) G = G := by unfold ghNext; rw [hst]
    have hM : mNext m (hOut (cxOf c jobs t) (th t)) = upd m (3 + s) (cc + 1) := by
     unfold hOut; rw [hst]; exact mNext_store m _ _
    have hN : hNext (cxOf c jobs t) (th t) v = { th t with st := .cOwn cc (s :: r) } := by unfold hNext; rw [hst]
    rw [hG, hM, hN]
    have off : ∀ x, x ≠ 3 + s → upd m (3 + s) (cc + 1) x = m x := fun x hx => upd_off hx
    refine ⟨fun s' a b ho' => ?_, fun a a0 a1 hn n hnn => ?_, fun n hn a a0 a1 => ?_, fun u u0 u1 => ?_⟩
    ·by_cases hs : s' = s
     ·rw [hs, upd_at, off 0 (by omega)]
      exact ⟨hs0.1, l1⟩
     ·rw [off _ (by omega)] at ho' ⊢
      rw [off 0 (by omega)]
      exact P.ver s' a b ho'
    ·rw [off _ (by omega)]
     by_cases hs : a.tmod c.s = s
     ·have := hs0.2 a a0 a1 hs n (by rw [hs, hs0.1] at hnn; exact hnn)
      exact this
     ·refine P.wd a a0 a1 (fun u u0 u1 hw => ?_) n hnn
      by_cases hu : u = t
      ·rw [hu] at hw
       refine hn t t0 t1 ?_
       rw [thset_at]
       unfold Wrt at hw
       rw [hst] at hw
       rcases List.mem_cons.1 hw with h1 | h1
       ·exact absurd h1 hs
       ·exact h1
      ·exact hn u u0 u1 (by rw [thset_off hu]; exact hw)
    ·rw [off 0 (by omega)] at hn ⊢
     exact P.late n hn a a0 a1
    ·by_cases hu : u = t
     ·subst hu
      rw [thset_at]
      have e0 : upd m (3 + s) (cc + 1) 0 = m 0 := off 0 (by omega)
      refine ⟨fun q hq' => by rw [e0]; exact l q hq', by rw [e0]; exact l1, fun s' hs' => ⟨(l2 s' (List.mem_cons_of_mem _ hs')).1, fun a a0 a1 ea n hn => ?_⟩⟩
      rw [(l2 s' (List.mem_cons_of_mem _ hs')).2 a a0 a1 ea n hn]
      exact (off _ (by show 3 + 2 * c.s + c.t + a ≠ _; omega)).symm
     ·rw [thset_off hu]
      refine hout u hu u0 u1 ⟨by rw [off 0 (by omega)]; exact Int.le_refl _, fun _ _ _ => rfl, fun _ _ _ _ _ _ _ => rfl, fun _ => Or.inl rfl, fun _ _ => rfl, fun a a0 a1 => Or.inl (off _ (by show 3 + 2 * c.s + c.t + a ≠ _; omega)), fun a a0 a1 _ => off _ (by show 3 + 2 * c.s + c.t + a ≠ _; omega), fun s' a b e => ?_⟩
      by_cases hs : s' = s
      ·rw [hs, upd_at] at e
       omega
      ·rw [off _ (by omega)] at e
       exact Or.inl ⟨e, rfl⟩
  | _ => rw [hst] at hq; exact absurd trivial hq
def gGh (c : Cfg) (mem : List Int) (jobs : List (Int × List InsD)) (ps : List PickD) : Nat → Gh
 | 0 => ⟨fun _ a => startVal c mem (3 + 2 * c.s + c.t + a), fun _ => 0⟩
 | k + 1 => if 0 ≤ (pickAt ps k).thread ∧ (pickAt ps k).thread < c.t then ghNext ((gAt c mem jobs ps k).th (pickAt ps k).thread) (gGh c mem jobs ps k) else gGh c mem jobs ps k
theorem pi_start {c : Cfg} (hc : cfgB c = true) {mem : List Int} (jobs : List (Int × List InsD)) : PI c jobs (gStart c mem jobs).m (gStart c mem jobs).th ⟨fun _ a => startVal c mem (3 + 2 * c.s + c.t + a), fun _ => 0⟩ := by
 obtain ⟨⟨t1, t2⟩, _, ⟨s1, s2⟩, _⟩ := cfgB_true hc
 have lo : ∀ x, x < wordBase c → startVal c mem x = 0 := fun x h => by unfold startVal; rw [if_neg (by omega)]
 unfold wordBase at lo
 refine ⟨fun s a b ho => ?_, fun a a0 a1 hn n hnn => rfl, fun n hn a a0 a1 => rfl, fun t u0 u1 => ?_⟩
 ·rw [show (gStart c mem jobs).m (3 + s) = 0 from lo _ (by omega), show (gStart c mem jobs).m 0 = 0 from lo _ (by omega)]
  exact ⟨rfl, Int.le_refl _⟩
 ·show SI _ _ _ (hInit (cxOf c jobs t))
  unfold hInit hTo
  split
  ·exact fun q hq => by cases hq
  ·exact fun q hq => by cases hq
theorem pi_at {c : Cfg} (hc : cfgB c = true) {mem : List Int} (hmw : (mem.length : Int) = c.wd) (hmb : memB mem = true) (jobs : List (Int × List InsD)) (ps : List PickD) : ∀ k : Nat, PI c jobs (gAt c mem jobs ps k).m (gAt c mem jobs ps k).th (gGh c mem jobs ps k)
 | 0 => pi_start hc jobs
 | k + 1 => by
  have Q := pi_at hc hmw hmb jobs ps k
  have I := li_at hc hmw hmb jobs ps k
  have G := gat_ok hc hmw hmb jobs ps k
  show PI c jobs (gStep c jobs (gAt c mem jobs ps k) _ (pickAt ps k)).1.m (gStep c jobs (gAt c mem jobs ps k) _ (pickAt ps k)).1.th (if 0 ≤ (pickAt ps k).thread ∧ (pickAt ps k).thread < c.t then ghNext ((gAt c mem jobs ps k).th (pickAt ps k).thread) (gGh c mem jobs ps k) else gGh c mem jobs ps k)
  unfold gStep
  by_cases ht : 0 ≤ (pickAt ps k).thread ∧ (pickAt ps k).thread < c.t
  ·rw [if_pos ht, if_pos ht]
   exact pi_step hc ht.1 ht.2 (by omega) G.m G.th I Q ⟨(gAcc c jobs (gAt c mem jobs ps k) (pickAt ps k).thread).seen, (pickAt ps k).draw, (k : Int) + 1⟩ (fun h0 => by
       show (gAcc c jobs (gAt c mem jobs ps k) (pickAt ps k).thread).seen = _
       unfold gAcc
       rw [acc_some h0])
  ·rw [if_neg ht, if_neg ht]
   exact Q
theorem SI.li {K : Cx} {G : Gh} {m : Int → Int} {h : Th} (S : SI K G m h) : LiOk K G m h := by
 unfold SI at S
 cases hst : h.st with
 | rHeld i a => rw [hst] at S; exact S.1.1.li
 | rVer i a => rw [hst] at S; exact S.1.1.li
 | rWord i a one => rw [hst] at S; exact S.1.1.li
 | rAgain i a one w => rw [hst] at S; exact S.1.1.li
 | xClock x =>
  rw [hst] at S
  cases x with
  | rd i a w => exact S.1.li
  | wr i a => exact S.1.li
 | xVer x c r =>
  rw [hst] at S
  cases x with
  | rd i a w => exact S.1.1.li
  | wr i a => exact S.1.1.li
 | gStat i a => rw [hst] at S; exact S.1.li
 | gOwn i a => rw [hst] at S; exact S.1.li
 | gTheir i a u => rw [hst] at S; exact S.1.li
 | gMark i a u q => rw [hst] at S; exact S.1.li
 | gVer i a => rw [hst] at S; exact S.1.li
 | tTake => rw [hst] at S; exact S.1.li
 | tShow => rw [hst] at S; exact S.1.li
 | cStat => rw [hst] at S; exact S.1.li
 | cGate => rw [hst] at S; exact S.1.li
 | cClock => rw [hst] at S; exact S.1.li
 | cVer c r => rw [hst] at S; exact S.1.1.li
 | cShut c r => rw [hst] at S; exact S.1.li
 | cStamp c => rw [hst] at S; exact S.1.li
 | cLeave c => rw [hst] at S; exact S.1
 | cWord c r => rw [hst] at S; exact S.1
 | cOpen c r => rw [hst] at S; exact S.1
 | cOwn c r => rw [hst] at S; exact S.1
 | _ => rw [hst] at S; exact S
theorem att_at {c : Cfg} (hc : cfgB c = true) {mem : List Int} (hmw : (mem.length : Int) = c.wd) (hmb : memB mem = true) (jobs : List (Int × List InsD)) (ps : List PickD) (k : Nat) (t : Int) (t0 : 0 ≤ t) (t1 : t < c.t) :
  ∀ q ∈ ((gAt c mem jobs ps k).th t).list, AttOk (cxOf c jobs t) (gGh c mem jobs ps k) ((gAt c mem jobs ps k).m 0) q := ((pi_at hc hmw hmb jobs ps k).th t t0 t1).li
theorem gh_zero (c : Cfg) (mem : List Int) (jobs : List (Int × List InsD)) (ps : List PickD) (hc : cfgB c = true) (hmw : (mem.length : Int) = c.wd) (hmb : memB mem = true) : ∀ k n : Nat, ∀ a, n = 0 → (gGh c mem jobs ps k).W 0 a = startVal c mem (3 + 2 * c.s + c.t + a)
 | 0, _, a, _ => rfl
 | k + 1, n, a, hn => by
  have ih := gh_zero c mem jobs ps hc hmw hmb k n a hn
  have G := gat_ok hc hmw hmb jobs ps k
  show (if 0 ≤ (pickAt ps k).thread ∧ (pickAt ps k).thread < c.t then ghNext ((gAt c mem jobs ps k).th (pickAt ps k).thread) (gGh c mem jobs ps k) else gGh c mem jobs ps k).W 0 a = _
  by_cases ht : 0 ≤ (pickAt ps k).thread ∧ (pickAt ps k).thread < c.t
  ·rw [if_pos ht]
   have A := (G.th _ ht.1 ht.2).step
   unfold StepOk at A
   unfold ghNext
   cases hst : ((gAt c mem jobs ps k).th (pickAt ps k).thread).st with
   | cStamp cc =>
    rw [hst] at A
    show (if (0 : Int) ≤ cc then (gGh c mem jobs ps k).W 0 a else _) = _
    rw [if_pos A.1]
    exact ih
   | cShut cc r =>
    cases r with
    | nil => exact ih
    | cons s r => exact ih
   | _ => exact ih
  ·rw [if_neg ht]
   exact ih
end Go.Proofs.YtejadojilncbjabGreat
