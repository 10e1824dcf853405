import Derived.Test.YtejadojilncbjabGreatK42
import Derived.Test.YtejadojilncbjabGreatK40
import Derived.Test.YtejadojilncbjabGreatK41
import Derived.Deep.RegionHeld3
import Derived.Deep.DeepCutAuto
namespace Go.Proofs.YtejadojilncbjabGreat
set_option linter.unusedVariables false
theorem w_range {R : Rn} (O : R.Ok) : ∀ (k : Nat) (n a : Int), 0 ≤ a → a < R.c.wd → 0 ≤ (R.gh k).W n a ∧ (R.gh k).W n a ≤ 65535
 | 0, n, a, a0, a1 => by
  show 0 ≤ startVal R.c R.mem (3 + 2 * R.c.s + R.c.t + a) ∧ startVal R.c R.mem (3 + 2 * R.c.s + R.c.t + a) ≤ 65535
  unfold startVal wordBase
  rw [if_pos (by omega)]
  exact memB_get O.m _
 | k + 1, n, a, a0, a1 => by
  have ih := w_range O k
  show 0 ≤ (gGh R.c R.mem R.jobs R.ps (k + 1)).W n a ∧ (gGh R.c R.mem R.jobs R.ps (k + 1)).W n a ≤ 65535
  unfold gGh
  by_cases h : 0 ≤ (pickAt R.ps k).thread ∧ (pickAt R.ps k).thread < R.c.t
  ·rw [if_pos h]
   have A : ThOk (R.K (pickAt R.ps k).thread) k ((gAt R.c R.mem R.jobs R.ps k).th (pickAt R.ps k).thread) := Rn.okT O k _ h.1 h.2
   unfold ghNext
   cases hst : ((gAt R.c R.mem R.jobs R.ps k).th (pickAt R.ps k).thread).st with
   | cStamp cc =>
    show 0 ≤ (if n ≤ cc then (R.gh k).W n a else overW _ ((R.gh k).W cc) a) ∧ (if n ≤ cc then (R.gh k).W n a else overW _ ((R.gh k).W cc) a) ≤ 65535
    split
    ·exact ih n a a0 a1
    ·generalize hw : ((gAt R.c R.mem R.jobs R.ps k).th (pickAt R.ps k).thread).x.writes = ws
     have hr := A.x.wr
     rw [hw] at hr
     cases he : entIdx ws a with
     | none => rw [overW_none _ _ _ he]; exact ih cc a a0 a1
     | some j =>
      rw [overW_some _ _ _ j he]
      have := hr _ (entIn he).2.2
      exact ⟨this.2.2.1, this.2.2.2⟩
   | cShut cc r =>
    cases r with
    | nil => exact ih n a a0 a1
    | cons s r => exact ih n a a0 a1
   | _ => exact ih n a a0 a1
  ·rw [if_neg h]; exact ih n a a0 a1
def Rn.wl (R : Rn) (n : Int) : List Int := (List.range R.c.wd.toNat).map fun a : Nat => (R.gh R.ps.length).W n (a : Int)
theorem wl_len (R : Rn) (n : Int) : (R.wl n).length = R.c.wd.toNat := by unfold Rn.wl; simp
theorem wl_get (R : Rn) (n a : Int) (a0 : 0 ≤ a) (a1 : a < R.c.wd) : memW (R.wl n) a = (R.gh R.ps.length).W n a := by
 unfold memW Rn.wl
 have : a.toNat < R.c.wd.toNat := by omega
 simp only [List.getD, List.getElem?_map, List.getElem?_range this, Option.map_some, Option.getD_some]
 rw [show ((a.toNat : Nat) : Int) = a from by omega]
theorem wl_ok {R : Rn} (O : R.Ok) (n : Int) : memB (R.wl n) = true ∧ ((R.wl n).length : Int) = R.c.wd := by
 obtain ⟨_, ⟨w1, w2⟩, _⟩ := cfgB_true O.c
 refine ⟨?_, by rw [wl_len]; omega⟩
 unfold memB Rn.wl
 rw [List.all_eq_true]
 intro v hv
 obtain ⟨a, ha, e⟩ := List.mem_map.1 hv
 rw [List.mem_range] at ha
 have := w_range O R.ps.length n (a : Int) (by omega) (by omega)
 rw [← e]
 unfold inB
 simp
 omega
structure PH (K : Cx) (G : Gh) (N n : Int) (l : List AttD) : Prop where
 n0 : 0 ≤ n
 nN : n ≤ N
 hs : l.Pairwise Ahd
 ha : ∀ x ∈ l, AttOk K G N x
 hu : l.Pairwise fun a b => a.stamp ≠ 0 → a.stamp ≠ b.stamp
 h1 : ∀ x ∈ l, 0 < x.stamp → n < x.stamp
 h2 : ∀ x ∈ l, x.stamp = 0 → n ≤ x.valid
 h3 : ∀ v, n < v → v ≤ N → ∃ x ∈ l, x.stamp = v
theorem PH.head {K : Cx} {G : Gh} {N n : Int} {x : AttD} {r : List AttD} (P : PH K G N n (x :: r)) : (x.stamp = n + 1 ∧ PH K G N (n + 1) r) ∨ (x.stamp = 0 ∧ x.valid = n ∧ PH K G N n r) := by
 have A := P.ha x List.mem_cons_self
 have hst := A.st
 have hsx := List.pairwise_cons.1 P.hs
 have hux := List.pairwise_cons.1 P.hu
 have n0 := P.n0
 have later : ∀ v, n < v → v ≤ N → x.stamp ≠ v → ∃ y ∈ r, y.stamp = v := fun v v1 v2 hne => by
  obtain ⟨y, hy, e⟩ := P.h3 v v1 v2
  rcases List.mem_cons.1 hy with q | q
  ·rw [q] at e; exact absurd e hne
  ·exact ⟨y, q, e⟩
 by_cases hp : 0 < x.stamp
 ·have hn := P.h1 x List.mem_cons_self hp
  have e : x.stamp = n + 1 := by
   by_cases q : x.stamp = n + 1
   ·exact q
   ·obtain ⟨y, hy, e⟩ := later (n + 1) (by omega) (by omega) q
    have a2 := hsx.1 y hy
    unfold Ahd Sooner plA plB at a2
    rw [if_pos hp, if_pos hp, if_pos (by omega), if_pos (by omega)] at a2
    omega
  refine Or.inl ⟨e, by omega, by omega, hsx.2, fun y hy => P.ha y (List.mem_cons_of_mem _ hy), hux.2, fun y hy q => ?_, fun y hy q => ?_, fun v v1 v2 => later v (by omega) v2 (by omega)⟩
  ·have a2 := hsx.1 y hy
   have a3 := hux.1 y hy (by omega)
   unfold Ahd Sooner plA plB at a2
   rw [if_pos hp, if_pos hp, if_pos q, if_pos q] at a2
   omega
  ·have a2 := hsx.1 y hy
   unfold Ahd Sooner plA plB at a2
   rw [if_pos hp, if_pos hp, if_neg (by omega), if_neg (by omega)] at a2
   omega
 ·have z : x.stamp = 0 := by omega
  have hn := P.h2 x List.mem_cons_self z
  have e : x.valid = n := by
   by_cases q : x.valid = n
   ·exact q
   ·obtain ⟨y, hy, e⟩ := later (n + 1) (by omega) (by omega) (by omega)
    have a2 := hsx.1 y hy
    unfold Ahd Sooner plA plB at a2
    rw [if_neg hp, if_neg hp, if_pos (by omega), if_pos (by omega)] at a2
    omega
  exact Or.inr ⟨z, e, P.n0, P.nN, hsx.2, fun y hy => P.ha y (List.mem_cons_of_mem _ hy), hux.2, fun y hy => P.h1 y (List.mem_cons_of_mem _ hy), fun y hy => P.h2 y (List.mem_cons_of_mem _ hy), fun v v1 v2 => later v v1 v2 (by omega)⟩
theorem PH.end {K : Cx} {G : Gh} {N n : Int} (P : PH K G N n []) : n = N := by
 have := P.nN
 by_cases h : n = N
 ·exact h
 ·obtain ⟨x, hx, _⟩ := P.h3 (n + 1) (by omega) (by omega)
  cases hx
theorem ph_ord {R : Rn} (O : R.Ok) : PH (R.K 0) (R.gh R.ps.length) (R.clk R.ps.length) 0 R.ord := by
 have hm : ∀ {x}, x ∈ R.ord → x ∈ R.hist := fun h => (hord_mem _).1 h
 have c0 : 0 ≤ R.clk R.ps.length := by rw [← draws_at O]; omega
 refine ⟨Int.le_refl _, c0, hord_srt O, fun x hx => hist_ok O (hm hx), ?_, fun x _ h => h, fun x hx _ => (hist_ok O (hm hx)).va, fun v v1 v2 => ?_⟩
 ·refine (hord_srt O).imp_of_mem fun {a b} ha hb h hs e => ?_
  have s := stamp_un O (hm ha) (hm hb) hs e
  have A := (hist_ok O (hm ha)).st
  unfold Ahd Sooner plA plB at h
  rw [if_pos (by omega), if_pos (by omega), if_pos (by omega), if_pos (by omega)] at h
  omega
 ·obtain ⟨x, hx, e⟩ := stamp_ex O (v := v) (by omega) v2
  exact ⟨x, (hord_mem _).2 hx, e⟩
structure Rn.Jok (R : Rn) : Prop where
 thr : ∀ j, j < R.jobs.length → 0 ≤ (R.jobs.getD j (0, [])).1 ∧ (R.jobs.getD j (0, [])).1 < R.c.t
 len : ∀ j, j < R.jobs.length → (R.jobs.getD j (0, [])).2.length ≤ 20
def serOk (R : Rn) (ws : List Int) (x : AttD) : Prop :=
 0 ≤ x.job ∧ x.job < R.jobs.length ∧ errN R.c ws (R.jobs.getD x.job.toNat (0, [])).2 = 0 ∧ (ansO R.c ws (R.jobs.getD x.job.toNat (0, [])).2).length = ws.length ∧
  (x.fate ≠ 0 → (ansR R.c ws (R.jobs.getD x.job.toNat (0, [])).2).fate = x.fate ∧ ansR R.c ws (R.jobs.getD x.job.toNat (0, [])).2 = R.res R.ps.length x.job.toNat) ∧
  (x.fate = 0 → (ansR R.c ws (R.jobs.getD x.job.toNat (0, [])).2).fate = 1) ∧ (x.stamp = 0 → ansO R.c ws (R.jobs.getD x.job.toNat (0, [])).2 = ws)
def serAll (R : Rn) : List Int → List AttD → Prop
 | ws, [] => ws = R.wl (R.clk R.ps.length)
 | ws, x :: r => if x.fate = 5 ∨ (x.fate = 0 ∧ x.stamp = 0) then serAll R ws r else serOk R ws x ∧ serAll R (ansO R.c ws (R.jobs.getD x.job.toNat (0, [])).2) r
theorem wl_ext {R : Rn} {n : Int} {ws : List Int} (hl : ws.length = R.c.wd.toNat) (h : ∀ a : Nat, a < R.c.wd.toNat → ws.getD a 0 = (R.gh R.ps.length).W n (a : Int)) : ws = R.wl n := by
 refine List.ext_getElem (by rw [hl, wl_len]) (fun i h1 h2 => ?_)
 have := h i (by omega)
 rw [show ws.getD i 0 = ws[i] from by simp [List.getD, List.getElem?_eq_getElem h1]] at this
 rw [this]
 simp only [Rn.wl, List.getElem_map, List.getElem_range]
theorem ser_of {R : Rn} (O : R.Ok) {t : Int} (t0 : 0 ≤ t) (t1 : t < R.c.t) {x : AttD} (hx : x ∈ ((R.g R.ps.length).th t).list) (h5 : x.fate ≠ 5) (h0 : x.fate ≠ 0 ∨ x.stamp ≠ 0) (j : Nat) (hj : x.job = (j : Int)) : SerB (R.K t) x j (if x.fate = 0 then 1 else x.fate) (endOf ((R.g R.ps.length).th t) j) := by
 have T := ti_at O t t0 t1 R.ps.length
 have A := att_t O _ t t0 t1 hx
 by_cases hf : x.fin = 0
 ·have f0 : x.fate = 0 := by
   rcases A.en with y | y
   ·exact y.2
   ·have h1 := y.1
    have h2 := A.s1
    omega
  rw [if_pos f0]
  have hs : x.stamp ≠ 0 := h0.elim (fun y => absurd f0 y) id
  have ho : Opn ((R.g R.ps.length).th t) = true := by
   cases h : Opn ((R.g R.ps.length).th t) with
   | true => rfl
   | false => exact absurd hf (T.cl h (er x) (List.mem_map.2 ⟨x, hx, rfl⟩))
  have Q := sq_at O t t0 t1 R.ps.length
  obtain ⟨l0, q, E0, q1, q2, q3, q4, q5⟩ := T.ne ho
  generalize (R.g R.ps.length).th t = h at *
  have hne : h.list ≠ [] := fun f => by rw [f] at hx; cases hx
  have ec : x = cur h.list ∧ q.stamp = x.stamp ∧ x.job = (h.job : Int) := by
   obtain ⟨m0, z, hm⟩ := snoc_of hne
   have E1 := E0
   rw [hm, List.map_append] at E1
   have e1 : er z = q := by
    have := List.append_inj_right' E1 rfl
    simpa using this
   have e2 : m0.map er = l0 := List.append_inj_left' E1 rfl
   rw [hm] at hx
   rcases List.mem_append.1 hx with y | y
   ·exact absurd hf (q4 (er x) (by rw [← e2]; exact List.mem_map.2 ⟨x, y, rfl⟩))
   ·have ez := List.mem_singleton.1 y
    refine ⟨by rw [hm, cur_snoc, ez], by rw [← e1, ez]; rfl, ?_⟩
    rw [← q3, ← e1, ez]
    rfl
  have hjj : j = h.job := by have := ec.2.2; omega
  have E : EndQ (R.K t) h 1 := by
   unfold Ph at q5
   rw [ec.2.1] at q5
   unfold SQ at Q
   cases hst : h.st with
   | cLeave c => rw [hst] at Q; exact Q.1
   | cWord c r => rw [hst] at Q; exact Q.1
   | cOpen c r => rw [hst] at Q; exact Q.1
   | cOwn c r => rw [hst] at Q; exact Q.1
   | fin e =>
    rw [hst] at Q q5
    have : e = 1 := q5.2.elim (fun y => absurd y hs) id
    rw [this] at Q
    exact Q.1
   | free e r => rw [hst] at q5; exact absurd q5.2 hs
   | idle => simp [Opn, hst] at ho
   | start => simp [Opn, hst] at ho
   | wait w => simp [Opn, hst] at ho
   | rest n => simp [Opn, hst] at ho
   | _ => rw [hst] at q5; exact absurd q5 hs
  refine ⟨fun W hW => ?_, fun hz _ => absurd hz hs⟩
  have hW' : fOk (nts h) W := by unfold nts; rw [← ec.1]; exact hW
  have F := E.2 W hW'
  rw [hjj]
  refine ⟨F.fate, fun hz => absurd f0 hz, fun b => ?_⟩
  show overW (iRun (R.K t).c W (codeOf (R.K t) h)).2.2.1.writes W b = _
  rw [F.writes, ← E.1.2, show nts h = x.notes from by unfold nts; rw [← ec.1]]
 ·have f0 : x.fate ≠ 0 := by
   rcases A.en with y | y
   ·exact absurd y.1 hf
   ·have := y.2.2.1.1; omega
  rw [if_neg f0]
  exact ser_at O t t0 t1 R.ps.length x hx hf h5 j hj
theorem ser_ind {R : Rn} (O : R.Ok) (J : R.Jok) : ∀ (l : List AttD) (n : Int), PH (R.K 0) (R.gh R.ps.length) (R.clk R.ps.length) n l → (∀ x ∈ l, x ∈ R.hist) → serAll R (R.wl n) l
 | [], n, P, _ => by
  show R.wl n = _
  rw [P.end]
 | x :: r, n, P, hm => by
  obtain ⟨t, t0, t1, hx⟩ := (hist_mem O).1 (hm x List.mem_cons_self)
  have A := att_t O _ t t0 t1 hx
  have AO := hist_ok O (hm x List.mem_cons_self)
  have n0 := P.n0
  have hr : ∀ y ∈ r, y ∈ R.hist := fun y hy => hm y (List.mem_cons_of_mem _ hy)
  obtain ⟨j, hj, jl, jt⟩ := A.jb
  unfold serAll
  by_cases hsk : x.fate = 5 ∨ (x.fate = 0 ∧ x.stamp = 0)
  ·rw [if_pos hsk]
   have hs : x.stamp = 0 := by
    rcases hsk with y | y
    ·by_cases h : x.stamp = 0
     ·exact h
     ·have := A.sp h; omega
    ·exact y.2
   rcases P.head with y | y
   ·omega
   ·exact ser_ind O J r n y.2.2 hr
  ·rw [if_neg hsk]
   have h5 : x.fate ≠ 5 := fun h => hsk (Or.inl h)
   have h0 : x.fate ≠ 0 ∨ x.stamp ≠ 0 := by
    by_cases h : x.fate = 0
    ·exact Or.inr (fun g => hsk (Or.inr ⟨h, g⟩))
    ·exact Or.inl h
   have B := ser_of O t0 t1 hx h5 h0 j hj
   have ejt : x.job.toNat = j := by omega
   have wok := wl_ok O n
   have herr : errN R.c (R.wl n) (R.jobs.getD j (0, [])).2 = 0 := by
    have hm0 : machN R.c (R.wl n) = 0 := by
     unfold machN
     rw [if_pos O.c, if_pos ⟨wok.2, wok.1⟩]
    unfold errN
    rw [hm0, if_neg (by simp), if_pos (by have := J.len j jl; omega)]
   have hfo : fOk x.notes (memW (R.wl n)) := by
    rcases P.head with y | y
    ·rcases AO.snd with q | q
     ·omega
     ·refine fOk_congr _ _ _ (fun m hmm => ?_) q.2.2.1
      rw [wl_get R n _ (AO.inn m hmm).2.1 (AO.inn m hmm).2.2, show x.stamp - 1 = n from by omega]
    ·rcases AO.snd with q | q
     ·refine fOk_congr _ _ _ (fun m hmm => ?_) q.2.2
      rw [wl_get R n _ (AO.inn m hmm).2.1 (AO.inn m hmm).2.2, y.2.1]
     ·have := AO.va; omega
   obtain ⟨b1, b2, b3⟩ := B.run (memW (R.wl n)) hfo
   have b1' : (iRun R.c (memW (R.wl n)) (R.jobs.getD j (0, [])).2).1 = (if x.fate = 0 then 1 else x.fate) := b1
   have hR : ansR R.c (R.wl n) (R.jobs.getD j (0, [])).2 = resOf (if x.fate = 0 then 1 else x.fate) (iRun R.c (memW (R.wl n)) (R.jobs.getD j (0, [])).2).2.2.1 := by
    unfold ansR
    rw [if_pos herr, b1']
   have hlen : (ansO R.c (R.wl n) (R.jobs.getD j (0, [])).2).length = R.c.wd.toNat := by
    unfold ansO
    rw [if_pos herr, List.length_map, List.length_range, wl_len]
   have hget : ∀ a : Nat, a < R.c.wd.toNat → (ansO R.c (R.wl n) (R.jobs.getD j (0, [])).2).getD a 0 = if (if x.fate = 0 then 1 else x.fate) = 1 then overN x.notes (memW (R.wl n)) (a : Int) else memW (R.wl n) (a : Int) := fun a ha => by
    unfold ansO
    rw [if_pos herr]
    simp only [List.getD, List.getElem?_map]
    rw [List.getElem?_range (by rw [wl_len]; exact ha)]
    show endW R.c (R.wl n) (R.jobs.getD j (0, [])).2 (a : Int) = _
    unfold endW
    rw [b1', vRead_over]
    have := b3 (a : Int)
    generalize (if x.fate = 0 then 1 else x.fate) = e
    by_cases he : e = 1
    ·rw [if_pos he, if_pos he]; exact this
    ·rw [if_neg he, if_neg he]
   rw [ejt]
   rcases P.head with ⟨y1, y2⟩ | ⟨y1, y2, y3⟩
   ·-- it has a stamp
    have hs : x.stamp ≠ 0 := by omega
    have e1 : (if x.fate = 0 then 1 else x.fate) = 1 := by
     rcases A.sp hs with z | z
     ·rw [if_pos z]
     ·rw [if_neg (by omega), z]
    have hW : ansO R.c (R.wl n) (R.jobs.getD j (0, [])).2 = R.wl (n + 1) := by
     refine wl_ext hlen (fun a ha => ?_)
     rw [hget a ha, if_pos e1, overN_at x.notes _ ((R.gh R.ps.length).W n) (wl_get R n (a : Int) (by omega) (by omega))]
     rcases AO.snd with q | q
     ·omega
     ·have := q.2.2.2 (a : Int) (by omega) (show (a : Int) < R.c.wd by omega)
      rw [show x.stamp - 1 = n from by omega, y1] at this
      exact this
    refine ⟨⟨by omega, by omega, by rw [ejt]; exact herr, by rw [ejt, hlen, wl_len], fun hz => ?_, fun hz => ?_, fun hz => absurd hz hs⟩, ?_⟩
    ·rw [ejt, hR]
     refine ⟨by show (if x.fate = 0 then 1 else x.fate) = x.fate; rw [if_neg hz], ?_⟩
     unfold Rn.res
     rw [jt]
     exact (b2 hz).symm
    ·rw [ejt, hR]; show (if x.fate = 0 then 1 else x.fate) = 1; exact e1
    ·rw [hW]; exact ser_ind O J r (n + 1) y2 hr
   ·-- it has none
    have hz : x.fate ≠ 0 := h0.elim id (fun g => absurd y1 g)
    have hW : ansO R.c (R.wl n) (R.jobs.getD j (0, [])).2 = R.wl n := by
     refine wl_ext hlen (fun a ha => ?_)
     rw [hget a ha, ← wl_get R n (a : Int) (by omega) (by omega)]
     have bn := B.no y1
     generalize (if x.fate = 0 then 1 else x.fate) = e at *
     by_cases he : e = 1
     ·rw [if_pos he]; exact bn he _ _
     ·rw [if_neg he]
    refine ⟨⟨by omega, by omega, by rw [ejt]; exact herr, by rw [ejt, hlen, wl_len], fun _ => ?_, fun h => absurd h hz, fun _ => by rw [ejt]; exact hW⟩, ?_⟩
    ·rw [ejt, hR]
     refine ⟨by show (if x.fate = 0 then 1 else x.fate) = x.fate; rw [if_neg hz], ?_⟩
     unfold Rn.res
     rw [jt]
     exact (b2 hz).symm
    ·rw [hW]; exact ser_ind O J r n y3 hr
theorem mem_wl {R : Rn} (O : R.Ok) : R.mem = R.wl 0 := by
 obtain ⟨_, ⟨w1, w2⟩, ⟨s1, s2⟩, _⟩ := cfgB_true O.c
 have hw := O.w
 refine wl_ext (by omega) (fun a ha => ?_)
 rw [show (R.gh R.ps.length).W 0 (a : Int) = startVal R.c R.mem (3 + 2 * R.c.s + R.c.t + (a : Int)) from gh_zero R.c R.mem R.jobs R.ps O.c O.w O.m R.ps.length 0 _ rfl]
 unfold startVal wordBase
 rw [if_pos (by omega), show (3 + 2 * R.c.s + R.c.t + (a : Int) - (3 + 2 * R.c.s + R.c.t)).toNat = a from by omega]
theorem serial_ord {R : Rn} (O : R.Ok) (J : R.Jok) : serAll R R.mem R.ord := by
 rw [mem_wl O]
 exact ser_ind O J R.ord 0 (ph_ord O) (fun x hx => (hord_mem _).1 hx)
theorem words_end {R : Rn} (O : R.Ok) (a : Int) (a0 : 0 ≤ a) (a1 : a < R.c.wd) (ho : (R.g R.ps.length).m (3 + a.tmod R.c.s) ≠ -1) : (R.g R.ps.length).m (3 + 2 * R.c.s + R.c.t + a) = memW (R.wl (R.clk R.ps.length)) a := by
 obtain ⟨_, _, ⟨s1, s2⟩, _⟩ := cfgB_true O.c
 have I := Rn.okL O R.ps.length
 have P : PI R.c R.jobs (R.g R.ps.length).m (R.g R.ps.length).th (R.gh R.ps.length) := pi_at O.c O.w O.m R.jobs R.ps R.ps.length
 have c0 : 0 ≤ (R.g R.ps.length).m 0 := by
  have := draws_at O R.ps.length
  show 0 ≤ R.clk R.ps.length
  omega
 have b := tmodP s1 a0
 obtain ⟨e1, e2, e3⟩ := (P.phys I c0 0).opn (a.tmod R.c.s) b.1 b.2 ho
 rw [wl_get R _ a a0 a1]
 exact (e3 a a0 a1 rfl (R.clk R.ps.length) (by rw [e1]; exact e2)).symm
end Go.Proofs.YtejadojilncbjabGreat
namespace Go.Proofs.YtejadojilncbjabGreat
open Go.RowKit
set_option linter.unusedVariables false
attribute [local go_sem ↓] Go.wp_at_zero Go.wp_at_succ
set_option maxRecDepth 100000 in
set_option maxHeartbeats 2000000 in
theorem keepInts_any (a b : Option Addr) (ca cb : Nat) (zs ys : List Int) (w : World) (hl : ys.length = zs.length) (hn : zs.length ≤ 2 ^ 40) (ha : Ints w w.heap.size a zs) (hb : Ints w w.heap.size b ys) :
  Calls Tryz.prog 39 #[.slice a zs.length ca, .slice b zs.length cb] w (KResIs (zs = ys) w) := by
 have HA : Hid (Ints w w.heap.size a zs) := ha
 have HB : Hid (Ints w w.heap.size b ys) := hb
 have HL : Hid (ys.length = zs.length) := hl
 clear ha hb hl
 go_enter Tryz.func39, Tryz.ntmps39
 go_wp2
 go_loopg [5] (zs.length + 1) (fun m t wr => ∃ k : Nat, t = .int .i64 (k : Int) ∧ k ≤ zs.length ∧ m = zs.length + 1 - k ∧ Hid (Below w.heap.size w wr))
 case atStart => exact ⟨0, rfl, by omega, by omega, Below.refl _ _⟩
 case round =>
  obtain ⟨k, rfl, hk, hgk, HBk⟩ := hrel
  by_cases hlt : k < zs.length
  ·obtain ⟨b1, o1, hA1, hb1, hc1⟩ := HA.out k hlt
   obtain ⟨b2, o2, hB1, hb2, hc2⟩ := HB.out k (by rw [HL.out]; exact hlt)
   have hd1 : wr.cell? ⟨b1, o1 + k, none⟩ = some (.int .i64 (zs.getD k 0)) := (World.cell?_of_block ((HBk.out).block b1 hb1)).trans hc1
   have hd2 : wr.cell? ⟨b2, o2 + k, none⟩ = some (.int .i64 (ys.getD k 0)) := (World.cell?_of_block ((HBk.out).block b2 hb2)).trans hc2
   have hk0 : (0 : Int) ≤ (k : Int) := by omega
   have hk1 : (k : Int) < (zs.length : Int) := by omega
   have hwk : IntKind.i64.wrap ((k : Int) + 1) = (k : Int) + 1 := wrapF _ (by omega) (by omega)
   subst hA1 hB1
   have HZ : Hid (zs = ys → zs.getD k 0 = ys.getD k 0) := fun h => by rw [h]
   generalize zs.getD k 0 = z at *
   generalize ys.getD k 0 = y at *
   clear hc1 hc2 HA HB HL
   by_cases he : z = y
   ·subst he
    clear HZ
    go_wp2
    go_quiet (fail)
    go_wp2
    go_roundg (gk - 1)
    case rel => exact ⟨k + 1, by simp, by omega, by omega, belowDrewN HBk.out nq⟩
    case measure => omega
   ·have hne : (z != y) = true := by simp [he]
    have HQ : Hid (¬ zs = ys) := fun h => he (HZ.out h)
    clear he HZ
    go_wp2
    go_quiet (fail)
    go_wp2
    go_ret
    exact ⟨false, rfl, fun h => absurd h HQ.out, belowDrewN HBk.out nq⟩
  ·have hke : ¬ (k : Int) < (zs.length : Int) := by omega
   go_wp2
   go_ret
   exact ⟨true, rfl, fun _ => rfl, HBk.out⟩
end Go.Proofs.YtejadojilncbjabGreat
