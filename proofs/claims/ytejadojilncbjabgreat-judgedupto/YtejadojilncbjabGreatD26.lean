import Derived.Test.YtejadojilncbjabGreatD25
namespace Go.Proofs.YtejadojilncbjabGreat
set_option linter.unusedVariables false
def yPick (jobs : List (Int × List InsD)) (seen put num draw : Int) (t : PT) : PT :=
 if t.step = 0 then t else if 0 < t.rest then { t with rest := t.rest - 1 } else yTurns (jobs.getD (t.mine.getD t.cur 0).toNat (0, [])).2 yRounds (yFollow seen put num draw t)
theorem mine_at {K : Cx} {t : PT} {h : Th} (b : Bas K t h) : (t.mine.getD t.cur 0).toNat = h.job := by rw [getD_drop b.mine]; simp
theorem yPick_go {K : Cx} {t : PT} {h : Th} (b : Bas K t h) (h0 : t.step ≠ 0) (hr : t.rest = 0) (seen put num draw : Int) : yPick K.jobs seen put num draw t = yTurns (K.jobs.getD h.job (0, [])).2 yRounds (yFollow seen put num draw t) := by
 unfold yPick
 rw [if_neg h0, if_neg (by omega), mine_at b]
theorem sgn8 {v : Int} (h : 0 ≤ v) : v.tmod 8 ≠ 0 ↔ 0 < v.tmod 8 := by
 have := Int.tmod_nonneg 8 h
 omega
section
variable {K : Cx} {t : PT} {h : Th}
theorem getD_set_ne2 {l : List ResD} {i j : Nat} {v : ResD} (h : i ≠ j) : (l.set i v).getD j noRes = l.getD j noRes := by
 simp [List.getD, h]
theorem sim_to (b : Bax K t h) (num : Int) (e : Int) (hfe : t.turn.fate = e) : Sim K (yNextJob num t) (hTo K (h.job + 1) { h.ended num e with ends := h.ends.set h.job ⟨e, regOf h.x 0, regOf h.x 1, regOf h.x 2, regOf h.x 3⟩ }) := by
 have hr := b.2.rest
 have hd := (drop_cons3 b.1.mine).1
 have hcu := (drop_cons3 b.1.mine).2.1
 have hat : t.mine.getD t.cur 0 = (h.job : Int) := getD_drop b.1.mine
 have hyr : yRes t = ⟨e, regOf h.x 0, regOf h.x 1, regOf h.x 2, regOf h.x 3⟩ := by
  unfold yRes regOf
  rw [hfe, b.2.regs]
  rfl
 have T := b.1.tol
 have hT : TolF K t.mine (t.cur + 1) (t.res ++ [yRes t]) ({ t.told with fin := num, fate := e } : AttD) (modLast h.list fun q => { q with fin := num, fate := e }) (h.ends.set h.job ⟨e, regOf h.x 0, regOf h.x 1, regOf h.x 2, regOf h.x 3⟩) := by
  refine ⟨T.mi, hcu, Or.inr (last_mod (fun q => { q with fin := num, fate := e }) b.2.tl), by rw [List.length_set]; exact T.el, by simp [T.rl], ?_, ?_⟩
  ·intro i hi
   rcases Nat.lt_or_ge i t.cur with hlt | hge
   ·have hne : h.job ≠ (t.mine.getD i 0).toNat := by
     have h1 := pair_lt (by rw [T.mi]; exact mineF_pair _ _ _ : t.mine.Pairwise (· < ·)) hlt hcu
     have h2 : 0 ≤ t.mine.getD i 0 := by
      have hm : t.mine.getD i 0 ∈ mineF K.me 0 K.jobs := by
       rw [← T.mi]
       simp only [List.getD, List.getElem?_eq_getElem (show i < t.mine.length by omega), Option.getD_some]
       exact List.getElem_mem _
      have := mineF_ge _ _ _ _ hm
      omega
     rw [hat] at h1
     omega
    rw [getD_set_ne2 hne, T.rs i hlt]
    simp [List.getD, List.getElem?_append_left (show i < t.res.length by rw [T.rl]; exact hlt)]
   ·have hi' : i = t.cur := by omega
    subst hi'
    rw [hat]
    have h1 : (h.job : Int).toNat = h.job := by simp
    rw [h1]
    have h2 : h.job < h.ends.length := by rw [T.el]; exact b.1.jlt
    rw [← hyr]
    have h3 : (t.res ++ [yRes t]).getD t.cur noRes = yRes t := by
     rw [← T.rl]
     simp [List.getD]
    rw [h3]
    simp [List.getD, h2]
  ·intro j hj
   have h1 : h.job ≠ j := by
    have := hj t.cur (by omega)
    rw [hat] at this
    omega
   rw [getD_set_ne2 h1]
   exact T.rz j (fun i hi => hj i (by omega))
 have hT2 : Tol K { t with aFate := t.turn.fate, aEnd := num, res := t.res ++ [yRes t], cur := t.cur + 1, rank := 0, fails := 0 } { h.ended num e with ends := h.ends.set h.job ⟨e, regOf h.x 0, regOf h.x 1, regOf h.x 2, regOf h.x 3⟩ } := by
  subst hfe
  exact hT
 unfold yNextJob hTo
 rcases seek_mine K.me K.jobs (K.jobs.drop (h.job + 1)) (h.job + 1) rfl with ⟨h1, h2⟩ | ⟨k, h1, h2, h3, h4⟩
 ·rw [h1]
  rw [h2] at hd
  unfold yBegin
  rw [if_neg (drop_nil hd)]
  exact Or.inl ⟨rfl, rfl, hT2⟩
 ·rw [h1]
  rw [h4] at hd
  simp only
  have b1 : Bas K { t with aFate := t.turn.fate, aEnd := num, res := t.res ++ [yRes t], cur := t.cur + 1, rank := 0, fails := 0 } { h.ended num e with ends := h.ends.set h.job ⟨e, regOf h.x 0, regOf h.x 1, regOf h.x 2, regOf h.x 3⟩, rank := 0, fails := 0, job := k, st := .start } := ⟨b.1.c, b.1.num, rfl, rfl, h2, h3, hd, hT2⟩
  exact sim_start (h := { h.ended num e with ends := h.ends.set h.job ⟨e, regOf h.x 0, regOf h.x 1, regOf h.x 2, regOf h.x 3⟩, rank := 0, fails := 0, job := k, st := .start }) b1 hr
theorem sim_rest (b : Bas K t h) (hc : cfgB K.c = true) (hf : 0 ≤ h.fails) (draw : Int) : Sim K (yBegin { t with rest := yRestBy t draw }) (hRest K draw h) := by
 obtain ⟨_, _, _, _, _, ⟨c1, c2⟩, _⟩ := cfgB_true hc
 have e : (1 + if t.c.cp < t.fails then t.c.cp else t.fails) = (if h.fails < K.c.cp then h.fails else K.c.cp) + 1 := by
  rw [b.c, b.fails]
  split <;> split <;> omega
 have b1 : Bas K { t with rest := yRestBy t draw } h := b
 rw [yBegin_bas b1]
 unfold hRest
 simp only
 unfold yRestBy
 rw [e]
 have hn : 1 ≤ (if h.fails < K.c.cp then h.fails else K.c.cp) + 1 := by split <;> omega
 generalize (if h.fails < K.c.cp then h.fails else K.c.cp) + 1 = n at *
 by_cases h0 : 0 < draw ∧ (draw.tmod n).toNat ≠ 0
 ·rw [if_pos h0, if_neg (show ¬ draw < 0 by omega)]
  have := Int.tmod_nonneg n (show 0 ≤ draw by omega)
  refine Or.inr (Or.inr (Or.inl ⟨(draw.tmod n).toNat, rfl, b, ?_, by omega, rfl, rfl⟩))
  show draw.tmod n = ((draw.tmod n).toNat : Int)
  omega
 ·rw [if_neg h0]
  refine Or.inr (Or.inl ⟨rfl, b, ?_, rfl, rfl⟩)
  show (if draw < 0 then 0 else draw.tmod n) = 0
  split
  ·rfl
  ·have := Int.tmod_nonneg n (show 0 ≤ draw by omega)
   by_cases hz : draw = 0
   ·rw [hz]; exact Int.zero_tmod n
   ·have : ¬ (draw.tmod n).toNat ≠ 0 := fun q => h0 ⟨by omega, q⟩
    omega
end
theorem follow_sim {K : Cx} (hc : cfgB K.c = true) (hm : 0 ≤ K.me ∧ K.me < K.c.t) {k : Int} (hk : 0 ≤ k) {t : PT} {h : Th} (A : ThOk K k h) (hf : 0 ≤ h.fails) (S : Sim K t h) (v : AnsD) (hv : (hOut K h).kind ≠ 0 → VOk K.c k (hOut K h).cell v.seen) :
  h.st = .idle ∨ (∃ n, h.st = .rest n) ∨ (t.step ≠ 0 ∧ t.rest = 0 ∧ Bas K t h ∧ SimG K k (K.jobs.getD h.job (0, [])).2 (yFollow v.seen (putV (hOut K h) v.seen) v.num v.draw t) (hNext K h v)) := by
 obtain ⟨⟨t1, t2⟩, ⟨w1, w2⟩, ⟨s1, s2⟩, ⟨g1, g2⟩, _, _, ⟨f1, f2⟩⟩ := cfgB_true hc
 rcases S with ⟨hst, q, _⟩ | ⟨hst, b, hr, hs, ho⟩ | ⟨n, hst, b, hr, hn, hs, ho⟩ | ⟨win, hst, b, hr, hs, ho⟩ | ⟨b, ho, q⟩
 ·exact Or.inl hst
 ·refine Or.inr (Or.inr ⟨by omega, hr, b, ?_⟩)
  have hcl := (hv (by rw [show hOut K h = ⟨1, 0, 0, 0⟩ from by unfold hOut; rw [hst]]; decide)).cnt (Or.inl (by rw [show hOut K h = ⟨1, 0, 0, 0⟩ from by unfold hOut; rw [hst]]))
  unfold hNext
  rw [hst]
  simp only
  have e : ∀ p, yFollow v.seen p v.num v.draw t = yNew t v.seen v.num := fun p => by unfold yFollow; rw [if_pos hs]
  rw [e]
  have hmi : t.mine.getD t.cur 0 = (h.job : Int) := getD_drop b.mine
  have htd : (yNew t v.seen v.num).told = ⟨K.me, h.job, v.num, 0, v.seen, 0, 0, []⟩ := by
   unfold yNew PT.told
   simp only
   rw [hmi, b.num]
  have hla : (h.list ++ [(⟨K.me, h.job, v.num, 0, v.seen, 0, 0, []⟩ : AttD)]).getLast? = some (yNew t v.seen v.num).told := by rw [htd]; simp
  have bb : Bas K (yNew t v.seen v.num) { h with list := h.list ++ [⟨K.me, h.job, v.num, 0, v.seen, 0, 0, []⟩], x := newTS (K.jobs.getD h.job (0, [])).2 v.seen } := ⟨b.c, b.num, b.rank, b.fails, b.jlt, b.jme, b.mine, ⟨b.tol.mi, b.tol.cu, Or.inr hla, b.tol.el, b.tol.rl, b.tol.rs, b.tol.rz⟩⟩
  have b1 : Bax K (yNew t v.seen v.num) { h with list := h.list ++ [⟨K.me, h.job, v.num, 0, v.seen, 0, 0, []⟩], x := newTS (K.jobs.getD h.job (0, [])).2 v.seen } := ⟨bb, ⟨rfl, rfl, rfl, rfl, rfl, rfl, rfl, rfl, hr, rfl, hla⟩⟩
  exact w_goes (k := k) hc b1 rfl rfl ⟨A.rank, new_ok (by omega) (by omega) _ hcl⟩ rfl
 ·exact Or.inr (Or.inl ⟨n, hst⟩)
 ·refine Or.inr (Or.inr ⟨by omega, hr, b, ?_⟩)
  unfold hNext
  rw [hst]
  simp only
  have e : ∀ p, yFollow v.seen p v.num v.draw t = yAwait v.seen t := fun p => by simp [yFollow, hs]
  rw [e]
  unfold yAwait
  rw [b.rank]
  split
  ·exact (sim_start b hr).toG
  ·have S0 : Sim K t h := Or.inr (Or.inr (Or.inr (Or.inl ⟨win, hst, b, hr, hs, ho⟩)))
   exact S0.toG
 ·have hx := A.step
  have hr := b.2.rest
  have hon := A.on
  have hs0 : t.step ≠ 0 := by
   intro h0
   cases hst : h.st <;> rw [hst] at q <;> simp only [SimS] at q <;> first
    | exact q.elim
    | omega
  refine Or.inr (Or.inr ⟨hs0, hr, b.1, ?_⟩)
  have hsta : (hOut K h).kind ≠ 0 → (hOut K h).cell = hSta K K.me → 0 ≤ v.seen := fun h1 h2 => by
   have hvv := hv h1
   rw [h2] at hvv
   exact (hvv.sta (by unfold hSta; omega) (by unfold hSta; omega)).1
  generalize hp : putV (hOut K h) v.seen = put
  generalize hcode : (K.jobs.getD h.job (0, [])).2 = code
  have hcd := hcode.symm
  obtain ⟨hrank, hfails, hlist, hends, hjob, x, st⟩ := h
  cases st with
  | idle => exact q.elim
  | start => exact q.elim
  | rest n => exact q.elim
  | wait n => exact q.elim
  | rHeld i a =>
   obtain ⟨hg, hs, hrd⟩ := q
   have hx' : AOk K i a := hx
   have hvv := (hv (show (1 : Int) ≠ 0 by decide)).wrd (show 3 + 2 * K.c.s + K.c.t ≤ hWrd K a by unfold hWrd; have := hx'.1; omega) (show hWrd K a < total K.c by unfold hWrd total; have := hx'.2.1; omega)
   rw [show yFollow v.seen put v.num v.draw t = yGive v.seen t from by simp [yFollow, yFollowRead, hs]]
   exact w_got hc b hg hon hcd i a v.seen hrd hvv.1 hvv.2
  | rVer i a =>
   obtain ⟨hg, hs, hrd⟩ := q
   rw [show yFollow v.seen put v.num v.draw t = if v.seen ≠ -1 then yLoad 5 (cWrdOf t.c t.turn.addr) { t with version := v.seen } else t from by simp [yFollow, yFollowRead, hs]]
   show SimG K k code _ (if v.seen = -1 then _ else _)
   by_cases hh : v.seen = -1
   ·rw [if_neg (fun q => q hh), if_pos hh]
    exact (Sim.mk (t := t) (h := ⟨hrank, hfails, hlist, hends, hjob, x, .rVer i a⟩) b ho ⟨hg, hs, hrd⟩).toG
   ·rw [if_pos hh, if_neg hh]
    refine (Sim.mk (t := yLoad 5 _ { t with version := v.seen }) (h := ⟨hrank, hfails, hlist, hends, hjob, x, .rWord i a v.seen⟩) b ?_ ⟨hg, rfl, hrd, rfl⟩).toG
    show AskD.mk 1 (cWrdOf t.c t.turn.addr) 0 0 = ⟨1, hWrd K a, 0, 0⟩
    rw [b.wrd, hrd.2.1]
  | rWord i a one =>
   obtain ⟨hg, hs, hrd, hone⟩ := q
   rw [show yFollow v.seen put v.num v.draw t = yLoad 6 (hVer t.stripe) { t with value := v.seen } from by simp [yFollow, yFollowRead, hs]]
   refine (Sim.mk (t := yLoad 6 _ { t with value := v.seen }) (h := ⟨hrank, hfails, hlist, hends, hjob, x, .rAgain i a one v.seen⟩) b ?_ ⟨hg, rfl, hrd, hone, rfl⟩).toG
   show AskD.mk 1 (hVer t.stripe) 0 0 = ⟨1, hVer (a.tmod K.c.s), 0, 0⟩
   rw [b.stripe, hrd.2.1]
  | rAgain i a one u =>
   obtain ⟨hg, hs, hrd, hone, hval⟩ := q
   obtain ⟨ha, ho1, hu1, hu2⟩ := (show AOk K i a ∧ (0 ≤ one ∧ one ≤ k) ∧ 0 ≤ u ∧ u ≤ 65535 from hx)
   rw [show yFollow v.seen put v.num v.draw t = yTrust v.seen t from by simp [yFollow, yFollowRead, hs]]
   unfold yTrust
   show SimG K k code _ (if v.seen ≠ one then _ else _)
   rw [hone]
   by_cases hh : v.seen ≠ one
   ·rw [if_pos hh, if_pos hh]
    refine (Sim.mk (t := yLoad 4 _ t) (h := ⟨hrank, hfails, hlist, hends, hjob, x, .rVer i a⟩) b ?_ ⟨hg, rfl, hrd⟩).toG
    show AskD.mk 1 (hVer t.stripe) 0 0 = ⟨1, hVer (a.tmod K.c.s), 0, 0⟩
    rw [b.stripe, hrd.2.1]
   ·rw [if_neg hh, if_neg hh]
    have hh' : v.seen = one := by omega
    rw [hh', b.stripe, hrd.2.1, hval]
    obtain ⟨x1, hx1⟩ : ∃ x1, x1 = if (entIdx x.reads (a.tmod K.c.s)).isSome then x else { x with reads := x.reads ++ [⟨a.tmod K.c.s, one⟩] } := ⟨_, rfl⟩
    have hv1 : x1.valid = x.valid := by rw [hx1]; split <;> rfl
    have hg1 : x1.inGate = false := by rw [hx1]; split <;> exact hg
    have b1 : Bax K (yLook (a.tmod K.c.s) one t) ⟨hrank, hfails, hlist, hends, hjob, x1, .rAgain i a one u⟩ := by
     have hrr : t.reads = x.reads := b.2.reads
     unfold yLook
     rw [hx1, hrr]
     split
     ·exact b
     ·exact ⟨b.1, ⟨b.2.regs, b.2.place, b.2.begun, b.2.valid, rfl, b.2.writes, b.2.held, b.2.way, b.2.rest, b.2.code, b.2.tl⟩⟩
    have A1 : XOk K k x1 := by
     rw [hx1]
     by_cases hE : (entIdx x.reads (a.tmod K.c.s)).isSome
     ·rw [if_pos hE]; exact hon.x
     ·rw [if_neg hE]
      have X := hon.x
      have hnone : entIdx x.reads (a.tmod K.c.s) = none := by simpa using hE
      have hm1 := tmodP s1 ha.1
      refine ⟨X.four, X.rg, X.wr, ?_, X.hd, X.wn, ?_, X.hn, X.valid, X.way, X.plc, X.bg⟩
      ·intro e he
       rcases List.mem_append.1 he with he | he
       ·exact X.rd e he
       ·simp at he; subst he; exact ⟨hm1.1, hm1.2, ho1.1, ho1.2⟩
      ·rw [List.map_append, List.nodup_append]
       refine ⟨X.rn, by simp, ?_⟩
       intro p hp' q' hq' e
       simp at hq'
       subst hq'
       subst e
       exact entOut hnone hp'
    have hlv : (yLook (a.tmod K.c.s) one t).value = t.value := by unfold yLook; split <;> rfl
    have hlt' : (yLook (a.tmod K.c.s) one t).turn = t.turn ∧ (yLook (a.tmod K.c.s) one t).m = t.m := by unfold yLook; split <;> exact ⟨rfl, rfl⟩
    have hrd1 : RdM (yLook (a.tmod K.c.s) one t) i a := by unfold RdM; rw [hlt'.1, hlt'.2]; exact hrd
    show SimG K k code _ (if one ≤ (if (entIdx x.reads (a.tmod K.c.s)).isSome then x else { x with reads := x.reads ++ [⟨a.tmod K.c.s, one⟩] }).valid then hGot K i a u ⟨hrank, hfails, hlist, hends, hjob, (if (entIdx x.reads (a.tmod K.c.s)).isSome then x else { x with reads := x.reads ++ [⟨a.tmod K.c.s, one⟩] }), .rAgain i a one u⟩ else ⟨hrank, hfails, hlist, hends, hjob, (if (entIdx x.reads (a.tmod K.c.s)).isSome then x else { x with reads := x.reads ++ [⟨a.tmod K.c.s, one⟩] }), .xClock (.rd i a u)⟩)
    rw [← hx1, hv1]
    have htv : t.valid = x.valid := b.2.valid
    rw [htv]
    by_cases hlt : one ≤ x.valid
    ·rw [if_pos hlt, if_neg (show ¬ x.valid < one by omega)]
     exact w_got hc b1 hg1 ⟨A.rank, A1⟩ hcd i a u hrd1 hu1 hu2
    ·rw [if_neg hlt, if_pos (show x.valid < one by omega)]
     exact (Sim.mk (t := yExtend (yLook (a.tmod K.c.s) one t)) (h := ⟨hrank, hfails, hlist, hends, hjob, x1, .xClock (.rd i a u)⟩) b1 rfl ⟨hg1, rfl, hrd1, by show (yLook (a.tmod K.c.s) one t).value = u; rw [hlv, hval]⟩).toG
  | xClock e =>
   obtain ⟨hg, hs, he⟩ := q
   have hcl := (hv (show (1 : Int) ≠ 0 by decide)).cnt (Or.inl rfl)
   rw [show yFollow v.seen put v.num v.draw t = yExtNext { t with clock := v.seen, at_ := 0 } from by simp [yFollow, yFollowExt, hs]]
   exact w_exstill (t := { t with clock := v.seen, at_ := 0 }) hc b hg hon hcd e (by cases e <;> exact he) hx hcl x.reads b.2.reads
  | xVer e c r =>
   obtain ⟨hg, hs, he, hcl, hr'⟩ := q
   obtain ⟨h1, h2, h3⟩ := (show ExOk K e ∧ (0 ≤ c ∧ c ≤ k) ∧ RdOk K r from hx)
   cases r with
   | nil => exact absurd rfl h3.1
   | cons y r =>
    rw [show yFollow v.seen put v.num v.draw t = if v.seen ≠ (t.reads.getD t.at_ ⟨0, 0⟩).val then yFail t else yExtNext { t with at_ := t.at_ + 1 } from by simp [yFollow, yFollowExt, hs]]
    rw [getD_drop hr']
    show SimG K k code _ (if v.seen ≠ y.val then _ else _)
    by_cases hh : v.seen ≠ y.val
    ·rw [if_pos hh, if_pos hh]
     exact (sim_fail b hg).toG
    ·rw [if_neg hh, if_neg hh]
     subst hcl
     exact w_exstill (t := { t with at_ := t.at_ + 1 }) hc b hg hon hcd e (by cases e <;> exact he) h1 h2 r (drop_cons3 hr').1
  | gStat i a =>
   obtain ⟨hg, hs, hw⟩ := q
   have h0 := hsta (show (1 : Int) ≠ 0 by decide) rfl
   rw [show yFollow v.seen put v.num v.draw t = if v.seen.tmod 8 ≠ 0 then yFail t else ySwap 8 (cOwnOf t.c t.stripe) 0 (t.num + 1) t from by simp [yFollow, yFollowGet, hs]]
   show SimG K k code _ (if 0 < v.seen.tmod 8 then _ else _)
   by_cases hh : 0 < v.seen.tmod 8
   ·rw [if_pos ((sgn8 h0).2 hh), if_pos hh]
    exact (sim_fail b hg).toG
   ·rw [if_neg (fun q => hh ((sgn8 h0).1 q)), if_neg hh]
    refine (Sim.mk (t := ySwap 8 _ 0 _ t) (h := ⟨hrank, hfails, hlist, hends, hjob, x, .gOwn i a⟩) b ?_ ⟨hg, rfl, hw⟩).toG
    show AskD.mk 3 (cOwnOf t.c t.stripe) 0 (t.num + 1) = ⟨3, hOwn K (a.tmod K.c.s), 0, K.me + 1⟩
    rw [b.own, b.stripe, hw.2.1, b.1.num]
  | gOwn i a =>
   obtain ⟨hg, hs, hw⟩ := q
   rw [show yFollow v.seen put v.num v.draw t = if v.seen ≠ 0 then yMeet v.seen t else yLoad 11 (hVer t.stripe) { t with held := t.held ++ [t.stripe] } from by simp [yFollow, yFollowGet, hs]]
   show SimG K k code _ (if v.seen = 0 then _ else if hrank = 0 then _ else _)
   by_cases hh : v.seen = 0
   ·rw [if_neg (fun q => q hh), if_pos hh, b.stripe, hw.2.1]
    refine (Sim.mk (t := yLoad 11 _ { t with held := t.held ++ [a.tmod K.c.s] }) (h := ⟨hrank, hfails, hlist, hends, hjob, { x with held := x.held ++ [a.tmod K.c.s] }, .gVer i a⟩) ⟨b.1, ⟨b.2.regs, b.2.place, b.2.begun, b.2.valid, b.2.reads, b.2.writes, ?_, b.2.way, b.2.rest, b.2.code, b.2.tl⟩⟩ rfl ⟨hg, rfl, hw⟩).toG
    show t.held ++ _ = x.held ++ _
    rw [show t.held = x.held from b.2.held]
   ·rw [if_pos hh, if_neg hh]
    unfold yMeet
    have hrk : t.rank = hrank := b.1.rank
    by_cases h0 : hrank = 0
    ·rw [if_pos (show t.rank = 0 by omega), if_pos h0]
     exact (sim_fail b hg).toG
    ·rw [if_neg (show ¬ t.rank = 0 by omega), if_neg h0]
     refine (Sim.mk (t := yLoad 9 _ { t with rival := v.seen }) (h := ⟨hrank, hfails, hlist, hends, hjob, x, .gTheir i a v.seen⟩) b ?_ ⟨hg, rfl, hw, rfl⟩).toG
     show AskD.mk 1 (t.staOf v.seen) 0 0 = ⟨1, hSta K (v.seen - 1), 0, 0⟩
     rw [b.staOf]
  | gTheir i a u =>
   obtain ⟨hg, hs, hw, hriv⟩ := q
   rw [show yFollow v.seen put v.num v.draw t = yWeigh v.seen t from by simp [yFollow, yFollowGet, hs]]
   unfold yWeigh
   have hrk : t.rank = hrank := b.1.rank
   show SimG K k code _ (if 0 < v.seen.tdiv 8 ∧ v.seen.tdiv 8 < hrank then _ else if v.seen.tmod 8 = 0 then _ else _)
   by_cases h1 : 0 < v.seen.tdiv 8 ∧ v.seen.tdiv 8 < hrank
   ·rw [if_pos (show 0 < v.seen.tdiv 8 ∧ v.seen.tdiv 8 < t.rank by rw [hrk]; exact h1), if_pos h1]
    exact (sim_fail (t := { t with wayTo := t.rival }) (h := ⟨hrank, hfails, hlist, hends, hjob, { x with way := u - 1 }, .gTheir i a u⟩) ⟨b.1, ⟨b.2.regs, b.2.place, b.2.begun, b.2.valid, b.2.reads, b.2.writes, b.2.held, by show t.rival = u - 1 + 1; omega, b.2.rest, b.2.code, b.2.tl⟩⟩ hg).toG
   ·rw [if_neg (show ¬ (0 < v.seen.tdiv 8 ∧ v.seen.tdiv 8 < t.rank) by rw [hrk]; exact h1), if_neg h1]
    by_cases h2 : v.seen.tmod 8 = 0
    ·rw [if_neg (fun q => q h2), if_pos h2]
     refine (Sim.mk (t := ySwap 10 _ _ _ t) (h := ⟨hrank, hfails, hlist, hends, hjob, x, .gMark i a u v.seen⟩) b ?_ ⟨hg, rfl, hw⟩).toG
     show AskD.mk 3 (t.staOf t.rival) v.seen (v.seen + (t.num + 1)) = ⟨3, hSta K (u - 1), v.seen, v.seen + K.me + 1⟩
     rw [b.staOf, hriv, b.1.num, Int.add_assoc]
    ·rw [if_pos h2, if_neg h2]
     refine (Sim.mk (t := yGet t) (h := ⟨hrank, hfails, hlist, hends, hjob, x, .gStat i a⟩) b ?_ ⟨hg, rfl, hw⟩).toG
     show AskD.mk 1 t.sta 0 0 = ⟨1, hSta K K.me, 0, 0⟩
     rw [b.sta]
  | gMark i a u th =>
   obtain ⟨hg, hs, hw⟩ := q
   rw [show yFollow v.seen put v.num v.draw t = yGet t from by simp [yFollow, yFollowGet, hs]]
   refine (Sim.mk (t := yGet t) (h := ⟨hrank, hfails, hlist, hends, hjob, x, .gStat i a⟩) b ?_ ⟨hg, rfl, hw⟩).toG
   show AskD.mk 1 t.sta 0 0 = ⟨1, hSta K K.me, 0, 0⟩
   rw [b.sta]
  | gVer i a =>
   obtain ⟨hg, hs, hw⟩ := q
   rw [show yFollow v.seen put v.num v.draw t = if t.valid < v.seen then yExtend t else yWriteGot t from by simp [yFollow, yFollowGet, hs]]
   have htv : t.valid = x.valid := b.2.valid
   rw [htv]
   show SimG K k code _ (if x.valid < v.seen then _ else _)
   by_cases hh : x.valid < v.seen
   ·rw [if_pos hh, if_pos hh]
    exact (Sim.mk (t := yExtend t) (h := ⟨hrank, hfails, hlist, hends, hjob, x, .xClock (.wr i a)⟩) b rfl ⟨hg, rfl, hw⟩).toG
   ·rw [if_neg hh, if_neg hh]
    exact w_wrote hc b hg hon hcd i a hw hx
  | tTake =>
   obtain ⟨hg, hs⟩ := q
   have hp' : put = v.seen + 1 := by rw [← hp]; rfl
   rw [show yFollow v.seen put v.num v.draw t = ySwap 15 t.sta 0 (8 * put) { t with rank := put } from by simp [yFollow, yFollowTicket, hs], hp']
   refine (Sim.mk (t := ySwap 15 _ 0 _ { t with rank := v.seen + 1 }) (h := ⟨v.seen + 1, hfails, hlist, hends, hjob, x, .tShow⟩) ⟨⟨b.1.c, b.1.num, rfl, b.1.fails, b.1.jlt, b.1.jme, b.1.mine, b.1.tol⟩, b.2⟩ ?_ ⟨hg, rfl⟩).toG
   show AskD.mk 3 t.sta 0 (8 * (v.seen + 1)) = ⟨3, hSta K K.me, 0, 8 * (v.seen + 1)⟩
   rw [b.sta]
  | tShow =>
   obtain ⟨hg, hs⟩ := q
   rw [show yFollow v.seen put v.num v.draw t = if v.seen ≠ 0 then yFail t else { t with step := 1 } from by simp [yFollow, yFollowTicket, hs]]
   show SimG K k code _ (if v.seen ≠ 0 then _ else _)
   by_cases hh : v.seen ≠ 0
   ·rw [if_pos hh, if_pos hh]
    exact (sim_fail b hg).toG
   ·rw [if_neg hh, if_neg hh]
    exact w_goes (t := { t with step := 1 }) hc b rfl hg hon hcd
  | cStat =>
   obtain ⟨hg, hs, hfe⟩ := q
   have h0 := hsta (show (1 : Int) ≠ 0 by decide) rfl
   rw [show yFollow v.seen put v.num v.draw t = if v.seen.tmod 8 ≠ 0 then yFail t else ySwap 17 2 0 (t.num + 1) t from by simp [yFollow, yFollowCommit, hs]]
   show SimG K k code _ (if 0 < v.seen.tmod 8 then _ else _)
   by_cases hh : 0 < v.seen.tmod 8
   ·rw [if_pos ((sgn8 h0).2 hh), if_pos hh]
    exact (sim_fail b hg).toG
   ·rw [if_neg (fun q => hh ((sgn8 h0).1 q)), if_neg hh]
    refine (Sim.mk (t := ySwap 17 2 0 _ t) (h := ⟨hrank, hfails, hlist, hends, hjob, x, .cGate⟩) b ?_ ⟨hg, rfl, hfe⟩).toG
    show AskD.mk 3 2 0 (t.num + 1) = ⟨3, 2, 0, K.me + 1⟩
    rw [b.1.num]
  | cGate =>
   obtain ⟨hg, hs, hfe⟩ := q
   rw [show yFollow v.seen put v.num v.draw t = if v.seen = 0 then yLoad 18 0 t else t from by simp [yFollow, yFollowCommit, hs]]
   show SimG K k code _ ⟨hrank, hfails, hlist, hends, hjob, { x with inGate := v.seen == 0 }, if v.seen = 0 then .cClock else .cGate⟩
   by_cases hh : v.seen = 0
   ·rw [if_pos hh, if_pos hh]
    exact (Sim.mk (t := yLoad 18 0 t) (h := ⟨hrank, hfails, hlist, hends, hjob, { x with inGate := v.seen == 0 }, .cClock⟩) ⟨b.1, ⟨b.2.regs, b.2.place, b.2.begun, b.2.valid, b.2.reads, b.2.writes, b.2.held, b.2.way, b.2.rest, b.2.code, b.2.tl⟩⟩ rfl ⟨by show (v.seen == 0) = true; simp [hh], rfl, hfe⟩).toG
   ·rw [if_neg hh, if_neg hh]
    exact (Sim.mk (t := t) (h := ⟨hrank, hfails, hlist, hends, hjob, { x with inGate := v.seen == 0 }, .cGate⟩) ⟨b.1, ⟨b.2.regs, b.2.place, b.2.begun, b.2.valid, b.2.reads, b.2.writes, b.2.held, b.2.way, b.2.rest, b.2.code, b.2.tl⟩⟩ ho ⟨by show (v.seen == 0) = false; simp [hh], hs, hfe⟩).toG
  | cClock =>
   obtain ⟨hg, hs, hfe⟩ := q
   rw [show yFollow v.seen put v.num v.draw t = yCheck { t with clock := v.seen, at_ := 0 } from by simp [yFollow, yFollowCommit, hs]]
   show SimG K k code _ (if v.seen ≠ x.valid then _ else _)
   have htv : t.valid = x.valid := b.2.valid
   by_cases hh : v.seen ≠ x.valid
   ·rw [if_pos hh]
    exact (sim_checked (t := { t with clock := v.seen, at_ := 0 }) b hfe hg (by show v.seen ≠ t.valid; rw [htv]; exact hh) x.reads b.2.reads).toG
   ·rw [if_neg hh]
    exact (sim_check0 (t := { t with clock := v.seen, at_ := 0 }) b hfe (by show v.seen = t.valid; omega)).toG
  | cVer c r =>
   obtain ⟨hg, hs, hfe, hcl, hcv, hr'⟩ := q
   obtain ⟨h2, h3⟩ := (show (0 ≤ c ∧ c ≤ k) ∧ RdOk K r from hx)
   cases r with
   | nil => exact absurd rfl h3.1
   | cons y r =>
    rw [show yFollow v.seen put v.num v.draw t = if v.seen ≠ (t.reads.getD t.at_ ⟨0, 0⟩).val then yFailGate t else yCheck { t with at_ := t.at_ + 1 } from by simp [yFollow, yFollowCommit, hs]]
    rw [getD_drop hr']
    show SimG K k code _ (if v.seen ≠ y.val then _ else _)
    by_cases hh : v.seen ≠ y.val
    ·rw [if_pos hh, if_pos hh]
     unfold hFail
     rw [if_pos (show (⟨hrank, hfails, hlist, hends, hjob, x, .cVer c (y :: r)⟩ : Th).x.inGate = true from hg)]
     exact (Sim.mk (t := yFailGate t) (h := ⟨hrank, hfails, hlist, hends, hjob, x, .fGate⟩) b rfl rfl).toG
    ·rw [if_neg hh, if_neg hh]
     subst hcl
     exact (sim_checked (t := { t with at_ := t.at_ + 1 }) b hfe hg hcv r (drop_cons3 hr').1).toG
  | cShut c r =>
   obtain ⟨hs, hfe, hcl, hr'⟩ := q
   obtain ⟨h2, h3⟩ := (show (0 ≤ c ∧ c ≤ k) ∧ HdOk K r from hx)
   cases r with
   | nil => exact absurd rfl h3.1
   | cons y r =>
    rw [show yFollow v.seen put v.num v.draw t = yShut { t with at_ := t.at_ + 1 } from by simp [yFollow, yFollowStore, hs]]
    subst hcl
    exact (sim_shut (t := { t with at_ := t.at_ + 1 }) b hfe r (drop_cons3 hr').1).toG
  | cStamp c =>
   obtain ⟨hs, hfe, hcl⟩ := q
   rw [show yFollow v.seen put v.num v.draw t = yStore 22 2 0 { t with aStamp := t.clock + 1 } from by simp [yFollow, yFollowStore, hs]]
   subst hcl
   have b1 : Bax K { t with aStamp := t.clock + 1 } ⟨hrank, hfails, modLast hlist (fun q => { q with stamp := t.clock + 1 }), hends, hjob, x, .cStamp t.clock⟩ := ⟨bax_mod (h := ⟨hrank, hfails, hlist, hends, hjob, x, .cStamp t.clock⟩) b.1 (fun q => { q with stamp := t.clock + 1 }) b.2.tl rfl rfl rfl rfl rfl rfl rfl rfl, ⟨b.2.regs, b.2.place, b.2.begun, b.2.valid, b.2.reads, b.2.writes, b.2.held, b.2.way, b.2.rest, b.2.code, last_mod (fun q => { q with stamp := t.clock + 1 }) b.2.tl⟩⟩
   exact (Sim.mk (t := yStore 22 2 0 { t with aStamp := t.clock + 1 }) (h := ⟨hrank, hfails, modLast hlist (fun q => { q with stamp := t.clock + 1 }), hends, hjob, x, .cLeave t.clock⟩) b1 rfl ⟨rfl, hfe, rfl⟩).toG
  | cLeave c =>
   obtain ⟨hs, hfe, hcl⟩ := q
   rw [show yFollow v.seen put v.num v.draw t = yPut { t with at_ := 0 } from by simp [yFollow, yFollowStore, hs]]
   subst hcl
   exact (sim_put (t := { t with at_ := 0 }) b hfe x.writes b.2.writes).toG
  | cWord c r =>
   obtain ⟨hs, hfe, hcl, hr'⟩ := q
   obtain ⟨h2, h3⟩ := (show (0 ≤ c ∧ c ≤ k) ∧ WrOk K r from hx)
   cases r with
   | nil => exact absurd rfl h3.1
   | cons y r =>
    rw [show yFollow v.seen put v.num v.draw t = yPut { t with at_ := t.at_ + 1 } from by simp [yFollow, yFollowStore, hs]]
    subst hcl
    exact (sim_put (t := { t with at_ := t.at_ + 1 }) b hfe r (drop_cons3 hr').1).toG
  | cOpen c r =>
   obtain ⟨hs, hfe, hcl, hr'⟩ := q
   obtain ⟨h2, h3⟩ := (show (0 ≤ c ∧ c ≤ k) ∧ HdOk K r from hx)
   cases r with
   | nil => exact absurd rfl h3.1
   | cons y r =>
    rw [show yFollow v.seen put v.num v.draw t = yStore 25 (cOwnOf t.c (t.held.getD t.at_ 0)) 0 t from by simp [yFollow, yFollowStore, hs]]
    refine (Sim.mk (t := yStore 25 _ 0 t) (h := ⟨hrank, hfails, hlist, hends, hjob, x, .cOwn c (y :: r)⟩) b ?_ ⟨rfl, hfe, hcl, hr'⟩).toG
    show AskD.mk 2 (cOwnOf t.c (t.held.getD t.at_ 0)) 0 0 = ⟨2, hOwn K y, 0, 0⟩
    rw [getD_drop hr', b.own]
  | cOwn c r =>
   obtain ⟨hs, hfe, hcl, hr'⟩ := q
   obtain ⟨h2, h3⟩ := (show (0 ≤ c ∧ c ≤ k) ∧ HdOk K r from hx)
   cases r with
   | nil => exact absurd rfl h3.1
   | cons y r =>
    rw [show yFollow v.seen put v.num v.draw t = yRelease { t with at_ := t.at_ + 1 } from by simp [yFollow, yFollowStore, hs]]
    subst hcl
    exact (sim_release (t := { t with at_ := t.at_ + 1 }) b hfe r (drop_cons3 hr').1).toG
  | free e r =>
   obtain ⟨hs, hfe, hr'⟩ := q
   have h3 : HdOk K r := hx
   cases r with
   | nil => exact absurd rfl h3.1
   | cons y r =>
    rw [show yFollow v.seen put v.num v.draw t = yLetGo { t with at_ := t.at_ + 1 } from by simp [yFollow, hs]]
    exact (sim_letgo (t := { t with at_ := t.at_ + 1 }) b e hfe r (drop_cons3 hr').1).toG
  | fin e =>
   obtain ⟨hs, hfe⟩ : t.step = 27 ∧ t.turn.fate = e := q
   rw [show yFollow v.seen put v.num v.draw t = yNextJob v.num t from by simp [yFollow, hs]]
   exact (sim_to (h := { rank := hrank, fails := hfails, list := hlist, ends := hends, job := hjob, x := x, st := .fin e }) b v.num e hfe).toG
  | fGate =>
   have hs : t.step = 28 := q
   rw [show yFollow v.seen put v.num v.draw t = yFail t from by simp [yFollow, yFollowFail, hs]]
   exact (sim_failed b).toG
  | fOwn r =>
   obtain ⟨hs, hr'⟩ := q
   have h3 : HdOk K r := hx
   cases r with
   | nil => exact absurd rfl h3.1
   | cons y r =>
    rw [show yFollow v.seen put v.num v.draw t = yUndo { t with at_ := t.at_ + 1 } from by simp [yFollow, yFollowFail, hs]]
    exact (sim_undo (t := { t with at_ := t.at_ + 1 }) b r (drop_cons3 hr').1).toG
  | fTake =>
   have hs : t.step = 30 := q
   have hp' : put = v.seen + 1 := by rw [← hp]; rfl
   rw [show yFollow v.seen put v.num v.draw t = yShow { t with rank := put } from by simp [yFollow, yFollowFail, hs], hp']
   exact (sim_show (t := { t with rank := v.seen + 1 }) (h := ⟨v.seen + 1, hfails, hlist, hends, hjob, x, .fTake⟩) ⟨⟨b.1.c, b.1.num, rfl, b.1.fails, b.1.jlt, b.1.jme, b.1.mine, b.1.tol⟩, b.2⟩).toG
  | fStat =>
   have hs : t.step = 31 := q
   have h0 := hsta (show (2 : Int) ≠ 0 by decide) rfl
   rw [show yFollow v.seen put v.num v.draw t = yLose v.seen v.draw (yConc 5 v.num t) from by simp [yFollow, hs]]
   have hway : t.wayTo = x.way + 1 := b.2.way
   have bc : Bas K (yConc 5 v.num t) (({ rank := hrank, fails := hfails, list := hlist, ends := hends, job := hjob, x := x, st := .fStat } : Th).ended v.num 5) := bax_mod (h := ⟨hrank, hfails, hlist, hends, hjob, x, .fStat⟩) b.1 (fun q => { q with fin := v.num, fate := 5 }) b.2.tl rfl rfl rfl rfl rfl rfl rfl rfl
   have hw1 : yWinner (yConc 5 v.num t) v.seen = (if 0 < v.seen.tmod 8 then v.seen.tmod 8 - 1 else x.way) + 1 := by
    unfold yWinner
    rw [show (yConc 5 v.num t).wayTo = t.wayTo from rfl, hway]
    have := sgn8 h0
    split <;> split <;> omega
   have hwx : -1 ≤ x.way := A.x.way.1
   have hmn : 0 ≤ v.seen.tmod 8 := Int.tmod_nonneg 8 h0
   unfold yLose
   rw [hw1]
   show SimG K k code _ (if 0 ≤ (if 0 < v.seen.tmod 8 then v.seen.tmod 8 - 1 else x.way) then _ else _)
   have hwin : -1 ≤ (if 0 < v.seen.tmod 8 then v.seen.tmod 8 - 1 else x.way) := by split <;> omega
   generalize hwe : (if 0 < v.seen.tmod 8 then v.seen.tmod 8 - 1 else x.way) = win at *
   by_cases hh : 0 ≤ win
   ·rw [if_pos (show win + 1 ≠ 0 by omega), if_pos hh]
    have S0 : Sim K (yLoad 32 ((yConc 5 v.num t).staOf (win + 1)) (yConc 5 v.num t)) { ({ rank := hrank, fails := hfails, list := hlist, ends := hends, job := hjob, x := x, st := .fStat } : Th).ended v.num 5 with st := .wait win } := by
     refine Or.inr (Or.inr (Or.inr (Or.inl ⟨win, rfl, bc, b.2.rest, rfl, ?_⟩)))
     show AskD.mk 1 (t.staOf (win + 1)) 0 0 = ⟨1, hSta K win, 0, 0⟩
     rw [b.staOf, Int.add_sub_cancel]
    exact S0.toG
   ·rw [if_neg (show ¬ win + 1 ≠ 0 by omega), if_neg hh]
    exact (sim_rest (t := yConc 5 v.num t) (h := ({ rank := hrank, fails := hfails, list := hlist, ends := hends, job := hjob, x := x, st := .fStat } : Th).ended v.num 5) bc hc hf v.draw).toG
theorem pick_sim {K : Cx} (hc : cfgB K.c = true) (hm : 0 ≤ K.me ∧ K.me < K.c.t) {k : Int} (hk : 0 ≤ k) {t : PT} {h : Th} (A : ThOk K k h) (hf : 0 ≤ h.fails) (S : Sim K t h) (v : AnsD) (hv : (hOut K h).kind ≠ 0 → VOk K.c k (hOut K h).cell v.seen) :
  Sim K (yPick K.jobs v.seen (putV (hOut K h) v.seen) v.num v.draw t) (hNext K h v) := by
 rcases follow_sim hc hm hk A hf S v hv with hst | ⟨n, hst⟩ | ⟨h0, hr, b, G⟩
 ·rcases S with ⟨_, q, qT⟩ | ⟨q, _⟩ | ⟨n, q, _⟩ | ⟨n, q, _⟩ | ⟨_, _, q⟩
  ·unfold yPick hNext
   rw [if_pos q, hst]
   exact Or.inl ⟨hst, q, qT⟩
  ·rw [hst] at q; cases q
  ·rw [hst] at q; cases q
  ·rw [hst] at q; cases q
  ·rw [hst] at q; exact q.elim
 ·rcases S with ⟨q, _⟩ | ⟨q, _⟩ | ⟨m, q, b, hr, hn, hs, ho⟩ | ⟨m, q, _⟩ | ⟨_, _, q⟩
  ·rw [hst] at q; cases q
  ·rw [hst] at q; cases q
  ·unfold yPick hNext
   rw [if_neg (by omega), if_pos (by omega), q]
   simp only
   split
   ·refine Or.inr (Or.inl ⟨rfl, b, ?_, hs, ho⟩)
    show t.rest - 1 = 0
    omega
   ·refine Or.inr (Or.inr (Or.inl ⟨m - 1, rfl, b, ?_, by omega, hs, ho⟩))
    show t.rest - 1 = ((m - 1 : Nat) : Int)
    omega
  ·rw [hst] at q; cases q
  ·rw [hst] at q; exact q.elim
 ·rw [yPick_go b h0 hr]
  exact G.sim hc
end Go.Proofs.YtejadojilncbjabGreat
