import Derived.Test.YtejadojilncbjaaGreatG21
namespace Go.Proofs.YtejadojilncbjaaGreat
set_option linter.unusedVariables false
theorem total_eq (c : Cfg) : total c = 3 + 2 * c.s + c.t + c.wd := rfl
theorem sok_mod {c : Cfg} {k v : Int} (h : SOk c k v) : v.tmod 8 = v % 8 ∧ v.tdiv 8 = v / 8 := ⟨Int.tmod_eq_emod_of_nonneg h.1, Int.tdiv_eq_ediv_of_nonneg h.1⟩
theorem held_false {x : TS} {s : Int} (h : heldB x s = false) : s ∉ x.held := by
 intro hm
 unfold heldB at h
 rw [List.any_eq_false] at h
 have := h s hm
 simp at this
theorem next_ok {K : Cx} {k : Int} {h : Th} (hc : cfgB K.c = true) (hm : 0 ≤ K.me ∧ K.me < K.c.t) (hk : 0 ≤ k) (A : ThOk K k h) (v : AnsD) (hv : (hOut K h).kind ≠ 0 → VOk K.c k (hOut K h).cell v.seen) : ThOk K (k + 1) (hNext K h v) := by
 obtain ⟨⟨t1, t2⟩, ⟨w1, w2⟩, ⟨s1, s2⟩, ⟨g1, g2⟩, ⟨r1, r2⟩, ⟨p1, p2⟩, ⟨f1, f2⟩⟩ := cfgB_true hc
 have B : ThOk K (k + 1) h := A.mono (by omega)
 have N := B.on
 have hx := B.x
 have hs := A.step
 unfold StepOk at hs
 unfold hOut at hv
 unfold hNext
 have st : ∀ {i : InsD} {a : Int}, AOk K i a → 0 ≤ a.tmod K.c.s ∧ a.tmod K.c.s < K.c.s := fun ha => tmodP s1 ha.1
 cases hst : h.st with
 | idle => exact B
 | start =>
  rw [hst] at hv
  have := (hv (by simp)).cnt (Or.inl rfl)
  exact go_ok ⟨B.rank, new_ok (by omega) t1 _ ⟨this.1, by omega⟩⟩
 | rHeld i a =>
  rw [hst] at hv hs
  have := (hv (by simp)).wrd (by show _ ≤ hWrd K a; unfold hWrd; have := hs.1; omega) (by show hWrd K a < _; rw [total_eq]; unfold hWrd; have := hs.2.1; omega)
  exact got_ok N this.1 this.2
 | rVer i a =>
  rw [hst] at hv hs
  have b := st hs
  have := (hv (by simp)).ver (by show _ ≤ hVer _; unfold hVer; omega) (by show hVer _ < _; unfold hVer; omega)
  simp only
  split
  ·exact B
  ·exact N.st _ ⟨hs, by omega, by omega⟩
 | rWord i a one =>
  rw [hst] at hv hs
  have := (hv (by simp)).wrd (by show _ ≤ hWrd K a; unfold hWrd; have := hs.1.1; omega) (by show hWrd K a < _; rw [total_eq]; unfold hWrd; have := hs.1.2.1; omega)
  exact N.st _ ⟨hs.1, ⟨hs.2.1, by have := hs.2.2; omega⟩, this.1, this.2⟩
 | rAgain i a one w =>
  rw [hst] at hv hs
  simp only
  split
  ·exact N.st _ hs.1
  ·have b := st hs.1
   have X1 : XOk K (k + 1) (if (entIdx h.x.reads (a.tmod K.c.s)).isSome then h.x else { h.x with reads := h.x.reads ++ [⟨a.tmod K.c.s, one⟩] }) := by
    split
    ·exact hx
    ·rename_i hn
     have hnn : entIdx h.x.reads (a.tmod K.c.s) = none := by
      cases e : entIdx h.x.reads (a.tmod K.c.s) with
      | none => rfl
      | some j => rw [e] at hn; exact absurd rfl hn
     refine ⟨hx.four, hx.rg, hx.wr, fun e he => ?_, hx.hd, hx.wn, ?_, hx.hn, hx.valid, hx.way, hx.plc, hx.bg⟩
     ·rcases List.mem_append.1 he with h3 | h3
      ·exact hx.rd e h3
      ·rw [List.mem_singleton.1 h3]
       exact ⟨b.1, b.2, hs.2.1.1, by have := hs.2.1.2; show one ≤ _; omega⟩
     ·show ((h.x.reads ++ [(⟨a.tmod K.c.s, one⟩ : EntD)]).map (fun e => e.what)).Nodup
      rw [List.map_append, List.nodup_append]
      refine ⟨hx.rn, by simp, fun p hp q hq => ?_⟩
      simp only [List.map_cons, List.map_nil] at hq
      rw [List.mem_singleton.1 hq]
      intro e
      rw [e] at hp
      exact entOut hnn hp
   generalize (if (entIdx h.x.reads (a.tmod K.c.s)).isSome then h.x else { h.x with reads := h.x.reads ++ [⟨a.tmod K.c.s, one⟩] }) = x1 at *
   split
   ·exact got_ok ⟨B.rank, X1⟩ hs.2.2.1 hs.2.2.2
   ·exact ⟨B.rank, X1, hs.1, hs.2.2.1, hs.2.2.2⟩
 | xClock e =>
  rw [hst] at hv hs
  have := (hv (by simp)).cnt (Or.inl rfl)
  exact exstill_ok N hs ⟨this.1, by omega⟩ _ (fun e he => ⟨(hx.rd e he).1, (hx.rd e he).2.1⟩)
 | xVer e c r =>
  rw [hst] at hs
  cases r with
  | nil => exact absurd rfl hs.2.2.1
  | cons q r =>
   simp only
   split
   ·exact fail_ok N
   ·exact exstill_ok N hs.1 ⟨hs.2.1.1, by have := hs.2.1.2; omega⟩ _ (fun e he => hs.2.2.2 e (List.mem_cons_of_mem _ he))
 | gStat i a =>
  rw [hst] at hs
  simp only
  split
  ·exact fail_ok N
  ·exact N.st _ hs
 | gOwn i a =>
  rw [hst] at hv hs
  have b := st hs.1
  have := (hv (by simp)).own (by show _ ≤ hOwn K _; unfold hOwn; omega) (by show hOwn K _ < _; unfold hOwn; omega)
  simp only
  split
  ·refine ⟨B.rank, ⟨hx.four, hx.rg, hx.wr, hx.rd, fun s hs' => ?_, hx.wn, hx.rn, ?_, hx.valid, hx.way, hx.plc, hx.bg⟩, hs.1⟩
   ·rcases List.mem_append.1 hs' with h3 | h3
    ·exact hx.hd s h3
    ·rw [List.mem_singleton.1 h3]; exact b
   ·show (h.x.held ++ [a.tmod K.c.s]).Nodup
    rw [List.nodup_append]
    refine ⟨hx.hn, by simp, fun p hp q hq => ?_⟩
    rw [List.mem_singleton.1 hq]
    intro e
    rw [e] at hp
    exact held_false hs.2 hp
  ·split
   ·exact fail_ok N
   ·exact N.st _ ⟨hs, by omega, by omega⟩
 | gTheir i a u =>
  rw [hst] at hv hs
  have hu := (hv (by simp)).sta (by show _ ≤ hSta K _; unfold hSta; have := hs.2.1; omega) (by show hSta K _ < _; unfold hSta; have := hs.2.2; omega)
  simp only
  split
  ·refine fail_ok ⟨B.rank, ⟨hx.four, hx.rg, hx.wr, hx.rd, hx.hd, hx.wn, hx.rn, hx.hn, hx.valid, ?_, hx.plc, hx.bg⟩⟩
   have := hs.2
   exact ⟨by show -1 ≤ u - 1; omega, by show u - 1 < _; omega⟩
  ·split
   ·rename_i hm
    refine N.st _ ⟨hs.1, hs.2, ⟨hu.1, hu.2.1, by have := hu.2.2; omega⟩, ?_⟩
    rw [(sok_mod hu).1] at hm
    exact hm
   ·exact N.st _ hs.1
 | gMark i a u th =>
  rw [hst] at hs
  exact N.st _ hs.1
 | gVer i a =>
  rw [hst] at hs
  simp only
  split
  ·exact N.st _ hs
  ·exact wrote_ok N hs
 | tTake =>
  rw [hst] at hv
  have := (hv (by simp)).cnt (Or.inr rfl)
  exact ⟨⟨by show 0 ≤ v.seen + 1; omega, by show v.seen + 1 ≤ _; omega⟩, B.x, trivial⟩
 | tShow =>
  simp only
  split
  ·exact fail_ok N
  ·exact go_ok N
 | cStat =>
  simp only
  split
  ·exact fail_ok N
  ·exact N.st _ trivial
 | cGate =>
  refine ⟨B.rank, ⟨hx.four, hx.rg, hx.wr, hx.rd, hx.hd, hx.wn, hx.rn, hx.hn, hx.valid, hx.way, hx.plc, hx.bg⟩, ?_⟩
  show StepOk K (k + 1) { h with x := { h.x with inGate := v.seen == 0 }, st := if v.seen = 0 then .cClock else .cGate }
  by_cases h0 : v.seen = 0
  ·rw [if_pos h0]; trivial
  ·rw [if_neg h0]; trivial
 | cClock =>
  rw [hst] at hv
  have := (hv (by simp)).cnt (Or.inl rfl)
  simp only
  split
  ·exact still_ok N ⟨this.1, by omega⟩ _ (fun e he => ⟨(hx.rd e he).1, (hx.rd e he).2.1⟩)
  ·exact shut_ok N ⟨this.1, by omega⟩ _ hx.hd
 | cVer c r =>
  rw [hst] at hs
  cases r with
  | nil => exact absurd rfl hs.2.1
  | cons q r =>
   simp only
   split
   ·exact fail_ok N
   ·exact still_ok N ⟨hs.1.1, by have := hs.1.2; omega⟩ _ (fun e he => hs.2.2 e (List.mem_cons_of_mem _ he))
 | cShut c r =>
  rw [hst] at hs
  cases r with
  | nil => exact absurd rfl hs.2.1
  | cons q r => exact shut_ok N ⟨hs.1.1, by have := hs.1.2; omega⟩ _ (fun e he => hs.2.2 e (List.mem_cons_of_mem _ he))
 | cStamp c =>
  rw [hst] at hs
  exact ⟨B.rank, B.x, hs.1, by have := hs.2; omega⟩
 | cLeave c =>
  rw [hst] at hs
  exact word_ok N ⟨hs.1, by have := hs.2; omega⟩ _ hx.wr
 | cWord c r =>
  rw [hst] at hs
  cases r with
  | nil => exact absurd rfl hs.2.1
  | cons q r => exact word_ok N ⟨hs.1.1, by have := hs.1.2; omega⟩ _ (fun e he => hs.2.2 e (List.mem_cons_of_mem _ he))
 | cOpen c r =>
  rw [hst] at hs
  cases r with
  | nil => exact absurd rfl hs.2.1
  | cons q r => exact N.st _ ⟨⟨hs.1.1, by have := hs.1.2; omega⟩, hs.2⟩
 | cOwn c r =>
  rw [hst] at hs
  cases r with
  | nil => exact absurd rfl hs.2.1
  | cons q r => exact open_ok N ⟨hs.1.1, by have := hs.1.2; omega⟩ _ (fun e he => hs.2.2 e (List.mem_cons_of_mem _ he))
 | free e r =>
  rw [hst] at hs
  cases r with
  | nil => exact absurd rfl hs.1
  | cons q r => exact free_ok N e _ (fun e he => hs.2 e (List.mem_cons_of_mem _ he))
 | fin e =>
  show ThOk K (k + 1) (hTo K (h.job + 1) _)
  refine to_ok ?_ (by omega) _
  exact ⟨B.rank, B.x⟩
 | fGate => exact failown_ok N _ hx.hd
 | fOwn r =>
  rw [hst] at hs
  cases r with
  | nil => exact absurd rfl hs.1
  | cons q r => exact failown_ok N _ (fun e he => hs.2 e (List.mem_cons_of_mem _ he))
 | fTake =>
  rw [hst] at hv
  have := (hv (by simp)).cnt (Or.inr rfl)
  exact ⟨⟨by show 0 ≤ v.seen + 1; omega, by show v.seen + 1 ≤ _; omega⟩, B.x, trivial⟩
 | fStat =>
  rw [hst] at hv
  have hu := (hv (by simp)).sta (by show _ ≤ hSta K _; unfold hSta; omega) (by show hSta K _ < _; unfold hSta; omega)
  have hu1 := (sok_mod hu).1
  have hu2 := hu.2.1
  have A2 : Onn K (k + 1) (h.ended v.num 5) := ⟨B.rank, B.x⟩
  have hw : (if 0 < v.seen.tmod 8 then v.seen.tmod 8 - 1 else h.x.way) < K.c.t := by
   split
   ·omega
   ·exact hx.way.2
  generalize (if 0 < v.seen.tmod 8 then v.seen.tmod 8 - 1 else h.x.way) = win at *
  simp only
  split
  ·rename_i h0
   exact ⟨B.rank, B.x, h0, hw⟩
  ·exact rest_ok A2 _
 | wait win =>
  simp only
  split
  ·exact N.st _ trivial
  ·exact B
 | rest n =>
  rw [hst] at hs
  simp only
  split
  ·exact N.st _ trivial
  ·exact N.st _ (by show n - 1 ≠ 0; omega)
theorem ask_ok {K : Cx} {k : Int} {h : Th} (hc : cfgB K.c = true) (hm : 0 ≤ K.me ∧ K.me < K.c.t) (hk : 0 ≤ k) (A : ThOk K k h) (h0 : (hOut K h).kind ≠ 0) :
  (0 ≤ (hOut K h).cell ∧ (hOut K h).cell < total K.c) ∧ ∀ v, VOk K.c k (hOut K h).cell v → VOk K.c (k + 1) (hOut K h).cell (putV (hOut K h) v) := by
 obtain ⟨⟨t1, t2⟩, ⟨w1, w2⟩, ⟨s1, s2⟩, ⟨g1, g2⟩, ⟨r1, r2⟩, ⟨p1, p2⟩, ⟨f1, f2⟩⟩ := cfgB_true hc
 have hs := A.step
 have hr := A.rank
 unfold StepOk at hs
 unfold hOut at h0 ⊢
 have st : ∀ {i : InsD} {a : Int}, AOk K i a → 0 ≤ a.tmod K.c.s ∧ a.tmod K.c.s < K.c.s := fun ha => tmodP s1 ha.1
 -- the cells
 have ld : ∀ (x : Int), (0 ≤ x ∧ x < total K.c) → (0 ≤ (⟨1, x, 0, 0⟩ : AskD).cell ∧ (⟨1, x, 0, 0⟩ : AskD).cell < total K.c) ∧ ∀ v, VOk K.c k (⟨1, x, 0, 0⟩ : AskD).cell v → VOk K.c (k + 1) (⟨1, x, 0, 0⟩ : AskD).cell (putV ⟨1, x, 0, 0⟩ v) := fun x hx => ⟨hx, fun v hv => by
     have e : putV ⟨1, x, 0, 0⟩ v = v := by simp [putV]
     rw [e]
     exact hv.mono (by omega)⟩
 have sto : ∀ (x z : Int), (0 ≤ x ∧ x < total K.c) → VOk K.c (k + 1) x z → (0 ≤ (⟨2, x, 0, z⟩ : AskD).cell ∧ (⟨2, x, 0, z⟩ : AskD).cell < total K.c) ∧ ∀ v, VOk K.c k (⟨2, x, 0, z⟩ : AskD).cell v → VOk K.c (k + 1) (⟨2, x, 0, z⟩ : AskD).cell (putV ⟨2, x, 0, z⟩ v) := fun x z hx hto => ⟨hx, fun v hv => by
     have e : putV ⟨2, x, 0, z⟩ v = z := by simp [putV]
     rw [e]
     exact hto⟩
 have swp : ∀ (x y z : Int), (0 ≤ x ∧ x < total K.c) → VOk K.c (k + 1) x z → (0 ≤ (⟨3, x, y, z⟩ : AskD).cell ∧ (⟨3, x, y, z⟩ : AskD).cell < total K.c) ∧ ∀ v, VOk K.c k (⟨3, x, y, z⟩ : AskD).cell v → VOk K.c (k + 1) (⟨3, x, y, z⟩ : AskD).cell (putV ⟨3, x, y, z⟩ v) := fun x y z hx hto => ⟨hx, fun v hv => by
     have e : putV ⟨3, x, y, z⟩ v = if v = y then z else v := by simp [putV]
     rw [e]
     split
     ·exact hto
     ·exact hv.mono (by omega)⟩
 have tak : (0 ≤ (⟨4, 1, 0, 0⟩ : AskD).cell ∧ (⟨4, 1, 0, 0⟩ : AskD).cell < total K.c) ∧ ∀ v, VOk K.c k (⟨4, 1, 0, 0⟩ : AskD).cell v → VOk K.c (k + 1) (⟨4, 1, 0, 0⟩ : AskD).cell (putV ⟨4, 1, 0, 0⟩ v) := ⟨⟨by simp, by rw [total_eq]; simp; omega⟩, fun v hv => by
     have e : putV ⟨4, 1, 0, 0⟩ v = v + 1 := by simp [putV]
     rw [e]
     have := hv.cnt (Or.inr rfl)
     exact ⟨fun _ => by omega, (fun e => by simp at e), (fun e => by simp at e), (fun e => by simp at e; omega), (fun e => by simp at e; omega), (fun e => by simp at e; omega)⟩⟩
 -- what may be put
 have pv : ∀ (s v : Int), 0 ≤ s → s < K.c.s → -1 ≤ v → v ≤ k + 1 → VOk K.c (k + 1) (hVer s) v := fun s v a b c d => by
  unfold hVer
  exact ⟨(fun e => by omega), (fun e => by omega), fun _ _ => ⟨c, d⟩, (fun e => by omega), (fun e => by omega), (fun e => by omega)⟩
 have po : ∀ (s v : Int), 0 ≤ s → s < K.c.s → 0 ≤ v → v ≤ K.c.t → VOk K.c (k + 1) (hOwn K s) v := fun s v a b c d => by
  unfold hOwn
  exact ⟨(fun e => by omega), (fun e => by omega), (fun _ e => by omega), fun _ _ => ⟨c, d⟩, (fun e => by omega), (fun e => by omega)⟩
 have psr : ∀ (t r : Int), 0 ≤ t → t < K.c.t → SOk K.c (k + 1) r → VOk K.c (k + 1) (hSta K t) r := fun t r a b c => by
  unfold hSta
  exact ⟨(fun e => by omega), (fun e => by omega), (fun _ e => by omega), (fun _ e => by omega), fun _ _ => c, (fun e => by omega)⟩
 have pw : ∀ (a v : Int), 0 ≤ a → a < K.c.wd → 0 ≤ v → v ≤ 65535 → VOk K.c (k + 1) (hWrd K a) v := fun a v b c d e => by
  unfold hWrd
  exact ⟨(fun e => by omega), (fun e => by omega), (fun _ e => by omega), (fun _ e => by omega), (fun _ e => by omega), fun _ _ => ⟨d, e⟩⟩
 have pg : ∀ (v : Int), 0 ≤ v → v ≤ K.c.t → VOk K.c (k + 1) 2 v := fun v a b => ⟨(fun e => by omega), fun _ => ⟨a, b⟩, (fun e => by omega), (fun e => by omega), (fun e => by omega), (fun e => by omega)⟩
 have pc : ∀ (v : Int), 0 ≤ v → v ≤ k + 1 → VOk K.c (k + 1) 0 v := fun v a b => ⟨fun _ => ⟨a, b⟩, (fun e => by omega), (fun e => by omega), (fun e => by omega), (fun e => by omega), (fun e => by omega)⟩
 have bv : ∀ (s : Int), 0 ≤ s → s < K.c.s → 0 ≤ hVer s ∧ hVer s < total K.c := fun s a b => by rw [total_eq]; unfold hVer; omega
 have bo : ∀ (s : Int), 0 ≤ s → s < K.c.s → 0 ≤ hOwn K s ∧ hOwn K s < total K.c := fun s a b => by rw [total_eq]; unfold hOwn; omega
 have bs : ∀ (t : Int), 0 ≤ t → t < K.c.t → 0 ≤ hSta K t ∧ hSta K t < total K.c := fun s a b => by rw [total_eq]; unfold hSta; omega
 have bw : ∀ (a : Int), 0 ≤ a → a < K.c.wd → 0 ≤ hWrd K a ∧ hWrd K a < total K.c := fun s a b => by rw [total_eq]; unfold hWrd; omega
 have b2 : (0 : Int) ≤ 2 ∧ 2 < total K.c := by rw [total_eq]; omega
 have b0 : (0 : Int) ≤ 0 ∧ 0 < total K.c := by rw [total_eq]; omega
 have rk : SOk K.c (k + 1) (8 * h.rank) := ⟨by omega, by omega, by omega⟩
 have zk : SOk K.c (k + 1) 0 := ⟨by omega, by omega, by omega⟩
 cases hst : h.st with
 | idle => rw [hst] at h0; exact absurd rfl h0
 | start => exact ld 0 b0
 | rHeld i a => rw [hst] at hs; exact ld _ (bw a hs.1 hs.2.1)
 | rVer i a => rw [hst] at hs; exact ld _ (bv _ (st hs).1 (st hs).2)
 | rWord i a one => rw [hst] at hs; exact ld _ (bw a hs.1.1 hs.1.2.1)
 | rAgain i a one w => rw [hst] at hs; exact ld _ (bv _ (st hs.1).1 (st hs.1).2)
 | xClock e => exact ld 0 b0
 | xVer e c r =>
  rw [hst] at hs
  cases r with
  | nil => exact absurd rfl hs.2.2.1
  | cons q r => exact ld _ (bv _ (hs.2.2.2 q List.mem_cons_self).1 (hs.2.2.2 q List.mem_cons_self).2)
 | gStat i a => exact ld _ (bs _ hm.1 hm.2)
 | gOwn i a => rw [hst] at hs; exact swp _ _ _ (bo _ (st hs.1).1 (st hs.1).2) (po _ _ (st hs.1).1 (st hs.1).2 (by omega) (by omega))
 | gTheir i a u => rw [hst] at hs; exact ld _ (bs _ (by have := hs.2.1; omega) (by have := hs.2.2; omega))
 | gMark i a u th =>
  rw [hst] at hs
  obtain ⟨_, ⟨u0, u1⟩, ⟨q0, q1, q2⟩, q3⟩ := hs
  exact swp _ _ _ (bs _ (by omega) (by omega)) (psr _ _ (by omega) (by omega) ⟨by omega, by omega, by omega⟩)
 | gVer i a => rw [hst] at hs; exact ld _ (bv _ (st hs).1 (st hs).2)
 | tTake => exact tak
 | tShow => exact swp _ _ _ (bs _ hm.1 hm.2) (psr _ _ hm.1 hm.2 rk)
 | cStat => exact ld _ (bs _ hm.1 hm.2)
 | cGate => exact swp _ _ _ b2 (pg _ (by omega) (by omega))
 | cClock => exact ld 0 b0
 | cVer c r =>
  rw [hst] at hs
  cases r with
  | nil => exact absurd rfl hs.2.1
  | cons q r => exact ld _ (bv _ (hs.2.2 q List.mem_cons_self).1 (hs.2.2 q List.mem_cons_self).2)
 | cShut c r =>
  rw [hst] at hs
  cases r with
  | nil => exact absurd rfl hs.2.1
  | cons q r =>
   have b := hs.2.2 q List.mem_cons_self
   exact sto _ _ (bv _ b.1 b.2) (pv _ _ b.1 b.2 (by omega) (by omega))
 | cStamp c => rw [hst] at hs; exact sto _ _ b0 (pc _ (by have := hs.1; omega) (by have := hs.2; omega))
 | cLeave c => exact sto _ _ b2 (pg _ (by omega) (by omega))
 | cWord c r =>
  rw [hst] at hs
  cases r with
  | nil => exact absurd rfl hs.2.1
  | cons q r =>
   have b := hs.2.2 q List.mem_cons_self
   exact sto _ _ (bw _ b.1 b.2.1) (pw _ _ b.1 b.2.1 b.2.2.1 b.2.2.2)
 | cOpen c r =>
  rw [hst] at hs
  cases r with
  | nil => exact absurd rfl hs.2.1
  | cons q r =>
   have b := hs.2.2 q List.mem_cons_self
   exact sto _ _ (bv _ b.1 b.2) (pv _ _ b.1 b.2 (by have := hs.1.1; omega) (by have := hs.1.2; omega))
 | cOwn c r =>
  rw [hst] at hs
  cases r with
  | nil => exact absurd rfl hs.2.1
  | cons q r =>
   have b := hs.2.2 q List.mem_cons_self
   exact sto _ _ (bo _ b.1 b.2) (po _ _ b.1 b.2 (by omega) (by omega))
 | free e r =>
  rw [hst] at hs
  cases r with
  | nil => exact absurd rfl hs.1
  | cons q r =>
   have b := hs.2 q List.mem_cons_self
   exact sto _ _ (bo _ b.1 b.2) (po _ _ b.1 b.2 (by omega) (by omega))
 | fin e => exact sto _ _ (bs _ hm.1 hm.2) (psr _ _ hm.1 hm.2 zk)
 | fGate => exact sto _ _ b2 (pg _ (by omega) (by omega))
 | fOwn r =>
  rw [hst] at hs
  cases r with
  | nil => exact absurd rfl hs.1
  | cons q r =>
   have b := hs.2 q List.mem_cons_self
   exact sto _ _ (bo _ b.1 b.2) (po _ _ b.1 b.2 (by omega) (by omega))
 | fTake => exact tak
 | fStat => exact sto _ _ (bs _ hm.1 hm.2) (psr _ _ hm.1 hm.2 rk)
 | wait win => rw [hst] at hs; exact ld _ (bs _ hs.1 hs.2)
 | rest n => rw [hst] at h0; exact absurd rfl h0
end Go.Proofs.YtejadojilncbjaaGreat
