import Derived.Test.YtejadojilncbjaaGreatE13
import Derived.Test.YtejadojilncbjaaGreatE16
namespace Go.Proofs.YtejadojilncbjaaGreat
set_option linter.unusedVariables false

/-! What stays true of the cells and of the machines: part 3: each pick. -/

theorem total_eq (c : Cfg) : total c = 3 + 2 * c.s + c.t + c.wd := rfl

theorem sok_mod {c : Cfg} {k v : Int} (h : SOk c k v) : v.tmod 8 = v % 8 ∧ v.tdiv 8 = v / 8 := ⟨Int.tmod_eq_emod_of_nonneg h.1, Int.tdiv_eq_ediv_of_nonneg h.1⟩

theorem held_false {x : TS} {s : Int} (h : heldB x s = false) : s ∉ x.held := by
  intro hm
  unfold heldB at h
  rw [List.any_eq_false] at h
  have := h s hm
  simp at this

/-- What follows an access is in order, if what was seen may stand in the cell. -/
theorem next_ok {K : Cx} {k : Int} {h : Th} (hc : cfgB K.c = true) (hm : 0 ≤ K.me ∧ K.me < K.c.t) (hk : 0 ≤ k) (A : ThOk K k h) (v : AnsD) (hv : (hOut K h).kind ≠ 0 → VOk K.c k (hOut K h).cell v.seen) : ThOk K (k + 1) (hNext K h v) := by
  obtain ⟨⟨t1, t2⟩, ⟨w1, w2⟩, ⟨s1, s2⟩, ⟨g1, g2⟩, ⟨r1, r2⟩, ⟨p1, p2⟩, ⟨f1, f2⟩⟩ := cfgB_true hc
  have B : ThOk K (k + 1) h := A.mono (by omega)
  have N := B.on
  have hx := B.x
  have hs := A.step
  unfold StepOk at hs
  unfold hOut at hv
  unfold hNext
  have st : ∀ {i : InsD} {a : Int}, AOk K i a → 0 ≤ a.tmod K.c.s ∧ a.tmod K.c.s < K.c.s := fun ha => tmodP s1 ha.1
  cases hst : h.st with
  | idle => exact B
  | start =>
    rw [hst] at hv
    have := (hv (by simp)).cnt (Or.inl rfl)
    exact go_ok ⟨B.rank, new_ok (by omega) t1 _ ⟨this.1, by omega⟩⟩
  | rHeld i a =>
    rw [hst] at hv hs
    have := (hv (by simp)).wrd (by show _ ≤ hWrd K a; unfold hWrd; have := hs.1; omega) (by show hWrd K a < _; rw [total_eq]; unfold hWrd; have := hs.2.1; omega)
    exact got_ok N this.1 this.2
  | rVer i a =>
    rw [hst] at hv hs
    have b := st hs
    have := (hv (by simp)).ver (by show _ ≤ hVer _; unfold hVer; omega) (by show hVer _ < _; unfold hVer; omega)
    simp only
    split
    · exact B
    · exact N.st _ ⟨hs, by omega, by omega⟩
  | rWord i a one =>
    rw [hst] at hv hs
    have := (hv (by simp)).wrd (by show _ ≤ hWrd K a; unfold hWrd; have := hs.1.1; omega) (by show hWrd K a < _; rw [total_eq]; unfold hWrd; have := hs.1.2.1; omega)
    exact N.st _ ⟨hs.1, ⟨hs.2.1, by have := hs.2.2; omega⟩, this.1, this.2⟩
  | rAgain i a one w =>
    rw [hst] at hv hs
    simp only
    split
    · exact N.st _ hs.1
    · have b := st hs.1
      have X1 : XOk K (k + 1) (if (entIdx h.x.reads (a.tmod K.c.s)).isSome then h.x else { h.x with reads := h.x.reads ++ [⟨a.tmod K.c.s, one⟩] }) := by
        split
        · exact hx
        · rename_i hn
          have hnn : entIdx h.x.reads (a.tmod K.c.s) = none := by
            cases e : entIdx h.x.reads (a.tmod K.c.s) with
            | none => rfl
            | some j => rw [e] at hn; exact absurd rfl hn
          refine ⟨hx.four, hx.rg, hx.wr, fun e he => ?_, hx.hd, hx.wn, ?_, hx.hn, hx.valid, hx.way, hx.plc, hx.bg⟩
          · rcases List.mem_append.1 he with h3 | h3
            · exact hx.rd e h3
            · rw [List.mem_singleton.1 h3]
              exact ⟨b.1, b.2, hs.2.1.1, by have := hs.2.1.2; show one ≤ _; omega⟩
          · show ((h.x.reads ++ [(⟨a.tmod K.c.s, one⟩ : EntD)]).map (fun e => e.what)).Nodup
            rw [List.map_append, List.nodup_append]
            refine ⟨hx.rn, by simp, fun p hp q hq => ?_⟩
            simp only [List.map_cons, List.map_nil] at hq
            rw [List.mem_singleton.1 hq]
            intro e
            rw [e] at hp
            exact entOut hnn hp
      generalize (if (entIdx h.x.reads (a.tmod K.c.s)).isSome then h.x else { h.x with reads := h.x.reads ++ [⟨a.tmod K.c.s, one⟩] }) = x1 at *
      split
      · exact got_ok ⟨B.rank, X1⟩ hs.2.2.1 hs.2.2.2
      · exact ⟨B.rank, X1, hs.1, hs.2.2.1, hs.2.2.2⟩
  | xClock e =>
    rw [hst] at hv hs
    have := (hv (by simp)).cnt (Or.inl rfl)
    exact exstill_ok N hs ⟨this.1, by omega⟩ _ (fun e he => ⟨(hx.rd e he).1, (hx.rd e he).2.1⟩)
  | xVer e c r =>
    rw [hst] at hs
    cases r with
    | nil => exact absurd rfl hs.2.2.1
    | cons q r =>
      simp only
      split
      · exact fail_ok N
      · exact exstill_ok N hs.1 ⟨hs.2.1.1, by have := hs.2.1.2; omega⟩ _ (fun e he => hs.2.2.2 e (List.mem_cons_of_mem _ he))
  | gStat i a =>
    rw [hst] at hs
    simp only
    split
    · exact fail_ok N
    · exact N.st _ hs
  | gOwn i a =>
    rw [hst] at hv hs
    have b := st hs.1
    have := (hv (by simp)).own (by show _ ≤ hOwn K _; unfold hOwn; omega) (by show hOwn K _ < _; unfold hOwn; omega)
    simp only
    split
    · refine ⟨B.rank, ⟨hx.four, hx.rg, hx.wr, hx.rd, fun s hs' => ?_, hx.wn, hx.rn, ?_, hx.valid, hx.way, hx.plc, hx.bg⟩, hs.1⟩
      · rcases List.mem_append.1 hs' with h3 | h3
        · exact hx.hd s h3
        · rw [List.mem_singleton.1 h3]; exact b
      · show (h.x.held ++ [a.tmod K.c.s]).Nodup
        rw [List.nodup_append]
        refine ⟨hx.hn, by simp, fun p hp q hq => ?_⟩
        rw [List.mem_singleton.1 hq]
        intro e
        rw [e] at hp
        exact held_false hs.2 hp
    · split
      · exact fail_ok N
      · exact N.st _ ⟨hs, by omega, by omega⟩
  | gTheir i a u =>
    rw [hst] at hv hs
    have hu := (hv (by simp)).sta (by show _ ≤ hSta K _; unfold hSta; have := hs.2.1; omega) (by show hSta K _ < _; unfold hSta; have := hs.2.2; omega)
    simp only
    split
    · refine fail_ok ⟨B.rank, ⟨hx.four, hx.rg, hx.wr, hx.rd, hx.hd, hx.wn, hx.rn, hx.hn, hx.valid, ?_, hx.plc, hx.bg⟩⟩
      have := hs.2
      exact ⟨by show -1 ≤ u - 1; omega, by show u - 1 < _; omega⟩
    · split
      · rename_i hm
        refine N.st _ ⟨hs.1, hs.2, ⟨hu.1, hu.2.1, by have := hu.2.2; omega⟩, ?_⟩
        rw [(sok_mod hu).1] at hm
        exact hm
      · exact N.st _ hs.1
  | gMark i a u th =>
    rw [hst] at hs
    exact N.st _ hs.1
  | gVer i a =>
    rw [hst] at hs
    simp only
    split
    · exact N.st _ hs
    · exact wrote_ok N hs
  | tTake =>
    rw [hst] at hv
    have := (hv (by simp)).cnt (Or.inr rfl)
    exact ⟨⟨by show 0 ≤ v.seen + 1; omega, by show v.seen + 1 ≤ _; omega⟩, B.x, trivial⟩
  | tShow =>
    simp only
    split
    · exact fail_ok N
    · exact go_ok N
  | cStat =>
    simp only
    split
    · exact fail_ok N
    · exact N.st _ trivial
  | cGate =>
    refine ⟨B.rank, ⟨hx.four, hx.rg, hx.wr, hx.rd, hx.hd, hx.wn, hx.rn, hx.hn, hx.valid, hx.way, hx.plc, hx.bg⟩, ?_⟩
    show StepOk K (k + 1) { h with x := { h.x with inGate := v.seen == 0 }, st := if v.seen = 0 then .cClock else .cGate }
    by_cases h0 : v.seen = 0
    · rw [if_pos h0]; trivial
    · rw [if_neg h0]; trivial
  | cClock =>
    rw [hst] at hv
    have := (hv (by simp)).cnt (Or.inl rfl)
    simp only
    split
    · exact still_ok N ⟨this.1, by omega⟩ _ (fun e he => ⟨(hx.rd e he).1, (hx.rd e he).2.1⟩)
    · exact shut_ok N ⟨this.1, by omega⟩ _ hx.hd
  | cVer c r =>
    rw [hst] at hs
    cases r with
    | nil => exact absurd rfl hs.2.1
    | cons q r =>
      simp only
      split
      · exact fail_ok N
      · exact still_ok N ⟨hs.1.1, by have := hs.1.2; omega⟩ _ (fun e he => hs.2.2 e (List.mem_cons_of_mem _ he))
  | cShut c r =>
    rw [hst] at hs
    cases r with
    | nil => exact absurd rfl hs.2.1
    | cons q r => exact shut_ok N ⟨hs.1.1, by have := hs.1.2; omega⟩ _ (fun e he => hs.2.2 e (List.mem_cons_of_mem _ he))
  | cStamp c =>
    rw [hst] at hs
    exact ⟨B.rank, B.x, hs.1, by have := hs.2; omega⟩
  | cLeave c =>
    rw [hst] at hs
    exact word_ok N ⟨hs.1, by have := hs.2; omega⟩ _ hx.wr
  | cWord c r =>
    rw [hst] at hs
    cases r with
    | nil => exact absurd rfl hs.2.1
    | cons q r => exact word_ok N ⟨hs.1.1, by have := hs.1.2; omega⟩ _ (fun e he => hs.2.2 e (List.mem_cons_of_mem _ he))
  | cOpen c r =>
    rw [hst] at hs
    cases r with
    | nil => exact absurd rfl hs.2.1
    | cons q r => exact N.st _ ⟨⟨hs.1.1, by have := hs.1.2; omega⟩, hs.2⟩
  | cOwn c r =>
    rw [hst] at hs
    cases r with
    | nil => exact absurd rfl hs.2.1
    | cons q r => exact open_ok N ⟨hs.1.1, by have := hs.1.2; omega⟩ _ (fun e he => hs.2.2 e (List.mem_cons_of_mem _ he))
  | free e r =>
    rw [hst] at hs
    cases r with
    | nil => exact absurd rfl hs.1
    | cons q r => exact free_ok N e _ (fun e he => hs.2 e (List.mem_cons_of_mem _ he))
  | fin e =>
    show ThOk K (k + 1) (hTo K (h.job + 1) _)
    refine to_ok ?_ (by omega) _
    exact ⟨B.rank, B.x⟩
  | fGate => exact failown_ok N _ hx.hd
  | fOwn r =>
    rw [hst] at hs
    cases r with
    | nil => exact absurd rfl hs.1
    | cons q r => exact failown_ok N _ (fun e he => hs.2 e (List.mem_cons_of_mem _ he))
  | fTake =>
    rw [hst] at hv
    have := (hv (by simp)).cnt (Or.inr rfl)
    exact ⟨⟨by show 0 ≤ v.seen + 1; omega, by show v.seen + 1 ≤ _; omega⟩, B.x, trivial⟩
  | fStat =>
    rw [hst] at hv
    have hu := (hv (by simp)).sta (by show _ ≤ hSta K _; unfold hSta; omega) (by show hSta K _ < _; unfold hSta; omega)
    have hu1 := (sok_mod hu).1
    have hu2 := hu.2.1
    have A2 : Onn K (k + 1) (h.ended v.num 5) := ⟨B.rank, B.x⟩
    have hw : (if 0 < v.seen.tmod 8 then v.seen.tmod 8 - 1 else h.x.way) < K.c.t := by
      split
      · omega
      · exact hx.way.2
    generalize (if 0 < v.seen.tmod 8 then v.seen.tmod 8 - 1 else h.x.way) = win at *
    simp only
    split
    · rename_i h0
      exact ⟨B.rank, B.x, h0, hw⟩
    · exact rest_ok A2 _
  | wait win =>
    simp only
    split
    · exact N.st _ trivial
    · exact B
  | rest n =>
    rw [hst] at hs
    simp only
    split
    · exact N.st _ trivial
    · exact N.st _ (by show n - 1 ≠ 0; omega)

/-- What it asks for is a cell, and what it puts there may stand there. -/
theorem ask_ok {K : Cx} {k : Int} {h : Th} (hc : cfgB K.c = true) (hm : 0 ≤ K.me ∧ K.me < K.c.t) (hk : 0 ≤ k) (A : ThOk K k h) (h0 : (hOut K h).kind ≠ 0) :
    (0 ≤ (hOut K h).cell ∧ (hOut K h).cell < total K.c) ∧ ∀ v, VOk K.c k (hOut K h).cell v → VOk K.c (k + 1) (hOut K h).cell (putV (hOut K h) v) := by
  obtain ⟨⟨t1, t2⟩, ⟨w1, w2⟩, ⟨s1, s2⟩, ⟨g1, g2⟩, ⟨r1, r2⟩, ⟨p1, p2⟩, ⟨f1, f2⟩⟩ := cfgB_true hc
  have hs := A.step
  have hr := A.rank
  unfold StepOk at hs
  unfold hOut at h0 ⊢
  have st : ∀ {i : InsD} {a : Int}, AOk K i a → 0 ≤ a.tmod K.c.s ∧ a.tmod K.c.s < K.c.s := fun ha => tmodP s1 ha.1
  -- the cells
  have ld : ∀ (x : Int), (0 ≤ x ∧ x < total K.c) → (0 ≤ (⟨1, x, 0, 0⟩ : AskD).cell ∧ (⟨1, x, 0, 0⟩ : AskD).cell < total K.c) ∧ ∀ v, VOk K.c k (⟨1, x, 0, 0⟩ : AskD).cell v → VOk K.c (k + 1) (⟨1, x, 0, 0⟩ : AskD).cell (putV ⟨1, x, 0, 0⟩ v) := fun x hx => ⟨hx, fun v hv => by
    have e : putV ⟨1, x, 0, 0⟩ v = v := by simp [putV]
    rw [e]
    exact hv.mono (by omega)⟩
  have sto : ∀ (x z : Int), (0 ≤ x ∧ x < total K.c) → VOk K.c (k + 1) x z → (0 ≤ (⟨2, x, 0, z⟩ : AskD).cell ∧ (⟨2, x, 0, z⟩ : AskD).cell < total K.c) ∧ ∀ v, VOk K.c k (⟨2, x, 0, z⟩ : AskD).cell v → VOk K.c (k + 1) (⟨2, x, 0, z⟩ : AskD).cell (putV ⟨2, x, 0, z⟩ v) := fun x z hx hto => ⟨hx, fun v hv => by
    have e : putV ⟨2, x, 0, z⟩ v = z := by simp [putV]
    rw [e]
    exact hto⟩
  have swp : ∀ (x y z : Int), (0 ≤ x ∧ x < total K.c) → VOk K.c (k + 1) x z → (0 ≤ (⟨3, x, y, z⟩ : AskD).cell ∧ (⟨3, x, y, z⟩ : AskD).cell < total K.c) ∧ ∀ v, VOk K.c k (⟨3, x, y, z⟩ : AskD).cell v → VOk K.c (k + 1) (⟨3, x, y, z⟩ : AskD).cell (putV ⟨3, x, y, z⟩ v) := fun x y z hx hto => ⟨hx, fun v hv => by
    have e : putV ⟨3, x, y, z⟩ v = if v = y then z else v := by simp [putV]
    rw [e]
    split
    · exact hto
    · exact hv.mono (by omega)⟩
  have tak : (0 ≤ (⟨4, 1, 0, 0⟩ : AskD).cell ∧ (⟨4, 1, 0, 0⟩ : AskD).cell < total K.c) ∧ ∀ v, VOk K.c k (⟨4, 1, 0, 0⟩ : AskD).cell v → VOk K.c (k + 1) (⟨4, 1, 0, 0⟩ : AskD).cell (putV ⟨4, 1, 0, 0⟩ v) := ⟨⟨by simp, by rw [total_eq]; simp; omega⟩, fun v hv => by
    have e : putV ⟨4, 1, 0, 0⟩ v = v + 1 := by simp [putV]
    rw [e]
    have := hv.cnt (Or.inr rfl)
    exact ⟨fun _ => by omega, (fun e => by simp at e), (fun e => by simp at e), (fun e => by simp at e; omega), (fun e => by simp at e; omega), (fun e => by simp at e; omega)⟩⟩
  -- what may be put
  have pv : ∀ (s v : Int), 0 ≤ s → s < K.c.s → -1 ≤ v → v ≤ k + 1 → VOk K.c (k + 1) (hVer s) v := fun s v a b c d => by
    unfold hVer
    exact ⟨(fun e => by omega), (fun e => by omega), fun _ _ => ⟨c, d⟩, (fun e => by omega), (fun e => by omega), (fun e => by omega)⟩
  have po : ∀ (s v : Int), 0 ≤ s → s < K.c.s → 0 ≤ v → v ≤ K.c.t → VOk K.c (k + 1) (hOwn K s) v := fun s v a b c d => by
    unfold hOwn
    exact ⟨(fun e => by omega), (fun e => by omega), (fun _ e => by omega), fun _ _ => ⟨c, d⟩, (fun e => by omega), (fun e => by omega)⟩
  have psr : ∀ (t r : Int), 0 ≤ t → t < K.c.t → SOk K.c (k + 1) r → VOk K.c (k + 1) (hSta K t) r := fun t r a b c => by
    unfold hSta
    exact ⟨(fun e => by omega), (fun e => by omega), (fun _ e => by omega), (fun _ e => by omega), fun _ _ => c, (fun e => by omega)⟩
  have pw : ∀ (a v : Int), 0 ≤ a → a < K.c.wd → 0 ≤ v → v ≤ 65535 → VOk K.c (k + 1) (hWrd K a) v := fun a v b c d e => by
    unfold hWrd
    exact ⟨(fun e => by omega), (fun e => by omega), (fun _ e => by omega), (fun _ e => by omega), (fun _ e => by omega), fun _ _ => ⟨d, e⟩⟩
  have pg : ∀ (v : Int), 0 ≤ v → v ≤ K.c.t → VOk K.c (k + 1) 2 v := fun v a b => ⟨(fun e => by omega), fun _ => ⟨a, b⟩, (fun e => by omega), (fun e => by omega), (fun e => by omega), (fun e => by omega)⟩
  have pc : ∀ (v : Int), 0 ≤ v → v ≤ k + 1 → VOk K.c (k + 1) 0 v := fun v a b => ⟨fun _ => ⟨a, b⟩, (fun e => by omega), (fun e => by omega), (fun e => by omega), (fun e => by omega), (fun e => by omega)⟩
  have bv : ∀ (s : Int), 0 ≤ s → s < K.c.s → 0 ≤ hVer s ∧ hVer s < total K.c := fun s a b => by rw [total_eq]; unfold hVer; omega
  have bo : ∀ (s : Int), 0 ≤ s → s < K.c.s → 0 ≤ hOwn K s ∧ hOwn K s < total K.c := fun s a b => by rw [total_eq]; unfold hOwn; omega
  have bs : ∀ (t : Int), 0 ≤ t → t < K.c.t → 0 ≤ hSta K t ∧ hSta K t < total K.c := fun s a b => by rw [total_eq]; unfold hSta; omega
  have bw : ∀ (a : Int), 0 ≤ a → a < K.c.wd → 0 ≤ hWrd K a ∧ hWrd K a < total K.c := fun s a b => by rw [total_eq]; unfold hWrd; omega
  have b2 : (0 : Int) ≤ 2 ∧ 2 < total K.c := by rw [total_eq]; omega
  have b0 : (0 : Int) ≤ 0 ∧ 0 < total K.c := by rw [total_eq]; omega
  have rk : SOk K.c (k + 1) (8 * h.rank) := ⟨by omega, by omega, by omega⟩
  have zk : SOk K.c (k + 1) 0 := ⟨by omega, by omega, by omega⟩
  cases hst : h.st with
  | idle => rw [hst] at h0; exact absurd rfl h0
  | start => exact ld 0 b0
  | rHeld i a => rw [hst] at hs; exact ld _ (bw a hs.1 hs.2.1)
  | rVer i a => rw [hst] at hs; exact ld _ (bv _ (st hs).1 (st hs).2)
  | rWord i a one => rw [hst] at hs; exact ld _ (bw a hs.1.1 hs.1.2.1)
  | rAgain i a one w => rw [hst] at hs; exact ld _ (bv _ (st hs.1).1 (st hs.1).2)
  | xClock e => exact ld 0 b0
  | xVer e c r =>
    rw [hst] at hs
    cases r with
    | nil => exact absurd rfl hs.2.2.1
    | cons q r => exact ld _ (bv _ (hs.2.2.2 q List.mem_cons_self).1 (hs.2.2.2 q List.mem_cons_self).2)
  | gStat i a => exact ld _ (bs _ hm.1 hm.2)
  | gOwn i a => rw [hst] at hs; exact swp _ _ _ (bo _ (st hs.1).1 (st hs.1).2) (po _ _ (st hs.1).1 (st hs.1).2 (by omega) (by omega))
  | gTheir i a u => rw [hst] at hs; exact ld _ (bs _ (by have := hs.2.1; omega) (by have := hs.2.2; omega))
  | gMark i a u th =>
    rw [hst] at hs
    obtain ⟨_, ⟨u0, u1⟩, ⟨q0, q1, q2⟩, q3⟩ := hs
    exact swp _ _ _ (bs _ (by omega) (by omega)) (psr _ _ (by omega) (by omega) ⟨by omega, by omega, by omega⟩)
  | gVer i a => rw [hst] at hs; exact ld _ (bv _ (st hs).1 (st hs).2)
  | tTake => exact tak
  | tShow => exact swp _ _ _ (bs _ hm.1 hm.2) (psr _ _ hm.1 hm.2 rk)
  | cStat => exact ld _ (bs _ hm.1 hm.2)
  | cGate => exact swp _ _ _ b2 (pg _ (by omega) (by omega))
  | cClock => exact ld 0 b0
  | cVer c r =>
    rw [hst] at hs
    cases r with
    | nil => exact absurd rfl hs.2.1
    | cons q r => exact ld _ (bv _ (hs.2.2 q List.mem_cons_self).1 (hs.2.2 q List.mem_cons_self).2)
  | cShut c r =>
    rw [hst] at hs
    cases r with
    | nil => exact absurd rfl hs.2.1
    | cons q r =>
      have b := hs.2.2 q List.mem_cons_self
      exact sto _ _ (bv _ b.1 b.2) (pv _ _ b.1 b.2 (by omega) (by omega))
  | cStamp c => rw [hst] at hs; exact sto _ _ b0 (pc _ (by have := hs.1; omega) (by have := hs.2; omega))
  | cLeave c => exact sto _ _ b2 (pg _ (by omega) (by omega))
  | cWord c r =>
    rw [hst] at hs
    cases r with
    | nil => exact absurd rfl hs.2.1
    | cons q r =>
      have b := hs.2.2 q List.mem_cons_self
      exact sto _ _ (bw _ b.1 b.2.1) (pw _ _ b.1 b.2.1 b.2.2.1 b.2.2.2)
  | cOpen c r =>
    rw [hst] at hs
    cases r with
    | nil => exact absurd rfl hs.2.1
    | cons q r =>
      have b := hs.2.2 q List.mem_cons_self
      exact sto _ _ (bv _ b.1 b.2) (pv _ _ b.1 b.2 (by have := hs.1.1; omega) (by have := hs.1.2; omega))
  | cOwn c r =>
    rw [hst] at hs
    cases r with
    | nil => exact absurd rfl hs.2.1
    | cons q r =>
      have b := hs.2.2 q List.mem_cons_self
      exact sto _ _ (bo _ b.1 b.2) (po _ _ b.1 b.2 (by omega) (by omega))
  | free e r =>
    rw [hst] at hs
    cases r with
    | nil => exact absurd rfl hs.1
    | cons q r =>
      have b := hs.2 q List.mem_cons_self
      exact sto _ _ (bo _ b.1 b.2) (po _ _ b.1 b.2 (by omega) (by omega))
  | fin e => exact sto _ _ (bs _ hm.1 hm.2) (psr _ _ hm.1 hm.2 zk)
  | fGate => exact sto _ _ b2 (pg _ (by omega) (by omega))
  | fOwn r =>
    rw [hst] at hs
    cases r with
    | nil => exact absurd rfl hs.1
    | cons q r =>
      have b := hs.2 q List.mem_cons_self
      exact sto _ _ (bo _ b.1 b.2) (po _ _ b.1 b.2 (by omega) (by omega))
  | fTake => exact tak
  | fStat => exact sto _ _ (bs _ hm.1 hm.2) (psr _ _ hm.1 hm.2 rk)
  | wait win => rw [hst] at hs; exact ld _ (bs _ hs.1 hs.2)
  | rest n => rw [hst] at h0; exact absurd rfl h0

end Go.Proofs.YtejadojilncbjaaGreat

namespace Go.Proofs.YtejadojilncbjaaGreat
set_option linter.unusedVariables false

theorem turns_stop (code : List InsD) (n : Nat) (t : PT) (h : t.step ≠ 1) : yTurns code n t = t := by
  cases n with
  | zero => rfl
  | succ n => unfold yTurns; rw [if_neg h]

theorem Sim.step_ne {K : Cx} {t : PT} {h : Th} (S : Sim K t h) : t.step ≠ 1 := by
  rcases S with ⟨_, q, _⟩ | ⟨_, _, _, q, _⟩ | ⟨n, _, _, _, _, q, _⟩ | ⟨n, _, _, _, q, _⟩ | ⟨_, _, q⟩
  · omega
  · omega
  · omega
  · omega
  · cases hst : h.st <;> rw [hst] at q <;> simp only [SimS] at q <;> first
      | exact q.elim
      | omega
theorem Sim.turns {K : Cx} {t : PT} {h : Th} (S : Sim K t h) (code : List InsD) (n : Nat) : Sim K (yTurns code n t) h := by
  rw [turns_stop _ _ _ S.step_ne]; exact S

theorem thM_self {K : Cx} {t : PT} {h : Th} (b : Bax K t h) : thM h t.m = h := by
  unfold thM
  rw [b.2.regs, b.2.place, b.2.begun]

theorem bax_m {K : Cx} {t : PT} {h : Th} (b : Bax K t h) (u : MS) (v : TurnD) : Bax K { t with m := u, turn := v } (thM h u) :=
  ⟨b.1, ⟨rfl, rfl, rfl, b.2.valid, b.2.reads, b.2.writes, b.2.held, b.2.way, b.2.rest, b.2.code, b.2.tl⟩⟩

theorem onn_m {K : Cx} {k : Int} {h : Th} (A : Onn K k h) (u : MS) (ok : MOk u) (hp : u.place ≤ h.x.code.length) (hb : (u.begun : Int) ≤ K.c.f) : Onn K k (thM h u) :=
  ⟨A.rank, ⟨ok.1, ok.2, A.x.wr, A.x.rd, A.x.hd, A.x.wn, A.x.rn, A.x.hn, A.x.valid, A.x.way, hp, hb⟩⟩

theorem bax_mod {K : Cx} {t t' : PT} {h : Th} (b : Bas K t h) (f : AttD → AttD) (hl : h.list.getLast? = some t.told) (h1 : t'.told = f t.told) (h2 : t'.c = t.c) (h3 : t'.num = t.num) (h4 : t'.rank = t.rank) (h5 : t'.fails = t.fails) (h6 : t'.mine = t.mine) (h7 : t'.cur = t.cur) (h8 : t'.res = t.res) : Bas K t' { h with list := modLast h.list f } := by
  unfold Bas at *
  rw [h1, h2, h3, h4, h5, h6, h7, h8]
  exact ⟨b.c, b.num, b.rank, b.fails, b.jlt, b.jme, b.mine, b.tol.mod f hl⟩
theorem bax_give {K : Cx} {t : PT} {h : Th} (b : Bax K t h) (i v : Int) (hi : t.m.into = i) (op a : Int) (ho : t.turn.op = op) (ha : t.turn.addr = a) : Bax K (yGive v t) (({ h with x := setReg h.x i v } : Th).noted op a v) := by
  have e : (yGive v t).told = (fun q : AttD => { q with notes := q.notes ++ [⟨op, a, v⟩] }) t.told := by subst ho; subst ha; rfl
  refine ⟨bax_mod (h := { h with x := setReg h.x i v }) b.1 _ b.2.tl e rfl rfl rfl rfl rfl rfl rfl, ⟨by show t.m.regs.set t.m.into.toNat v = h.x.regs.set i.toNat v; rw [b.2.regs, hi], b.2.place, b.2.begun, b.2.valid, b.2.reads, b.2.writes, b.2.held, b.2.way, b.2.rest, b.2.code, ?_⟩⟩
  rw [e]
  exact last_mod _ b.2.tl
theorem bax_log {K : Cx} {t : PT} {h : Th} (b : Bax K t h) (i : InsD) (a : Int) (ho : t.turn.op = 8) (h1 : t.turn.addr = a) (h2 : t.turn.val = regOf h.x i.b) : Bax K (yLog t.turn.addr t.turn.val t) (hPut i a h) := by
  have e : (yLog t.turn.addr t.turn.val t).told = (fun q : AttD => { q with notes := q.notes ++ [⟨8, a, regOf h.x i.b⟩] }) t.told := by rw [← h2]; subst h1; unfold yLog; rw [ho]; rfl
  refine ⟨bax_mod (h := { h with x := { h.x with writes := putEnt h.x.writes a (regOf h.x i.b) } }) b.1 _ b.2.tl e rfl rfl rfl rfl rfl rfl rfl, ⟨b.2.regs, b.2.place, b.2.begun, b.2.valid, b.2.reads, by show putEnt t.writes t.turn.addr t.turn.val = putEnt h.x.writes a (regOf h.x i.b); rw [b.2.writes, h1, h2], b.2.held, b.2.way, b.2.rest, b.2.code, ?_⟩⟩
  rw [e]
  exact last_mod _ b.2.tl

theorem w_read {K : Cx} {t : PT} {h : Th} (b : Bax K t h) (hg : h.x.inGate = false) (i : InsD) (hop : t.turn.op = 7) (hin : t.m.into = i.a) (ha : regOf h.x i.b = t.turn.addr) (haw : t.turn.addr < K.c.wd) :
    (∃ v, (∃ e ∈ h.x.writes, v = e.val) ∧ yRead t = yGive v t ∧ hRead K i h = (true, ({ h with x := setReg h.x i.a v } : Th).noted 7 t.turn.addr v)) ∨ (∃ h', hRead K i h = (false, h') ∧ Sim K (yRead t) h') := by
  unfold yRead hRead
  simp only
  rw [ha, if_neg (show ¬ K.c.wd ≤ t.turn.addr by omega), b.2.writes, b.stripe, b.holds, b.wrd]
  cases hE : entIdx h.x.writes t.turn.addr with
  | some j =>
    simp only
    exact Or.inl ⟨_, ⟨_, (entIn hE).2.2, rfl⟩, rfl, rfl⟩
  | none =>
    simp only
    refine Or.inr ⟨_, rfl, ?_⟩
    cases hH : heldB h.x (t.turn.addr.tmod K.c.s) with
    | true =>
      simp only [if_true]
      exact Sim.mk (t := yLoad 3 _ t) (h := { h with st := .rHeld i t.turn.addr }) b rfl ⟨hg, rfl, hop, rfl, hin⟩
    | false =>
      simp only [Bool.false_eq_true, if_false]
      exact Sim.mk (t := yLoad 4 _ t) (h := { h with st := .rVer i t.turn.addr }) b rfl ⟨hg, rfl, hop, rfl, hin⟩

theorem w_write {K : Cx} {t : PT} {h : Th} (b : Bax K t h) (hg : h.x.inGate = false) (i : InsD) (hop : t.turn.op = 8) (ha : regOf h.x i.a = t.turn.addr) (hv : t.turn.val = regOf h.x i.b) (haw : t.turn.addr < K.c.wd) :
    (yWrite t = { yLog t.turn.addr t.turn.val t with step := 1 } ∧ hWrite K i h = (true, hPut i t.turn.addr h)) ∨ (∃ h', hWrite K i h = (false, h') ∧ Sim K (yWrite t) h') := by
  unfold yWrite hWrite
  simp only
  rw [ha, if_neg (show ¬ K.c.wd ≤ t.turn.addr by omega), b.stripe, b.holds]
  cases hH : heldB h.x (t.turn.addr.tmod K.c.s) with
  | true =>
    simp only [if_true]
    exact Or.inl ⟨trivial, trivial⟩
  | false =>
    simp only [Bool.false_eq_true, if_false]
    refine Or.inr ⟨_, rfl, Sim.mk (t := yGet t) (h := { h with st := .gStat i t.turn.addr }) b ?_ ⟨hg, rfl, hop, rfl, hv⟩⟩
    show AskD.mk 1 t.sta 0 0 = ⟨1, hSta K K.me, 0, 0⟩
    rw [b.sta]

theorem w_run (K : Cx) (hc : cfgB K.c = true) (code : List InsD) : ∀ (n : Nat) (t : PT) (h : Th) (N : Nat) (k : Int), Bax K t h → t.step = 1 → h.x.inGate = false → Onn K k h → h.x.code = code →
    K.c.f < h.x.begun + n → K.c.f < h.x.begun + N → Sim K (yTurns code n t) (hAdv K N h)
  | 0, t, h, N, k, b, hs, hg, A, hcd, hn, hN => by have := A.x.bg; omega
  | n + 1, t, h, N, k, b, hs, hg, A, hcd, hn, hN => by
    obtain ⟨⟨t1, t2⟩, ⟨w1, w2⟩, ⟨s1, s2⟩, ⟨g1, g2⟩, _, _, ⟨f1, f2⟩⟩ := cfgB_true hc
    unfold yTurns
    rw [if_pos hs]
    unfold yTurn
    rw [b.1.c]
    have V := adv_sim K code h hcd yRounds t.m N ⟨by rw [b.2.regs]; exact A.x.four, by rw [b.2.regs]; exact A.x.rg⟩ (by rw [b.2.place, ← hcd]; exact A.x.plc) (by rw [b.2.begun]; exact A.x.bg) (by unfold yRounds; omega) (by rw [b.2.begun]; exact hN)
    have V1 := V.cs
    have Vo := V.ok
    have Vp := V.place
    have Vb := V.begun
    clear V
    rw [thM_self b] at V1
    generalize pNext K.c.f K.c.wd code yRounds t.m = u at *
    have b1 := bax_m b u.2 u.1
    have A1 := onn_m A u.2 Vo (by rw [hcd]; exact Vp) Vb
    unfold yTurned
    rcases V1 with ⟨h0, h1⟩ | ⟨h0, i, N1, q1, q2, qa, qb, a0, a1, hcs⟩
    · rw [if_neg h0, h1]
      exact (sim_close (t := { t with m := u.2, turn := u.1 }) (h := thM h u.2) b1 hg _ h0 rfl).turns code n
    · rw [if_pos h0]
      rw [b.2.begun] at q1
      obtain ⟨th, hth⟩ : ∃ th, th = ({ t with m := u.2, turn := u.1 } : PT) := ⟨_, rfl⟩
      obtain ⟨hh, hhh⟩ : ∃ hh, hh = thM h u.2 := ⟨_, rfl⟩
      have e1 : th.turn = u.1 := by rw [hth]
      have e2 : th.m = u.2 := by rw [hth]
      have e3 : hh.x.begun = u.2.begun := by rw [hhh]; rfl
      have e4 : hh.x.inGate = false := by rw [hhh]; exact hg
      have e5 : hh.x.code = code := by rw [hhh]; exact hcd
      have e6 : ∀ r, mReg u.2 r = regOf hh.x r := fun r => by rw [hhh]; rfl
      rw [← hth, ← hhh] at b1
      rw [← hhh] at A1 hcs
      rw [← hth]
      clear hth hhh
      have hnn : K.c.f < (u.2.begun : Int) + n := by omega
      rw [← e1] at hcs a0 a1
      rw [← e2] at hcs
      unfold yTouch
      rcases hcs with ⟨o7, hi, ha, he⟩ | ⟨o8, ha, hv, he⟩
      · rw [he, if_pos o7]
        rw [e2, e6] at ha
        rcases w_read b1 e4 i o7 hi ha.symm a1 with ⟨v, ⟨e, hem, hev⟩, r1, r2⟩ | ⟨h', r1, r2⟩
        · rw [r1, r2]
          have hval := A1.x.wr _ hem
          rw [← hev] at hval
          exact w_run K hc code n _ _ N1 k (bax_give b1 i.a v hi 7 th.turn.addr o7 rfl) rfl e4 ((A1.setx _ (A1.x.setReg _ _ hval.2.2.1 hval.2.2.2)).noted _ _ _) e5 (by show K.c.f < (hh.x.begun : Int) + n; rw [e3]; exact hnn) (by show K.c.f < (hh.x.begun : Int) + N1; rw [e3]; exact q2)
        · rw [r1]
          exact r2.turns code n
      · rw [he, if_neg (by omega)]
        rw [e2, e6] at ha hv
        rcases w_write b1 e4 i o8 ha.symm hv a1 with ⟨r1, r2⟩ | ⟨h', r1, r2⟩
        · rw [r1, r2]
          exact w_run K hc code n _ _ N1 k (bax_log b1 i _ o8 rfl hv) rfl e4 (put_ok A1 a0 a1) e5 (by show K.c.f < (hh.x.begun : Int) + n; rw [e3]; exact hnn) (by show K.c.f < (hh.x.begun : Int) + N1; rw [e3]; exact q2)
        · rw [r1]
          exact r2.turns code n

structure RunI (K : Cx) (code : List InsD) (k : Int) (t : PT) (h : Th) : Prop where
  b : Bax K t h
  g : h.x.inGate = false
  a : Onn K k h
  c : h.x.code = code

/-- The thread stands, or its code goes on. -/
def SimG (K : Cx) (k : Int) (code : List InsD) (t : PT) (h' : Th) : Prop := Sim K t h' ∨ (t.step = 1 ∧ ∃ h, RunI K code k t h ∧ h' = hGo K h)

theorem Sim.toG {K : Cx} {k : Int} {code : List InsD} {t : PT} {h : Th} (S : Sim K t h) : SimG K k code t h := Or.inl S
theorem SimG.sim {K : Cx} {k : Int} {code : List InsD} {t : PT} {h : Th} (hc : cfgB K.c = true) (S : SimG K k code t h) : Sim K (yTurns code yRounds t) h := by
  rcases S with S | ⟨hs, g, r, rfl⟩
  · exact S.turns _ _
  · obtain ⟨_, _, _, _, _, _, ⟨f1, f2⟩⟩ := cfgB_true hc
    have := r.a.x.bg
    unfold hGo
    exact w_run K hc code yRounds t g _ k r.b hs r.g r.a r.c (by unfold yRounds; omega) (by omega)

theorem w_goes {K : Cx} (hc : cfgB K.c = true) {code : List InsD} {t : PT} {h : Th} {k : Int} (b : Bax K t h) (hs : t.step = 1) (hg : h.x.inGate = false) (A : Onn K k h) (hcd : code = (K.jobs.getD h.job (0, [])).2) : SimG K k code t (hGo K h) :=
  Or.inr ⟨hs, h, ⟨b, hg, A, by rw [hcd]; exact b.2.code⟩, rfl⟩

theorem w_got {K : Cx} (hc : cfgB K.c = true) {code : List InsD} {t : PT} {h : Th} {k : Int} (b : Bax K t h) (hg : h.x.inGate = false) (A : Onn K k h) (hcd : code = (K.jobs.getD h.job (0, [])).2) (i : InsD) (a v : Int) (hr : RdM t i a) (v0 : 0 ≤ v) (v1 : v ≤ 65535) :
    SimG K k code (yGive v t) (hGot K i a v h) := w_goes hc (bax_give b i.a v hr.2.2 7 a hr.1 hr.2.1) rfl hg ((A.setx _ (A.x.setReg _ _ v0 v1)).noted _ _ _) hcd

theorem w_wrote {K : Cx} (hc : cfgB K.c = true) {code : List InsD} {t : PT} {h : Th} {k : Int} (b : Bax K t h) (hg : h.x.inGate = false) (A : Onn K k h) (hcd : code = (K.jobs.getD h.job (0, [])).2) (i : InsD) (a : Int) (hr : WrM t h i a) (ha : AOk K i a) :
    SimG K k code (yWriteGot t) (hWrote K i a h) := by
  obtain ⟨_, _, _, ⟨g1, g2⟩, _⟩ := cfgB_true hc
  have bl := bax_log b i a hr.1 hr.2.1 hr.2.2
  unfold yWriteGot hWrote
  rw [b.1.rank, b.1.c, b.2.held]
  by_cases hd : h.rank ≠ 0 ∨ K.c.g = 0 ∨ (h.x.held.length : Int) ≠ K.c.g
  · rw [if_pos hd, if_neg (by omega)]
    exact w_goes hc (t := { yLog t.turn.addr t.turn.val t with step := 1 }) bl rfl hg (put_ok A ha.1 ha.2.1) hcd
  · rw [if_neg hd, if_pos (by omega)]
    exact (Sim.mk (t := yTake 14 1 (yLog t.turn.addr t.turn.val t)) (h := { hPut i a h with st := .tTake }) bl rfl ⟨hg, rfl⟩).toG

theorem w_exdone {K : Cx} (hc : cfgB K.c = true) {code : List InsD} {t : PT} {h : Th} {k : Int} (b : Bax K t h) (hg : h.x.inGate = false) (A : Onn K k h) (hcd : code = (K.jobs.getD h.job (0, [])).2) (e : Ex) (hr : ExM t h e) (he : ExOk K e) (hcl : 0 ≤ t.clock ∧ t.clock ≤ k) :
    SimG K k code (yEndExt { t with valid := t.clock }) (hExDone K e t.clock h) := by
  have b1 : Bax K { t with valid := t.clock } { h with list := modLast h.list (fun q => { q with valid := t.clock }), x := { h.x with valid := t.clock } } := ⟨bax_mod (h := { h with x := { h.x with valid := t.clock } }) b.1 _ b.2.tl rfl rfl rfl rfl rfl rfl rfl rfl, ⟨b.2.regs, b.2.place, b.2.begun, rfl, b.2.reads, b.2.writes, b.2.held, b.2.way, b.2.rest, b.2.code, last_mod (fun q => { q with valid := t.clock }) b.2.tl⟩⟩
  have A1 : Onn K k { h with list := modLast h.list (fun q => { q with valid := t.clock }), x := { h.x with valid := t.clock } } := ⟨A.rank, ⟨A.x.four, A.x.rg, A.x.wr, A.x.rd, A.x.hd, A.x.wn, A.x.rn, A.x.hn, hcl, A.x.way, A.x.plc, A.x.bg⟩⟩
  unfold yEndExt hExDone
  cases e with
  | rd i a v =>
    obtain ⟨hr1, hr2⟩ := hr
    rw [if_pos (show ({ t with valid := t.clock } : PT).turn.op = 7 from hr1.1)]
    subst hr2
    exact w_got hc b1 hg A1 hcd i a _ hr1 he.2.1 he.2.2
  | wr i a =>
    rw [if_neg (show ¬ ({ t with valid := t.clock } : PT).turn.op = 7 by show ¬ t.turn.op = 7; rw [hr.1]; decide)]
    exact w_wrote hc b1 hg A1 hcd i a hr he

theorem w_exstill {K : Cx} (hc : cfgB K.c = true) {code : List InsD} {t : PT} {h : Th} {k : Int} (b : Bax K t h) (hg : h.x.inGate = false) (A : Onn K k h) (hcd : code = (K.jobs.getD h.job (0, [])).2) (e : Ex) (hr : ExM t h e) (he : ExOk K e) (hcl : 0 ≤ t.clock ∧ t.clock ≤ k) (r : List EntD) (hd : t.reads.drop t.at_ = r) :
    SimG K k code (yExtNext t) (hExStill K e t.clock r h) := by
  unfold yExtNext hExStill
  cases r with
  | nil =>
    rw [if_neg (drop_nil hd)]
    exact w_exdone hc b hg A hcd e hr he hcl
  | cons s r =>
    rw [if_pos (drop_cons3 hd).2.1]
    refine (Sim.mk (t := yLoad 13 _ t) (h := { h with st := .xVer e t.clock (s :: r) }) b ?_ ⟨hg, rfl, ?_, rfl, hd⟩).toG
    · show AskD.mk 1 (hVer (t.reads.getD t.at_ ⟨0, 0⟩).what) 0 0 = ⟨1, hVer s.what, 0, 0⟩
      rw [getD_drop hd]
    · cases e with
      | rd i a v => exact hr
      | wr i a => exact hr

end Go.Proofs.YtejadojilncbjaaGreat
