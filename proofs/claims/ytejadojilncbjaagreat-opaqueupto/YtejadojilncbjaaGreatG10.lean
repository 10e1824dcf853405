import Derived.Test.YtejadojilncbjaaGreatG09
import Derived.Test.YtejadojilncbjaaGreatG07
import Derived.Deep.DeepCutAuto
import Derived.Test.YtejadojilncbjaaGreatG06
import Derived.Test.YtejadojilncbjaaGreatG08
namespace Go.Proofs.YtejadojilncbjaaGreat
set_option linter.unusedVariables false

/-! What stays true of the cells and of the machines: part 3: each pick. -/

theorem total_eq (c : Cfg) : total c = 3 + 2 * c.s + c.t + c.wd := rfl

theorem sok_mod {c : Cfg} {k v : Int} (h : SOk c k v) : v.tmod 8 = v % 8 ∧ v.tdiv 8 = v / 8 := ⟨Int.tmod_eq_emod_of_nonneg h.1, Int.tdiv_eq_ediv_of_nonneg h.1⟩

theorem held_false {x : TS} {s : Int} (h : heldB x s = false) : s ∉ x.held := by
  intro hm
  unfold heldB at h
  rw [List.any_eq_false] at h
  have := h s hm
  simp at this

/-- What follows an access is in order, if what was seen may stand in the cell. -/
theorem next_ok {K : Cx} {k : Int} {h : Th} (hc : cfgB K.c = true) (hm : 0 ≤ K.me ∧ K.me < K.c.t) (hk : 0 ≤ k) (A : ThOk K k h) (v : AnsD) (hv : (hOut K h).kind ≠ 0 → VOk K.c k (hOut K h).cell v.seen) : ThOk K (k + 1) (hNext K h v) := by
  obtain ⟨⟨t1, t2⟩, ⟨w1, w2⟩, ⟨s1, s2⟩, ⟨g1, g2⟩, ⟨r1, r2⟩, ⟨p1, p2⟩, ⟨f1, f2⟩⟩ := cfgB_true hc
  have B : ThOk K (k + 1) h := A.mono (by omega)
  have N := B.on
  have hx := B.x
  have hs := A.step
  unfold StepOk at hs
  unfold hOut at hv
  unfold hNext
  have st : ∀ {i : InsD} {a : Int}, AOk K i a → 0 ≤ a.tmod K.c.s ∧ a.tmod K.c.s < K.c.s := fun ha => tmodP s1 ha.1
  cases hst : h.st with
  | idle => exact B
  | start =>
    rw [hst] at hv
    have := (hv (by simp)).cnt (Or.inl rfl)
    exact go_ok ⟨B.rank, new_ok (by omega) t1 _ ⟨this.1, by omega⟩⟩
  | rHeld i a =>
    rw [hst] at hv hs
    have := (hv (by simp)).wrd (by show _ ≤ hWrd K a; unfold hWrd; have := hs.1; omega) (by show hWrd K a < _; rw [total_eq]; unfold hWrd; have := hs.2.1; omega)
    exact got_ok N this.1 this.2
  | rVer i a =>
    rw [hst] at hv hs
    have b := st hs
    have := (hv (by simp)).ver (by show _ ≤ hVer _; unfold hVer; omega) (by show hVer _ < _; unfold hVer; omega)
    simp only
    split
    · exact B
    · exact N.st _ ⟨hs, by omega, by omega⟩
  | rWord i a one =>
    rw [hst] at hv hs
    have := (hv (by simp)).wrd (by show _ ≤ hWrd K a; unfold hWrd; have := hs.1.1; omega) (by show hWrd K a < _; rw [total_eq]; unfold hWrd; have := hs.1.2.1; omega)
    exact N.st _ ⟨hs.1, ⟨hs.2.1, by have := hs.2.2; omega⟩, this.1, this.2⟩
  | rAgain i a one w =>
    rw [hst] at hv hs
    simp only
    split
    · exact N.st _ hs.1
    · have b := st hs.1
      have X1 : XOk K (k + 1) (if (entIdx h.x.reads (a.tmod K.c.s)).isSome then h.x else { h.x with reads := h.x.reads ++ [⟨a.tmod K.c.s, one⟩] }) := by
        split
        · exact hx
        · rename_i hn
          have hnn : entIdx h.x.reads (a.tmod K.c.s) = none := by
            cases e : entIdx h.x.reads (a.tmod K.c.s) with
            | none => rfl
            | some j => rw [e] at hn; exact absurd rfl hn
          refine ⟨hx.four, hx.rg, hx.wr, fun e he => ?_, hx.hd, hx.wn, ?_, hx.hn, hx.valid, hx.way, hx.plc, hx.bg⟩
          · rcases List.mem_append.1 he with h3 | h3
            · exact hx.rd e h3
            · rw [List.mem_singleton.1 h3]
              exact ⟨b.1, b.2, hs.2.1.1, by have := hs.2.1.2; show one ≤ _; omega⟩
          · show ((h.x.reads ++ [(⟨a.tmod K.c.s, one⟩ : EntD)]).map (fun e => e.what)).Nodup
            rw [List.map_append, List.nodup_append]
            refine ⟨hx.rn, by simp, fun p hp q hq => ?_⟩
            simp only [List.map_cons, List.map_nil] at hq
            rw [List.mem_singleton.1 hq]
            intro e
            rw [e] at hp
            exact entOut hnn hp
      generalize (if (entIdx h.x.reads (a.tmod K.c.s)).isSome then h.x else { h.x with reads := h.x.reads ++ [⟨a.tmod K.c.s, one⟩] }) = x1 at *
      split
      · exact got_ok ⟨B.rank, X1⟩ hs.2.2.1 hs.2.2.2
      · exact ⟨B.rank, X1, hs.1, hs.2.2.1, hs.2.2.2⟩
  | xClock e =>
    rw [hst] at hv hs
    have := (hv (by simp)).cnt (Or.inl rfl)
    exact exstill_ok N hs ⟨this.1, by omega⟩ _ (fun e he => ⟨(hx.rd e he).1, (hx.rd e he).2.1⟩)
  | xVer e c r =>
    rw [hst] at hs
    cases r with
    | nil => exact absurd rfl hs.2.2.1
    | cons q r =>
      simp only
      split
      · exact fail_ok N
      · exact exstill_ok N hs.1 ⟨hs.2.1.1, by have := hs.2.1.2; omega⟩ _ (fun e he => hs.2.2.2 e (List.mem_cons_of_mem _ he))
  | gStat i a =>
    rw [hst] at hs
    simp only
    split
    · exact fail_ok N
    · exact N.st _ hs
  | gOwn i a =>
    rw [hst] at hv hs
    have b := st hs.1
    have := (hv (by simp)).own (by show _ ≤ hOwn K _; unfold hOwn; omega) (by show hOwn K _ < _; unfold hOwn; omega)
    simp only
    split
    · refine ⟨B.rank, ⟨hx.four, hx.rg, hx.wr, hx.rd, fun s hs' => ?_, hx.wn, hx.rn, ?_, hx.valid, hx.way, hx.plc, hx.bg⟩, hs.1⟩
      · rcases List.mem_append.1 hs' with h3 | h3
        · exact hx.hd s h3
        · rw [List.mem_singleton.1 h3]; exact b
      · show (h.x.held ++ [a.tmod K.c.s]).Nodup
        rw [List.nodup_append]
        refine ⟨hx.hn, by simp, fun p hp q hq => ?_⟩
        rw [List.mem_singleton.1 hq]
        intro e
        rw [e] at hp
        exact held_false hs.2 hp
    · split
      · exact fail_ok N
      · exact N.st _ ⟨hs, by omega, by omega⟩
  | gTheir i a u =>
    rw [hst] at hv hs
    have hu := (hv (by simp)).sta (by show _ ≤ hSta K _; unfold hSta; have := hs.2.1; omega) (by show hSta K _ < _; unfold hSta; have := hs.2.2; omega)
    simp only
    split
    · refine fail_ok ⟨B.rank, ⟨hx.four, hx.rg, hx.wr, hx.rd, hx.hd, hx.wn, hx.rn, hx.hn, hx.valid, ?_, hx.plc, hx.bg⟩⟩
      have := hs.2
      exact ⟨by show -1 ≤ u - 1; omega, by show u - 1 < _; omega⟩
    · split
      · rename_i hm
        refine N.st _ ⟨hs.1, hs.2, ⟨hu.1, hu.2.1, by have := hu.2.2; omega⟩, ?_⟩
        rw [(sok_mod hu).1] at hm
        exact hm
      · exact N.st _ hs.1
  | gMark i a u th =>
    rw [hst] at hs
    exact N.st _ hs.1
  | gVer i a =>
    rw [hst] at hs
    simp only
    split
    · exact N.st _ hs
    · exact wrote_ok N hs
  | tTake =>
    rw [hst] at hv
    have := (hv (by simp)).cnt (Or.inr rfl)
    exact ⟨⟨by show 0 ≤ v.seen + 1; omega, by show v.seen + 1 ≤ _; omega⟩, B.x, trivial⟩
  | tShow =>
    simp only
    split
    · exact fail_ok N
    · exact go_ok N
  | cStat =>
    simp only
    split
    · exact fail_ok N
    · exact N.st _ trivial
  | cGate =>
    refine ⟨B.rank, ⟨hx.four, hx.rg, hx.wr, hx.rd, hx.hd, hx.wn, hx.rn, hx.hn, hx.valid, hx.way, hx.plc, hx.bg⟩, ?_⟩
    show StepOk K (k + 1) { h with x := { h.x with inGate := v.seen == 0 }, st := if v.seen = 0 then .cClock else .cGate }
    by_cases h0 : v.seen = 0
    · rw [if_pos h0]; trivial
    · rw [if_neg h0]; trivial
  | cClock =>
    rw [hst] at hv
    have := (hv (by simp)).cnt (Or.inl rfl)
    simp only
    split
    · exact still_ok N ⟨this.1, by omega⟩ _ (fun e he => ⟨(hx.rd e he).1, (hx.rd e he).2.1⟩)
    · exact shut_ok N ⟨this.1, by omega⟩ _ hx.hd
  | cVer c r =>
    rw [hst] at hs
    cases r with
    | nil => exact absurd rfl hs.2.1
    | cons q r =>
      simp only
      split
      · exact fail_ok N
      · exact still_ok N ⟨hs.1.1, by have := hs.1.2; omega⟩ _ (fun e he => hs.2.2 e (List.mem_cons_of_mem _ he))
  | cShut c r =>
    rw [hst] at hs
    cases r with
    | nil => exact absurd rfl hs.2.1
    | cons q r => exact shut_ok N ⟨hs.1.1, by have := hs.1.2; omega⟩ _ (fun e he => hs.2.2 e (List.mem_cons_of_mem _ he))
  | cStamp c =>
    rw [hst] at hs
    exact ⟨B.rank, B.x, hs.1, by have := hs.2; omega⟩
  | cLeave c =>
    rw [hst] at hs
    exact word_ok N ⟨hs.1, by have := hs.2; omega⟩ _ hx.wr
  | cWord c r =>
    rw [hst] at hs
    cases r with
    | nil => exact absurd rfl hs.2.1
    | cons q r => exact word_ok N ⟨hs.1.1, by have := hs.1.2; omega⟩ _ (fun e he => hs.2.2 e (List.mem_cons_of_mem _ he))
  | cOpen c r =>
    rw [hst] at hs
    cases r with
    | nil => exact absurd rfl hs.2.1
    | cons q r => exact N.st _ ⟨⟨hs.1.1, by have := hs.1.2; omega⟩, hs.2⟩
  | cOwn c r =>
    rw [hst] at hs
    cases r with
    | nil => exact absurd rfl hs.2.1
    | cons q r => exact open_ok N ⟨hs.1.1, by have := hs.1.2; omega⟩ _ (fun e he => hs.2.2 e (List.mem_cons_of_mem _ he))
  | free e r =>
    rw [hst] at hs
    cases r with
    | nil => exact absurd rfl hs.1
    | cons q r => exact free_ok N e _ (fun e he => hs.2 e (List.mem_cons_of_mem _ he))
  | fin e =>
    show ThOk K (k + 1) (hTo K (h.job + 1) _)
    refine to_ok ?_ (by omega) _
    exact ⟨B.rank, B.x⟩
  | fGate => exact failown_ok N _ hx.hd
  | fOwn r =>
    rw [hst] at hs
    cases r with
    | nil => exact absurd rfl hs.1
    | cons q r => exact failown_ok N _ (fun e he => hs.2 e (List.mem_cons_of_mem _ he))
  | fTake =>
    rw [hst] at hv
    have := (hv (by simp)).cnt (Or.inr rfl)
    exact ⟨⟨by show 0 ≤ v.seen + 1; omega, by show v.seen + 1 ≤ _; omega⟩, B.x, trivial⟩
  | fStat =>
    rw [hst] at hv
    have hu := (hv (by simp)).sta (by show _ ≤ hSta K _; unfold hSta; omega) (by show hSta K _ < _; unfold hSta; omega)
    have hu1 := (sok_mod hu).1
    have hu2 := hu.2.1
    have A2 : Onn K (k + 1) (h.ended v.num 5) := ⟨B.rank, B.x⟩
    have hw : (if 0 < v.seen.tmod 8 then v.seen.tmod 8 - 1 else h.x.way) < K.c.t := by
      split
      · omega
      · exact hx.way.2
    generalize (if 0 < v.seen.tmod 8 then v.seen.tmod 8 - 1 else h.x.way) = win at *
    simp only
    split
    · rename_i h0
      exact ⟨B.rank, B.x, h0, hw⟩
    · exact rest_ok A2 _
  | wait win =>
    simp only
    split
    · exact N.st _ trivial
    · exact B
  | rest n =>
    rw [hst] at hs
    simp only
    split
    · exact N.st _ trivial
    · exact N.st _ (by show n - 1 ≠ 0; omega)

/-- What it asks for is a cell, and what it puts there may stand there. -/
theorem ask_ok {K : Cx} {k : Int} {h : Th} (hc : cfgB K.c = true) (hm : 0 ≤ K.me ∧ K.me < K.c.t) (hk : 0 ≤ k) (A : ThOk K k h) (h0 : (hOut K h).kind ≠ 0) :
    (0 ≤ (hOut K h).cell ∧ (hOut K h).cell < total K.c) ∧ ∀ v, VOk K.c k (hOut K h).cell v → VOk K.c (k + 1) (hOut K h).cell (putV (hOut K h) v) := by
  obtain ⟨⟨t1, t2⟩, ⟨w1, w2⟩, ⟨s1, s2⟩, ⟨g1, g2⟩, ⟨r1, r2⟩, ⟨p1, p2⟩, ⟨f1, f2⟩⟩ := cfgB_true hc
  have hs := A.step
  have hr := A.rank
  unfold StepOk at hs
  unfold hOut at h0 ⊢
  have st : ∀ {i : InsD} {a : Int}, AOk K i a → 0 ≤ a.tmod K.c.s ∧ a.tmod K.c.s < K.c.s := fun ha => tmodP s1 ha.1
  -- the cells
  have ld : ∀ (x : Int), (0 ≤ x ∧ x < total K.c) → (0 ≤ (⟨1, x, 0, 0⟩ : AskD).cell ∧ (⟨1, x, 0, 0⟩ : AskD).cell < total K.c) ∧ ∀ v, VOk K.c k (⟨1, x, 0, 0⟩ : AskD).cell v → VOk K.c (k + 1) (⟨1, x, 0, 0⟩ : AskD).cell (putV ⟨1, x, 0, 0⟩ v) := fun x hx => ⟨hx, fun v hv => by
    have e : putV ⟨1, x, 0, 0⟩ v = v := by simp [putV]
    rw [e]
    exact hv.mono (by omega)⟩
  have sto : ∀ (x z : Int), (0 ≤ x ∧ x < total K.c) → VOk K.c (k + 1) x z → (0 ≤ (⟨2, x, 0, z⟩ : AskD).cell ∧ (⟨2, x, 0, z⟩ : AskD).cell < total K.c) ∧ ∀ v, VOk K.c k (⟨2, x, 0, z⟩ : AskD).cell v → VOk K.c (k + 1) (⟨2, x, 0, z⟩ : AskD).cell (putV ⟨2, x, 0, z⟩ v) := fun x z hx hto => ⟨hx, fun v hv => by
    have e : putV ⟨2, x, 0, z⟩ v = z := by simp [putV]
    rw [e]
    exact hto⟩
  have swp : ∀ (x y z : Int), (0 ≤ x ∧ x < total K.c) → VOk K.c (k + 1) x z → (0 ≤ (⟨3, x, y, z⟩ : AskD).cell ∧ (⟨3, x, y, z⟩ : AskD).cell < total K.c) ∧ ∀ v, VOk K.c k (⟨3, x, y, z⟩ : AskD).cell v → VOk K.c (k + 1) (⟨3, x, y, z⟩ : AskD).cell (putV ⟨3, x, y, z⟩ v) := fun x y z hx hto => ⟨hx, fun v hv => by
    have e : putV ⟨3, x, y, z⟩ v = if v = y then z else v := by simp [putV]
    rw [e]
    split
    · exact hto
    · exact hv.mono (by omega)⟩
  have tak : (0 ≤ (⟨4, 1, 0, 0⟩ : AskD).cell ∧ (⟨4, 1, 0, 0⟩ : AskD).cell < total K.c) ∧ ∀ v, VOk K.c k (⟨4, 1, 0, 0⟩ : AskD).cell v → VOk K.c (k + 1) (⟨4, 1, 0, 0⟩ : AskD).cell (putV ⟨4, 1, 0, 0⟩ v) := ⟨⟨by simp, by rw [total_eq]; simp; omega⟩, fun v hv => by
    have e : putV ⟨4, 1, 0, 0⟩ v = v + 1 := by simp [putV]
    rw [e]
    have := hv.cnt (Or.inr rfl)
    exact ⟨fun _ => by omega, (fun e => by simp at e), (fun e => by simp at e), (fun e => by simp at e; omega), (fun e => by simp at e; omega), (fun e => by simp at e; omega)⟩⟩
  -- what may be put
  have pv : ∀ (s v : Int), 0 ≤ s → s < K.c.s → -1 ≤ v → v ≤ k + 1 → VOk K.c (k + 1) (hVer s) v := fun s v a b c d => by
    unfold hVer
    exact ⟨(fun e => by omega), (fun e => by omega), fun _ _ => ⟨c, d⟩, (fun e => by omega), (fun e => by omega), (fun e => by omega)⟩
  have po : ∀ (s v : Int), 0 ≤ s → s < K.c.s → 0 ≤ v → v ≤ K.c.t → VOk K.c (k + 1) (hOwn K s) v := fun s v a b c d => by
    unfold hOwn
    exact ⟨(fun e => by omega), (fun e => by omega), (fun _ e => by omega), fun _ _ => ⟨c, d⟩, (fun e => by omega), (fun e => by omega)⟩
  have psr : ∀ (t r : Int), 0 ≤ t → t < K.c.t → SOk K.c (k + 1) r → VOk K.c (k + 1) (hSta K t) r := fun t r a b c => by
    unfold hSta
    exact ⟨(fun e => by omega), (fun e => by omega), (fun _ e => by omega), (fun _ e => by omega), fun _ _ => c, (fun e => by omega)⟩
  have pw : ∀ (a v : Int), 0 ≤ a → a < K.c.wd → 0 ≤ v → v ≤ 65535 → VOk K.c (k + 1) (hWrd K a) v := fun a v b c d e => by
    unfold hWrd
    exact ⟨(fun e => by omega), (fun e => by omega), (fun _ e => by omega), (fun _ e => by omega), (fun _ e => by omega), fun _ _ => ⟨d, e⟩⟩
  have pg : ∀ (v : Int), 0 ≤ v → v ≤ K.c.t → VOk K.c (k + 1) 2 v := fun v a b => ⟨(fun e => by omega), fun _ => ⟨a, b⟩, (fun e => by omega), (fun e => by omega), (fun e => by omega), (fun e => by omega)⟩
  have pc : ∀ (v : Int), 0 ≤ v → v ≤ k + 1 → VOk K.c (k + 1) 0 v := fun v a b => ⟨fun _ => ⟨a, b⟩, (fun e => by omega), (fun e => by omega), (fun e => by omega), (fun e => by omega), (fun e => by omega)⟩
  have bv : ∀ (s : Int), 0 ≤ s → s < K.c.s → 0 ≤ hVer s ∧ hVer s < total K.c := fun s a b => by rw [total_eq]; unfold hVer; omega
  have bo : ∀ (s : Int), 0 ≤ s → s < K.c.s → 0 ≤ hOwn K s ∧ hOwn K s < total K.c := fun s a b => by rw [total_eq]; unfold hOwn; omega
  have bs : ∀ (t : Int), 0 ≤ t → t < K.c.t → 0 ≤ hSta K t ∧ hSta K t < total K.c := fun s a b => by rw [total_eq]; unfold hSta; omega
  have bw : ∀ (a : Int), 0 ≤ a → a < K.c.wd → 0 ≤ hWrd K a ∧ hWrd K a < total K.c := fun s a b => by rw [total_eq]; unfold hWrd; omega
  have b2 : (0 : Int) ≤ 2 ∧ 2 < total K.c := by rw [total_eq]; omega
  have b0 : (0 : Int) ≤ 0 ∧ 0 < total K.c := by rw [total_eq]; omega
  have rk : SOk K.c (k + 1) (8 * h.rank) := ⟨by omega, by omega, by omega⟩
  have zk : SOk K.c (k + 1) 0 := ⟨by omega, by omega, by omega⟩
  cases hst : h.st with
  | idle => rw [hst] at h0; exact absurd rfl h0
  | start => exact ld 0 b0
  | rHeld i a => rw [hst] at hs; exact ld _ (bw a hs.1 hs.2.1)
  | rVer i a => rw [hst] at hs; exact ld _ (bv _ (st hs).1 (st hs).2)
  | rWord i a one => rw [hst] at hs; exact ld _ (bw a hs.1.1 hs.1.2.1)
  | rAgain i a one w => rw [hst] at hs; exact ld _ (bv _ (st hs.1).1 (st hs.1).2)
  | xClock e => exact ld 0 b0
  | xVer e c r =>
    rw [hst] at hs
    cases r with
    | nil => exact absurd rfl hs.2.2.1
    | cons q r => exact ld _ (bv _ (hs.2.2.2 q List.mem_cons_self).1 (hs.2.2.2 q List.mem_cons_self).2)
  | gStat i a => exact ld _ (bs _ hm.1 hm.2)
  | gOwn i a => rw [hst] at hs; exact swp _ _ _ (bo _ (st hs.1).1 (st hs.1).2) (po _ _ (st hs.1).1 (st hs.1).2 (by omega) (by omega))
  | gTheir i a u => rw [hst] at hs; exact ld _ (bs _ (by have := hs.2.1; omega) (by have := hs.2.2; omega))
  | gMark i a u th =>
    rw [hst] at hs
    obtain ⟨_, ⟨u0, u1⟩, ⟨q0, q1, q2⟩, q3⟩ := hs
    exact swp _ _ _ (bs _ (by omega) (by omega)) (psr _ _ (by omega) (by omega) ⟨by omega, by omega, by omega⟩)
  | gVer i a => rw [hst] at hs; exact ld _ (bv _ (st hs).1 (st hs).2)
  | tTake => exact tak
  | tShow => exact swp _ _ _ (bs _ hm.1 hm.2) (psr _ _ hm.1 hm.2 rk)
  | cStat => exact ld _ (bs _ hm.1 hm.2)
  | cGate => exact swp _ _ _ b2 (pg _ (by omega) (by omega))
  | cClock => exact ld 0 b0
  | cVer c r =>
    rw [hst] at hs
    cases r with
    | nil => exact absurd rfl hs.2.1
    | cons q r => exact ld _ (bv _ (hs.2.2 q List.mem_cons_self).1 (hs.2.2 q List.mem_cons_self).2)
  | cShut c r =>
    rw [hst] at hs
    cases r with
    | nil => exact absurd rfl hs.2.1
    | cons q r =>
      have b := hs.2.2 q List.mem_cons_self
      exact sto _ _ (bv _ b.1 b.2) (pv _ _ b.1 b.2 (by omega) (by omega))
  | cStamp c => rw [hst] at hs; exact sto _ _ b0 (pc _ (by have := hs.1; omega) (by have := hs.2; omega))
  | cLeave c => exact sto _ _ b2 (pg _ (by omega) (by omega))
  | cWord c r =>
    rw [hst] at hs
    cases r with
    | nil => exact absurd rfl hs.2.1
    | cons q r =>
      have b := hs.2.2 q List.mem_cons_self
      exact sto _ _ (bw _ b.1 b.2.1) (pw _ _ b.1 b.2.1 b.2.2.1 b.2.2.2)
  | cOpen c r =>
    rw [hst] at hs
    cases r with
    | nil => exact absurd rfl hs.2.1
    | cons q r =>
      have b := hs.2.2 q List.mem_cons_self
      exact sto _ _ (bv _ b.1 b.2) (pv _ _ b.1 b.2 (by have := hs.1.1; omega) (by have := hs.1.2; omega))
  | cOwn c r =>
    rw [hst] at hs
    cases r with
    | nil => exact absurd rfl hs.2.1
    | cons q r =>
      have b := hs.2.2 q List.mem_cons_self
      exact sto _ _ (bo _ b.1 b.2) (po _ _ b.1 b.2 (by omega) (by omega))
  | free e r =>
    rw [hst] at hs
    cases r with
    | nil => exact absurd rfl hs.1
    | cons q r =>
      have b := hs.2 q List.mem_cons_self
      exact sto _ _ (bo _ b.1 b.2) (po _ _ b.1 b.2 (by omega) (by omega))
  | fin e => exact sto _ _ (bs _ hm.1 hm.2) (psr _ _ hm.1 hm.2 zk)
  | fGate => exact sto _ _ b2 (pg _ (by omega) (by omega))
  | fOwn r =>
    rw [hst] at hs
    cases r with
    | nil => exact absurd rfl hs.1
    | cons q r =>
      have b := hs.2 q List.mem_cons_self
      exact sto _ _ (bo _ b.1 b.2) (po _ _ b.1 b.2 (by omega) (by omega))
  | fTake => exact tak
  | fStat => exact sto _ _ (bs _ hm.1 hm.2) (psr _ _ hm.1 hm.2 rk)
  | wait win => rw [hst] at hs; exact ld _ (bs _ hs.1 hs.2)
  | rest n => rw [hst] at h0; exact absurd rfl h0

end Go.Proofs.YtejadojilncbjaaGreat

namespace Go.Proofs.YtejadojilncbjaaGreat
open Go.RowKit
set_option linter.unusedVariables false
attribute [local go_sem ↓] Go.wp_at_zero Go.wp_at_succ

/-- Jobs in memory. -/
def JobsRep (w : World) (B : Nat) (ja : Option Addr) (jobs : List (Int × List InsD)) : Prop :=
  ∃ js : List JobD, js.length = jobs.length ∧ JobsIn w B ja js ∧ ∀ i, i < js.length → (jobAt js i).t = (jobs.getD i (0, [])).1 ∧ (jobAt js i).len = (jobs.getD i (0, [])).2.length ∧ CodeIn w B (jobAt js i).a (jobs.getD i (0, [])).2

theorem CodeIn.up {w w' : World} {n : Nat} {a : Option Addr} {is : List InsD} (h : CodeIn w n a is) (hb : Below n w w') : CodeIn w' n a is := by
  intro i hi
  obtain ⟨b, off, ha, hlt, h0, h1, h2, h3⟩ := h i hi
  have e : ∀ o, w'.cell? ⟨b, o, none⟩ = w.cell? ⟨b, o, none⟩ := fun o => World.cell?_of_block (hb.block b hlt)
  exact ⟨b, off, ha, hlt, (e _).trans h0, (e _).trans h1, (e _).trans h2, (e _).trans h3⟩
theorem JobsRep.up {w w' : World} {n : Nat} {ja : Option Addr} {jobs : List (Int × List InsD)} (h : JobsRep w n ja jobs) (hb : Below n w w') : JobsRep w' n ja jobs := by
  obtain ⟨js, h1, h2, h3⟩ := h
  refine ⟨js, h1, fun i hi => ?_, fun i hi => ⟨(h3 i hi).1, (h3 i hi).2.1, (h3 i hi).2.2.up hb⟩⟩
  obtain ⟨b, off, ha, hlt, k0, k1⟩ := h2 i hi
  have e : ∀ o, w'.cell? ⟨b, o, none⟩ = w.cell? ⟨b, o, none⟩ := fun o => World.cell?_of_block (hb.block b hlt)
  exact ⟨b, off, ha, hlt, (e _).trans k0, (e _).trans k1⟩
theorem PicksIn.up {w w' : World} {n : Nat} {a : Option Addr} {l : List PickD} (h : PicksIn w n a l) (hb : Below n w w') : PicksIn w' n a l := by
  intro i hi
  obtain ⟨b, off, ha, hlt, k0, k1⟩ := h i hi
  have e : ∀ o, w'.cell? ⟨b, o, none⟩ = w.cell? ⟨b, o, none⟩ := fun o => World.cell?_of_block (hb.block b hlt)
  exact ⟨b, off, ha, hlt, (e _).trans k0, (e _).trans k1⟩

/-- A life that is laid is a life. -/
theorem TellR.life {c : Cfg} {me : Int} {jobs : List (Int × List InsD)} {ma ja : Option Addr} {ml mc jc n : Nat} {w : World} {S D W : List Int}
    (h : TellR c me jobs ma ja ml mc jc (n + 3) (n + 2) (n + 1) w S D W) (hj : JobsRep w n ja jobs) (he : Blk w (n + 1) 84 ((jobs.map fun _ => (⟨0, 0, 0, 0, 0⟩ : ResD)).flatMap resCells).toArray) (hsz : n + 3 ≤ w.heap.size) :
    ∃ H, LifeR ⟨c, me, S, D, W, jobs⟩ H w.heap.size (n + 2) (n + 1) w (newLS ⟨c, me, S, D, W, jobs⟩) ∧ H.ea = some ⟨n + 1, 0, none⟩ ∧ H.ec = jobs.length := by
  obtain ⟨sa, sc, da, dc, wa, wc, hb, hs, hd, hw, _, _, _⟩ := h
  have far : ∀ {a : Option Addr} {k : Nat} {l : List Int}, Row w (n + 3) a k l → Far w.heap.size (n + 2) (n + 1) a := fun {a k l} h b off e => by
    have := h.base _ e
    simp only at this
    exact ⟨this.2, by omega, by omega⟩
  obtain ⟨js, h1, h2, h3⟩ := hj
  refine ⟨⟨ma, ml, mc, ja, jc, sa, sc, da, dc, wa, wc, some ⟨n + 1, 0, none⟩, jobs.length⟩, ⟨⟨Nat.le_refl _, hs.ints, far hs, hd.ints, far hd, hw.ints, far hw, ⟨js, h1, fun i hi => ?_, fun i hi => ⟨(h3 i hi).1, (h3 i hi).2.1, fun k hk => ?_, fun hne => ?_⟩⟩, fun hne => ?_⟩, ⟨none, 0, hb, ⟨[], rfl, World.ownsRow_nil _ _ _ _, by simp [newLS], by simp⟩⟩, Or.inr ⟨rfl, he⟩, by omega, by omega, by omega⟩, rfl, rfl⟩
  · obtain ⟨b, off, ha, hlt, k0, k1⟩ := h2 i hi
    exact ⟨b, off, ha, by omega, k0, k1⟩
  · obtain ⟨b, off, ha, hlt, k0, k1, k2, k3⟩ := (h3 i hi).2.2 k hk
    exact ⟨b, off, ha, by omega, k0, k1, k2, k3⟩
  · intro b off e
    obtain ⟨b', off', ha, hlt, _⟩ := (h3 i hi).2.2 0 (List.length_pos_iff.2 hne)
    rw [ha] at e
    cases e
    exact ⟨by omega, by omega, by omega⟩
  · intro b off e
    obtain ⟨b', off', ha, hlt, _⟩ := h2 0 (by rw [h1]; exact List.length_pos_iff.2 hne)
    rw [ha] at e
    cases e
    exact ⟨by omega, by omega, by omega⟩

/-- Neither the life nor a row from outside is a row of the call's own. -/
theorem Row.ne {w : World} {B b : Nat} {a : Option Addr} {k : Nat} {l : List Int} (h : Row w B a k l) (hb : b < B) : (Value.slice a l.length k).ownBlock ≠ some b := fun e => by
  have := (World.ownsRow.lt h b e).1
  omega

end Go.Proofs.YtejadojilncbjaaGreat

namespace Go.Proofs.YtejadojilncbjaaGreat
open Go.RowKit
set_option linter.unusedVariables false
attribute [local go_sem ↓] Go.wp_at_zero Go.wp_at_succ

theorem belowDrewN {n : Nat} {w w' : World} (h : Below n w w') (k : Nat) : Below n w (w'.drewN k) := ⟨h.os, h.tape, h.output, h.size, h.block⟩

end Go.Proofs.YtejadojilncbjaaGreat

namespace Go.Proofs.YtejadojilncbjaaGreat
open Go.RowKit
set_option linter.unusedVariables false
attribute [local go_sem ↓] Go.wp_at_zero Go.wp_at_succ

theorem memB_get {mem : List Int} (h : memB mem = true) (i : Nat) : 0 ≤ mem.getD i 0 ∧ mem.getD i 0 ≤ 65535 := by
  by_cases hi : i < mem.length
  · unfold memB at h
    rw [List.all_eq_true] at h
    have := h mem[i] (List.getElem_mem hi)
    rw [show mem.getD i 0 = mem[i] from by simp [List.getD, List.getElem?_eq_getElem hi]]
    exact inB_true this
  · rw [show mem.getD i 0 = 0 from by simp [List.getD, List.getElem?_eq_none (Nat.le_of_not_lt hi)]]
    omega

theorem log_row {w : World} {base : Nat} {a : Option Addr} {c : Nat} {l : List AccD} (h : w.ownsRow base 40 4 (.slice a l.length c) l.length (l.flatMap accCells)) : LogIn w w.heap.size a l := by
  intro i hi
  obtain ⟨g, cap, cur, hv, hb, hg, h1, h2, h3, h4⟩ := own_block h (by omega)
  simp at hv
  obtain ⟨rfl, rfl⟩ := hv
  have hat : ∀ j, j < 4 → w.cell? ⟨g, i * 4 + j, none⟩ = (accCells (accAt l i))[j]? := by
    intro j hj
    rw [hg.cell]
    have e1 : (l.flatMap accCells)[i * 4 + j]? = (accCells (accAt l i))[j]? := by
      rw [flat_at (n := 4) (fun _ => rfl) l i j hj]
      simp [accAt, List.getElem?_eq_getElem hi]
    rw [← e1, ← h4, List.getElem?_take, if_pos (by omega), Array.getElem?_toList]
  refine ⟨g, 0, rfl, hg.lt, ?_, ?_, ?_, ?_⟩
  · have := hat 0 (by omega); simpa [accCells] using this
  · have := hat 1 (by omega); simpa [accCells] using this
  · have := hat 2 (by omega); simpa [accCells] using this
  · have := hat 3 (by omega); simpa [accCells] using this
theorem Tryz.info40 : (Tryz.prog.info? 40).map (fun i => (i.zero, i.size, i.bytes)) = some (some (.agg #[.int .i64 0, .int .i64 0, .int .i64 0, .int .i64 0]), 4, 32) := by kernel_rfl
/-- What Alone looks at of a life. -/
def LifeAt (p eb : Nat) (r : ResD) (q : AskD) (w : World) : Prop :=
  w.cell? ⟨p, 22, none⟩ = some (.slice (some ⟨eb, 0, none⟩) 1 1) ∧ (∀ j, w.cell? ⟨eb, j, none⟩ = (#[.int .i64 r.fate, .int .i64 r.r0, .int .i64 r.r1, .int .i64 r.r2, .int .i64 r.r3] : Array Value)[j]?) ∧
    w.cell? ⟨p, 15, none⟩ = some (.int .i64 q.kind) ∧ w.cell? ⟨p, 16, none⟩ = some (.int .i64 q.cell) ∧ w.cell? ⟨p, 17, none⟩ = some (.int .i64 q.frm) ∧ w.cell? ⟨p, 18, none⟩ = some (.int .i64 q.to)

theorem LifeR.at {E : Env} {H : Hd} {B p eb : Nat} {w : World} {s : LS} {r : ResD} (h : LifeR E H B p eb w s) (he : s.ends = [r]) (hH : H.ea = some ⟨eb, 0, none⟩) (hc : H.ec = 1) : LifeAt p eb r s.next w := by
  obtain ⟨la, lc, hb, _⟩ := h.life
  rcases h.ends with h0 | ⟨_, h1⟩
  · rw [he] at h0; cases h0
  · rw [he] at h1
    refine ⟨?_, fun j => ?_, ?_, ?_, ?_, ?_⟩
    · rw [hb.cell]; simp [lifeArr, hH, hc, he]
    · rw [h1.cell]; rfl
    · rw [hb.cell]; rfl
    · rw [hb.cell]; rfl
    · rw [hb.cell]; rfl
    · rw [hb.cell]; rfl

theorem below_set {n b i : Nat} {w w' : World} {v : Value} (h : Below n w w') (hb : n ≤ b) : Below n w (w'.setCell ⟨b, i, none⟩ v) := by
  have ho : Only b w' (w'.setCell ⟨b, i, none⟩ v) := (Only.refl _ _).set
  exact ⟨ho.os.trans h.os, ho.tape.trans h.tape, ho.output.trans h.output, Nat.le_trans h.size ho.size, fun k hk => (Below.heap_setCell _ _ _ _ (by simp; omega)).trans (h.block k hk)⟩

theorem JobsRep.mono {w : World} {n m : Nat} {ja : Option Addr} {jobs : List (Int × List InsD)} (h : JobsRep w n ja jobs) (hm : n ≤ m) : JobsRep w m ja jobs := by
  obtain ⟨js, h1, h2, h3⟩ := h
  refine ⟨js, h1, fun i hi => ?_, fun i hi => ⟨(h3 i hi).1, (h3 i hi).2.1, fun j hj => ?_⟩⟩
  · obtain ⟨b, off, g1, g2, g3⟩ := h2 i hi
    exact ⟨b, off, g1, by omega, g3⟩
  · obtain ⟨b, off, g1, g2, g3⟩ := (h3 i hi).2.2 j hj
    exact ⟨b, off, g1, by omega, g3⟩

theorem LifeAt.lt {p eb : Nat} {r : ResD} {q : AskD} {w : World} (h : LifeAt p eb r q w) : p < w.heap.size ∧ eb < w.heap.size := ⟨block_lt h.1, block_lt (h.2.1 0)⟩

end Go.Proofs.YtejadojilncbjaaGreat

namespace Go.Proofs.YtejadojilncbjaaGreat
set_option linter.unusedVariables false

/-! What stays true of the cells and of the machines: part 4: behind any number of picks. -/

theorem VOk.bd {c : Cfg} {k x v : Int} (hc : cfgB c = true) (hk : 0 ≤ k) (h : VOk c k x v) (x0 : 0 ≤ x) (x1 : x < total c) : -1 ≤ v ∧ v ≤ 8 * k + 65535 := by
  obtain ⟨⟨t1, t2⟩, _⟩ := cfgB_true hc
  rw [total_eq] at x1
  by_cases h0 : x = 0 ∨ x = 1
  · have := h.cnt h0; omega
  by_cases h2 : x = 2
  · have := h.gate h2; omega
  by_cases h3 : x < 3 + c.s
  · have := h.ver (by omega) h3; omega
  by_cases h4 : x < 3 + 2 * c.s
  · have := h.own (by omega) h4; omega
  by_cases h5 : x < 3 + 2 * c.s + c.t
  · have := h.sta (by omega) h5
    obtain ⟨a, b, d⟩ := this
    omega
  · have := h.wrd (by omega) (by rw [total_eq]; omega)
    omega

structure GOk (c : Cfg) (jobs : List (Int × List InsD)) (k : Int) (g : Gs) : Prop where
  m : CellsOk c k g.m
  th : ∀ t, 0 ≤ t → t < c.t → ThOk (cxOf c jobs t) k (g.th t)

theorem gstart_ok {c : Cfg} (hc : cfgB c = true) {mem : List Int} (hmw : (mem.length : Int) = c.wd) (hmb : memB mem = true) (jobs : List (Int × List InsD)) : GOk c jobs 0 (gStart c mem jobs) := by
  obtain ⟨⟨t1, t2⟩, ⟨w1, w2⟩, ⟨s1, s2⟩, _, _, _, ⟨f1, f2⟩⟩ := cfgB_true hc
  refine ⟨fun x x0 x1 => ?_, fun t t0 t1' => ?_⟩
  · show VOk c 0 x (startVal c mem x)
    unfold startVal
    by_cases hx : wordBase c ≤ x
    · rw [if_pos hx]
      have := memB_get hmb (x - wordBase c).toNat
      unfold wordBase at hx
      exact ⟨(fun e => by omega), (fun e => by omega), (fun _ e => by omega), (fun _ e => by omega), (fun _ e => by omega), fun _ _ => this⟩
    · rw [if_neg hx]
      unfold wordBase at hx
      exact ⟨(fun e => by omega), (fun e => by omega), (fun _ e => by omega), (fun _ e => by omega), (fun _ e => ⟨by omega, by omega, by omega⟩), (fun e => by omega)⟩
  · show ThOk _ 0 (hInit (cxOf c jobs t))
    unfold hInit
    refine to_ok ?_ (Int.le_refl _) 0
    refine ⟨⟨Int.le_refl _, Int.le_refl _⟩, ?_⟩
    exact new_ok (by show 0 ≤ c.f; omega) t1 _ ⟨Int.le_refl _, Int.le_refl _⟩

theorem acc_none {m : Int → Int} {q : AskD} (h : q.kind = 0) : accBy m q = noAcc := if_pos h
theorem acc_some {m : Int → Int} {q : AskD} (h : q.kind ≠ 0) : accBy m q = ⟨q.kind, q.cell, m q.cell, putV q (m q.cell)⟩ := if_neg h

theorem gstep_ok {c : Cfg} (hc : cfgB c = true) {jobs : List (Int × List InsD)} {k : Int} (hk : 0 ≤ k) {g : Gs} (G : GOk c jobs k g) (n : Int) (pk : PickD) : GOk c jobs (k + 1) (gStep c jobs g n pk).1 := by
  unfold gStep
  by_cases ht : 0 ≤ pk.thread ∧ pk.thread < c.t
  · rw [if_pos ht]
    have A := G.th pk.thread ht.1 ht.2
    have hcK : cfgB (cxOf c jobs pk.thread).c = true := hc
    refine ⟨?_, fun t t0 t1 => ?_⟩
    · simp only
      by_cases h0 : (hOut (cxOf c jobs pk.thread) (g.th pk.thread)).kind = 0
      · rw [if_pos h0]
        exact fun x x0 x1 => (G.m x x0 x1).mono (by omega)
      · rw [if_neg h0]
        obtain ⟨hcell, hput⟩ := ask_ok hcK ht hk A h0
        intro x x0 x1
        by_cases hx : x = (hOut (cxOf c jobs pk.thread) (g.th pk.thread)).cell
        · rw [hx, wr_at]
          exact hput _ (G.m _ hcell.1 hcell.2)
        · rw [wr_off hx]
          exact (G.m x x0 x1).mono (by omega)
    · simp only
      by_cases htt : t = pk.thread
      · rw [if_pos htt, htt]
        refine next_ok hcK ht hk A _ (fun h0 => ?_)
        obtain ⟨hcell, _⟩ := ask_ok hcK ht hk A h0
        show VOk c k _ (gAcc c jobs g pk.thread).seen
        unfold gAcc
        rw [acc_some h0]
        exact G.m _ hcell.1 hcell.2
      · rw [if_neg htt]
        exact (G.th t t0 t1).mono (by omega)
  · rw [if_neg ht]
    exact ⟨fun x x0 x1 => (G.m x x0 x1).mono (by omega), fun t t0 t1 => (G.th t t0 t1).mono (by omega)⟩

theorem gat_ok {c : Cfg} (hc : cfgB c = true) {mem : List Int} (hmw : (mem.length : Int) = c.wd) (hmb : memB mem = true) (jobs : List (Int × List InsD)) (ps : List PickD) : ∀ k : Nat, GOk c jobs k (gAt c mem jobs ps k)
  | 0 => gstart_ok hc hmw hmb jobs
  | k + 1 => by
    have := gstep_ok hc (by omega) (gat_ok hc hmw hmb jobs ps k) ((k : Int) + 1) (pickAt ps k)
    exact this

/-- All accesses, all cells. -/
def accs (c : Cfg) (mem : List Int) (jobs : List (Int × List InsD)) (ps : List PickD) : List AccD := gLog c mem jobs ps ps.length
end Go.Proofs.YtejadojilncbjaaGreat
