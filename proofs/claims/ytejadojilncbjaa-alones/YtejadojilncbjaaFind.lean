import Derived.Test.YtejadojilncbjaaAsk
namespace Go.Proofs.Ytejadojilncbjaa
open Go.RowKit
set_option linter.unusedVariables false

theorem flat_at {α : Type} {f : α → List Value} {n : Nat} (hf : ∀ a, (f a).length = n) : ∀ (l : List α) (i j : Nat), j < n → (l.flatMap f)[i * n + j]? = (l[i]?).bind fun a => (f a)[j]?
  | [], i, j, hj => by simp
  | a :: l, 0, j, hj => by
    rw [List.flatMap_cons, Nat.zero_mul, Nat.zero_add, List.getElem?_append_left (by rw [hf]; exact hj)]
    simp
  | a :: l, i + 1, j, hj => by
    rw [List.flatMap_cons, List.getElem?_append_right (by rw [hf, Nat.add_mul]; omega), hf, show (i + 1) * n + j - n = i * n + j from by rw [Nat.add_mul]; omega, flat_at hf l i j hj]
    simp
theorem flat_len {α : Type} {f : α → List Value} {n : Nat} (hf : ∀ a, (f a).length = n) : ∀ (l : List α), (l.flatMap f).length = l.length * n
  | [] => by simp
  | a :: l => by rw [List.flatMap_cons, List.length_append, hf, flat_len hf l, List.length_cons, Nat.add_mul]; omega

/-- Entries that lie behind a slice's address. -/
def EntsIn (w : World) (a : Option Addr) (es : List EntD) : Prop :=
  ∀ i, i < es.length → ∃ b, a = some ⟨b, 0, none⟩ ∧ w.cell? ⟨b, i * 2, none⟩ = some (.int .i64 (es.getD i ⟨0, 0⟩).what) ∧ w.cell? ⟨b, i * 2 + 1, none⟩ = some (.int .i64 (es.getD i ⟨0, 0⟩).val) ∧
    w.frozen? ⟨b, i * 2 + 1, none⟩ = false

theorem own_block {w : World} {base : Nat} {e : TypeId} {size n : Nat} {v : Value} {xs : List Value} (h : w.ownsRow base e size v n xs) (hn : 0 < n) :
    ∃ g cap cur, v = .slice (some ⟨g, 0, none⟩) n cap ∧ base ≤ g ∧ Blk w g e cur ∧ n ≤ cap ∧ cap ≤ maxLen ∧ cur.size = cap * size ∧ cur.toList.take (n * size) = xs := by
  rcases h.2 with ⟨_, h0⟩ | ⟨g, cap, cur, hv, hb, hg, r⟩
  · omega
  · exact ⟨g, cap, cur, hv, hb, hg, r⟩

theorem ents_of {w : World} {base : Nat} {a : Option Addr} {c : Nat} {es : List EntD} (h : w.ownsRow base 144 2 (.slice a es.length c) es.length (es.flatMap entCells)) : EntsIn w a es := by
  intro i hi
  obtain ⟨g, cap, cur, hv, hb, hg, h1, h2, h3, h4⟩ := own_block h (by omega)
  simp at hv
  obtain ⟨rfl, rfl⟩ := hv
  have hat : ∀ j, j < 2 → w.cell? ⟨g, i * 2 + j, none⟩ = (entCells (es.getD i ⟨0, 0⟩))[j]? := by
    intro j hj
    rw [hg.cell]
    have e1 : (es.flatMap entCells)[i * 2 + j]? = (entCells (es.getD i ⟨0, 0⟩))[j]? := by
      rw [flat_at (n := 2) (fun _ => rfl) es i j hj]
      simp [List.getElem?_eq_getElem hi]
    rw [← e1, ← h4, List.getElem?_take, if_pos (by omega), Array.getElem?_toList]
  refine ⟨g, rfl, ?_, ?_, hg.frozen _⟩
  · have := hat 0 (by omega); simpa [entCells] using this
  · have := hat 1 (by omega); simpa [entCells] using this

theorem entIdx_none {es : List EntD} {what : Int} (h : ∀ j, j < es.length → ((es.getD j ⟨0, 0⟩).what == what) = false) : entIdx es what = none := by
  unfold entIdx
  rw [List.findIdx?_eq_none_iff]
  intro x hx
  obtain ⟨j, hj, rfl⟩ := List.mem_iff_getElem.1 hx
  simpa [List.getD, List.getElem?_eq_getElem hj] using h j hj

theorem entIdx_some {es : List EntD} {what : Int} {k : Nat} (hk : k < es.length) (h : ∀ j, j < k → ((es.getD j ⟨0, 0⟩).what == what) = false) (h1 : ((es.getD k ⟨0, 0⟩).what == what) = true) : entIdx es what = some k := by
  unfold entIdx
  rw [List.findIdx?_eq_some_iff_getElem]
  refine ⟨hk, by simpa [List.getD, List.getElem?_eq_getElem hk] using h1, fun j hj => ?_⟩
  have := h j hj
  simpa [List.getD, List.getElem?_eq_getElem (show j < es.length by omega)] using this

set_option maxHeartbeats 1000000 in
theorem find_any (a : Option Addr) (len cap : Nat) (es : List EntD) (what : Int) (w : World) (hl : es.length = len) (hm : len ≤ 2 ^ 45) (h : EntsIn w a es) :
    Calls Try.prog 89 #[.slice a len cap, .int .i64 what] w fun e w' => e = .returned (.int .i64 (idxN (entIdx es what))) ∧ w' = w := by
  subst hl
  have HI : Hid (EntsIn w a es) := h
  clear h
  go_enter Try.func89, Try.ntmps89
  go_wp2
  go_loop [5] (fun i => ∃ k : Nat, k ≤ es.length ∧ i = .int .i64 k ∧ Hid (∀ j, j < k → ((es.getD j ⟨0, 0⟩).what == what) = false)) (fun i => es.length - (intOf i).toNat)
  case atStart => exact ⟨0, Nat.zero_le _, rfl, fun j hj => absurd hj (by omega)⟩
  case round =>
    obtain ⟨k, hk, rfl, HA⟩ := hrel
    by_cases hlt : k < es.length
    · obtain ⟨b, rfl, hc1, hc2, _⟩ := HI.out k hlt
      obtain ⟨z, hz⟩ : ∃ z, z = (es.getD k ⟨0, 0⟩).what := ⟨_, rfl⟩
      rw [← hz] at hc1
      have HZ : Hid (z = (es.getD k ⟨0, 0⟩).what) := hz
      clear hz hc2
      cases hin : (z == what) with
      | false =>
        have H1 : Hid (∀ j, j < k + 1 → ((es.getD j ⟨0, 0⟩).what == what) = false) := fun j hj => by
          rcases Nat.lt_succ_iff_lt_or_eq.1 hj with h | rfl
          · exact HA.out j h
          · rw [← HZ.out]; exact hin
        clear HA
        go_wp2
        go_round
        case rel => exact ⟨k + 1, by omega, by go_num, H1⟩
        case measure => simp [intOf]; omega
      | true =>
        have HF : Hid (entIdx es what = some k) := entIdx_some hlt HA.out (by rw [← HZ.out]; exact hin)
        go_wp2
        go_ret
        exact ⟨by rw [HF.out]; rfl, rfl⟩
    · have HF : Hid (entIdx es what = none) := entIdx_none (fun j hj => HA.out j (by omega))
      go_wp2
      go_ret
      exact ⟨by rw [HF.out]; rfl, rfl⟩

/-- A try's held stripes. -/
def NumsIn (w : World) (a : Option Addr) (zs : List Int) : Prop := ∀ i, i < zs.length → ∃ b, a = some ⟨b, 0, none⟩ ∧ w.cell? ⟨b, i, none⟩ = some (.int .i64 (zs.getD i 0))

theorem nums_of {w : World} {base : Nat} {a : Option Addr} {c : Nat} {zs : List Int} (h : w.ownsRow base 3 1 (.slice a zs.length c) zs.length (zs.map (.int .i64 ·))) : NumsIn w a zs := by
  intro i hi
  obtain ⟨g, cap, cur, hv, hb, hg, h1, h2, h3, h4⟩ := own_block h (by omega)
  simp at hv
  obtain ⟨rfl, rfl⟩ := hv
  refine ⟨g, rfl, ?_⟩
  rw [hg.cell]
  have e1 : (zs.map (Value.int .i64 ·))[i]? = some (.int .i64 (zs.getD i 0)) := by simp [List.getElem?_eq_getElem hi]
  rw [← e1, ← h4, List.getElem?_take, if_pos (by omega), Array.getElem?_toList]

set_option maxHeartbeats 1000000 in
theorem holds_any (B p eb xb : Nat) (x : TS) (st : Int) (w : World) (hT : TryR B p eb xb w x) (hm : x.held.length ≤ 2 ^ 45) :
    Calls Try.prog 90 #[.pointer (some ⟨xb, 0, none⟩), .int .i64 st] w fun e w' => e = .returned (.bool (heldB x st)) ∧ w' = w := by
  obtain ⟨ca, cc, ra, rc, wa, wc, ha, hc, hb, hcd, hcf, h3, h4, h5, h6⟩ := hT.blk
  have hcl := hb.cell
  have HI : Hid (NumsIn w ha x.held) := nums_of h5
  clear hb hcd hcf h3 h4 h5 h6 hT
  unfold tryArr at hcl
  go_enter Try.func90, Try.ntmps90
  go_wp2
  go_loop [5] (fun i => ∃ k : Nat, k ≤ x.held.length ∧ i = .int .i64 k ∧ Hid (∀ j, j < k → (x.held.getD j 0 == st) = false)) (fun i => x.held.length - (intOf i).toNat)
  case atStart => exact ⟨0, Nat.zero_le _, rfl, fun j hj => absurd hj (by omega)⟩
  case round =>
    obtain ⟨k, hk, rfl, HA⟩ := hrel
    by_cases hlt : k < x.held.length
    · obtain ⟨b, rfl, hc1⟩ := HI.out k hlt
      obtain ⟨z, hz⟩ : ∃ z, z = x.held.getD k 0 := ⟨_, rfl⟩
      rw [← hz] at hc1
      have HZ : Hid (z = x.held.getD k 0) := hz
      clear hz
      cases hin : (z == st) with
      | false =>
        have H1 : Hid (∀ j, j < k + 1 → (x.held.getD j 0 == st) = false) := fun j hj => by
          rcases Nat.lt_succ_iff_lt_or_eq.1 hj with h | rfl
          · exact HA.out j h
          · rw [← HZ.out]; exact hin
        clear HA
        go_wp2
        go_round
        case rel => exact ⟨k + 1, by omega, by go_num, H1⟩
        case measure => simp [intOf]; omega
      | true =>
        have HF : Hid (heldB x st = true) := by
          show heldB x st = true
          unfold heldB
          rw [List.any_eq_true]
          exact ⟨x.held[k], List.getElem_mem hlt, by have := HZ.out; rw [this] at hin; simpa [List.getD, List.getElem?_eq_getElem hlt] using hin⟩
        go_wp2
        go_ret
        exact ⟨by rw [HF.out]; rfl, rfl⟩
    · have HF : Hid (heldB x st = false) := by
        show heldB x st = false
        unfold heldB
        rw [List.any_eq_false]
        intro y hy
        obtain ⟨j, hj, rfl⟩ := List.mem_iff_getElem.1 hy
        have := HA.out j (by omega)
        simpa [List.getD, List.getElem?_eq_getElem hj] using this
      go_wp2
      go_ret
      exact ⟨by rw [HF.out]; rfl, rfl⟩

end Go.Proofs.Ytejadojilncbjaa
