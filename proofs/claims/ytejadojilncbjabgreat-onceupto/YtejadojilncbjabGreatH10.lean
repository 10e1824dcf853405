import Derived.Test.YtejadojilncbjabGreatH09
namespace Go.Proofs.YtejadojilncbjabGreat
set_option linter.unusedVariables false

/-! One order of all attempts, part 1: a log over words, the notes over words, the last attempt of a list. -/

/-- A log over words. -/
def overW : List EntD → (Int → Int) → Int → Int
  | [], f, a => f a
  | e :: r, f, a => if e.what = a then e.val else overW r f a

/-- The words behind notes. -/
def overN : List NoteD → (Int → Int) → Int → Int
  | [], f => f
  | n :: r, f => overN r (if n.op = 7 then f else upd f n.addr n.val)

/-- Each Read has what stands there. -/
def fOk : List NoteD → (Int → Int) → Prop
  | [], f => True
  | n :: r, f => if n.op = 7 then f n.addr = n.val ∧ fOk r f else fOk r (upd f n.addr n.val)

theorem overN_snoc (n : NoteD) : ∀ (l : List NoteD) (f : Int → Int), overN (l ++ [n]) f = if n.op = 7 then overN l f else upd (overN l f) n.addr n.val
  | [], f => rfl
  | m :: r, f => overN_snoc n r _

theorem fOk_snoc (n : NoteD) : ∀ (l : List NoteD) (f : Int → Int), fOk (l ++ [n]) f ↔ (fOk l f ∧ (n.op = 7 → overN l f n.addr = n.val))
  | [], f => by
    show (if n.op = 7 then f n.addr = n.val ∧ True else True) ↔ (True ∧ (n.op = 7 → f n.addr = n.val))
    by_cases h : n.op = 7
    · rw [if_pos h]; simp [h]
    · rw [if_neg h]; simp [h]
  | m :: r, f => by
    show (if m.op = 7 then f m.addr = m.val ∧ fOk (r ++ [n]) f else fOk (r ++ [n]) (upd f m.addr m.val)) ↔ ((if m.op = 7 then f m.addr = m.val ∧ fOk r f else fOk r (upd f m.addr m.val)) ∧ (n.op = 7 → overN r (if m.op = 7 then f else upd f m.addr m.val) n.addr = n.val))
    by_cases h : m.op = 7
    · rw [if_pos h, if_pos h, if_pos h, fOk_snoc n r f, and_assoc]
    · rw [if_neg h, if_neg h, if_neg h, fOk_snoc n r _]

theorem fOk_congr : ∀ (l : List NoteD) (f g : Int → Int), (∀ n ∈ l, f n.addr = g n.addr) → fOk l f → fOk l g
  | [], f, g, _, _ => trivial
  | m :: r, f, g, h, a => by
    unfold fOk at a ⊢
    by_cases hm : m.op = 7
    · rw [if_pos hm] at a ⊢
      exact ⟨by rw [← h m List.mem_cons_self]; exact a.1, fOk_congr r f g (fun n hn => h n (List.mem_cons_of_mem _ hn)) a.2⟩
    · rw [if_neg hm] at a ⊢
      refine fOk_congr r _ _ (fun n hn => ?_) a
      unfold upd
      by_cases e : n.addr = m.addr
      · rw [if_pos e, if_pos e]
      · rw [if_neg e, if_neg e]; exact h n (List.mem_cons_of_mem _ hn)

theorem entIdx_cons (e : EntD) (r : List EntD) (a : Int) : entIdx (e :: r) a = if e.what = a then some 0 else (entIdx r a).map (· + 1) := by
  unfold entIdx
  rw [List.findIdx?_cons]
  by_cases h : e.what = a
  · simp [h]
  · simp [h]

theorem overW_none (f : Int → Int) (a : Int) : ∀ (l : List EntD), entIdx l a = none → overW l f a = f a
  | [], _ => rfl
  | e :: r, h => by
    rw [entIdx_cons] at h
    unfold overW
    by_cases he : e.what = a
    · rw [if_pos he] at h; cases h
    · rw [if_neg he] at h ⊢
      refine overW_none f a r ?_
      cases hr : entIdx r a with
      | none => rfl
      | some k => rw [hr] at h; cases h
theorem overW_some (f : Int → Int) (a : Int) : ∀ (l : List EntD) (k : Nat), entIdx l a = some k → overW l f a = (l.getD k ⟨0, 0⟩).val
  | [], k, h => by simp [entIdx] at h
  | e :: r, k, h => by
    rw [entIdx_cons] at h
    unfold overW
    by_cases he : e.what = a
    · rw [if_pos he] at h ⊢
      cases h
      rfl
    · rw [if_neg he] at h ⊢
      cases hr : entIdx r a with
      | none => rw [hr] at h; cases h
      | some j =>
        rw [hr] at h
        simp only [Option.map_some, Option.some.injEq] at h
        subst h
        rw [overW_some f a r j hr]
        rfl
theorem overW_in {l : List EntD} {a : Int} (f g : Int → Int) (h : a ∈ l.map (·.what)) : overW l f a = overW l g a := by
  cases hk : entIdx l a with
  | none => exact absurd h (entOut hk)
  | some k => rw [overW_some f a l k hk, overW_some g a l k hk]
theorem overW_out {l : List EntD} {a : Int} (f : Int → Int) (h : a ∉ l.map (·.what)) : overW l f a = f a := by
  refine overW_none f a l ?_
  cases hk : entIdx l a with
  | none => rfl
  | some k => exact absurd (List.mem_map.2 ⟨_, (entIn hk).2.2, (entIn hk).2.1⟩) h
theorem overW_congr {l : List EntD} {a : Int} {f g : Int → Int} (h : f a = g a) : overW l f a = overW l g a := by
  by_cases hi : a ∈ l.map (·.what)
  · exact overW_in f g hi
  · rw [overW_out f hi, overW_out g hi, h]

theorem overW_app (e : EntD) (f : Int → Int) (a : Int) : ∀ l : List EntD, entIdx l a = none → overW (l ++ [e]) f a = if e.what = a then e.val else f a
  | [], _ => rfl
  | q :: r, h => by
    rw [entIdx_cons] at h
    show (if q.what = a then q.val else overW (r ++ [e]) f a) = _
    by_cases he : q.what = a
    · rw [if_pos he] at h; cases h
    · rw [if_neg he] at h ⊢
      refine overW_app e f a r ?_
      cases hr : entIdx r a with
      | none => rfl
      | some k => rw [hr] at h; cases h
theorem overW_app' (e : EntD) (f : Int → Int) (a : Int) : ∀ l : List EntD, e.what ≠ a → overW (l ++ [e]) f a = overW l f a
  | [], h => by show (if e.what = a then e.val else f a) = f a; rw [if_neg h]
  | q :: r, h => by
    show (if q.what = a then q.val else overW (r ++ [e]) f a) = (if q.what = a then q.val else overW r f a)
    rw [overW_app' e f a r h]
theorem overW_set (f : Int → Int) (a v x : Int) : ∀ (l : List EntD) (k : Nat), entIdx l a = some k → overW (l.set k ⟨a, v⟩) f x = if x = a then v else overW l f x
  | [], k, h => by simp [entIdx] at h
  | e :: r, k, h => by
    rw [entIdx_cons] at h
    by_cases he : e.what = a
    · rw [if_pos he] at h
      cases h
      show (if a = x then v else overW r f x) = _
      by_cases hx : x = a
      · rw [if_pos hx.symm, if_pos hx]
      · rw [if_neg (fun h => hx h.symm), if_neg hx]
        show _ = (if e.what = x then e.val else overW r f x)
        rw [if_neg (by rw [he]; exact fun h => hx h.symm)]
    · rw [if_neg he] at h
      cases hr : entIdx r a with
      | none => rw [hr] at h; cases h
      | some j =>
        rw [hr] at h
        simp only [Option.map_some, Option.some.injEq] at h
        subst h
        show (if e.what = x then e.val else overW (r.set j ⟨a, v⟩) f x) = if x = a then v else (if e.what = x then e.val else overW r f x)
        rw [overW_set f a v x r j hr]
        by_cases hx : x = a
        · rw [if_pos hx, if_pos hx, if_neg (by rw [hx]; exact he)]
        · rw [if_neg hx, if_neg hx]
theorem overW_put (l : List EntD) (a v : Int) (f : Int → Int) (x : Int) : overW (putEnt l a v) f x = upd (overW l f) a v x := by
  unfold putEnt upd
  cases hk : entIdx l a with
  | some k => exact overW_set f a v x l k hk
  | none =>
    simp only
    by_cases hx : x = a
    · rw [if_pos hx, hx, overW_app _ f a l hk, if_pos rfl]
    · rw [if_neg hx, overW_app' _ f x l (fun h => hx h.symm)]

/-! The last attempt. -/

def att0 : AttD := ⟨0, 0, 0, 0, 0, 0, 0, []⟩
def cur (l : List AttD) : AttD := l.getD (l.length - 1) att0

theorem cur_snoc (l : List AttD) (t : AttD) : cur (l ++ [t]) = t := by
  unfold cur
  simp [List.getD]
theorem modLast_snoc (l : List AttD) (t : AttD) (f : AttD → AttD) : modLast (l ++ [t]) f = l ++ [f t] := by
  unfold modLast
  apply List.ext_getElem?
  intro i
  rw [List.getElem?_modify]
  by_cases hi : i < l.length
  · rw [List.getElem?_append_left hi, List.getElem?_append_left hi, show (fun a => if (l ++ [t]).length - 1 = i then f a else a) = id from by funext a; rw [if_neg (by simp; omega)]; rfl]
    simp
  · rw [List.getElem?_append_right (by omega), List.getElem?_append_right (by omega)]
    by_cases he : i = l.length
    · rw [show (fun a => if (l ++ [t]).length - 1 = i then f a else a) = f from by funext a; rw [if_pos (by simp; omega)], he]; simp
    · rw [show [t][i - l.length]? = none from by simp; omega, show [f t][i - l.length]? = none from by simp; omega]
      rfl
theorem snoc_of {l : List AttD} (h : l ≠ []) : ∃ l0 t, l = l0 ++ [t] := by
  rcases List.eq_nil_or_concat l with e | ⟨l0, t, e⟩
  · exact absurd e h
  · exact ⟨l0, t, by rw [e, List.concat_eq_append]⟩
theorem cur_mod {l : List AttD} (h : l ≠ []) (f : AttD → AttD) : cur (modLast l f) = f (cur l) := by
  obtain ⟨l0, t, rfl⟩ := snoc_of h
  rw [modLast_snoc, cur_snoc, cur_snoc]
theorem mod_ne {l : List AttD} (h : l ≠ []) (f : AttD → AttD) : modLast l f ≠ [] := by
  obtain ⟨l0, t, rfl⟩ := snoc_of h
  rw [modLast_snoc]
  simp
theorem cur_mem {l : List AttD} (h : l ≠ []) : cur l ∈ l := by
  obtain ⟨l0, t, rfl⟩ := snoc_of h
  rw [cur_snoc]
  simp
theorem all_mod {P : AttD → Prop} {l : List AttD} {f : AttD → AttD} (h : ∀ t ∈ l, P t) (hf : P (f (cur l))) : ∀ t ∈ modLast l f, P t := by
  by_cases hl : l = []
  · subst hl
    intro t ht
    simp [modLast] at ht
  · obtain ⟨l0, t, rfl⟩ := snoc_of hl
    rw [modLast_snoc]
    rw [cur_snoc] at hf
    intro x hx
    rcases List.mem_append.1 hx with hx | hx
    · exact h x (List.mem_append_left _ hx)
    · rw [List.mem_singleton.1 hx]; exact hf

end Go.Proofs.YtejadojilncbjabGreat

namespace Go.Proofs.YtejadojilncbjabGreat
set_option linter.unusedVariables false

/-! Locks, part 3: the cells say who holds what. -/

structure LI (c : Cfg) (jobs : List (Int × List InsD)) (m : Int → Int) (th : Int → Th) : Prop where
  own : ∀ s, 0 ≤ s → s < c.s → ∀ t, 0 ≤ t → t < c.t → (m (3 + c.s + s) = t + 1 ↔ Holds (th t) s)
  gate : ∀ t, 0 ≤ t → t < c.t → (m 2 = t + 1 ↔ hGate (th t) = true)
  shut : ∀ s, 0 ≤ s → s < c.s → (m (3 + s) = -1 ↔ ∃ t, 0 ≤ t ∧ t < c.t ∧ Shuts (th t) s)
  clk : ∀ t, 0 ≤ t → t < c.t → ∀ v, hClk (th t) = some v → m 0 = v
  loc : ∀ t, 0 ≤ t → t < c.t → Loc (cxOf c jobs t) (th t)

theorem shuts_holds {h : Th} {s : Int} (a : Shuts h s) : Holds h s := by
  unfold Shuts at a
  unfold Holds
  cases hst : h.st <;> rw [hst] at a <;> simp only at a ⊢ <;> first
    | exact a.elim
    | exact a.1
    | exact a
    | exact List.mem_of_mem_tail a
theorem clk_gate {h : Th} {v : Int} (a : hClk h = some v) : hGate h = true := by
  unfold hClk at a
  unfold hGate
  cases hst : h.st <;> rw [hst] at a <;> simp only at a ⊢ <;> first
    | rfl
    | cases a

/-- Only one thread's machine goes on. -/
def thSet (th : Int → Th) (t : Int) (h' : Th) : Int → Th := fun u => if u = t then h' else th u

theorem li_step {c : Cfg} {jobs : List (Int × List InsD)} {m m' : Int → Int} {th : Int → Th} {t : Int} {h' : Th} (hc : cfgB c = true) (t0 : 0 ≤ t) (t1 : t < c.t) (I : LI c jobs m th) (hl : Loc (cxOf c jobs t) h') (E : Eff (cxOf c jobs t) m m' (th t) h') :
    LI c jobs m' (thSet th t h') := by
  obtain ⟨_, _, ⟨s1, s2⟩, _⟩ := cfgB_true hc
  have at_t : thSet th t h' t = h' := if_pos rfl
  have off : ∀ {u}, u ≠ t → thSet th t h' u = th u := fun hu => if_neg hu
  have loc' : ∀ u, 0 ≤ u → u < c.t → Loc (cxOf c jobs u) (thSet th t h' u) := fun u u0 u1 => by
    by_cases hu : u = t
    · rw [hu, at_t]; exact hl
    · rw [off hu]; exact I.loc u u0 u1
  have one : ∀ {s u v}, 0 ≤ s → s < c.s → 0 ≤ u → u < c.t → 0 ≤ v → v < c.t → Holds (th u) s → Holds (th v) s → u = v := fun {s u v} a b d e f g x y => by
    have h1 := (I.own s a b u d e).2 x
    have h2 := (I.own s a b v f g).2 y
    omega
  have oneG : ∀ {u v}, 0 ≤ u → u < c.t → 0 ≤ v → v < c.t → hGate (th u) = true → hGate (th v) = true → u = v := fun {u v} d e f g x y => by
    have h1 := (I.gate u d e).2 x
    have h2 := (I.gate v f g).2 y
    omega
  -- what stays as it was
  have ownS : (∀ s, 0 ≤ s → s < c.s → m' (3 + c.s + s) = m (3 + c.s + s)) → (∀ s, Holds h' s ↔ Holds (th t) s) → ∀ s, 0 ≤ s → s < c.s → ∀ u, 0 ≤ u → u < c.t → (m' (3 + c.s + s) = u + 1 ↔ Holds (thSet th t h' u) s) := fun M H s a b u d e => by
    rw [M s a b]
    by_cases hu : u = t
    · rw [hu, at_t, H]; rw [← hu]; exact I.own s a b u d e
    · rw [off hu]; exact I.own s a b u d e
  have gateS : m' 2 = m 2 → hGate h' = hGate (th t) → ∀ u, 0 ≤ u → u < c.t → (m' 2 = u + 1 ↔ hGate (thSet th t h' u) = true) := fun M G u d e => by
    rw [M]
    by_cases hu : u = t
    · rw [hu, at_t, G]; rw [← hu]; exact I.gate u d e
    · rw [off hu]; exact I.gate u d e
  have exS : (∀ s, Shuts h' s ↔ Shuts (th t) s) → ∀ s, (∃ u, 0 ≤ u ∧ u < c.t ∧ Shuts (thSet th t h' u) s) ↔ (∃ u, 0 ≤ u ∧ u < c.t ∧ Shuts (th u) s) := fun S s => by
    constructor
    · rintro ⟨u, d, e, x⟩
      by_cases hu : u = t
      · rw [hu, at_t, S] at x
        exact ⟨t, t0, t1, x⟩
      · rw [off hu] at x
        exact ⟨u, d, e, x⟩
    · rintro ⟨u, d, e, x⟩
      by_cases hu : u = t
      · refine ⟨t, t0, t1, ?_⟩
        rw [at_t, S, ← hu]; exact x
      · exact ⟨u, d, e, by rw [off hu]; exact x⟩
  have shutS : (∀ s, 0 ≤ s → s < c.s → m' (3 + s) = m (3 + s)) → (∀ s, Shuts h' s ↔ Shuts (th t) s) → ∀ s, 0 ≤ s → s < c.s → (m' (3 + s) = -1 ↔ ∃ u, 0 ≤ u ∧ u < c.t ∧ Shuts (thSet th t h' u) s) := fun M S s a b => by
    rw [M s a b, exS S s]
    exact I.shut s a b
  have clkS : m' 0 = m 0 → (∀ v, hClk h' = some v → m 0 = v) → ∀ u, 0 ≤ u → u < c.t → ∀ v, hClk (thSet th t h' u) = some v → m' 0 = v := fun M C u d e v x => by
    rw [M]
    by_cases hu : u = t
    · rw [hu, at_t] at x; exact C v x
    · rw [off hu] at x; exact I.clk u d e v x
  have cOwn' : ∀ s, hOwn (cxOf c jobs t) s = 3 + c.s + s := fun s => rfl
  have cVer' : ∀ s, hVer s = 3 + s := fun s => rfl
  cases E with
  | same M H G S C =>
    have M' : ∀ x, (x = 0 ∨ x = 2 ∨ (3 ≤ x ∧ x < 3 + 2 * c.s)) → m' x = m x := M
    refine ⟨ownS (fun s a b => M' _ (by omega)) H, gateS (M' _ (by omega)) G, shutS (fun s a b => M' _ (by omega)) S, clkS (M' _ (by omega)) (fun v x => ?_), loc'⟩
    rcases C v x with y | y
    · exact I.clk t t0 t1 v y
    · exact y.2
  | got s b e M H G S C =>
    rw [cOwn'] at e M
    have M2 : ∀ x, x ≠ 3 + c.s + s → m' x = m x := fun x hx => by rw [M]; exact upd_off hx
    refine ⟨fun u a b' v d e' => ?_, gateS (M2 _ (by omega)) G, shutS (fun u a b' => M2 _ (by have : u < c.s := b'; omega)) S, clkS (M2 _ (by omega)) (fun v x => by rw [C] at x; cases x), loc'⟩
    have b2 : s < c.s := b.2
    by_cases hu : u = s
    · subst hu
      rw [show m' (3 + c.s + u) = t + 1 from by rw [M]; exact upd_at _ _ _]
      by_cases hv : v = t
      · rw [hv, at_t, H]
        exact ⟨fun _ => Or.inr rfl, fun _ => rfl⟩
      · rw [off hv, ← I.own u a b' v d e', e]
        constructor <;> intro x <;> omega
    · rw [M2 _ (by omega)]
      by_cases hv : v = t
      · rw [hv, at_t, H, I.own u a b' t t0 t1]
        exact ⟨fun x => Or.inl x, fun x => x.elim id (fun y => absurd y hu)⟩
      · rw [off hv]; exact I.own u a b' v d e'
  | gave s b e M H G S C =>
    rw [cOwn'] at M
    have M2 : ∀ x, x ≠ 3 + c.s + s → m' x = m x := fun x hx => by rw [M]; exact upd_off hx
    have b2 : s < c.s := b.2
    have hown := (I.own s b.1 b2 t t0 t1).2 e.1
    refine ⟨fun u a b' v d e' => ?_, gateS (M2 _ (by omega)) G, shutS (fun u a b' => M2 _ (by have : u < c.s := b'; omega)) S, clkS (M2 _ (by omega)) (fun v x => by rw [C] at x; cases x), loc'⟩
    by_cases hu : u = s
    · subst hu
      rw [show m' (3 + c.s + u) = 0 from by rw [M]; exact upd_at _ _ _]
      by_cases hv : v = t
      · rw [hv, at_t, H]
        exact ⟨fun x => by omega, fun x => absurd rfl x.2⟩
      · rw [off hv, ← I.own u a b' v d e', hown]
        constructor <;> intro x <;> omega
    · rw [M2 _ (by omega)]
      by_cases hv : v = t
      · rw [hv, at_t, H, I.own u a b' t t0 t1]
        exact ⟨fun x => ⟨x, hu⟩, fun x => x.1⟩
      · rw [off hv]; exact I.own u a b' v d e'
  | into e M H G S C =>
    have M2 : ∀ x, x ≠ 2 → m' x = m x := fun x hx => by rw [M]; exact upd_off hx
    refine ⟨ownS (fun s a b => M2 _ (by omega)) H, fun u d e' => ?_, shutS (fun s a b => M2 _ (by omega)) S, clkS (M2 _ (by omega)) (fun v x => by rw [C] at x; cases x), loc'⟩
    rw [show m' 2 = t + 1 from by rw [M]; exact upd_at _ _ _]
    by_cases hu : u = t
    · rw [hu, at_t, G]; simp
    · rw [off hu, ← I.gate u d e', e]
      constructor <;> intro x <;> omega
  | out e M H G S C =>
    have M2 : ∀ x, x ≠ 2 → m' x = m x := fun x hx => by rw [M]; exact upd_off hx
    have hg := (I.gate t t0 t1).2 e
    refine ⟨ownS (fun s a b => M2 _ (by omega)) H, fun u d e' => ?_, shutS (fun s a b => M2 _ (by omega)) S, clkS (M2 _ (by omega)) (fun v x => by rw [C] at x; cases x), loc'⟩
    rw [show m' 2 = 0 from by rw [M]; exact upd_at _ _ _]
    by_cases hu : u = t
    · rw [hu, at_t, G]
      constructor <;> intro x
      · omega
      · cases x
    · rw [off hu, ← I.gate u d e', hg]
      constructor <;> intro x <;> omega
  | shut s b e M H G S C =>
    rw [cVer'] at M
    have M2 : ∀ x, x ≠ 3 + s → m' x = m x := fun x hx => by rw [M]; exact upd_off hx
    have b2 : s < c.s := b.2
    have b1 := b.1
    refine ⟨ownS (fun u a b' => M2 _ (by omega)) H, gateS (M2 _ (by omega)) G, fun u a b' => ?_, clkS (M2 _ (by omega)) (fun v x => I.clk t t0 t1 v (C v x)), loc'⟩
    by_cases hu : u = s
    · rw [hu]
      rw [show m' (3 + s) = -1 from by rw [M]; exact upd_at _ _ _]
      exact ⟨fun _ => ⟨t, t0, t1, by rw [at_t, S]; exact Or.inr rfl⟩, fun _ => rfl⟩
    · rw [M2 _ (by omega), I.shut u a b']
      constructor
      · rintro ⟨v, d, e', x⟩
        by_cases hv : v = t
        · exact ⟨t, t0, t1, by rw [at_t, S]; rw [hv] at x; exact Or.inl x⟩
        · exact ⟨v, d, e', by rw [off hv]; exact x⟩
      · rintro ⟨v, d, e', x⟩
        by_cases hv : v = t
        · rw [hv, at_t, S] at x
          exact ⟨t, t0, t1, x.elim id (fun y => absurd y hu)⟩
        · rw [off hv] at x
          exact ⟨v, d, e', x⟩
  | opened s w b p e M H G S C =>
    rw [cVer'] at M
    have M2 : ∀ x, x ≠ 3 + s → m' x = m x := fun x hx => by rw [M]; exact upd_off hx
    have b2 : s < c.s := b.2
    have b1 := b.1
    refine ⟨ownS (fun u a b' => M2 _ (by omega)) H, gateS (M2 _ (by omega)) G, fun u a b' => ?_, clkS (M2 _ (by omega)) (fun v x => by rw [C] at x; cases x), loc'⟩
    by_cases hu : u = s
    · subst hu
      rw [show m' (3 + u) = w from by rw [M]; exact upd_at _ _ _]
      constructor
      · intro x; omega
      · rintro ⟨v, d, e', x⟩
        by_cases hv : v = t
        · rw [hv, at_t, S] at x
          exact absurd rfl x.2
        · rw [off hv] at x
          exact absurd (one a b' d e' t0 t1 (shuts_holds x) e.1) hv
    · rw [M2 _ (by omega), I.shut u a b']
      constructor
      · rintro ⟨v, d, e', x⟩
        by_cases hv : v = t
        · exact ⟨t, t0, t1, by rw [at_t, S]; rw [hv] at x; exact ⟨x, hu⟩⟩
        · exact ⟨v, d, e', by rw [off hv]; exact x⟩
      · rintro ⟨v, d, e', x⟩
        by_cases hv : v = t
        · rw [hv, at_t, S] at x
          exact ⟨t, t0, t1, x.1⟩
        · rw [off hv] at x
          exact ⟨v, d, e', x⟩
  | stamp w e M H G S C =>
    have M2 : ∀ x, x ≠ 0 → m' x = m x := fun x hx => by rw [M]; exact upd_off hx
    refine ⟨ownS (fun u a b' => M2 _ (by omega)) H, gateS (M2 _ (by omega)) G, shutS (fun u a b' => M2 _ (by omega)) S, fun u d e' v x => ?_, loc'⟩
    by_cases hu : u = t
    · rw [hu, at_t, C] at x; cases x
    · rw [off hu] at x
      exact absurd (oneG d e' t0 t1 (clk_gate x) e.1) hu

theorem li_start {c : Cfg} (hc : cfgB c = true) {mem : List Int} (hmw : (mem.length : Int) = c.wd) (hmb : memB mem = true) (jobs : List (Int × List InsD)) : LI c jobs (gStart c mem jobs).m (gStart c mem jobs).th := by
  obtain ⟨⟨t1, t2⟩, _, ⟨s1, s2⟩, _⟩ := cfgB_true hc
  have lo : ∀ x, x < wordBase c → startVal c mem x = 0 := fun x h => by unfold startVal; rw [if_neg (by omega)]
  unfold wordBase at lo
  have hto : ∀ t, Cont (cxOf c jobs t) [] false (hInit (cxOf c jobs t)) := fun t => by
    unfold hInit hTo
    split
    · exact ⟨fun s => by simp [Holds], rfl, fun s => by simp [Shuts], rfl, rfl, trivial⟩
    · exact ⟨fun s => by simp [Holds], rfl, fun s => by simp [Shuts], rfl, rfl, trivial⟩
  refine ⟨fun s a b t d e => ?_, fun t d e => ?_, fun s a b => ?_, fun t d e v x => ?_, fun t d e => (hto t).loc⟩
  · rw [show (gStart c mem jobs).m (3 + c.s + s) = 0 from lo _ (by omega), show (gStart c mem jobs).th t = hInit (cxOf c jobs t) from rfl, (hto t).holds]
    constructor
    · intro x; omega
    · intro x; simp at x
  · rw [show (gStart c mem jobs).m 2 = 0 from lo _ (by omega), show (gStart c mem jobs).th t = hInit (cxOf c jobs t) from rfl, (hto t).gate]
    constructor
    · intro x; omega
    · intro x; cases x
  · rw [show (gStart c mem jobs).m (3 + s) = 0 from lo _ (by omega)]
    constructor
    · intro x; omega
    · rintro ⟨t, d, e, x⟩
      exact absurd x ((hto t).shuts s)
  · rw [show (gStart c mem jobs).th t = hInit (cxOf c jobs t) from rfl, (hto t).clk] at x
    cases x

theorem li_at {c : Cfg} (hc : cfgB c = true) {mem : List Int} (hmw : (mem.length : Int) = c.wd) (hmb : memB mem = true) (jobs : List (Int × List InsD)) (ps : List PickD) : ∀ k : Nat, LI c jobs (gAt c mem jobs ps k).m (gAt c mem jobs ps k).th
  | 0 => li_start hc hmw hmb jobs
  | k + 1 => by
    have I := li_at hc hmw hmb jobs ps k
    have G := gat_ok hc hmw hmb jobs ps k
    show LI c jobs (gStep c jobs (gAt c mem jobs ps k) _ (pickAt ps k)).1.m (gStep c jobs (gAt c mem jobs ps k) _ (pickAt ps k)).1.th
    unfold gStep
    by_cases ht : 0 ≤ (pickAt ps k).thread ∧ (pickAt ps k).thread < c.t
    · rw [if_pos ht]
      have hcK : cfgB (cxOf c jobs (pickAt ps k).thread).c = true := hc
      obtain ⟨hl, E⟩ := eff_step hcK ht (G.th _ ht.1 ht.2) (I.loc _ ht.1 ht.2) (gAt c mem jobs ps k).m ⟨(gAcc c jobs (gAt c mem jobs ps k) (pickAt ps k).thread).seen, (pickAt ps k).draw, (k : Int) + 1⟩ (fun h0 => by
        show (gAcc c jobs (gAt c mem jobs ps k) (pickAt ps k).thread).seen = _
        unfold gAcc
        rw [acc_some h0])
      exact li_step hc ht.1 ht.2 I hl E
    · rw [if_neg ht]
      exact I

end Go.Proofs.YtejadojilncbjabGreat
