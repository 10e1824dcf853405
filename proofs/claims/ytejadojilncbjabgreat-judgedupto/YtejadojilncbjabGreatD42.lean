import Derived.Test.YtejadojilncbjabGreatD15
import Derived.Test.YtejadojilncbjabGreatD00
import Derived.Test.YtejadojilncbjabGreatD39
import Derived.Test.YtejadojilncbjabGreatD02
namespace Go.Proofs.YtejadojilncbjabGreat
set_option linter.unusedVariables false
def LN (c : Nat) (l l' : List AttD) : Prop := ∃ f : AttD → AttD, (∀ t, (f t).notes.length ≤ t.notes.length + c) ∧ l' = modLast l f
theorem LN.refl (c : Nat) (l : List AttD) : LN c l l := ⟨fun t => t, fun _ => Nat.le_add_right _ _, (modLast_id l).symm⟩
theorem LN.mono {c d : Nat} {l l' : List AttD} (h : LN c l l') (k : c ≤ d) : LN d l l' := by
 obtain ⟨f, hf, hl⟩ := h
 exact ⟨f, fun t => by have := hf t; omega, hl⟩
theorem LN.trans {c d : Nat} {l l' l2 : List AttD} (h : LN c l l') (k : LN d l' l2) : LN (c + d) l l2 := by
 obtain ⟨f, hf, rfl⟩ := h
 obtain ⟨g, hg, rfl⟩ := k
 exact ⟨fun t => g (f t), fun t => by show (g (f t)).notes.length ≤ _; have := hg (f t); have := hf t; omega, modLast_comp l f g⟩
theorem LN.of {c : Nat} {l l' : List AttD} (h : l' = l) : LN c l l' := by subst h; exact LN.refl _ _
theorem ln_noted (h : Th) (op a v : Int) : LN 1 h.list (h.noted op a v).list := ⟨fun t => { t with notes := t.notes ++ [⟨op, a, v⟩] }, fun t => by simp, rfl⟩
theorem ln_ended (h : Th) (n f : Int) : LN 0 h.list (h.ended n f).list := ⟨fun t => { t with fin := n, fate := f }, fun t => by simp, rfl⟩
theorem ln_stamp (l : List AttD) (c : Int) : LN 0 l (modLast l fun t => { t with stamp := c }) := ⟨fun t => { t with stamp := c }, fun t => by simp, rfl⟩
theorem ln_ite {n : Nat} {l : List AttD} {c : Prop} [Decidable c] {a b : Bool × Th} (h1 : LN n l a.2.list) (h2 : LN n l b.2.list) : LN n l (if c then a else b).2.list := by split <;> assumption
theorem ln_iteT {n : Nat} {l : List AttD} {c : Prop} [Decidable c] {a b : Th} (h1 : LN n l a.list) (h2 : LN n l b.list) : LN n l (if c then a else b).list := by split <;> assumption
theorem ln_read (K : Cx) (i : InsD) (h : Th) : LN 1 h.list (hRead K i h).2.list := by
 unfold hRead
 simp only
 split
 ·exact LN.of (l_close _ _)
 ·split
  ·exact ln_noted _ _ _ _
  ·simp only
   split <;> exact LN.refl _ _
theorem ln_put (i : InsD) (a : Int) (h : Th) : LN 1 h.list (hPut i a h).list := ln_noted _ _ _ _
theorem ln_write (K : Cx) (i : InsD) (h : Th) : LN 1 h.list (hWrite K i h).2.list := by
 unfold hWrite
 simp only
 split
 ·exact LN.of (l_close _ _)
 ·split
  ·exact ln_put _ _ _
  ·exact LN.refl _ _
attribute [local irreducible] hRead hWrite in
theorem ln_step (K : Cx) (h : Th) : LN 1 h.list (hStep K h).2.list := by
 unfold hStep
 simp only
 repeat' (refine ln_ite ?_ ?_)
 all_goals first
  | exact LN.of (l_close _ _)
  | exact LN.refl _ _
  | exact ln_read K _ _
  | exact ln_write K _ _
theorem ln_adv (K : Cx) : ∀ (n : Nat) (h : Th), LN n h.list (hAdv K n h).list
 | 0, h => LN.refl _ _
 | n + 1, h => by
  unfold hAdv
  split
  ·exact ((ln_step K h).trans (ln_adv K n _)).mono (by omega)
  ·exact (ln_step K h).mono (by omega)
theorem ln_go (K : Cx) (h : Th) : LN (K.c.f.toNat + 1) h.list (hGo K h).list := (ln_adv K _ h).mono (by omega)
theorem ln_got (K : Cx) (i : InsD) (a v : Int) (h : Th) : LN (K.c.f.toNat + 3) h.list (hGot K i a v h).list := ((ln_noted ({ h with x := setReg h.x i.a v } : Th) 7 a v).trans (ln_go K _)).mono (by omega)
theorem ln_wrote (K : Cx) (i : InsD) (a : Int) (h : Th) : LN (K.c.f.toNat + 3) h.list (hWrote K i a h).list := by
 unfold hWrote
 split
 ·exact ((ln_put i a h).trans (ln_go K _)).mono (by omega)
 ·exact (ln_put i a h).mono (by omega)
theorem ln_exDone (K : Cx) (k : Ex) (c : Int) (h : Th) : LN (K.c.f.toNat + 3) h.list (hExDone K k c h).list := by
 have h0 : LN 0 h.list (modLast h.list (fun t => { t with valid := c })) := ⟨fun t => { t with valid := c }, fun t => by simp, rfl⟩
 unfold hExDone
 simp only
 split
 ·exact (h0.trans (ln_got K _ _ _ _)).mono (by omega)
 ·exact (h0.trans (ln_wrote K _ _ _)).mono (by omega)
theorem ln_exStill (K : Cx) (k : Ex) (c : Int) (r : List EntD) (h : Th) : LN (K.c.f.toNat + 3) h.list (hExStill K k c r h).list := by
 unfold hExStill
 split
 ·exact ln_exDone _ _ _ _
 ·exact LN.refl _ _
attribute [local irreducible] hWrote hFail hRest hFailOwn hCount hGot hGo hExStill hShutAt hStillAt hTo hFreeAt hOpenAt hWordAt in
theorem ln_next (K : Cx) (h : Th) (v : AnsD) (hs : h.st ≠ .start) : LN (K.c.f.toNat + 3) h.list (hNext K h v).list := by
 unfold hNext
 split
 all_goals first
  | exact LN.refl _ _
  | (exfalso; apply hs; assumption)
  | skip
 all_goals try simp only
 all_goals repeat' (refine ln_iteT ?_ ?_)
 all_goals first
  | exact LN.refl _ _
  | exact ln_got K _ _ _ _
  | exact ln_exStill K _ _ _ _
  | exact LN.of (l_fail _ _)
  | exact ln_wrote K _ _ _
  | exact (ln_go K _).mono (by omega)
  | exact LN.of (l_stillAt _ _ _)
  | exact LN.of (l_shutAt _ _ _)
  | exact (ln_stamp _ _).mono (by omega)
  | exact LN.of (l_wordAt _ _ _)
  | exact LN.of (l_openAt _ _ _)
  | exact LN.of (l_freeAt _ _ _)
  | (refine LN.mono (c := 0 + 0) ?_ (by omega); exact (ln_ended h _ _).trans (LN.of (l_to _ _ _)))
  | exact LN.of (l_failOwn _ _ _)
  | exact (ln_ended h _ _).mono (by omega)
  | (refine LN.mono (c := 0 + 0) ?_ (by omega); exact (ln_ended h _ _).trans (LN.of (l_rest _ _ _)))
theorem modLast_mem {l : List AttD} {f : AttD → AttD} {a : AttD} (h : a ∈ modLast l f) : ∃ b ∈ l, a = b ∨ a = f b := by
 unfold modLast at h
 obtain ⟨i, hi, rfl⟩ := List.mem_iff_getElem.1 h
 rw [List.length_modify] at hi
 refine ⟨l[i], List.getElem_mem hi, ?_⟩
 rw [List.getElem_modify]
 split
 ·exact Or.inr rfl
 ·exact Or.inl rfl
theorem ln_start (K : Cx) (h : Th) (v : AnsD) (hs : h.st = .start) {a : AttD} (ha : a ∈ (hNext K h v).list) : a ∈ h.list ∨ (∃ b ∈ h.list, a.notes.length ≤ b.notes.length + (K.c.f.toNat + 1)) ∨ a.notes.length ≤ K.c.f.toNat + 1 := by
 have e : hNext K h v = hGo K { h with list := h.list ++ [⟨K.me, h.job, v.num, 0, v.seen, 0, 0, []⟩], x := newTS (K.jobs.getD h.job (0, [])).2 v.seen } := by
  unfold hNext
  rw [hs]
 obtain ⟨f, hf, hl⟩ := ln_go K { h with list := h.list ++ [⟨K.me, h.job, v.num, 0, v.seen, 0, 0, []⟩], x := newTS (K.jobs.getD h.job (0, [])).2 v.seen }
 rw [e, hl] at ha
 obtain ⟨b, hb, hab⟩ := modLast_mem ha
 have hbn := hf b
 rcases List.mem_append.1 hb with q | q
 ·rcases hab with rfl | rfl
  ·exact Or.inl q
  ·exact Or.inr (Or.inl ⟨b, q, hbn⟩)
 ·simp at q
  subst q
  rcases hab with rfl | rfl
  ·exact Or.inr (Or.inr (by simp))
  ·refine Or.inr (Or.inr ?_)
   simp at hbn
   exact hbn
theorem notes_at {R : Rn} (O : R.Ok) : ∀ (k : Nat) (t : Int), 0 ≤ t → t < R.c.t → ∀ a ∈ ((R.g k).th t).list, a.notes.length ≤ 60 * k
 | 0, t, t0, t1, a, ha => by
  have : ((R.g 0).th t).list = [] := by
   show (hTo _ 0 _).list = []
   rw [l_to]
  rw [this] at ha
  cases ha
 | k + 1, t, t0, t1, a, ha => by
  have ih := notes_at O k t t0 t1
  have hf : R.c.f.toNat ≤ 40 := by
   obtain ⟨_, _, _, _, _, _, h7⟩ := cfgB_true O.c
   omega
  by_cases hp : (R.pk k).thread = t
  ·rw [R.at k hp t0 t1] at ha
   by_cases hs : ((R.g k).th t).st = .start
   ·rcases ln_start _ _ _ hs ha with q | ⟨b, hb, q⟩ | q
    ·have := ih a q; omega
    ·have := ih b hb
     have hc : (R.K t).c.f.toNat = R.c.f.toNat := rfl
     omega
    ·have hc : (R.K t).c.f.toNat = R.c.f.toNat := rfl
     omega
   ·obtain ⟨f, hfn, hl⟩ := ln_next (R.K t) _ ⟨(accBy (R.g k).m (R.out k t)).seen, (R.pk k).draw, (k : Int) + 1⟩ hs
    rw [hl] at ha
    obtain ⟨b, hb, hab⟩ := modLast_mem ha
    have h1 := ih b hb
    have h2 := hfn b
    have hc : (R.K t).c.f.toNat = R.c.f.toNat := rfl
    rcases hab with rfl | rfl <;> omega
  ·rw [R.off k hp] at ha
   have := ih a ha
   omega
theorem hist_notes {R : Rn} (O : R.Ok) {x : AttD} (hx : x ∈ R.hist) : x.notes.length ≤ 60 * R.ps.length := by
 obtain ⟨t, t0, t1, h⟩ := (hist_mem O).1 hx
 exact notes_at O _ t t0 t1 x h
end Go.Proofs.YtejadojilncbjabGreat
namespace Go.Proofs.YtejadojilncbjabGreat
open Go.RowKit
set_option linter.unusedVariables false
attribute [local go_sem ↓] Go.wp_at_zero Go.wp_at_succ
def nvs (o : List Nat) : List Value := o.map fun (i : Nat) => Value.int .i64 (i : Int)
def NatsIn (w : World) (B : Nat) (a : Option Addr) (o : List Nat) : Prop := ∀ i, i < o.length → ∃ b, a = some ⟨b, 0, none⟩ ∧ b < B ∧ w.cell? ⟨b, i, none⟩ = some (.int .i64 ((o.getD i 0 : Nat) : Int))
theorem NatsIn.up {w w' : World} {B : Nat} {a : Option Addr} {o : List Nat} (h : NatsIn w B a o) (hb : Below B w w') : NatsIn w' B a o := fun i hi => by
 obtain ⟨b, h1, h2, h3⟩ := h i hi
 exact ⟨b, h1, h2, (World.cell?_of_block (hb.block b h2)).trans h3⟩
theorem natsIn_row {w : World} {base : Nat} {a : Option Addr} {c n : Nat} {o : List Nat} (h : w.ownsRow base 3 1 (.slice a n c) n (nvs o)) : NatsIn w w.heap.size a o := fun i hi => by
 rcases h.2 with ⟨h1, h2⟩ | ⟨g, cap, cur, h1, h2, h3, h4, h5, h6, h7⟩
 ·have h8 := h.1
  unfold nvs at h8
  rw [List.length_map] at h8
  omega
 ·cases h1
  refine ⟨g, rfl, (Array.getElem?_eq_some_iff.1 h3).1, ?_⟩
  have hb : Blk w g 3 cur := h3
  rw [hb.cell i]
  have h8 : (nvs o)[i]? = some (.int .i64 ((o.getD i 0 : Nat) : Int)) := by
   unfold nvs
   rw [List.getElem?_map, List.getElem?_eq_getElem hi]
   simp [List.getD, List.getElem?_eq_getElem hi]
  rw [← h7, List.getElem?_take] at h8
  split at h8
  ·rw [← h8]; simp
  ·cases h8
def seg (o : List Nat) (l m : Nat) : List Nat := (o.drop l).take (m - l)
theorem seg_cons {o : List Nat} {l m : Nat} (h : l < m) (hm : m ≤ o.length) : seg o l m = o.getD l 0 :: seg o (l + 1) m := by
 unfold seg
 have hl : l < o.length := by omega
 rw [List.drop_eq_getElem_cons hl, show m - l = (m - (l + 1)) + 1 by omega, List.take_succ_cons]
 simp [List.getD, List.getElem?_eq_getElem hl]
theorem seg_nil {o : List Nat} {l : Nat} : seg o l l = [] := by simp [seg]
def tkL (f : Nat → AttD) (o : List Nat) (l m r e : Nat) : Bool := decide (r = e ∨ (l < m ∧ Kl f (o.getD l 0) (o.getD r 0)))
theorem tkL_true {f : Nat → AttD} {o : List Nat} {l m r e : Nat} (h : tkL f o l m r e = true) (hw : l < m ∨ r < e) (hm : m ≤ o.length) (he : e ≤ o.length) : l < m ∧ mrg f (seg o l m) (seg o r e) = o.getD l 0 :: mrg f (seg o (l + 1) m) (seg o r e) := by
 rcases of_decide_eq_true h with rfl | ⟨h1, h2⟩
 ·have hl : l < m := by omega
  refine ⟨hl, ?_⟩
  rw [seg_nil, mrg_nil', mrg_nil', seg_cons hl hm]
 ·refine ⟨h1, ?_⟩
  by_cases hr : r < e
  ·rw [seg_cons h1 hm, seg_cons hr he, mrg_pos h2]
  ·have : seg o r e = [] := by unfold seg; rw [show e - r = 0 by omega]; simp
   rw [this, mrg_nil', mrg_nil', seg_cons h1 hm]
theorem tkL_false {f : Nat → AttD} {o : List Nat} {l m r e : Nat} (h : tkL f o l m r e = false) (hw : l < m ∨ r < e) (hlm : l ≤ m) (hr : r ≤ e) (hm : m ≤ o.length) (he : e ≤ o.length) : r < e ∧ mrg f (seg o l m) (seg o r e) = o.getD r 0 :: mrg f (seg o l m) (seg o (r + 1) e) := by
 have h1 := of_decide_eq_false h
 have hre : r < e := by
  rcases Nat.lt_or_ge r e with q | q
  ·exact q
  ·exact absurd (Or.inl (by omega)) h1
 refine ⟨hre, ?_⟩
 by_cases hl : l < m
 ·rw [seg_cons hl hm, seg_cons hre he, mrg_neg (fun q => h1 (Or.inr ⟨hl, q⟩))]
 ·have : seg o l m = [] := by unfold seg; rw [show m - l = 0 by omega]; simp
  rw [this, mrg_nil, mrg_nil, seg_cons hre he]
theorem run_makeN (n : Nat) (hn : n ≤ 2097152) (w : World) : (Instr.makeSlice 24 (Value.int .i64 0) (Value.int .i64 (n : Int))).run Tryz.prog w =
  .ok (.slice (some ⟨w.heap.size, 0, none⟩) 0 n) (w.alloc (.cells (List.replicate n (.int .i64 0)).toArray 3)) := by
 obtain ⟨i0, h1, h2, h3, h4⟩ := info_parts Tryz.info3
 have := run_make (P := Tryz.prog) w 24 3 i0 _ Tryz.underlying24 h1 h2 .i64 .i64 0 n (by omega) (by omega) (by rw [h4]; omega) (by omega)
 rw [h3] at this
 simp only [Int.toNat_natCast, Nat.mul_one] at this
 have e : madeCells (Value.int .i64 0).cells n = (List.replicate n (Value.int .i64 0)).toArray := by
  apply Array.ext'
  rw [show (Value.int .i64 0).cells = #[.int .i64 0] from rfl, toList_madeCells_one]
 rw [e] at this
 exact this
def MrgIs (w : World) (n : Nat) (M : List Nat → Prop) (e : Ending) (w' : World) : Prop := ∃ (o : List Nat) (ra : Option Addr) (rc : Nat), e = .returned (.slice ra n rc) ∧ o.length = n ∧ M o ∧ w'.ownsRow w.heap.size 3 1 (.slice ra n rc) n (nvs o) ∧ Below w.heap.size w w'
abbrev TwoS (b i j : Nat) (x y : Int) (w : World) : Prop := w.cell? ⟨b, i, none⟩ = some (.int .i64 x) ∧ w.cell? ⟨b, j, none⟩ = some (.int .i64 y)
theorem wrapJ9 (z : Int) (h1 : -4611686018427387904 ≤ z) (h2 : z ≤ 4611686018427387904) : IntKind.i64.wrap z = z := by rw [IntKind.wrap_i64]; omega
theorem NotesIn.mono {w : World} {B C : Nat} {a : Option Addr} {ns : List NoteD} (h : NotesIn w B a ns) (hb : B ≤ C) : NotesIn w C a ns := fun i hi => by
 obtain ⟨b, off, h1, h2, h3⟩ := h i hi
 exact ⟨b, off, h1, Nat.lt_of_lt_of_le h2 hb, h3⟩
theorem HistIn.mono {w : World} {B C : Nat} {a : Option Addr} {L : List AttD} (h : HistIn w B a L) (hb : B ≤ C) : HistIn w C a L := fun i hi => by
 obtain ⟨b, off, na, nc, h1, h2, c0, c1, c2, c3, c4, c5, c6, c7, hn⟩ := h i hi
 exact ⟨b, off, na, nc, h1, Nat.lt_of_lt_of_le h2 hb, c0, c1, c2, c3, c4, c5, c6, c7, hn.mono hb⟩
theorem own_ge {w : World} {base e s n : Nat} {v : Value} {xs : List Value} (h : w.ownsRow base e s v n xs) : ∀ k, v.ownBlock = some k → base ≤ k := fun k hk => by
 rcases h.2 with ⟨rfl, _⟩ | ⟨g, cap, cur, rfl, hb, _⟩
 ·cases hk
 ·cases hk
  exact hb
theorem own_up {w w' : World} {base e s n : Nat} {v : Value} {xs : List Value} (h : w.ownsRow base e s v n xs) (hb : Below w.heap.size w w') : w'.ownsRow base e s v n xs := by
 refine ⟨h.1, ?_⟩
 rcases h.2 with q | ⟨g, cap, cur, h1, h2, h3, h4⟩
 ·exact Or.inl q
 ·exact Or.inr ⟨g, cap, cur, h1, h2, (hb.block g (Array.getElem?_eq_some_iff.1 h3).1).trans h3, h4⟩
theorem belowQ {w : World} (n : Nat) : Below w.heap.size w (w.drewN n) := ⟨rfl, rfl, rfl, Nat.le_refl _, fun _ _ => rfl⟩
theorem nvs_snoc (M : List Nat) (x : Nat) : nvs (M ++ [x]) = nvs M ++ [.int .i64 (x : Int)] := by simp [nvs]
set_option maxRecDepth 100000 in
set_option maxHeartbeats 8000000 in
theorem merge_any (L : List AttD) (o : List Nat) (W : Nat) (hW : 1 ≤ W) (hWn : W < o.length) (hn : o.length ≤ 2097152) (ho : ∀ i, i < o.length → o.getD i 0 < L.length) (hL : L.length ≤ 2097152) (a oa : Option Addr) (cp oc : Nat) (w : World) (h : HistIn w w.heap.size a L) (hoi : NatsIn w w.heap.size oa o) :
  Calls Tryz.prog 115 #[.slice a L.length cp, .slice oa o.length oc, .int .i64 (W : Int)] w (MrgIs w o.length fun o' => ∃ q, o.length ≤ q * (2 * W) ∧ o' = pass (atL L) W o q) := by
 have HH : Hid (HistIn w w.heap.size a L) := h
 have HO : Hid (NatsIn w w.heap.size oa o) := hoi
 have HLt : Hid (∀ i, i < o.length → o.getD i 0 < L.length) := ho
 obtain ⟨Z, hZ⟩ : ∃ Z, Z = List.replicate o.length (Value.int .i64 0) := ⟨_, rfl⟩
 have hZl : Z.length = o.length := by rw [hZ]; simp
 have hmk := run_makeN o.length hn
 rw [← hZ] at hmk
 obtain ⟨i3, hi3, hz30, hz31, hz32⟩ := info_parts Tryz.info3
 obtain ⟨N, hN⟩ : ∃ N, N = o.length := ⟨_, rfl⟩
 have HN : Hid (N = o.length) := hN
 rw [← hN] at hn hmk hZl hWn ⊢
 have hob : ∃ b, oa = some ⟨b, 0, none⟩ ∧ b < w.heap.size := by obtain ⟨b, h1, h2, _⟩ := hoi 0 (by omega); exact ⟨b, h1, h2⟩
 obtain ⟨ob, hoa, hobl⟩ := hob
 have HOc : Hid (∀ i, i < N → w.cell? ⟨ob, i, none⟩ = some (.int .i64 ((o.getD i 0 : Nat) : Int))) := fun i hi => by
  obtain ⟨b', h1, _, h3⟩ := hoi i (by omega)
  rw [hoa] at h1
  cases h1
  exact h3
 obtain ⟨f, hf⟩ : ∃ f, f = atL L := ⟨_, rfl⟩
 have HF : Hid (f = atL L) := hf
 rw [← hf]
 have HPl : Hid (∀ q, (pass f W o q).length = min (q * (2 * W)) N) := fun q => by show _ = _; rw [pass_len, hN]
 subst hoa
 clear h hoi ho hZ hN hf HO
 go_enter Tryz.func115, Tryz.ntmps115
 go_wp2_with fail
 obtain ⟨w0, hw0⟩ : ∃ w0, w0 = w.alloc (.cells Z.toArray 3) := ⟨_, rfl⟩
 have HB0 : Hid (Below w.heap.size w w0) := by rw [hw0]; exact (Below.refl w.heap.size w).alloc (Nat.le_refl _) _
 have HR0 : Hid (w0.ownsRow w.heap.size 3 1 (.slice (some ⟨w.heap.size, 0, none⟩) 0 N) 0 (nvs [])) := by
  rw [hw0]
  refine ⟨rfl, Or.inr ⟨w.heap.size, N, Z.toArray, rfl, Nat.le_refl _, heap_alloc_new w _, by omega, by unfold maxLen; omega, by simp [hZl], by simp [nvs]⟩⟩
 rw [← hw0]
 clear hw0 hmk hZl
 go_loopg [7, 8] (N + 2 * W + 1) (fun m t7 t8 wr => ∃ (q p : Nat) (M : List Nat) (ra : Option Addr) (rc k : Nat), t7 = .slice ra k rc ∧ t8 = .int .i64 (p : Int) ∧ p = q * (2 * W) ∧ p ≤ N + 2 * W ∧ m = N + 2 * W + 1 - p ∧ M.length = k ∧ Hid (M = pass f W o q) ∧ Hid (wr.ownsRow w.heap.size 3 1 (.slice ra k rc) k (nvs M)) ∧ Hid (Below w.heap.size w wr))
 case atStart => exact ⟨0, 0, [], _, _, 0, rfl, rfl, by simp, by omega, by omega, rfl, rfl, HR0, HB0⟩
 case round =>
  obtain ⟨q, p, M, ra, rc, k, rfl, rfl, hpq, hpb, hgk, hMk, HM, HRo, HBr⟩ := hrel
  clear HR0 HB0
  have hszr := (HBr.out).size
  by_cases hpN : p < N
  ·have hpI : (p : Int) < (N : Int) := by omega
   have hkp : k = p := by
    have := HPl.out q
    rw [← show M = _ from HM.out, hMk, ← hpq] at this
    omega
   subst hkp
   obtain ⟨mm, hmm⟩ : ∃ mm, mm = (if k + W < N then k + W else N) := ⟨_, rfl⟩
   obtain ⟨ee, hee⟩ : ∃ ee, ee = (if k + 2 * W < N then k + 2 * W else N) := ⟨_, rfl⟩
   have hm1 : k ≤ mm ∧ mm ≤ ee ∧ ee ≤ N := by rw [hmm, hee]; split <;> split <;> omega
   have HL1 : Hid (∀ wx, Calls Tryz.prog 86 #[.int .i64 ((k : Int) + (W : Int)), .int .i64 (N : Int)] wx fun e w' => e = .returned (.int .i64 (mm : Int)) ∧ w' = wx) := fun wx => by
    have h := least_any (k + W) N wx
    rw [← hmm, show ((k + W : Nat) : Int) = (k : Int) + (W : Int) by omega] at h
    exact h
   have HL2 : Hid (∀ wx, Calls Tryz.prog 86 #[.int .i64 ((k : Int) + 2 * (W : Int)), .int .i64 (N : Int)] wx fun e w' => e = .returned (.int .i64 (ee : Int)) ∧ w' = wx) := fun wx => by
    have h := least_any (k + 2 * W) N wx
    rw [← hee, show ((k + 2 * W : Nat) : Int) = (k : Int) + 2 * (W : Int) by omega] at h
    exact h
   have HG : Hid (M ++ mrg f (seg o k mm) (seg o mm ee) = pass f W o (q + 1)) := by
    show _ = _
    rw [pass, ← show M = _ from HM.out, ← hpq]
    congr 2
    ·unfold seg
     rw [hmm]
     split
     ·rw [show k + W - k = W by omega]
     ·rw [List.take_of_length_le (l := o.drop k) (i := W) (by rw [List.length_drop, ← HN.out]; omega), List.take_of_length_le (by rw [List.length_drop, ← HN.out]; omega)]
    ·unfold seg
     by_cases c1 : k + W < N
     ·rw [hmm, hee, if_pos c1]
      by_cases c2 : k + 2 * W < N
      ·rw [if_pos c2, show k + 2 * W - (k + W) = W by omega]
      ·rw [if_neg c2, List.take_of_length_le (l := o.drop (k + W)) (i := W) (by rw [List.length_drop, ← HN.out]; omega), List.take_of_length_le (by rw [List.length_drop, ← HN.out]; omega)]
     ·rw [hmm, hee, if_neg c1, if_neg (show ¬ k + 2 * W < N by omega), List.drop_eq_nil_of_le (i := k + W) (by rw [← HN.out]; omega), List.drop_eq_nil_of_le (i := N) (by rw [← HN.out]; omega)]
      simp
   have hw1 : IntKind.i64.wrap ((k : Int) + (W : Int)) = (k : Int) + (W : Int) := wrapJ9 _ (by omega) (by omega)
   have hw2 : IntKind.i64.wrap (2 * (W : Int)) = 2 * (W : Int) := wrapJ9 _ (by omega) (by omega)
   have hw3 : IntKind.i64.wrap ((k : Int) + 2 * (W : Int)) = (k : Int) + 2 * (W : Int) := wrapJ9 _ (by omega) (by omega)
   have HPq : Hid (k = q * (2 * W)) := hpq
   have HMl : Hid (M.length = k) := hMk
   clear HM hmm hee hpq hMk
   go_wp2_with fail
   refine (HL1.out _).mono ?_
   rintro e w1 ⟨rfl, rfl⟩
   go_wp2_with fail
   refine (HL2.out _).mono ?_
   rintro e w1 ⟨rfl, rfl⟩
   go_wp2_with fail
   go_loopg [7, 9, 11] ((mm - k) + (ee - mm) + 1) (fun m t7 t9 t11 wx => ∃ (l r kk : Nat) (M2 : List Nat) (rb : Option Addr) (rd : Nat), t7 = .slice rb kk rd ∧ t9 = .int .i64 (l : Int) ∧ t11 = .int .i64 (r : Int) ∧ k ≤ l ∧ l ≤ mm ∧ mm ≤ r ∧ r ≤ ee ∧ m = (mm - l) + (ee - r) + 1 ∧ kk + (mm - l) + (ee - r) = ee ∧ Hid (M2.length = kk ∧ M2 ++ mrg f (seg o l mm) (seg o r ee) = pass f W o (q + 1)) ∧ Hid (wx.ownsRow w.heap.size 3 1 (.slice rb kk rd) kk (nvs M2)) ∧ Hid (Below w.heap.size w wx))
   case atStart => exact ⟨k, mm, k, M, ra, rc, rfl, rfl, rfl, by omega, by omega, by omega, by omega, rfl, by omega, ⟨HMl.out, HG.out⟩, HRo, HBr⟩
   case round =>
    obtain ⟨l, r, kk, M2, rb, rd, rfl, rfl, rfl, hl1, hl2, hr1, hr2, hgm, hkk, HG2, HR2, HB2⟩ := hrel
    obtain ⟨wi, hwi⟩ : ∃ wi, wi = wr := ⟨_, rfl⟩
    subst hwi
    clear HRo HBr HG HMl HL1 HL2
    have hszi := (HB2.out).size
    by_cases hw : l < mm ∨ r < ee
    ·obtain ⟨D, hD⟩ : ∃ D, D = tkL f o l mm r ee := ⟨_, rfl⟩
     have HD : Hid (D = tkL f o l mm r ee) := hD
     clear hD
     have hwl : IntKind.i64.wrap ((l : Int) + 1) = (l : Int) + 1 := wrapJ9 _ (by omega) (by omega)
     have hwr : IntKind.i64.wrap ((r : Int) + 1) = (r : Int) + 1 := wrapJ9 _ (by omega) (by omega)
     by_cases c1 : l < mm
     ·have c1' : (l : Int) < (mm : Int) := by omega
      go_wp2_with fail
      go_cut [66] (fun t wx => t = .bool D ∧ Hid (Below wi.heap.size wi wx))
      case first =>
       by_cases c2 : r < ee
       ·have c2' : ((r : Int) == (ee : Int)) = false := by simp; omega
        have l0 : (0 : Int) ≤ (l : Int) := by omega
        have l1 : (l : Int) < (N : Int) := by omega
        have r0 : (0 : Int) ≤ (r : Int) := by omega
        have r1 : (r : Int) < (N : Int) := by omega
        obtain ⟨x, hx⟩ : ∃ x, x = o.getD l 0 := ⟨_, rfl⟩
        obtain ⟨y, hy⟩ : ∃ y, y = o.getD r 0 := ⟨_, rfl⟩
        have HKp : Hid (∀ wx, Below wi.heap.size wi wx → TwoS ob l r (x : Int) (y : Int) wx) := fun wx hb => by
         have hbx : Below w.heap.size w wx := (HB2.out).trans (hb.mono hszi)
         rw [hx, hy]
         exact ⟨(World.cell?_of_block (hbx.block ob hobl)).trans (HOc.out l (by omega)), (World.cell?_of_block (hbx.block ob hobl)).trans (HOc.out r (by omega))⟩
        have HAh : Hid (∀ wx, Below wi.heap.size wi wx → Calls Tryz.prog 126 #[.slice a L.length cp, .int .i64 (x : Int), .int .i64 (y : Int)] wx fun e w' => e = .returned (.bool D) ∧ Below wx.heap.size wx w') := fun wx hb => by
         have hbx : Below w.heap.size w wx := (HB2.out).trans (hb.mono hszi)
         have h := jahead_any L x y (by rw [hx]; exact HLt.out l (by rw [← HN.out]; omega)) (by rw [hy]; exact HLt.out r (by rw [← HN.out]; omega)) (by omega) a cp wx (((HH.out).up hbx).mono hbx.size)
         have e1 : D = decide (Kl (atL L) x y) := by
          rw [HD.out, tkL, hx, hy, ← show f = _ from HF.out]
          congr 1
          have : ¬ r = ee := by omega
          simp [this, c1]
         rw [e1]
         exact h
        have HS0 : Hid (TwoS ob l r (x : Int) (y : Int) wi.drew) := HKp.out _ (jbDrew wi)
        clear hx hy
        go_region_held3 (fun w' => TwoS ob l r (x : Int) (y : Int) w')
         (first | exact HS1.out | exact HS0.out | fail)
         (first
             | (go_at_call 126; refine (HAh.out _ (jbDrew wi)).mono ?_; rintro e w6 ⟨rfl, hb6⟩; have HB6 : Hid (Below wi.heap.size wi w6) := jbOf hb6; clear hb6; have HS1 : Hid (TwoS ob l r (x : Int) (y : Int) w6) := HKp.out _ HB6.out))
        all_goals
         go_wp2
         go_meet
         case rel => exact ⟨by first | rfl | simp, HB6⟩
       ·obtain rfl : r = ee := by omega
        obtain rfl : D = true := (HD.out).trans (by simp [tkL])
        go_quiet (fail)
        go_wp2
        go_meet
        case rel => exact ⟨by first | rfl | simp, belowQ nq⟩
      case rest =>
       obtain ⟨rfl, HBc⟩ := hcut
       have HBw : Hid (Below w.heap.size w wc) := (HB2.out).trans ((HBc.out).mono hszi)
       obtain ⟨OT, hOT⟩ : ∃ OT, OT = nvs M2 := ⟨_, rfl⟩
       have HOT : Hid (OT = nvs M2) := hOT
       have HRc : Hid (wc.ownsRow w.heap.size 3 1 (.slice rb kk rd) kk OT) := by rw [hOT]; exact own_up HR2.out HBc.out
       have hszw := (HBw.out).size
       clear hOT HR2 HB2
       by_cases hDt : D = true
       ·obtain ⟨hlm, hst⟩ := tkL_true ((HD.out).symm.trans hDt) hw (by rw [← HN.out]; omega) (by rw [← HN.out]; omega)
        obtain ⟨x, hx⟩ : ∃ x, x = o.getD l 0 := ⟨_, rfl⟩
        rw [← hx] at hst
        have hc : wc.cell? ⟨ob, l, none⟩ = some (.int .i64 (x : Int)) := by
         rw [hx]
         exact (World.cell?_of_block ((HBw.out).block ob hobl)).trans (HOc.out l (by omega))
        have HGn : Hid ((M2 ++ [x]).length = kk + 1 ∧ (M2 ++ [x]) ++ mrg f (seg o (l + 1) mm) (seg o r ee) = pass f W o (q + 1)) := by
         refine ⟨by rw [List.length_append, (HG2.out).1]; rfl, ?_⟩
         rw [List.append_assoc]
         have := (HG2.out).2
         rw [hst] at this
         exact this
        have l0 : (0 : Int) ≤ (l : Int) := by omega
        have l1 : (l : Int) < (N : Int) := by omega
        subst hDt
        clear hst hx HG2 HD hw
        go_wp2_with
         (at_builtin;
             refine wpList_append_lies _ (by rfl) _ _ _ (by rfl) w.heap.size 3 i3 _ 1 8 Tryz.underlying24 hi3 hz30 hz31 hz32 rfl (by omega) (.slice rb kk rd) kk OT (by rfl) ((HRc.out).alloc _)
              ⟨wc.heap.size, 0, none⟩ 1 1 [.int .i64 (x : Int)] (by rfl) (by rfl) (World.news_of_block (cs := #[.int .i64 (x : Int)]) (t := 3) (fr := (0, 0)) (heap_alloc_new wc _)) (by simp [Value.oneCell'])
              (by omega) (by unfold maxLen; omega) (by omega) (by simp; omega) (wc.heap.size + 1) (by simp) ?_;
             intro gg cap wz hown1 hgrow hat hlt;
             have HBz : Hid (Below w.heap.size w wz) := Below.grown ((HBw.out).alloc (HBw.out).size _) hgrow (by simp; omega) (own_ge HRc.out);
             have HRz : Hid (wz.ownsRow w.heap.size 3 1 (.slice (some ⟨gg, 0, none⟩) (kk + 1) cap) (kk + 1) (OT ++ [.int .i64 (x : Int)])) := hown1;
             clear hown1 hgrow hat hlt)
        go_roundg ((mm - (l + 1)) + (ee - r) + 1)
        case rel => exact ⟨(l + 1), r, kk + 1, M2 ++ [x], _, _, rfl, by first | rfl | simp, by first | rfl | simp, by omega, by omega, by omega, by omega, rfl, by omega, HGn, by rw [nvs_snoc, ← show OT = _ from HOT.out]; exact HRz, HBz⟩
        case measure => omega
       ·obtain rfl : D = false := by simpa using hDt
        clear hDt
        obtain ⟨hlm, hst⟩ := tkL_false (HD.out).symm hw hl2 hr2 (by rw [← HN.out]; omega) (by rw [← HN.out]; omega)
        obtain ⟨x, hx⟩ : ∃ x, x = o.getD r 0 := ⟨_, rfl⟩
        rw [← hx] at hst
        have hc : wc.cell? ⟨ob, r, none⟩ = some (.int .i64 (x : Int)) := by
         rw [hx]
         exact (World.cell?_of_block ((HBw.out).block ob hobl)).trans (HOc.out r (by omega))
        have HGn : Hid ((M2 ++ [x]).length = kk + 1 ∧ (M2 ++ [x]) ++ mrg f (seg o l mm) (seg o (r + 1) ee) = pass f W o (q + 1)) := by
         refine ⟨by rw [List.length_append, (HG2.out).1]; rfl, ?_⟩
         rw [List.append_assoc]
         have := (HG2.out).2
         rw [hst] at this
         exact this
        have l0 : (0 : Int) ≤ (r : Int) := by omega
        have l1 : (r : Int) < (N : Int) := by omega
        clear hst hx HG2 HD hw
        go_wp2_with
         (at_builtin;
             refine wpList_append_lies _ (by rfl) _ _ _ (by rfl) w.heap.size 3 i3 _ 1 8 Tryz.underlying24 hi3 hz30 hz31 hz32 rfl (by omega) (.slice rb kk rd) kk OT (by rfl) ((HRc.out).alloc _)
              ⟨wc.heap.size, 0, none⟩ 1 1 [.int .i64 (x : Int)] (by rfl) (by rfl) (World.news_of_block (cs := #[.int .i64 (x : Int)]) (t := 3) (fr := (0, 0)) (heap_alloc_new wc _)) (by simp [Value.oneCell'])
              (by omega) (by unfold maxLen; omega) (by omega) (by simp; omega) (wc.heap.size + 1) (by simp) ?_;
             intro gg cap wz hown1 hgrow hat hlt;
             have HBz : Hid (Below w.heap.size w wz) := Below.grown ((HBw.out).alloc (HBw.out).size _) hgrow (by simp; omega) (own_ge HRc.out);
             have HRz : Hid (wz.ownsRow w.heap.size 3 1 (.slice (some ⟨gg, 0, none⟩) (kk + 1) cap) (kk + 1) (OT ++ [.int .i64 (x : Int)])) := hown1;
             clear hown1 hgrow hat hlt)
        go_roundg ((mm - l) + (ee - (r + 1)) + 1)
        case rel => exact ⟨l, (r + 1), kk + 1, M2 ++ [x], _, _, rfl, by first | rfl | simp, by first | rfl | simp, by omega, by omega, by omega, by omega, rfl, by omega, HGn, by rw [nvs_snoc, ← show OT = _ from HOT.out]; exact HRz, HBz⟩
        case measure => omega
     ·have c1' : ¬ (l : Int) < (mm : Int) := by omega
      have c2 : (r : Int) < (ee : Int) := by omega
      have c2' : ((r : Int) == (ee : Int)) = false := by simp; omega
      obtain rfl : D = false := (HD.out).trans (by have h1 : ¬ r = ee := by omega
                                                   simp [tkL, h1, c1])
      go_wp2_with fail
      go_cut [66] (fun t wx => t = .bool false ∧ Hid (Below wi.heap.size wi wx))
      case first =>
       go_quiet (fail)
       go_wp2
       go_meet
       case rel => exact ⟨by first | rfl | simp, belowQ nq⟩
      case rest =>
       obtain ⟨rfl, HBc⟩ := hcut
       have HBw : Hid (Below w.heap.size w wc) := (HB2.out).trans ((HBc.out).mono hszi)
       obtain ⟨OT, hOT⟩ : ∃ OT, OT = nvs M2 := ⟨_, rfl⟩
       have HOT : Hid (OT = nvs M2) := hOT
       have HRc : Hid (wc.ownsRow w.heap.size 3 1 (.slice rb kk rd) kk OT) := by rw [hOT]; exact own_up HR2.out HBc.out
       have hszw := (HBw.out).size
       clear hOT HR2 HB2
       obtain ⟨hlm, hst⟩ := tkL_false (HD.out).symm hw hl2 hr2 (by rw [← HN.out]; omega) (by rw [← HN.out]; omega)
       obtain ⟨x, hx⟩ : ∃ x, x = o.getD r 0 := ⟨_, rfl⟩
       rw [← hx] at hst
       have hc : wc.cell? ⟨ob, r, none⟩ = some (.int .i64 (x : Int)) := by
        rw [hx]
        exact (World.cell?_of_block ((HBw.out).block ob hobl)).trans (HOc.out r (by omega))
       have HGn : Hid ((M2 ++ [x]).length = kk + 1 ∧ (M2 ++ [x]) ++ mrg f (seg o l mm) (seg o (r + 1) ee) = pass f W o (q + 1)) := by
        refine ⟨by rw [List.length_append, (HG2.out).1]; rfl, ?_⟩
        rw [List.append_assoc]
        have := (HG2.out).2
        rw [hst] at this
        exact this
       have l0 : (0 : Int) ≤ (r : Int) := by omega
       have l1 : (r : Int) < (N : Int) := by omega
       clear hst hx HG2 HD hw
       go_wp2_with
        (at_builtin;
            refine wpList_append_lies _ (by rfl) _ _ _ (by rfl) w.heap.size 3 i3 _ 1 8 Tryz.underlying24 hi3 hz30 hz31 hz32 rfl (by omega) (.slice rb kk rd) kk OT (by rfl) ((HRc.out).alloc _)
             ⟨wc.heap.size, 0, none⟩ 1 1 [.int .i64 (x : Int)] (by rfl) (by rfl) (World.news_of_block (cs := #[.int .i64 (x : Int)]) (t := 3) (fr := (0, 0)) (heap_alloc_new wc _)) (by simp [Value.oneCell'])
             (by omega) (by unfold maxLen; omega) (by omega) (by simp; omega) (wc.heap.size + 1) (by simp) ?_;
            intro gg cap wz hown1 hgrow hat hlt;
            have HBz : Hid (Below w.heap.size w wz) := Below.grown ((HBw.out).alloc (HBw.out).size _) hgrow (by simp; omega) (own_ge HRc.out);
            have HRz : Hid (wz.ownsRow w.heap.size 3 1 (.slice (some ⟨gg, 0, none⟩) (kk + 1) cap) (kk + 1) (OT ++ [.int .i64 (x : Int)])) := hown1;
            clear hown1 hgrow hat hlt)
       go_roundg ((mm - l) + (ee - (r + 1)) + 1)
       case rel => exact ⟨l, (r + 1), kk + 1, M2 ++ [x], _, _, rfl, by first | rfl | simp, by first | rfl | simp, by omega, by omega, by omega, by omega, rfl, by omega, HGn, by rw [nvs_snoc, ← show OT = _ from HOT.out]; exact HRz, HBz⟩
       case measure => omega
    ·have c1' : ¬ (l : Int) < (mm : Int) := by omega
     have c2' : ¬ (r : Int) < (ee : Int) := by omega
     have HMe : Hid (M2 = pass f W o (q + 1)) := by
      have h1 := (HG2.out).2
      obtain rfl : l = mm := by omega
      obtain rfl : r = ee := by omega
      rw [seg_nil, seg_nil, mrg_nil, List.append_nil] at h1
      exact h1
     have hMl2 := (HG2.out).1
     have hpq2 : k + 2 * W = (q + 1) * (2 * W) := by rw [Nat.add_mul, Nat.one_mul, ← HPq.out]
     have HX : Hid (M2.length = kk ∧ k + 2 * W = (q + 1) * (2 * W)) := ⟨hMl2, hpq2⟩
     clear HG2 hMl2 hpq2 hw
     go_wp2_with fail
     go_roundg (N + 2 * W + 1 - (k + 2 * W))
     case rel => exact ⟨q + 1, k + 2 * W, M2, rb, rd, kk, rfl, by simp, (HX.out).2, by omega, rfl, (HX.out).1, HMe, HR2, HB2⟩
     case measure => omega
  ·have hpI : ¬ (p : Int) < (N : Int) := by omega
   have hkN : k = N := by
    have := HPl.out q
    rw [← show M = _ from HM.out, hMk, ← hpq] at this
    omega
   subst hkN
   have HE : Hid (k ≤ q * (2 * W) ∧ M.length = k) := ⟨by omega, hMk⟩
   clear hpq hMk
   go_wp2_with fail
   go_ret
   exact ⟨M, ra, rc, rfl, (HE.out).2, ⟨q, (HE.out).1, HM.out⟩, HRo.out, HBr.out⟩
end Go.Proofs.YtejadojilncbjabGreat
