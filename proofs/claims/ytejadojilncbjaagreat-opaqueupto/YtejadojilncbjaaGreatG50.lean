import Derived.Test.YtejadojilncbjaaGreatG41
import Derived.Test.YtejadojilncbjaaGreatG43
import Derived.Test.YtejadojilncbjaaGreatG45
import Derived.Test.YtejadojilncbjaaGreatG49
namespace Go.Proofs.YtejadojilncbjaaGreat
open Go.RowKit
set_option linter.unusedVariables false
attribute [local go_sem ↓] Go.wp_at_zero Go.wp_at_succ

/-- What is asked of the keepers' whole. -/
def WholeGood : Prop := ∀ (c : Cfg) (mem : List Int) (jobs : List (Int × List InsD)) (ps : List PickD) (AN : List (AttD × Value)) (ma ja pa aa la : Option Addr) (mc jc pc ac lc base : Nat) (w : World), SetupOk c mem jobs → (∀ j ∈ jobs, 0 ≤ j.1 ∧ j.1 < c.t) → ps.length ≤ 2097152 → AN.map (·.1) = (⟨c, mem, jobs, ps⟩ : Rn).hist → (∀ q ∈ AN, ∃ a n c, q.2 = Value.slice a n c) →
    JobsRep w w.heap.size ja jobs → PicksIn w w.heap.size pa ps → LogIn w w.heap.size aa (accs c mem jobs ps) → AttsRow w base la lc AN →
    Calls Tryz.prog 25 #[.agg #[.int .i64 c.t, .int .i64 c.wd, .int .i64 c.s, .int .i64 c.g, .int .i64 c.r, .int .i64 c.cp, .int .i64 c.f, .slice ma mem.length mc, .slice ja jobs.length jc], .slice pa ps.length pc, .slice aa ps.length ac, .slice la AN.length lc] w fun e w' => e = .returned (.bool true) ∧ Below w.heap.size w w'

/-! The words one behind the other. -/

def fW (W : List Int) (a : Int) : Int := W.getD a.toNat 0
theorem procOk_congr {wd : Int} : ∀ (l : List AttD) (f g : Int → Int), (∀ a, 0 ≤ a → a < wd → f a = g a) → (∀ x ∈ l, ∀ n ∈ x.notes, 0 ≤ n.addr ∧ n.addr < wd) → procOk f l → procOk g l
  | [], f, g, _, _, _ => trivial
  | x :: r, f, g, h, hb, ⟨h1, h2, h3⟩ => by
    have hx := hb x (by simp)
    refine ⟨fOk_congr x.notes f g (fun n hn => h _ (hx n hn).1 (hx n hn).2) h1, h2, ?_⟩
    refine procOk_congr r _ _ (fun a a0 a1 => ?_) (fun y hy => hb y (by simp [hy])) h3
    split
    · exact overN_at x.notes f g (h a a0 a1)
    · exact h a a0 a1

/-- The words, and the attempts that are to come. -/
structure OI (c : Cfg) (mem : List Int) (l : List AttD) (W : List Int) : Prop where
  len : W.length = mem.length
  pr : procOk (fW W) l
  inn : ∀ x ∈ l, ∀ n ∈ x.notes, (n.op = 7 ∨ n.op = 8) ∧ 0 ≤ n.addr ∧ n.addr < (mem.length : Int)

theorem OI.next {c : Cfg} {mem : List Int} {x : AttD} {l : List AttD} {W : List Int} (h : OI c mem (x :: l) W) : FolOk W x.notes ∧ (∀ y ∈ l, ¬ (0 < y.fin ∧ y.fin < x.start)) ∧ OI c mem l (if x.stamp > 0 then ovL W x.notes else W) := by
  obtain ⟨h1, ⟨p1, p2, p3⟩, h3⟩ := h
  have hx := h3 x (by simp)
  have hf : ∀ a : Nat, a < W.length → fW W (a : Int) = W.getD a 0 := fun a _ => rfl
  have hb : ∀ m ∈ x.notes, (m.op = 7 ∨ m.op = 8) ∧ 0 ≤ m.addr ∧ m.addr < (W.length : Int) := fun m hm => by rw [h1]; exact hx m hm
  refine ⟨folOk hf p1 hb, p2, ?_, ?_, fun y hy => h3 y (by simp [hy])⟩
  · split
    · rw [ovL_len W _ _ rfl]; exact h1
    · exact h1
  · refine procOk_congr (wd := (mem.length : Int)) l _ _ (fun a a0 a1 => ?_) (fun y hy n hn => (h3 y (by simp [hy]) n hn).2) p3
    have e : (0 < x.stamp) = (x.stamp > 0) := rfl
    by_cases hs : x.stamp > 0
    · rw [if_pos hs, if_pos hs]
      obtain ⟨A, hA⟩ := Int.eq_ofNat_of_zero_le a0
      have hA' : a = (A : Int) := hA
      rw [hA']
      exact ovL_get hf _ x.notes rfl (fun m hm => (hb m hm).2) A (by omega)
    · rw [if_neg hs, if_neg hs]

theorem OI.start {R : Rn} (O : R.Ok) : OI R.c R.mem R.ord R.mem := by
  have hw := O.w
  refine ⟨rfl, opaque_ord O _ (fun a a0 a1 => ?_), fun x hx n hn => ?_⟩
  · rw [show (R.gh R.ps.length).W 0 a = startVal R.c R.mem (3 + 2 * R.c.s + R.c.t + a) from gh_zero R.c R.mem R.jobs R.ps O.c O.w O.m R.ps.length 0 _ rfl]
    unfold startVal wordBase fW
    rw [if_pos (by omega), show 3 + 2 * R.c.s + R.c.t + a - (3 + 2 * R.c.s + R.c.t) = a by omega]
  · have h := (hist_ok O ((hord_mem _).1 hx)).inn n hn
    refine ⟨h.1, h.2.1, ?_⟩
    have h2 : n.addr < R.c.wd := h.2.2
    omega

end Go.Proofs.YtejadojilncbjaaGreat
