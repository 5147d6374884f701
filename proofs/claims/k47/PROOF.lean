import PyProof.Rows.All
import Wide.All
import OpenK.AllK
import Wide.FinOn
import HandS.ForMost
import HandS.Evl
import HandS.WideBits
import HandS.WideMore
import HandS.Style
import HandS.IsInst
import HandS.OwnEq
import HandS.Iter
import HandS.Gcd
import HandS.SortKw
import KE.KMathGC
import KE.DatumOrd
import HandS.Sort
import HandS.Walk
import HandS.Ends
import PyProof.ReprRoads
import HandS.Deep
import HandS.Text
import PySem.Challenge.RW_wholesound_k47_gains_and_halves
namespace M41
def qs (fs : List Int) (k : Nat) : Int := (fs.map fun u => u / 2 ^ k).sum
def cst (fs : List Int) (k : Nat) : Int := qs fs k + (fs.length : Int) * (1 + (k : Int))
def hs (fs : List Int) (k : Nat) : Int := (fs.map fun u => (u / 2 ^ k + 1) / 2).sum
def ris (fs : List Int) (k : Nat) : Int := (fs.length : Int) - hs fs k
def Good (fs : List Int) : Prop := ∀ u ∈ fs, 0 ≤ u ∧ u < 2 ^ 40
theorem half_next (u : Int) (k : Nat) : u / 2 ^ (k + 1) = u / 2 ^ k / 2 := by
  rw [Int.pow_succ, Int.ediv_ediv_of_nonneg (Int.le_of_lt (Int.pow_pos (by decide)))]
theorem qs_step : ∀ (fs : List Int) (k : Nat), qs fs k - qs fs (k + 1) = hs fs k
  | [], k => rfl
  | u :: r, k => by
    have ih := qs_step r k
    unfold qs hs at ih ⊢
    simp only [List.map_cons, List.sum_cons]
    rw [half_next u k]
    omega
theorem cst_step (fs : List Int) (k : Nat) : cst fs (k + 1) - cst fs k = ris fs k := by
  have h := qs_step fs k
  unfold cst ris
  have e : (fs.length : Int) * (1 + ((k + 1 : Nat) : Int)) = (fs.length : Int) * (1 + (k : Int)) + (fs.length : Int) := by
    rw [show (1 + ((k + 1 : Nat) : Int)) = (1 + (k : Int)) + 1 by omega, Int.mul_add, Int.mul_one]
  omega
theorem hs_step : ∀ (fs : List Int) (k : Nat), (∀ u ∈ fs, 0 ≤ u) → hs fs (k + 1) ≤ hs fs k
  | [], k, _ => Int.le_refl _
  | u :: r, k, h => by
    have ih := hs_step r k fun x hx => h x (List.mem_cons_of_mem _ hx)
    have hu := h u List.mem_cons_self
    unfold hs at ih ⊢
    simp only [List.map_cons, List.sum_cons]
    rw [half_next u k]
    have : 0 ≤ u / 2 ^ k := Int.ediv_nonneg hu (Int.le_of_lt (Int.pow_pos (by decide)))
    omega
theorem ris_step {fs : List Int} (g : Good fs) (k : Nat) : ris fs k ≤ ris fs (k + 1) := by
  have := hs_step fs k fun u hu => (g u hu).1
  unfold ris
  omega
theorem ris_mono {fs : List Int} (g : Good fs) {j k : Nat} (h : j ≤ k) : ris fs j ≤ ris fs k := by
  induction h with
  | refl => exact Int.le_refl _
  | step _ ih => exact Int.le_trans ih (ris_step g _)
theorem hs_far : ∀ (fs : List Int), (∀ u ∈ fs, 0 ≤ u ∧ u < 2 ^ 40) → hs fs 40 = 0
  | [], _ => rfl
  | u :: r, h => by
    have ih := hs_far r fun x hx => h x (List.mem_cons_of_mem _ hx)
    have hu := h u List.mem_cons_self
    unfold hs at ih ⊢
    simp only [List.map_cons, List.sum_cons]
    rw [ih, Int.ediv_eq_zero_of_lt hu.1 hu.2]
    decide
theorem ris_far {fs : List Int} (g : Good fs) (ne : fs ≠ []) : 0 < ris fs 40 := by
  unfold ris
  rw [hs_far fs g]
  cases fs with
  | nil => exact absurd rfl ne
  | cons a r =>
    rw [List.length_cons]
    omega
/-- least k from `a`, within n, of which p -/
def seek (p : Nat → Bool) : Nat → Nat → Nat
  | 0, a => a
  | n + 1, a => if p a then a else seek p n (a + 1)
theorem seek_ge (p : Nat → Bool) : ∀ (n a : Nat), a ≤ seek p n a
  | 0, a => Nat.le_refl _
  | n + 1, a => by
    unfold seek
    split
    · exact Nat.le_refl _
    · exact Nat.le_trans (Nat.le_succ a) (seek_ge p n (a + 1))
theorem seek_not (p : Nat → Bool) : ∀ (n a j : Nat), a ≤ j → j < seek p n a → p j = false
  | 0, a, j, h1, h2 => by unfold seek at h2; omega
  | n + 1, a, j, h1, h2 => by
    unfold seek at h2
    split at h2
    · omega
    · rename_i hp
      by_cases e : j = a
      · rw [e]; simpa using hp
      · exact seek_not p n (a + 1) j (by omega) h2
theorem seek_is (p : Nat → Bool) : ∀ (n a j : Nat), a ≤ j → j ≤ a + n → p j = true → p (seek p n a) = true
  | 0, a, j, h1, h2, hp => by
    have e : j = a := by omega
    unfold seek
    rw [← e]; exact hp
  | n + 1, a, j, h1, h2, hp => by
    unfold seek
    split
    · assumption
    · rename_i q
      by_cases e : j = a
      · rw [e] at hp; exact absurd hp q
      · exact seek_is p n (a + 1) j (by omega) (by omega) hp
theorem seek_le (p : Nat → Bool) : ∀ (n a j : Nat), a ≤ j → p j = true → seek p n a ≤ j
  | 0, a, j, h1, _ => by unfold seek; exact h1
  | n + 1, a, j, h1, hp => by
    unfold seek
    split
    · exact h1
    · rename_i q
      by_cases e : j = a
      · rw [e] at hp; exact absurd hp q
      · exact seek_le p n (a + 1) j (by omega) hp
def firstW (fs : List Int) : Nat := seek (fun k => decide (0 ≤ ris fs k)) 40 0
def lastW (fs : List Int) : Nat := seek (fun k => decide (ris fs k ≠ 0)) 40 (firstW fs)
structure LW (fs : List Int) (f l : Nat) : Prop where
  lo : ∀ j, j < f → ris fs j < 0
  at0 : 0 ≤ ris fs f
  mid : ∀ j, f ≤ j → j < l → ris fs j = 0
  fl : f ≤ l
  hi : 0 < ris fs l
  l40 : l ≤ 40
theorem lw {fs : List Int} (g : Good fs) (ne : fs ≠ []) : LW fs (firstW fs) (lastW fs) := by
  have far := ris_far g ne
  have f40 : firstW fs ≤ 40 := seek_le _ 40 0 40 (by omega) (by simp; omega)
  have l40 : lastW fs ≤ 40 := seek_le _ 40 (firstW fs) 40 f40 (by simp; omega)
  have fl : firstW fs ≤ lastW fs := seek_ge _ _ _
  have a0 : 0 ≤ ris fs (firstW fs) := by
    have := seek_is (fun k => decide (0 ≤ ris fs k)) 40 0 40 (by omega) (by omega) (by simp; omega)
    simpa [firstW] using this
  have hn : ris fs (lastW fs) ≠ 0 := by
    have := seek_is (fun k => decide (ris fs k ≠ 0)) 40 (firstW fs) 40 f40 (by omega) (by simp; omega)
    simpa [lastW] using this
  refine ⟨fun j hj => ?_, a0, fun j h1 h2 => ?_, fl, ?_, l40⟩
  · have := seek_not (fun k => decide (0 ≤ ris fs k)) 40 0 j (by omega) hj
    simp at this
    omega
  · have := seek_not (fun k => decide (ris fs k ≠ 0)) 40 (firstW fs) j h1 h2
    simpa using this
  · have := ris_mono g fl
    omega
theorem cst_flat {fs : List Int} {f l : Nat} (h : LW fs f l) : ∀ k, f ≤ k → k ≤ l → cst fs k = cst fs f := by
  intro k h1
  induction h1 with
  | refl => intro _; rfl
  | @step m hm ih =>
    intro h2
    have a := ih (by omega)
    have b := h.mid m hm (by omega)
    have c := cst_step fs m
    show cst fs (m + 1) = _
    omega
theorem cst_up {fs : List Int} {f l : Nat} (g : Good fs) (h : LW fs f l) : ∀ k, l < k → cst fs f < cst fs k := by
  intro k hk
  have base : cst fs f < cst fs (l + 1) := by
    have a := cst_flat h l h.fl (Nat.le_refl _)
    have b := cst_step fs l
    have c := h.hi
    omega
  obtain ⟨d, rfl⟩ : ∃ d, k = l + 1 + d := ⟨k - (l + 1), by omega⟩
  induction d with
  | zero => exact base
  | succ n ih =>
    have a := ih (by omega)
    have b := cst_step fs (l + 1 + n)
    have c := ris_mono g (show l ≤ l + 1 + n by omega)
    have d := h.hi
    show cst fs f < cst fs (l + 1 + n + 1)
    omega
theorem cst_down {fs : List Int} {f l : Nat} (h : LW fs f l) : ∀ d k, k + d = f → 0 < d → cst fs f < cst fs k := by
  intro d
  induction d with
  | zero => intro k _ h; omega
  | succ n ih =>
    intro k e _
    have b := cst_step fs k
    have c := h.lo k (by omega)
    by_cases z : n = 0
    · subst z
      have : f = k + 1 := by omega
      subst this
      omega
    · have a := ih (k + 1) (by omega) (by omega)
      omega
theorem cst_least {fs : List Int} {f l : Nat} (g : Good fs) (h : LW fs f l) (k : Nat) : cst fs f ≤ cst fs k := by
  by_cases h1 : k < f
  · exact Int.le_of_lt (cst_down h (f - k) k (by omega) (by omega))
  · by_cases h2 : k ≤ l
    · rw [cst_flat h k (by omega) h2]; exact Int.le_refl _
    · exact Int.le_of_lt (cst_up g h k (by omega))
theorem cst_eq_iff {fs : List Int} {f l : Nat} (g : Good fs) (h : LW fs f l) (k : Nat) : cst fs k = cst fs f ↔ f ≤ k ∧ k ≤ l := by
  constructor
  · intro e
    by_cases h1 : k < f
    · have := cst_down h (f - k) k (by omega) (by omega); omega
    · by_cases h2 : k ≤ l
      · omega
      · have := cst_up g h k (by omega); omega
  · rintro ⟨a, b⟩; exact cst_flat h k a b
theorem wid : ∀ f < 45, ∀ l < 45, f ≤ l → ((List.range 45).filter (fun k => decide (f ≤ k ∧ k ≤ l)))[0]? = some f ∧ ((List.range 45).filter (fun k => decide (f ≤ k ∧ k ≤ l))).getLast? = some l := by
  decide +kernel
/-! reversal and joining -/
theorem sum_app : ∀ (a b : List Int), (a ++ b).sum = a.sum + b.sum
  | [], b => by simp
  | x :: r, b => by
    rw [List.cons_append, List.sum_cons, List.sum_cons, sum_app r b]
    omega
theorem sum_rev : ∀ (a : List Int), a.reverse.sum = a.sum
  | [] => rfl
  | x :: r => by
    rw [List.reverse_cons, sum_app, sum_rev r, List.sum_cons, List.sum_cons]
    simp
    omega
theorem hs_rev (fs : List Int) (k : Nat) : hs fs.reverse k = hs fs k := by
  unfold hs
  rw [List.map_reverse, sum_rev]
theorem qs_rev (fs : List Int) (k : Nat) : qs fs.reverse k = qs fs k := by
  unfold qs
  rw [List.map_reverse, sum_rev]
theorem ris_rev (fs : List Int) : ris fs.reverse = ris fs := by
  funext k
  unfold ris
  rw [hs_rev, List.length_reverse]
theorem cst_rev (fs : List Int) : cst fs.reverse = cst fs := by
  funext k
  unfold cst
  rw [qs_rev, List.length_reverse]
theorem first_rev (fs : List Int) : firstW fs.reverse = firstW fs := by unfold firstW; rw [ris_rev]
theorem last_rev (fs : List Int) : lastW fs.reverse = lastW fs := by unfold lastW; rw [ris_rev, first_rev]
theorem good_rev {fs : List Int} (g : Good fs) : Good fs.reverse := fun u hu => g u (List.mem_reverse.mp hu)
theorem cst_app (a b : List Int) (k : Nat) : cst (a ++ b) k = cst a k + cst b k := by
  unfold cst qs
  rw [List.map_append, sum_app, List.length_append, Int.natCast_add, Int.add_mul]
  omega
def lp (fs : List Int) : Int := if fs = [] then 0 else cst fs (firstW fs)
theorem lp_le {fs : List Int} (g : Good fs) (k : Nat) : lp fs ≤ cst fs k := by
  unfold lp
  split
  · rename_i e; subst e; unfold cst qs; simp
  · rename_i e; exact cst_least g (lw g e) k
theorem lp_app {a b : List Int} (ga : Good a) (gb : Good b) : lp a + lp b ≤ lp (a ++ b) := by
  by_cases e : a ++ b = []
  · obtain ⟨rfl, rfl⟩ := List.append_eq_nil_iff.mp e
    decide
  · have h : lp (a ++ b) = cst (a ++ b) (firstW (a ++ b)) := by unfold lp; rw [if_neg e]
    rw [h, cst_app]
    have := lp_le ga (firstW (a ++ b))
    have := lp_le gb (firstW (a ++ b))
    omega
end M41

namespace M47
open M41
theorem lp_first (fs : List Int) : lp fs = cst fs (firstW fs) := by
  unfold lp
  split
  · rename_i e
    subst e
    decide
  · rfl
def Bel (b : Nat) (fs : List Int) : Prop := ∀ u ∈ fs, 0 ≤ u ∧ u < 2 ^ b
theorem two_pos (k : Nat) : (0 : Int) < 2 ^ k := Int.pow_pos (by decide)
theorem two_mono {a b : Nat} (h : a ≤ b) : (2 : Int) ^ a ≤ 2 ^ b := by
  induction h with
  | refl => exact Int.le_refl _
  | @step m _ ih =>
    have := two_pos m
    rw [Int.pow_succ]
    omega
theorem Bel.good {b : Nat} {fs : List Int} (h : Bel b fs) (hb : b ≤ 40) : Good fs := fun u hu => ⟨(h u hu).1, Int.lt_of_lt_of_le (h u hu).2 (two_mono hb)⟩
theorem Bel.app {b : Nat} {fs gs : List Int} (h : Bel b fs) (k : Bel b gs) : Bel b (fs ++ gs) := fun u hu => by
  rcases List.mem_append.mp hu with q | q
  · exact h u q
  · exact k u q
theorem Bel.rep {b n : Nat} {u : Int} (h0 : 0 ≤ u) (h1 : u < 2 ^ b) : Bel b (List.replicate n u) := fun v hv => by
  rw [List.eq_of_mem_replicate hv]
  exact ⟨h0, h1⟩
theorem hs_bel : ∀ {b : Nat} {fs : List Int}, Bel b fs → hs fs b = 0
  | _, [], _ => rfl
  | b, u :: r, h => by
    have ih := hs_bel (b := b) (fs := r) fun x hx => h x (List.mem_cons_of_mem _ hx)
    have hu := h u List.mem_cons_self
    unfold hs at ih ⊢
    simp only [List.map_cons, List.sum_cons]
    rw [ih, Int.ediv_eq_zero_of_lt hu.1 hu.2]
    decide
theorem first_bel {b : Nat} {fs : List Int} (h : Bel b fs) (hb : b ≤ 40) : firstW fs ≤ b := seek_le _ 40 0 b (by omega) (by
  unfold ris
  rw [hs_bel h]
  simp)
/-- the gain of a cut -/
def gn (A B : List Int) : Int := lp (A ++ B) - lp A - lp B
theorem gn_nonneg {A B : List Int} (ga : Good A) (gb : Good B) : 0 ≤ gn A B := by
  have := lp_app ga gb
  unfold gn
  omega
theorem good_app {A B : List Int} (ga : Good A) (gb : Good B) : Good (A ++ B) := fun u hu => by
  rcases List.mem_append.mp hu with q | q
  · exact ga u q
  · exact gb u q
theorem lp_swap {A B : List Int} (ga : Good A) (gb : Good B) : lp (A ++ B) = lp (B ++ A) := by
  have e : ∀ k, cst (A ++ B) k = cst (B ++ A) k := fun k => by rw [cst_app, cst_app]; omega
  have h1 := lp_le (good_app ga gb) (firstW (B ++ A))
  have h2 := lp_le (good_app gb ga) (firstW (A ++ B))
  rw [e, ← lp_first] at h1
  rw [← e, ← lp_first] at h2
  omega
theorem gn_swap {A B : List Int} (ga : Good A) (gb : Good B) : gn A B = gn B A := by
  unfold gn
  rw [lp_swap ga gb]
  omega
def zs (n : Nat) : List Int := List.replicate n 0
def fl (m b : Nat) : List Int := List.replicate m (2 ^ b - 1)
def gb (n m b : Nat) : Int := gn (zs n) (fl m b)
theorem zs_bel (n b : Nat) : Bel b (zs n) := .rep (Int.le_refl _) (two_pos b)
theorem fl_bel (m b : Nat) : Bel b (fl m b) := .rep (by have := two_pos b; omega) (by omega)
theorem sum_rep (u : Int) : ∀ n : Nat, (List.replicate n u).sum = n * u
  | 0 => by simp
  | n + 1 => by
    rw [List.replicate_succ, List.sum_cons, sum_rep u n]
    rw [show ((n + 1 : Nat) : Int) = (n : Int) + 1 by omega, Int.add_mul]
    omega
theorem cst_rep (n : Nat) (u : Int) (k : Nat) : cst (List.replicate n u) k = n * (u / 2 ^ k + 1 + k) := by
  unfold cst qs
  rw [List.map_replicate, sum_rep, List.length_replicate, ← Int.mul_add, show u / 2 ^ k + (1 + (k : Int)) = u / 2 ^ k + 1 + k by omega]
theorem cst_zs (n k : Nat) : cst (zs n) k = n * (1 + (k : Int)) := by
  unfold zs
  rw [cst_rep, Int.zero_ediv, Int.zero_add]
theorem full_div {b k : Nat} (hk : k ≤ b) : ((2 : Int) ^ b - 1) / 2 ^ k = 2 ^ (b - k) - 1 := by
  have hp := two_pos k
  have e : (2 : Int) ^ b = 2 ^ (b - k) * 2 ^ k := by rw [← Int.pow_add, Nat.sub_add_cancel hk]
  have e2 : (2 : Int) ^ b - 1 = (2 ^ k - 1) + (2 ^ (b - k) - 1) * 2 ^ k := by rw [Int.sub_mul, e]; omega
  rw [e2, Int.add_mul_ediv_right _ _ (by omega), Int.ediv_eq_zero_of_lt (by omega) (by omega), Int.zero_add]
theorem cst_fl {m b k : Nat} (hk : k ≤ b) : cst (fl m b) k = m * (2 ^ (b - k) + (k : Int)) := by
  unfold fl
  rw [cst_rep, full_div hk, show (2 : Int) ^ (b - k) - 1 + 1 + (k : Int) = 2 ^ (b - k) + k by omega]
theorem lp_zs (n : Nat) : lp (zs n) = n := by
  have h0 := lp_le ((zs_bel n 0).good (by decide)) 0
  rw [lp_first, cst_zs]
  rw [lp_first, cst_zs, cst_zs] at h0
  have := Int.mul_le_mul_of_nonneg_left (show (1 : Int) ≤ 1 + (firstW (zs n) : Int) by omega) (Int.natCast_nonneg n)
  simp at h0 this ⊢
  omega
def ee (c : Nat) : Int := 2 ^ c - 1 - (c : Int)
theorem ee_step (c : Nat) : ee (c + 1) = ee c + (2 ^ c - 1) := by
  unfold ee
  rw [Int.pow_succ]
  omega
theorem ee_mono {a b : Nat} (h : a ≤ b) : ee a ≤ ee b := by
  induction h with
  | refl => exact Int.le_refl _
  | @step m _ ih =>
    have := ee_step m
    have := two_pos m
    show ee a ≤ ee (m + 1)
    omega
theorem ee_nonneg (c : Nat) : 0 ≤ ee c := ee_mono (Nat.zero_le c)
theorem hs_nonneg : ∀ (fs : List Int) (k : Nat), (∀ u ∈ fs, 0 ≤ u) → 0 ≤ hs fs k
  | [], _, _ => Int.le_refl _
  | u :: r, k, h => by
    have ih := hs_nonneg r k fun x hx => h x (List.mem_cons_of_mem _ hx)
    have : 0 ≤ u / 2 ^ k := Int.ediv_nonneg (h u List.mem_cons_self) (Int.le_of_lt (two_pos k))
    unfold hs at ih ⊢
    simp only [List.map_cons, List.sum_cons]
    omega
theorem up_many {b : Nat} {fs : List Int} (h : Bel b fs) {k k' : Nat} (hk : k ≤ k') : cst fs k' - cst fs k ≤ fs.length * ((k' : Int) - k) := by
  induction hk with
  | refl => simp
  | @step m hm ih =>
    have s := cst_step fs m
    have p := hs_nonneg fs m fun u hu => (h u hu).1
    unfold ris at s
    have e : (fs.length : Int) * (((m + 1 : Nat) : Int) - k) = fs.length * ((m : Int) - k) + fs.length := by
      rw [show ((m + 1 : Nat) : Int) - k = ((m : Int) - k) + 1 by omega, Int.mul_add, Int.mul_one]
    show cst fs (m + 1) - cst fs k ≤ (fs.length : Int) * (((m + 1 : Nat) : Int) - k)
    omega
theorem hs_le : ∀ {b : Nat} {fs : List Int} {k c : Nat}, Bel b fs → b = k + (c + 1) → hs fs k ≤ fs.length * 2 ^ c
  | _, [], _, _, _, _ => by unfold hs; simp
  | b, u :: r, k, c, h, e => by
    have ih := hs_le (b := b) (fs := r) (k := k) (c := c) (fun x hx => h x (List.mem_cons_of_mem _ hx)) e
    have hu := h u List.mem_cons_self
    have hq : u / 2 ^ k < 2 ^ (c + 1) := by
      refine Int.ediv_lt_of_lt_mul (two_pos k) ?_
      rw [← Int.pow_add, Nat.add_comm, ← e]
      exact hu.2
    rw [Int.pow_succ] at hq
    unfold hs at ih ⊢
    simp only [List.map_cons, List.sum_cons, List.length_cons]
    rw [show ((r.length + 1 : Nat) : Int) = (r.length : Int) + 1 by omega, Int.add_mul]
    omega
theorem down_many {b : Nat} {fs : List Int} (h : Bel b fs) {k k' : Nat} (hk : k ≤ k') (hb : k' ≤ b) : cst fs k - cst fs k' ≤ fs.length * (ee (b - k) - ee (b - k')) := by
  induction hk with
  | refl => simp
  | @step m hm ih =>
    have ih := ih (by omega)
    have s := cst_step fs m
    have p := hs_le (fs := fs) (k := m) (c := b - (m + 1)) h (by omega)
    unfold ris at s
    have e1 : ee (b - m) = ee (b - (m + 1)) + (2 ^ (b - (m + 1)) - 1) := by
      rw [← ee_step, show b - (m + 1) + 1 = b - m by omega]
    have e2 : (fs.length : Int) * (ee (b - k) - ee (b - (m + 1))) = fs.length * (ee (b - k) - ee (b - m)) + (fs.length * 2 ^ (b - (m + 1)) - fs.length) := by
      rw [show ee (b - k) - ee (b - (m + 1)) = (ee (b - k) - ee (b - m)) + (2 ^ (b - (m + 1)) - 1) by omega, Int.mul_add, Int.mul_sub (fs.length : Int) (2 ^ _) 1, Int.mul_one]
    show cst fs k - cst fs (m + 1) ≤ (fs.length : Int) * (ee (b - k) - ee (b - (m + 1)))
    omega
theorem gb_ge {n m b : Nat} (hb : b ≤ 40) : ∃ k, k ≤ b ∧ (n : Int) * k + m * ee (b - k) ≤ gb n m b := by
  have F : firstW (zs n ++ fl m b) ≤ b := first_bel ((zs_bel n b).app (fl_bel m b)) hb
  refine ⟨firstW (zs n ++ fl m b), F, ?_⟩
  have h1 := lp_le ((fl_bel m b).good hb) b
  unfold gb gn
  rw [lp_zs, lp_first (zs n ++ fl m b), cst_app, cst_zs, cst_fl F]
  rw [cst_fl (Nat.le_refl b), Nat.sub_self] at h1
  generalize firstW (zs n ++ fl m b) = k at F
  have e : (m : Int) * (2 ^ (b - k) + (k : Int)) = m * ee (b - k) + m * (2 ^ 0 + (b : Int)) := by
    rw [← Int.mul_add]
    congr 1
    unfold ee
    have : ((b - k : Nat) : Int) = (b : Int) - k := by omega
    omega
  rw [Int.mul_add, Int.mul_one]
  omega
theorem gain_half {b : Nat} {A B : List Int} (ha : Bel b A) (hB : Bel b B) (hb : b ≤ 40) (h : firstW A ≤ firstW B) : gn A B ≤ gb A.length B.length b := by
  obtain ⟨k, hk, G⟩ := gb_ge (n := A.length) (m := B.length) hb
  have FB := first_bel hB hb
  refine Int.le_trans ?_ G
  unfold gn
  rw [lp_first A, lp_first B]
  have lpk : ∀ j, lp (A ++ B) ≤ cst A j + cst B j := fun j => by
    rw [← cst_app]
    exact lp_le ((ha.app hB).good hb) j
  have nn : ∀ {x : Int}, 0 ≤ x → 0 ≤ (A.length : Int) * x := fun hx => Int.mul_nonneg (Int.natCast_nonneg _) hx
  have mm : ∀ {x y : Int}, x ≤ y → (B.length : Int) * x ≤ B.length * y := fun hx => Int.mul_le_mul_of_nonneg_left hx (Int.natCast_nonneg _)
  have nm : ∀ {x y : Int}, x ≤ y → (A.length : Int) * x ≤ A.length * y := fun hx => Int.mul_le_mul_of_nonneg_left hx (Int.natCast_nonneg _)
  have z : (B.length : Int) * 0 ≤ B.length * ee (b - k) := mm (ee_nonneg _)
  rw [Int.mul_zero] at z
  by_cases c1 : k < firstW A
  · have l := lpk (firstW A)
    have d := down_many hB h FB
    have m1 : (B.length : Int) * (ee (b - firstW A) - ee (b - firstW B)) ≤ B.length * ee (b - k) := mm (by
      have := ee_nonneg (b - firstW B)
      have := ee_mono (show b - firstW A ≤ b - k by omega)
      omega)
    have p := nn (x := (k : Int)) (by omega)
    omega
  · by_cases c2 : k ≤ firstW B
    · have l := lpk k
      have u := up_many ha (show firstW A ≤ k by omega)
      have d := down_many hB c2 FB
      have m1 : (B.length : Int) * (ee (b - k) - ee (b - firstW B)) ≤ B.length * ee (b - k) := mm (by
        have := ee_nonneg (b - firstW B)
        omega)
      have m2 := nm (show ((k : Int) - firstW A) ≤ k by omega)
      omega
    · have l := lpk (firstW B)
      have u := up_many ha h
      have m2 := nm (show ((firstW B : Int) - firstW A) ≤ k by omega)
      omega
/-- the greatest gain -/
def mg (n m b : Nat) : Int := if gb m n b ≤ gb n m b then gb n m b else gb m n b
theorem gain_le {b : Nat} {A B : List Int} (ha : Bel b A) (hB : Bel b B) (hb : b ≤ 40) : gn A B ≤ mg A.length B.length b := by
  have m1 : gb A.length B.length b ≤ mg A.length B.length b := by unfold mg; split <;> omega
  have m2 : gb B.length A.length b ≤ mg A.length B.length b := by unfold mg; split <;> omega
  rcases Nat.le_total (firstW A) (firstW B) with h | h
  · exact Int.le_trans (gain_half ha hB hb h) m1
  · rw [gn_swap (ha.good hb) (hB.good hb)]
    exact Int.le_trans (gain_half hB ha hb h) m2
theorem mg_swap (n m b : Nat) : mg m n b = mg n m b := by
  unfold mg
  split <;> split <;> omega
theorem mg_nonneg (n m : Nat) {b : Nat} (hb : b ≤ 40) : 0 ≤ mg n m b := by
  have h1 := gn_nonneg ((zs_bel n b).good hb) ((fl_bel m b).good hb)
  have h2 := gn_nonneg ((zs_bel m b).good hb) ((fl_bel n b).good hb)
  unfold mg gb
  split <;> assumption
/-- two rows that have it -/
def rA (n m b : Nat) : List Int := if gb n m b = mg n m b then zs n else fl n b
def rB (n m b : Nat) : List Int := if gb n m b = mg n m b then fl m b else zs m
theorem r_gain {n m b : Nat} (hb : b ≤ 40) : gn (rA n m b) (rB n m b) = mg n m b := by
  unfold rA rB
  by_cases h : gb n m b = mg n m b
  · rw [if_pos h, if_pos h]
    exact h
  · rw [if_neg h, if_neg h, gn_swap ((fl_bel n b).good hb) ((zs_bel m b).good hb)]
    show gb m n b = mg n m b
    unfold mg at h ⊢
    split at h
    · exact absurd rfl h
    · rename_i q
      rw [if_neg q]
theorem rA_len (n m b : Nat) : (rA n m b).length = n := by unfold rA zs fl; split <;> rw [List.length_replicate]
theorem rB_len (n m b : Nat) : (rB n m b).length = m := by unfold rB zs fl; split <;> rw [List.length_replicate]
theorem rA_bel (n m b : Nat) : Bel b (rA n m b) := by unfold rA; split; exact zs_bel _ _; exact fl_bel _ _
theorem rB_bel (n m b : Nat) : Bel b (rB n m b) := by unfold rB; split; exact fl_bel _ _; exact zs_bel _ _
end M47

namespace M47
open M41
def prt (fs : List Int) (s i : Nat) : List Int := (fs.drop (i * s)).take s
def sumP (fs : List Int) (s n : Nat) : Int := ((List.range n).map fun i => lp (prt fs s i)).sum
def S (fs : List Int) (p : Nat) : Int := sumP fs (fs.length / 2 ^ p) (2 ^ p)
theorem prt_two (fs : List Int) (s i : Nat) : prt fs (2 * s) i = prt fs s (2 * i) ++ prt fs s (2 * i + 1) := by
  unfold prt
  rw [show 2 * s = s + s by omega, List.take_add, List.drop_drop]
  congr 3
  · rw [Nat.mul_comm 2 i, Nat.mul_assoc, show 2 * s = s + s by omega]
  · rw [Nat.add_mul, Nat.mul_comm 2 i, Nat.mul_assoc, show 2 * s = s + s by omega]
    omega
theorem prt_good {fs : List Int} (g : Good fs) (s i : Nat) : Good (prt fs s i) := fun u hu => g u (List.mem_of_mem_drop (List.mem_of_mem_take hu))
theorem sum_two (f g : Nat → Int) : ∀ n, (∀ i, i < n → g (2 * i) + g (2 * i + 1) ≤ f i) → ((List.range (2 * n)).map g).sum ≤ ((List.range n).map f).sum
  | 0, _ => by simp
  | n + 1, h => by
    have ih := sum_two f g n fun i hi => h i (by omega)
    have l := h n (by omega)
    rw [show 2 * (n + 1) = 2 * n + 1 + 1 by omega, List.range_succ, List.range_succ, List.range_succ]
    rw [List.map_append, List.map_append, List.map_append, sum_app, sum_app, sum_app]
    simp at ih l ⊢
    omega
theorem S_fall {fs : List Int} (g : Good fs) {p : Nat} (h : fs.length % 2 ^ (p + 1) = 0) : S fs (p + 1) ≤ S fs p := by
  have e : fs.length / 2 ^ p = 2 * (fs.length / 2 ^ (p + 1)) := by
    obtain ⟨c, hc⟩ := Nat.dvd_of_mod_eq_zero h
    have p0 : 0 < 2 ^ p := Nat.pow_pos (by decide)
    rw [hc, Nat.mul_div_cancel_left _ (Nat.pow_pos (by decide)), Nat.pow_succ, Nat.mul_assoc, Nat.mul_div_cancel_left _ p0]
  unfold S sumP
  rw [e, Nat.pow_succ, Nat.mul_comm (2 ^ p) 2]
  refine sum_two _ _ (2 ^ p) fun i _ => ?_
  rw [prt_two]
  exact lp_app (prt_good g _ _) (prt_good g _ _)
def isDiv (n p : Nat) : Bool := decide (n % 2 ^ p = 0)
theorem div_down {n p : Nat} (h : isDiv n (p + 1) = true) : isDiv n p = true := by
  unfold isDiv at h ⊢
  simp only [decide_eq_true_eq] at h ⊢
  exact Nat.mod_eq_zero_of_dvd (Nat.dvd_trans (Nat.pow_dvd_pow 2 (Nat.le_succ p)) (Nat.dvd_of_mod_eq_zero h))
/-- so many halvings go -/
def P (n most : Nat) : Nat := seek (fun p => !isDiv n p) (most + 1) 0
theorem P_le (n most : Nat) : P n most ≤ most + 1 := by
  unfold P
  have : ∀ k a, seek (fun p => !isDiv n p) k a ≤ a + k := by
    intro k
    induction k with
    | zero => intro a; exact Nat.le_refl _
    | succ k ih =>
      intro a
      unfold seek
      split
      · omega
      · have := ih (a + 1); omega
  have := this (most + 1) 0
  omega
theorem P_in {n most j : Nat} (h : j < P n most) : isDiv n j = true := by
  have := seek_not (fun p => !isDiv n p) (most + 1) 0 j (Nat.zero_le _) h
  simpa using this
theorem P_out {n most j : Nat} (h1 : j ≤ most) (h2 : isDiv n j = false) : P n most ≤ j := seek_le (fun p => !isDiv n p) (most + 1) 0 j (Nat.zero_le _) (by simp [h2])
theorem P_stop {n most : Nat} (h : P n most ≤ most) : isDiv n (P n most) = false := by
  cases e : isDiv n (P n most) with
  | false => rfl
  | true =>
    exfalso
    -- the seek ends at its bound otherwise
    have : ∀ k a, seek (fun p => !isDiv n p) k a < a + k → isDiv n (seek (fun p => !isDiv n p) k a) = false := by
      intro k
      induction k with
      | zero => intro a q; unfold seek at q; omega
      | succ k ih =>
        intro a q
        unfold seek at q ⊢
        split
        · rename_i w; simpa using w
        · rename_i w
          rw [if_neg w] at q
          exact ih (a + 1) (by omega)
    have := this (most + 1) 0 (by show P n most < 0 + (most + 1); omega)
    rw [show seek (fun p => !isDiv n p) (most + 1) 0 = P n most from rfl, e] at this
    cases this
theorem div_mono {n : Nat} : ∀ {i j : Nat}, i ≤ j → isDiv n j = true → isDiv n i = true := by
  intro i j h
  induction h with
  | refl => exact id
  | step _ ih => exact fun q => ih (div_down q)
def sums (fs : List Int) (most : Nat) : List Int := (List.range (P fs.length most)).map (S fs)
theorem S_le {fs : List Int} (g : Good fs) {most : Nat} : ∀ {i j : Nat}, i ≤ j → j < P fs.length most → S fs j ≤ S fs i := by
  intro i j h
  induction h with
  | refl => exact fun _ => Int.le_refl _
  | @step m _ ih =>
    intro q
    have d := P_in q
    unfold isDiv at d
    exact Int.le_trans (S_fall g (by simpa using d)) (ih (by omega))
theorem sums_fall {fs : List Int} (g : Good fs) (most : Nat) : (sums fs most).Pairwise fun a b => b ≤ a := by
  rw [List.pairwise_iff_getElem]
  intro i j hi hj h
  unfold sums at hi hj ⊢
  rw [List.length_map, List.length_range] at hi hj
  rw [List.getElem_map, List.getElem_map, List.getElem_range, List.getElem_range]
  exact S_le g (Nat.le_of_lt h) hj
theorem asc_uniq : ∀ a b : List Int, a.Perm b → a.Pairwise (· ≤ ·) → b.Pairwise (· ≤ ·) → a = b
  | [], b, p, _, _ => (List.nil_perm.mp p).symm
  | x :: r, [], p, _, _ => absurd p.length_eq (by simp)
  | x :: r, y :: t, p, ha, hb => by
    rw [List.pairwise_cons] at ha hb
    have h1 : x ≤ y := by
      rcases List.mem_cons.mp (p.mem_iff.mpr List.mem_cons_self) with e | e
      · omega
      · exact ha.1 y e
    have h2 : y ≤ x := by
      rcases List.mem_cons.mp (p.mem_iff.mp List.mem_cons_self) with e | e
      · omega
      · exact hb.1 x e
    have e : x = y := by omega
    subst e
    rw [asc_uniq r t ((List.perm_cons x).mp p) ha.2 hb.2]
theorem sort_rev {ns ns' : List Int} (p : ns'.Perm ns) (a : ns'.Pairwise (· ≤ ·)) (d : ns.Pairwise fun x y => y ≤ x) : ns'.reverse = ns := by
  have h := asc_uniq ns' ns.reverse (p.trans (List.reverse_perm ns).symm) a (List.pairwise_reverse.mpr d)
  rw [h, List.reverse_reverse]
theorem P_pos (n most : Nat) : 0 < P n most := by
  unfold P seek
  rw [if_neg (by unfold isDiv; simp [Nat.mod_one])]
  exact Nat.lt_of_lt_of_le (by omega) (seek_ge _ most 1)
end M47

set_option Elab.async false
set_option linter.all false
set_option maxRecDepth 100000
set_option maxHeartbeats 2000000
namespace WS
open PySem PySem.Spec PyProof.Rows L2 Evl

/-! ### a power of any size -/
def CPowW (i j : Int) : Prop := 0 ≤ j ∧ (Builtin.Int.intBits i : Int) * j ≤ 2 ^ 27
section
variable {X : Cx}
theorem op_powW : OpR X (binaryOp .Pow) (rI CPowW fun i j => .int (i ^ j.toNat)) := opI fun _ _ _ _ _ _ _ hc q => pow_int hc.1 hc.2 q
end

section
variable {K : PySem.W.Frag} {σ : L2.St} {H H' : Hp} {ta tb te tx tl : TE} {t u : TT} {x y z v : V} {r : R2} {D : Ends} {tu tw tz : TS} {g : TG}
theorem ev_sumN {ns : List Int} (h : EvL te σ H (ns.map V.int)) : Ev (tCB (rSum K) (tCons te tNil)) σ H (.int ns.sum) := fun H1 e Q q =>
  h H1 e _ fun p H2 _ e2 h2 => ⟨p, ns, rfl, sq_of h2, q H2 e2⟩
theorem ev_sum {p : Addr} {ns : List Int} (h : Ev te σ H (.ref p)) (hp : SqL K H p (ns.map V.int)) : Ev (tCB (rSum K) (tCons te tNil)) σ H (.int ns.sum) := fun H1 e Q q =>
  h H1 e _ fun H2 e2 => ⟨p, ns, rfl, ex_l (e.trans e2) hp, q H2 e2⟩
theorem ev_allN {bs : List Bool} (h : EvL te σ H (bs.map V.bl)) : Ev (tCB (rAll K) (tCons te tNil)) σ H (.bl (bs.all id)) := fun H1 e Q q =>
  h H1 e _ fun p H2 _ e2 h2 => ⟨p, bs, rfl, sq_of h2, q H2 e2⟩
theorem ev_min {p : Addr} {ns : List Int} {m : Int} (h : Ev te σ H (.ref p)) (hp : SqL K H p (ns.map V.int)) (hm : m ∈ ns) (hle : ∀ y ∈ ns, m ≤ y) : Ev (tCB (rMin K) (tCons te tNil)) σ H (.int m) := fun H1 e Q q =>
  h H1 e _ fun H2 e2 => ⟨p, ns, rfl, ex_l (e.trans e2) hp, by cases ns with | nil => cases hm | cons a r => simp, fun k hk hkl => by
    have : k = m := Int.le_antisymm (hkl m hm) (hle k hk)
    rw [this]
    exact q H2 e2⟩
def rInt1 : List V → Hp → VK → Prop := fun xs H Q => (∃ i, xs = [.int i] ∧ Q (.int i) H) ∨ ∃ k, xs = [.bl k] ∧ Q (.int (if k then 1 else 0)) H
theorem ev_int {i : Int} (h : Ev te σ H (.int i)) : Ev (tCB rInt1 (tCons te tNil)) σ H (.int i) := fun H1 e Q q =>
  h H1 e _ fun H2 e2 => Or.inl ⟨i, rfl, q H2 e2⟩
theorem ev_intB {k : Bool} (h : Ev te σ H (.bl k)) : Ev (tCB rInt1 (tCons te tNil)) σ H (.int (if k then 1 else 0)) := fun H1 e Q q =>
  h H1 e _ fun H2 e2 => Or.inr ⟨k, rfl, q H2 e2⟩
theorem ev_bits {i : Int} (h : Ev te σ H (.int i)) : Ev (tBits te) σ H (.int (Builtin.Int.intBits i : Nat)) := fun H1 e Q q =>
  h H1 e _ fun H2 e2 => ⟨i, rfl, q H2 e2⟩
/-- isinstance of a scalar -/
theorem ev_isi {ty : Value} {b : Bool} {n : String} (h : Ev te σ H x) (ht : ∀ H1, Ex H H1 → TyX K H1 x ty) (hk : PySem.W.kitOne K ty (.type n) = some b) : Ev (tCB (rIsi K) (tCons te (tCons (tC (.ty n)) tNil))) σ H (.bl b) := fun H1 e Q q =>
  h H1 e _ fun H2 e2 => ⟨x, .ty n, ty, .type n, b, rfl, ClsV.ty n, ht H2 (e.trans e2), hk, q H2 e2⟩
theorem ev_isiI {i : Int} {b : Bool} {n : String} (h : Ev te σ H (.int i)) (hk : kitB "int" n = some b) : Ev (tCB (rIsi K) (tCons te (tCons (tC (.ty n)) tNil))) σ H (.bl b) :=
  ev_isi h (fun _ _ => TyX.base (TyOf.int i)) (kit_ty hk)
theorem ev_isiL {p : Addr} {xs : List V} {b : Bool} {n : String} (h : Ev te σ H (.ref p)) (hp : H p = some (.lst xs)) (hk : kitB "list" n = some b) : Ev (tCB (rIsi K) (tCons te (tCons (tC (.ty n)) tNil))) σ H (.bl b) :=
  ev_isi h (fun _ e => TyX.base (TyOf.lst (e _ _ hp))) (kit_ty hk)
theorem ev_chain {r' : R2} {tc : TE} {w' : V} {k k' : Bool} (ha : Ev ta σ H x) (hb : Ev tb σ H y) (hr : RV r x y H (.bl k)) (hc : Ev tc σ H w') (hr' : RV r' y w' H (.bl k')) : Ev (tChain r r' ta tb tc) σ H (.bl (k && k')) := fun H1 e Q q =>
  ha H1 e _ fun H2 e2 => hb H2 (e.trans e2) _ fun H3 e3 => hr H3 ((e.trans e2).trans e3) _ fun H4 e4 => ⟨k, rfl, by
    have e' := ((e.trans e2).trans e3).trans e4
    cases k with
    | true =>
      rw [if_pos rfl]
      exact hc H4 e' _ fun H5 e5 => hr' H5 (e'.trans e5) Q fun H6 e6 => q H6 ((((e2.trans e3).trans e4).trans e5).trans e6)
    | false =>
      rw [if_neg Bool.false_ne_true]
      exact q H4 ((e2.trans e3).trans e4)⟩
/-- [f(x) for x in ns] -/
theorem given_map {α : Type} (xs : List α) (d : α) (f : α → V) : given xs.length (fun _ => true) (fun i => f (xs.getD i d)) = xs.map f := by
  unfold given
  rw [List.filter_eq_self.mpr (fun _ _ => rfl)]
  apply List.ext_getElem?
  intro i
  rw [List.getElem?_map, List.getElem?_map]
  by_cases h : i < xs.length
  · rw [List.getElem?_range h, List.getElem?_eq_getElem h]
    simp only [Option.map_some]
    rw [List.getD_eq_getElem?_getD, List.getElem?_eq_getElem h] <;> rfl
  · rw [List.getElem?_eq_none (by rw [List.length_range]; omega), List.getElem?_eq_none (by omega)]
    rfl
theorem el_map {a : Addr} {j : Nat} {vs : List Nat} {α : Type} (d : α) {xs : List α} {c : α → V} (f : α → V) (h : Ev tl σ H (.ref a)) (hx : SqL K H a (xs.map c)) (hz : xs.length ≤ 40000) (hw : ∀ x, wipe ((wipe σ vs).set j (some x)) vs = wipe σ vs)
    (he : ∀ (x : α) H1, Ex H H1 → x ∈ xs → Ev te ((wipe σ vs).set j (some (c x))) H1 (f x)) : EvL (tLc (iList K tl) (gName j) tYes te vs) σ H (xs.map f) := by
  rw [← given_map xs d f]
  have hl : (xs.map c).length = xs.length := List.length_map _
  rw [← hl]
  refine el_lcL (fun _ => true) _ h hx (by rw [hl]; exact hz) hw (fun i x H1 e hi => fun H2 _ Q q => q H2 (Ex.refl H2)) (fun i x H1 e hi _ => ?_)
  rw [List.getElem?_map] at hi
  cases hq : xs[i]? with
  | none => rw [hq] at hi; cases hi
  | some y =>
    rw [hq] at hi
    have ey : c y = x := Option.some.inj hi
    rw [← ey, List.getD_eq_getElem?_getD, hq]
    exact he y H1 e (List.mem_of_getElem? hq)
/-- [f(i) for i in range(n)] -/
theorem el_mapR {a : TA} {j : Nat} {vs : List Nat} {n : Nat} (f : Nat → V) (h : EvA a σ H [.int (n : Int)]) (hn : n ≤ 40000) (hw : ∀ x, wipe ((wipe σ vs).set j (some x)) vs = wipe σ vs)
    (he : ∀ (i : Nat) H1, Ex H H1 → i < n → Ev te ((wipe σ vs).set j (some (.int (i : Int)))) H1 (f i)) : EvL (tLc (iRng1 a) (gName j) tYes te vs) σ H ((List.range n).map f) := by
  have k := el_lcR1 (t := tYes) (te := te) (j := j) (vs := vs) (fun _ => true) f h (by omega) hw (fun i H1 e hi => fun H2 _ Q q => q H2 (Ex.refl H2)) (fun i H1 e hi _ => he i H1 e (by omega))
  unfold given at k
  rw [List.filter_eq_self.mpr (fun _ _ => rfl), Int.toNat_natCast] at k
  exact k
theorem et_if {b : Bool} {te1 te2 : TE} (h : EvT t σ H b) (h1 : b = true → Ev te1 σ H v) (h2 : b = false → Ev te2 σ H v) : Ev (tIf t te1 te2) σ H v := ev_if h h1 h2
/-- a call whose argument is a new list -/
theorem ev_callN {sp : Sp} {xs : List V} {E : XK} (h : EvL te σ H xs) (hs : ∀ p H1, H1 p = some (.lst xs) → Ex H H1 → SpV sp [.ref p] H1 z) : Ev (tCall sp [] E (tCons te tNil)) σ H z := fun H1 e Q q =>
  h H1 e _ fun p H2 _ e2 hp => hs p H2 hp (e.trans e2) H2 (Ex.refl H2) Q (fun H3 e3 => q H3 (e2.trans e3)) E
theorem ev_op2 {H0 : Hp} (e : Ex H0 H) (h : Ev te σ H0 v) : Ev te σ H v := h.mono e
end
/-! ### frames where one object may change -/
/-- all that was tracked but at g is as it was -/
def ExB (g : Addr) (H H' : Hp) : Prop := ∀ a o, a ≠ g → H a = some o → H' a = some o
theorem ExB.refl (g : Addr) (H : Hp) : ExB g H H := fun _ _ _ h => h
theorem ExB.trans {g : Addr} {H H1 H2 : Hp} (a : ExB g H H1) (b : ExB g H1 H2) : ExB g H H2 := fun x o n h => b x o n (a x o n h)
theorem ExB.of {g : Addr} {H H1 : Hp} (a : Ex H H1) : ExB g H H1 := fun x o _ h => a x o h
theorem ExB.upd {g : Addr} {H H1 : Hp} {o : HO} (a : ExB g H H1) : ExB g H (upd H1 g o) := fun x u n h => by
  rw [upd_ne n]
  exact a x u n h
theorem exb_new {g : Addr} {H H1 H2 : Hp} (e : Ex H H1) (hg : H g = none) (E : ExB g H1 H2) : Ex H H2 := fun b o h => E b o (ne_of_none h hg) (e b o h)
theorem ExB.back {g : Addr} {H H' : Hp} {o : HO} (e : ExB g H H') (hg : H' g = some o) {p : Addr} (h : H' p = none) : H p = none := by
  cases q : H p with
  | none => rfl
  | some u =>
    by_cases n : p = g
    · rw [n, hg] at h; cases h
    · rw [e p u n q] at h; cases h

/-! ### data: scalars, lists and tuples of them -/
def sD : V → PyData
  | .int i => .int i
  | .bl b => .bool b
  | _ => .none
def isSc : V → Bool
  | .int _ => true
  | .bl _ => true
  | .non => true
  | _ => false
section
variable {K : PySem.W.Frag} {H : Hp}
theorem dp_sc {v : V} (h : isSc v = true) : Dp K H v (sD v) := by
  cases v <;> first | cases h | skip
  · exact .non
  · exact .bl _
  · exact .int _
theorem dpAll_sc : ∀ {vs : List V}, vs.all isSc = true → DpAll K H vs (vs.map sD)
  | [], _ => .nil
  | v :: r, h => by
    rw [List.all_cons, Bool.and_eq_true] at h
    exact .cons (dp_sc h.1) (dpAll_sc h.2)
theorem lay_sc (v : V) : PyData.canLay0 (sD v) = true := by
  cases v <;> rfl
theorem layAll_sc : ∀ vs : List V, PyData.canLayAll0 (vs.map sD) = true
  | [] => rfl
  | v :: r => by
    rw [List.map_cons, PyData.canLayAll0, lay_sc v, layAll_sc r]
    rfl
theorem depth_sc (v : V) : PyData.depth (sD v) = 0 := by
  cases v <;> rfl
theorem depthAll_sc : ∀ vs : List V, PyData.depthAll (vs.map sD) = 0
  | [] => rfl
  | v :: r => by
    rw [List.map_cons, PyData.depthAll, depth_sc v, depthAll_sc r]
    rfl
theorem shaped_tup (vs : List V) : SeqAt.shaped (.tuple (vs.map sD)) = true := by
  unfold SeqAt.shaped
  rw [PyData.canLay0, layAll_sc, PyData.depth, depthAll_sc]
  rfl
theorem shaped_lst (vs : List V) : SeqAt.shaped (.list (vs.map sD)) = true := by
  unfold SeqAt.shaped
  rw [PyData.canLay0, layAll_sc, PyData.depth, depthAll_sc]
  rfl
theorem ints_sc : ∀ ns : List Int, (ns.map V.int).all isSc = true
  | [] => rfl
  | _ :: r => by rw [List.map_cons, List.all_cons, ints_sc r]; rfl
theorem ints_sD (ns : List Int) : (ns.map V.int).map sD = ns.map PyData.int := by rw [List.map_map]; rfl
/-- two tuples with the same scalars -/
theorem rv_neT {a b : Addr} {xs : List V} (ha : H a = some (.tup xs)) (hb : H b = some (.tup xs)) (h : xs.all isSc = true) : RV (rNeD K) (.ref a) (.ref b) H (.bl false) := fun H1 e Q q =>
  ⟨.tuple (xs.map sD), .tuple (xs.map sD), .tup (st_of (e _ _ ha)) (dpAll_sc h), .tup (st_of (e _ _ hb)) (dpAll_sc h), shaped_tup xs, shaped_tup xs, by
    rw [SeqAt.eqv_refl _ (SeqAt.canLay_of_shaped (shaped_tup xs))]
    exact q H1 (Ex.refl H1)⟩
theorem rv_eqT {a b : Addr} {xs : List V} (ha : H a = some (.tup xs)) (hb : H b = some (.tup xs)) (h : xs.all isSc = true) : RV (rEqD K) (.ref a) (.ref b) H (.bl true) := fun H1 e Q q =>
  ⟨.tuple (xs.map sD), .tuple (xs.map sD), .tup (st_of (e _ _ ha)) (dpAll_sc h), .tup (st_of (e _ _ hb)) (dpAll_sc h), shaped_tup xs, shaped_tup xs, by
    rw [SeqAt.eqv_refl _ (SeqAt.canLay_of_shaped (shaped_tup xs))]
    exact q H1 (Ex.refl H1)⟩
/-- two lists of ints -/
theorem rv_eqI {a b : Addr} {ns ms : List Int} (ha : SqL K H a (ns.map V.int)) (hb : SqL K H b (ms.map V.int)) : RV (rEqD K) (.ref a) (.ref b) H (.bl (decide (ns = ms))) := fun H1 e Q q =>
  ⟨.list ((ns.map V.int).map sD), .list ((ms.map V.int).map sD), .lst (ex_l e ha) (dpAll_sc (ints_sc ns)), .lst (ex_l e hb) (dpAll_sc (ints_sc ms)), shaped_lst _, shaped_lst _, by
    rw [ints_sD, ints_sD, PyData.eqv, PySem.W.ked_eqvAll]
    exact q H1 (Ex.refl H1)⟩
theorem rv_neI {a b : Addr} {ns ms : List Int} (ha : SqL K H a (ns.map V.int)) (hb : SqL K H b (ms.map V.int)) : RV (rNeD K) (.ref a) (.ref b) H (.bl (!decide (ns = ms))) := fun H1 e Q q =>
  ⟨.list ((ns.map V.int).map sD), .list ((ms.map V.int).map sD), .lst (ex_l e ha) (dpAll_sc (ints_sc ns)), .lst (ex_l e hb) (dpAll_sc (ints_sc ms)), shaped_lst _, shaped_lst _, by
    rw [ints_sD, ints_sD, PyData.eqv, PySem.W.ked_eqvAll]
    exact q H1 (Ex.refl H1)⟩
end
/-- a new tuple is handed back -/
def RetU (xs : List V) (H : Hp) (Q : VK) : Prop := ∀ p H2, H p = none → Ex H H2 → H2 p = some (.tup xs) → Q (.ref p) H2
theorem RetU.go {xs : List V} {H H' : Hp} {Q : VK} (k : RetU xs H Q) (e : Ex H H') {p : Addr} {H2 : Hp} (hp : H' p = none) (e2 : Ex H' H2) (h : H2 p = some (.tup xs)) : Q (.ref p) H2 := k p H2 (fresh_back e hp) (e.trans e2) h
theorem RetU.ex {xs : List V} {H H' : Hp} {Q : VK} (k : RetU xs H Q) (e : Ex H H') : RetU xs H' Q := fun p H2 hp e2 h => k p H2 (fresh_back e hp) (e.trans e2) h
theorem eu_if {σ : L2.St} {H : Hp} {t : TT} {ta tb : TE} {xs : List V} {b : Bool} (h : EvT t σ H b) (h1 : b = true → EvU ta σ H xs) (h2 : b = false → EvU tb σ H xs) : EvU (tIf t ta tb) σ H xs := fun H1 e Q q => h H1 e _ fun H2 e2 => by
  cases b with
  | true =>
    show ta σ H2 Q
    exact h1 rfl H2 (e.trans e2) Q fun p H3 hp e3 h3 => q p H3 (fresh_back e2 hp) (e2.trans e3) h3
  | false =>
    show tb σ H2 Q
    exact h2 rfl H2 (e.trans e2) Q fun p H3 hp e3 h3 => q p H3 (fresh_back e2 hp) (e2.trans e3) h3
section
variable {K : PySem.W.Frag} {σ : L2.St} {H H' : Hp} {ta tb te tx tl : TE} {tr : TA} {t u : TT} {x y z v : V} {r : R2} {D : Ends} {tu tw tz : TS}
/-- the first operand a new tuple -/
theorem ev_opU1 {xs : List V} (ha : EvU ta σ H xs) (hb : ∀ H1, Ex H H1 → Ev tb σ H1 y) (hr : ∀ p H1, H1 p = some (.tup xs) → Ex H H1 → RV r (.ref p) y H1 z) : Ev (tOp r ta tb) σ H z := fun H1 e Q q =>
  ha H1 e _ fun p H2 _ e2 hp => hb H2 (e.trans e2) H2 (Ex.refl H2) _ fun H3 e3 => hr p H3 (e3 p _ hp) ((e.trans e2).trans e3) H3 (Ex.refl H3) Q fun H4 e4 => q H4 ((e2.trans e3).trans e4)
theorem el_cat {a b : Addr} {xs zs : List V} (ha : Ev ta σ H (.ref a)) (hb : Ev tb σ H (.ref b)) (h1 : H a = some (.lst xs)) (h2 : H b = some (.lst zs)) (hz : xs.length + zs.length ≤ 100000) : EvL (tOp rCat ta tb) σ H (xs ++ zs) := fun H1 e Q q =>
  ha H1 e _ fun H2 e2 => hb H2 (e.trans e2) _ fun H3 e3 => ⟨a, b, xs, zs, rfl, rfl, e3 _ _ (e2 _ _ (e _ _ h1)), e3 _ _ (e2 _ _ (e _ _ h2)), sz_of hz, fun p hp => q p _ (fresh_back (e2.trans e3) hp) ((e2.trans e3).trans (Ex.new hp)) upd_same⟩
/-- the second one a new list -/
theorem el_catN {a : Addr} {xs zs : List V} (ha : Ev ta σ H (.ref a)) (hb : EvL tb σ H zs) (h1 : H a = some (.lst xs)) (hz : xs.length + zs.length ≤ 100000) : EvL (tOp rCat ta tb) σ H (xs ++ zs) := fun H1 e Q q =>
  ha H1 e _ fun H2 e2 => hb H2 (e.trans e2) _ fun b H3 _ e3 h3 => ⟨a, b, xs, zs, rfl, rfl, e3 _ _ (e2 _ _ (e _ _ h1)), h3, sz_of hz, fun p hp => q p _ (fresh_back (e2.trans e3) hp) ((e2.trans e3).trans (Ex.new hp)) upd_same⟩
/-- a slice of a new list -/
theorem el_slN {tl th : TO} {xs : List V} {lo hi : Option Int} (h : EvL te σ H xs) (h1 : ∀ H1, Ex H H1 → EvO tl σ H1 lo) (h2 : ∀ H1, Ex H H1 → EvO th σ H1 hi) : EvL (tSl (rSlL K) te tl th) σ H (cutV xs lo hi) := fun H1 e _ q =>
  h H1 e _ fun a H2 _ e2 ha => h1 H2 (e.trans e2) H2 (Ex.refl H2) _ fun H3 e3 => h2 H3 ((e.trans e2).trans e3) H3 (Ex.refl H3) _ fun H4 e4 =>
    ⟨a, xs, rfl, sq_of (e4 _ _ (e3 _ _ ha)), fun p hp => q p _ (fresh_back ((e2.trans e3).trans e4) hp) (((e2.trans e3).trans e4).trans (Ex.new hp)) upd_same⟩
theorem el_rev {a : Addr} {xs : List V} (h : Ev te σ H (.ref a)) (hx : SqL K H a xs) : EvL (tRevL K te) σ H xs.reverse := fun H1 e _ q =>
  h H1 e _ fun H2 e2 => ⟨a, xs, rfl, ex_l (e.trans e2) hx, fun p hp => q p _ (fresh_back e2 hp) (e2.trans (Ex.new hp)) upd_same⟩
theorem rv_isN {x : V} : RV (fun x y H Q => y = .non ∧ Q (.bl (decide (x = .non))) H) x .non H (.bl (decide (x = .non))) := fun H1 _ _ q => ⟨rfl, q H1 (Ex.refl H1)⟩
theorem q_par {i j : Nat} {tr : TA} (k : tr σ H fun vs H1 => ∃ v w, vs = [v, w] ∧ tz D ((σ.set i (some v)).set j (some w)) H1) : tSeq (tPar i j tr) tz D σ H := k
theorem s_par {i j : Nat} {tr : TA} (k : tr σ H fun vs H1 => ∃ v w, vs = [v, w] ∧ D.nx ((σ.set i (some v)).set j (some w)) H1) : tPar i j tr D σ H := k
theorem q_parV {i j : Nat} {tr : TA} {v w : V} (h : EvA tr σ H [v, w]) (k : ∀ H1, Ex H H1 → tz D ((σ.set i (some v)).set j (some w)) H1) : tSeq (tPar i j tr) tz D σ H := h H (Ex.refl H) _ fun H1 e => ⟨v, w, rfl, k H1 e⟩
/-! steps of a reading at a heap -/
theorem ta_consU {Q : List V → Hp → Prop} {xs : List V} (h : EvU te σ H xs) (k : ∀ p H1, H p = none → Ex H H1 → H1 p = some (.tup xs) → tr σ H1 fun vs H2 => Q (.ref p :: vs) H2) : tCons te tr σ H Q := h H (Ex.refl H) _ fun p H1 hp e h1 => k p H1 hp e h1
theorem ta_consL {Q : List V → Hp → Prop} {xs : List V} (h : EvL te σ H xs) (k : ∀ p H1, H p = none → Ex H H1 → H1 p = some (.lst xs) → tr σ H1 fun vs H2 => Q (.ref p :: vs) H2) : tCons te tr σ H Q := h H (Ex.refl H) _ fun p H1 hp e h1 => k p H1 hp e h1
theorem ta_consV {Q : List V → Hp → Prop} (h : Ev te σ H v) (k : ∀ H1, Ex H H1 → tr σ H1 fun vs H2 => Q (v :: vs) H2) : tCons te tr σ H Q := h H (Ex.refl H) _ fun H1 e => k H1 e
theorem el_use {Q : VK} {xs : List V} (h : EvL te σ H xs) (k : ∀ p H1, H p = none → Ex H H1 → H1 p = some (.lst xs) → Q (.ref p) H1) : te σ H Q := h H (Ex.refl H) _ fun p H1 hp e h1 => k p H1 hp e h1
theorem eu_use {Q : VK} {xs : List V} (h : EvU te σ H xs) (k : ∀ p H1, H p = none → Ex H H1 → H1 p = some (.tup xs) → Q (.ref p) H1) : te σ H Q := h H (Ex.refl H) _ fun p H1 hp e h1 => k p H1 hp e h1
theorem ev_use {Q : VK} (h : Ev te σ H v) (k : ∀ H1, Ex H H1 → Q v H1) : te σ H Q := h H (Ex.refl H) _ fun H1 e => k H1 e
theorem top_in {Q : VK} (k : ta σ H fun x H1 => tb σ H1 fun y H2 => r x y H2 Q) : tOp r ta tb σ H Q := k
theorem q_in {te : TE} {i : Nat} (k : te σ H fun x H1 => tz D (σ.set i (some x)) H1) : tSeq (tAsg te (gName i)) tz D σ H := k
theorem r_in {te : TE} (k : te σ H D.rt) : tRet te D σ H := k
theorem ta_in {Q : List V → Hp → Prop} {te : TE} (k : te σ H fun x H1 => tr σ H1 fun vs H2 => Q (x :: vs) H2) : tCons te tr σ H Q := k
theorem tup_in {Q : VK} (k : tr σ H fun vs H1 => vs.length ≤ sizeLine ∧ ∀ p, H1 p = none → Q (.ref p) (upd H1 p (.tup vs))) : tTup tr σ H Q := k
theorem et_use {Q : Bool → Hp → Prop} {b : Bool} (h : EvT t σ H b) (k : ∀ H1, Ex H H1 → Q b H1) : t σ H Q := h H (Ex.refl H) _ fun H1 e => k H1 e
theorem tif_in {Q : VK} (k : t σ H fun c H1 => if c = true then ta σ H1 Q else tb σ H1 Q) : tIf t ta tb σ H Q := k
theorem tcall_in {sp : Sp} {dvs : List V} {E : XK} {Q : VK} (k : tr σ H fun vs H1 => sp (vs ++ dvs) H1 Q E) : tCall sp dvs E tr σ H Q := k
theorem tb_in {te : TE} {Q : Bool → Hp → Prop} (k : te σ H fun x H1 => ∃ c, x = .bl c ∧ Q c H1) : tB te σ H Q := k
theorem ta_nil {Q : List V → Hp → Prop} (k : Q [] H) : tNil σ H Q := k
theorem tl_lst {Q : VK} (k : tr σ H fun vs H1 => vs.length ≤ sizeLine ∧ ∀ p, H1 p = none → Q (.ref p) (upd H1 p (.lst vs))) : tLst tr σ H Q := k
end
section
variable {K : PySem.W.Frag} {σ : L2.St} {H H' : Hp} {ta tb te tx tl : TE} {tr : TA} {t u : TT} {x y z v : V} {r : R2} {D : Ends} {tu tw tz : TS} {g : TG}
/-- for i, x in enumerate(xs) -/
theorem s_forEnum {a : Addr} {xs : List V} (h : EvA tr σ H [.ref a]) (hx : SqL K H a xs) (Pv : Nat → L2.St → Hp → Prop) (h0 : ∀ H1, Ex H H1 → Pv 0 σ H1) (hl : ∀ i σ' H', i ≤ xs.length → Pv i σ' H' → SqL K H' a xs)
    (hs : ∀ i x σ' H', xs[i]? = some x → Pv i σ' H' → ∀ T, H' T = none → g (.ref T) σ' (upd H' T (.tup [.int (i : Nat), x])) fun σ2 H2 => tu { D with nx := Pv (i + 1), ct := Pv (i + 1), bk := D.nx } σ2 H2) (hd : ∀ σ' H', Pv xs.length σ' H' → D.nx σ' H') : tFor (iEnum K tr) g tu D σ H :=
  h H (Ex.refl H) _ fun H1 e => ⟨a, xs, rfl, ex_l e hx, fun i m σ H => m = xs.length - i ∧ i ≤ xs.length ∧ Pv i σ H, ⟨xs.length, by simp, Nat.zero_le _, h0 H1 e⟩, fun i m σ' H' hw => by
    obtain ⟨rfl, hi, p⟩ := hw
    have q := hl i σ' H' hi p
    by_cases hlt : i < xs.length
    · refine .inr ⟨⟨xs, xs[i], q, by simp [hlt]⟩, Pv (i + 1), fun σ2 H2 p' => ⟨xs.length - (i + 1), by omega, rfl, hlt, p'⟩, fun v H2 y => ?_⟩
      obtain ⟨T, x, rfl, hT, rfl, hy⟩ := y
      exact hs i x σ' H' (hy xs q) p T hT
    · have e : i = xs.length := by omega
      subst e
      exact .inl ⟨⟨xs, q, Nat.le_refl _⟩, hd σ' H' p⟩⟩
/-- o.f, o.m(), C's -/
theorem ev_fld {C a dx : Addr} {fs : List (Str × V)} {f : Str} (h : Ev te σ H (.ref a)) (ho : H a = some (.ins C dx fs)) (c : Cls K C) (n : NoAttr K C f) (l : fs.lookup f = some v) : Ev (tFld K te f) σ H v := fun H1 e Q q =>
  h H1 e _ fun H2 e2 => ⟨a, C, dx, fs, v, rfl, e2 _ _ (e _ _ ho), c, n, l, q H2 e2⟩
theorem ev_meth0 {C a dx : Addr} {fs : List (Str × V)} {m : Str} {sp : Sp} {E : XK} (h : Ev te σ H (.ref a)) (ho : H a = some (.ins C dx fs)) (l : fs.lookup m = none) (hs : SpV sp [.ref a] H v) : Ev (tMeth C m sp [] E te tNil) σ H v := fun H1 e Q q =>
  h H1 e _ fun H2 e2 => ⟨a, dx, fs, rfl, e2 _ _ (e _ _ ho), l, hs H2 (e.trans e2) Q (fun H3 e3 => q H3 (e2.trans e3)) E⟩
theorem el_meth0 {C a dx : Addr} {fs : List (Str × V)} {m : Str} {sp : Sp} {E : XK} {xs : List V} (h : Ev te σ H (.ref a)) (ho : H a = some (.ins C dx fs)) (l : fs.lookup m = none) (hs : ∀ H1, Ex H H1 → ∀ Q : VK, RetL xs H1 Q → ∀ E : XK, sp [.ref a] H1 Q E) : EvL (tMeth C m sp [] E te tNil) σ H xs := fun H1 e Q q =>
  h H1 e _ fun H2 e2 => ⟨a, dx, fs, rfl, e2 _ _ (e _ _ ho), l, hs H2 (e.trans e2) Q (fun p H3 hp e3 h3 => q p H3 (fresh_back e2 hp) (e2.trans e3) h3) E⟩
theorem el_callR {sp : Sp} {dvs vs xs : List V} {E : XK} {ta : TA} (h : EvA ta σ H vs) (hs : ∀ H1, Ex H H1 → ∀ Q : VK, RetL xs H1 Q → ∀ E : XK, sp (vs ++ dvs) H1 Q E) : EvL (tCall sp dvs E ta) σ H xs := el_call h fun H1 e Q q E => hs H1 e Q q E
/-- isinstance of an own class -/
theorem ev_isiC {C a dx : Addr} {fs : List (Str × V)} (h : Ev te σ H (.ref a)) (ho : H a = some (.ins C dx fs)) (c : Cls K C)
    (i : PySem.W.findIn K (.ref C) "__class__" = some (some (.builtin "object.__class__")) ∧ PySem.W.specialIn K (.builtin "object.__class__") "__get__" = some (some (.builtin "getset_descriptor.__get__")) ∧ PySem.W.takesIn K (.builtin "object.__class__") = some true ∧ PySem.W.mroIn K C (.type "object") = some true) :
    Ev (tCB (rIsi K) (tCons te (tCons (tC (.ref C)) tNil))) σ H (.bl true) := fun H1 e Q q =>
  h H1 e _ fun H2 e2 => ⟨.ref a, .ref C, .ref C, .ref C, true, rfl, ClsV.own C, TyX.base (TyOf.ins (e2 _ _ (e _ _ ho)) c i.1 i.2.1 i.2.2.1 i.2.2.2), by
    unfold PySem.W.kitOne
    rw [if_pos (beq_self_eq_true _)], q H2 e2⟩
/-- max of a new list -/
theorem ev_maxN {ns : List Int} {m : Int} (h : EvL te σ H (ns.map V.int)) (hm : m ∈ ns) (hle : ∀ y ∈ ns, y ≤ m) : Ev (tCB (rMax K) (tCons te tNil)) σ H (.int m) := fun H1 e Q q =>
  h H1 e _ fun p H2 _ e2 h2 => ⟨p, ns, rfl, sq_of h2, by cases ns with | nil => cases hm | cons a r => simp, fun k hk hkl => by
    have : k = m := Int.le_antisymm (hle k hk) (hkl m hm)
    rw [this]
    exact q H2 e2⟩
end
theorem ev_min2 {σ : L2.St} {H : Hp} {ta tb : TE} {i j : Int} (ha : Ev ta σ H (.int i)) (hb : Ev tb σ H (.int j)) : Ev (tCB (fun xs H Q => ∃ i j, xs = [.int i, .int j] ∧ Q (.int (if j < i then j else i)) H) (tCons ta (tCons tb tNil))) σ H (.int (if j < i then j else i)) := fun H1 e Q q =>
  ha H1 e _ fun H2 e2 => hb H2 (e.trans e2) _ fun H3 e3 => ⟨i, j, rfl, q H3 (e2.trans e3)⟩
theorem spv {sp : Sp} {vs : List V} {H : Hp} {z : V} (h : ∀ H1, Ex H H1 → ∀ Q : VK, RetV z H1 Q → ∀ E : XK, sp vs H1 Q E) : SpV sp vs H z := fun H1 e Q q E => h H1 e Q q E
/-- a call that hands back a new tuple -/
theorem eu_call {σ : L2.St} {H : Hp} {sp : Sp} {dvs vs xs : List V} {E : XK} {ta : TA} (h : EvA ta σ H vs) (hs : ∀ H1, Ex H H1 → ∀ Q : VK, RetU xs H1 Q → ∀ E : XK, sp (vs ++ dvs) H1 Q E) : EvU (tCall sp dvs E ta) σ H xs := fun H1 e Q q =>
  h H1 e _ fun H2 e2 => hs H2 (e.trans e2) Q (fun p H3 hp e3 h3 => q p H3 (fresh_back e2 hp) (e2.trans e3) h3) E
/-- a call of which an argument is a new list, that hands back a new tuple -/
theorem eu_callN {σ : L2.St} {H : Hp} {sp : Sp} {xs ys : List V} {E : XK} {te : TE} (h : EvL te σ H xs) (hs : ∀ p H1, H1 p = some (.lst xs) → Ex H H1 → ∀ Q : VK, RetU ys H1 Q → ∀ E : XK, sp [.ref p] H1 Q E) : EvU (tCall sp [] E (tCons te tNil)) σ H ys := fun H1 e Q q =>
  h H1 e _ fun p H2 hp e2 h2 => hs p H2 h2 (e.trans e2) Q (fun u H3 hu e3 h3 => q u H3 (fresh_back e2 hu) (e2.trans e3) h3) E
end WS

set_option Elab.async false
set_option linter.all false
set_option maxRecDepth 100000
set_option maxHeartbeats 2000000
/-! rules of my own: comb; max of ints with a default; max of alike data -/
namespace WS
open PySem PySem.Spec PyProof.Rows L2 Evl
theorem un65 {k : Nat} {A : Around} (r : Room k A) : A.units + 65 < cLine := by have := r.un; omega
section
variable {X : Cx}
/-- math.comb of two counts -/
def rComb : List V → Hp → VK → Prop := fun xs H Q => ∃ a b : Int, xs = [.int a, .int b] ∧ 0 ≤ a ∧ 0 ≤ b ∧ a < 2 ^ 64 ∧ (b ≤ 9000 ∨ a ≤ 18000) ∧ Q (.int (PySem.W.mcComb a b)) H
theorem cr_comb : CallR X (.builtin "math.comb") rComb := by
  intro pins s σ H xs us Q I r h
  obtain ⟨a, b, rfl, h0, h1, h2, h3, q⟩ := h
  obtain ⟨t, u, rfl⟩ := Vals.int2 r
  exact PySem.W.mc_comb h0 h1 h2 h3 fun _ => ⟨.int _, H, I.tok _, ⟨_, rfl⟩, q⟩
/-- max(xs, default=d) of ints -/
def rMaxDef (K : PySem.W.Frag) : List V → List V → Hp → VK → Prop := fun xs zs H Q => ∃ (a : Addr) (ns : List Int) (d : Int), xs = [.ref a] ∧ zs = [.int d] ∧ SqL K H a (ns.map V.int) ∧ (ns = [] → Q (.int d) H) ∧ ∀ m, m ∈ ns → (∀ y ∈ ns, y ≤ m) → Q (.int m) H
theorem cr_maxDef (hc : X.calm = true) (hu : X.A.units + 64 < cLine) : CallRK X (.builtin "max") [Str.ofString "default"] (rMaxDef X.K) := by
  intro pins s σ H xs zs us ws Q I r rz h
  obtain ⟨a, ns, d, rfl, rfl, hs, q0, q⟩ := h
  obtain ⟨its, rv, hl, _⟩ := I.list hs
  rw [Vals.ref1 r]
  obtain ⟨w1, rfl, e1⟩ := vals1 rz
  obtain ⟨td, rfl⟩ := (show ∃ t, w1 = Value.int d t from e1)
  have dp : DpAll X.K H (ns.map V.int) (ns.map PyData.int) := by
    rw [← ints_sD]
    exact dpAll_sc (ints_sc ns)
  obtain ⟨as, ra⟩ := Dp.readsAll I _ _ _ dp rv
  have dep : PyData.depthAll (ns.map PyData.int) = 0 := by
    rw [← ints_sD]
    exact depthAll_sc _
  show wpAny _ _ (call (.builtin "max") [.ref a] [(Str.ofString "default", .int d td)]) _ _ _
  refine PySem.W.max_list_default (xs := ns.map PyData.int) (I.ok.hd hc) hl.isList (by simpa using ra) (PySem.W.alikeAll_datum (α := Int) ns) (by rw [dep]; omega) (fun e h' tk hk => ?_) fun y ys i v h' tk bs e hi r' hk => ?_
  · exact ⟨.int d, H, I.kept hk, ⟨td, rfl⟩, q0 (List.map_eq_nil_iff.mp e)⟩
  · cases ns with
    | nil => cases e
    | cons n r2 =>
      rw [List.map_cons] at e
      injection e with ea eb
      subst ea
      subst eb
      rw [PySem.W.maxD_ints] at r'
      cases r'
      have mem : ∀ (l : List Int) (k : Int), l.foldl max k = k ∨ l.foldl max k ∈ l := fun l => by
        induction l with
        | nil => intro k; exact .inl rfl
        | cons b l ih =>
          intro k
          rw [List.foldl_cons]
          rcases ih (max k b) with z | z
          · rw [z]
            by_cases hkb : k ≤ b
            · rw [Int.max_eq_right hkb]; exact .inr List.mem_cons_self
            · rw [Int.max_eq_left (by omega)]; exact .inl rfl
          · exact .inr (List.mem_cons_of_mem _ z)
      have ge : ∀ (l : List Int) (k : Int), k ≤ l.foldl max k ∧ ∀ y ∈ l, y ≤ l.foldl max k := fun l => by
        induction l with
        | nil => intro k; exact ⟨Int.le_refl _, fun y hy => absurd hy List.not_mem_nil⟩
        | cons b l ih =>
          intro k
          rw [List.foldl_cons]
          obtain ⟨z1, z2⟩ := ih (max k b)
          refine ⟨by omega, fun y hy => ?_⟩
          rcases List.mem_cons.mp hy with h | h
          · omega
          · exact z2 y h
      refine ⟨.int _, H, I.kept hk, ⟨_, rfl⟩, q _ ?_ fun y hy => ?_⟩
      · rcases mem r2 n with z | z
        · rw [z]; exact List.mem_cons_self
        · exact List.mem_cons_of_mem _ z
      · rcases List.mem_cons.mp hy with h | h
        · rw [h]; exact (ge r2 n).1
        · exact (ge r2 n).2 y h
/-- max(xs) of alike data: one of the items, whose datum is the greatest -/
def rMaxData (K : PySem.W.Frag) : List V → Hp → VK → Prop := fun xs H Q => ∃ (a : Addr) (vs : List V) (d : PyData) (ds : List PyData), xs = [.ref a] ∧ SqL K H a vs ∧ DpAll K H vs (d :: ds) ∧ PySem.W.AlikeAll (d :: ds) ∧ PyData.canLayAll0 (d :: ds) = true ∧ PyData.depthAll (d :: ds) ≤ 32 ∧
  ∀ (i : Nat) y e, vs[i]? = some y → (d :: ds)[i]? = some e → e = PySem.W.maxD d ds → Q y H
theorem cr_maxData (hc : X.calm = true) (hu : X.A.units + 64 < cLine) : CallR X (.builtin "max") (rMaxData X.K) := by
  intro pins s σ H xs us Q I r h
  obtain ⟨a, vs, d, ds, rfl, hs, hd, hal, hcl, hde, q⟩ := h
  obtain ⟨its, rv, hl, _⟩ := I.list hs
  rw [Vals.ref1 r]
  obtain ⟨as, ra⟩ := Dp.readsAll I _ _ _ hd rv
  refine PySem.W.max_list_data (I.ok.hd hc) hl.isList (by simpa using ra) hal (by omega) fun i v h' tk bs hi r' hk => ?_
  rw [List.getElem?_toArray] at hi
  have hlt : i < vs.length := by rw [rv.length]; exact (List.getElem?_eq_some_iff.mp hi).1
  obtain ⟨u, hu', ru⟩ := rv.get (List.getElem?_eq_getElem hlt)
  rw [hi] at hu'
  cases hu'
  obtain ⟨bs2, r2, h2, h3, h4⟩ := PySem.W.readsAll_at ra i v hi
  have ge : (d :: ds)[i]? = some ((d :: ds).getD i .none) := by rw [List.getD_eq_getElem?_getD, List.getElem?_eq_getElem h2] <;> rfl
  exact ⟨_, H, I.kept hk, ru, q i _ _ (List.getElem?_eq_getElem hlt) ge ((PySem.Reads.unique (PySem.W.reads_keeps hk r2) _ _ r').1)⟩
end
end WS

set_option Elab.async false
set_option linter.all false
set_option maxRecDepth 100000
set_option maxHeartbeats 2000000
namespace WS
open PySem PySem.Spec PyProof.Rows L2 Evl
section
variable {X : Cx} {tg : Expr}
theorem cr_range1 : CallR X (.type "range") (fun vs H Q => ∃ j, vs = [V.int j] ∧ ∀ p, H p = none → Q (.ref p) (upd H p (.rng 0 j))) := by
  intro pins s σ H vs us Q I r h
  obtain ⟨j, rfl, q⟩ := h
  obtain ⟨u1, rfl, t, rfl⟩ := vals1 r
  refine call_range_1 ⟨.ref s.heap.objs.size, upd H s.heap.objs.size (.rng 0 j), I.laid (t' := s.toks + 1 + 1) (fun _ _ keep => Heap.get?_push_of_some _ keep) (Nat.le_refl _) ⟨_, t, _, Heap.get?_push_size _ rfl⟩, rfl, q _ (I.hok.fresh (Nat.le_refl _))⟩
/-- a range kept as a value, gone over -/
def iRngV (te : TE) : TI := fun σ H R => te σ H fun x H1 => ∃ a lo hi, x = V.ref a ∧ H1 a = some (.rng lo hi) ∧ (-(2 ^ 62) ≤ lo ∧ lo < 2 ^ 62 ∧ -(2 ^ 62) ≤ hi ∧ hi < 2 ^ 62) ∧ R (Itr lo (hi - lo).toNat) H1
theorem pi_rngV {l : Expr} {tl : TE} (hl : PE X l tl) : PI X tg l (iRngV tl) := by
  refine ⟨fun pins s σ H R I h => thn (hl.run pins s σ H _ I h) fun v z ⟨x, G, J, rel, told⟩ => ?_⟩
  obtain ⟨a, lo, hi, rfl, at_, ⟨b1, b2, b3, b4⟩, q⟩ := told
  cases rel
  obtain ⟨t, u, w, laid⟩ := (show ∃ t u w, z.heap.get? a = some { cls := .type "range", data := .fields #[.int lo t, .int hi u, .int 1 w] } from J.hok a _ at_)
  refine wpAny_pyIter_range laid (small_one b1 b2 b3 b4) ?_
  have size_ : (((hi - lo).toNat : Nat) : Int) - ((0 : Nat) : Int) = Builtin.Range.rangeSize lo hi 1 := by rw [rangeSize_one]; split <;> omega
  refine ⟨z.heap.objs.size, [z.heap.objs.size], _, _, G, rfl, J.kept (t' := z.toks) (fun _ _ keep => Heap.get?_push_of_some _ keep), turn_range _ lo (hi - lo).toNat, ?_, fun b hb => ?_, q⟩
  · show IsRangeIter _ _ (lo + ((0 : Nat) : Int) * 1) ((((hi - lo).toNat : Nat) : Int) - ((0 : Nat) : Int)) 1
    rw [size_, show lo + ((0 : Nat) : Int) * 1 = lo by simp]
    exact Heap.get?_push_size _ rfl
  · obtain rfl := List.mem_singleton.mp hb
    exact J.fpOk (Nat.le_refl _) (J.hok.fresh (Nat.le_refl _))
end
theorem given_all (n : Nat) (f : Nat → V) : given n (fun _ => true) f = (List.range n).map f := by
  unfold given
  rw [List.filter_eq_self.mpr (fun _ _ => rfl)]
section
variable {K : PySem.W.Frag} {σ : L2.St} {H H' : Hp} {te tl : TE} {v : V}
theorem et_yes : EvT tYes σ H true := fun H1 _ _ q => q H1 (Ex.refl H1)
/-- [f(i) for i in r], r a range kept as a value -/
theorem el_mapRV {a : Addr} {n j : Nat} {vs : List Nat} (f : Nat → V) (h : Ev tl σ H (.ref a)) (ha : H a = some (.rng 0 (n : Int))) (hn : n ≤ 40000) (hw : ∀ x, wipe ((wipe σ vs).set j (some x)) vs = wipe σ vs)
    (he : ∀ (i : Nat) H1, Ex H H1 → i < n → Ev te ((wipe σ vs).set j (some (.int (i : Int)))) H1 (f i)) : EvL (tLc (iRngV tl) (gName j) tYes te vs) σ H ((List.range n).map f) := by
  rw [← given_all]
  refine fun H0 e Q q => h H0 e _ fun H1 e1 => ⟨a, 0, (n : Int), rfl, e1 _ _ (e _ _ ha), by omega, fun Dl hD => ?_⟩
  have en : ((n : Int) - 0).toNat = n := by omega
  rw [en]
  exact lc_it walk_range (Cw H1 (fun _ => true) f Dl) ⟨hD, Ex.new hD, upd_same⟩ (fun _ _ _ _ => trivial) (fun i x G G' hi p y => by
    obtain ⟨rfl, rfl⟩ := y
    have e0 : (0 : Int) + (i : Int) = (i : Int) := Int.zero_add _
    show wipe ((wipe σ vs).set j (some (.int ((0 : Int) + (i : Int))))) vs = wipe σ vs ∧ _
    rw [e0]
    have hh := he i H1 (e.trans e1) hi
    rw [← e0] at hh
    exact ⟨hw _, cw_turn p (by omega) et_yes (fun _ => hh)⟩) (fun G p => q Dl G (fresh_back e1 p.1) (e1.trans p.2.1) p.2.2)
/-- [f(i, x) for i, x in enumerate(xs)] -/
theorem el_enum {tr : TA} {a : Addr} {xs : List V} {i j : Nat} {vs : List Nat} (f : Nat → V) (h : EvA tr σ H [.ref a]) (hx : SqL K H a xs) (hz : xs.length ≤ 40000)
    (hw : ∀ x y, wipe (((wipe σ vs).set i (some x)).set j (some y)) vs = wipe σ vs) (he : ∀ (k : Nat) (x : V) H1, Ex H H1 → xs[k]? = some x → Ev te (((wipe σ vs).set i (some (.int (k : Int)))).set j (some x)) H1 (f k)) :
    EvL (tLc (iEnum K tr) (gTup K 2 (gCons (gName i) (gCons (gName j) gNil))) tYes te vs) σ H ((List.range xs.length).map f) := by
  rw [← given_all]
  refine fun H0 e Q q => h H0 e _ fun H1 e1 => ⟨a, xs, rfl, ex_l (e.trans e1) hx, fun Dl hD => ?_⟩
  refine lc_it (walk_enum (K := K) (a := a) (xs := xs)) (Cw H1 (fun _ => true) f Dl) ⟨hD, Ex.new hD, upd_same⟩ (fun _ G _ p => ex_l ((e.trans e1).trans p.2.1) hx) (fun k x G G' hk p y => ?_) (fun G p => q Dl G (fresh_back e1 p.1) (e1.trans p.2.1) p.2.2)
  obtain ⟨T, z, x', rfl, hT, rfl, hz', hx'⟩ := y
  obtain rfl := Option.some.inj hz'
  refine ⟨T, _, rfl, st_of upd_same, rfl, _, _, rfl, _, _, rfl, rfl, hw _ _, ?_⟩
  have nD : Dl ≠ T := fun z => by rw [← z, p.2.2] at hT; cases hT
  have p' : Cw H1 (fun _ => true) f Dl k (upd G T (.tup [.int (k : Int), x'])) := ⟨p.1, p.2.1.trans (Ex.new hT), by rw [upd_ne nD]; exact p.2.2⟩
  exact cw_turn p' (by omega) et_yes (fun _ => he k x' H1 (e.trans e1) hx')
/-- .. over a new list -/
theorem el_enumN {xs : List V} {i j : Nat} {vs : List Nat} (f : Nat → V) (h : EvL tl σ H xs) (hz : xs.length ≤ 40000)
    (hw : ∀ x y, wipe (((wipe σ vs).set i (some x)).set j (some y)) vs = wipe σ vs) (he : ∀ (k : Nat) (x : V) H1, Ex H H1 → xs[k]? = some x → Ev te (((wipe σ vs).set i (some (.int (k : Int)))).set j (some x)) H1 (f k)) :
    EvL (tLc (iEnum K (tCons tl tNil)) (gTup K 2 (gCons (gName i) (gCons (gName j) gNil))) tYes te vs) σ H ((List.range xs.length).map f) := fun H0 e Q q =>
  h H0 e _ fun a H1 ha e1 hx => by
    have k := el_enum (K := K) (te := te) (i := i) (j := j) (vs := vs) (tr := fun _ H Q => Q [.ref a] H) f (σ := σ) (H := H1) (fun H2 _ Q2 q2 => q2 H2 (Ex.refl H2)) (sq_of hx) hz hw (fun k x H2 e2 hk => he k x H2 ((e.trans e1).trans e2) hk)
    exact k H1 (Ex.refl H1) Q fun p H2 hp e2 h2 => q p H2 (fresh_back e1 hp) (e1.trans e2) h2
end
end WS

set_option Elab.async false
set_option linter.all false
set_option maxRecDepth 100000
set_option maxHeartbeats 2000000
namespace WS
open PySem PySem.Spec PyProof.Rows L2 Evl
/-! ### defs that are called while no text of a list is being made: repr of data can be told there -/
abbrev Quiet (A : Around) : Prop := A.guards = some []
structure FnQ (P : Program) (w : World) (K : PySem.W.Frag) (mg : Str → Option Value) (base : Heap) (k : Nat) (f : Addr) (fd : FuncData) (ps : List Str) (sp : Sp) : Prop where
  many : ∀ vs H Q E, sp vs H Q E → vs.length = ps.length
  go : ∀ (A : Around) (below : List Env) (z : Shared) (G : Hp) (args : Args) (us : List Value) (vs : List V) (Q : VK) (E : XK), Quiet A → Room k A → Env0 P w K mg base A below z G →
    BindsTo z fd args (ps.zip us) → Vals vs us → sp vs G Q E → codeAny (model P w) A (.call (.ref f) args) (CR CX0 below P w G z Q E) z
section
variable {P : Program} {w : World} {K : PySem.W.Frag} {mg : Str → Option Value} {base : Heap}
/-- any def may be called so -/
theorem FnQ.of {k : Nat} {f : Addr} {fd : FuncData} {ps : List Str} {sp : Sp} (F : FnOk P w K mg base CX0 k f fd ps sp) : FnQ P w K mg base k f fd ps sp :=
  ⟨F.len, fun A below z G args us vs Q E _ room => F.run A below z G args us vs Q E room⟩
/-- a def by its body -/
theorem okQ {x qual : Str} {st : Stmt} {f : Addr} {fd : FuncData} {N ps : List Str} {k : Nat} {sp : Sp} (F : Fun K x qual st f fd) (S : FnScope N ps (defScope st)) (many : ∀ vs H Q E, sp vs H Q E → vs.length = ps.length)
    (body : ∀ (cdv : Value) (A : Around) (below : List Env) (z : Shared) (G : Hp) (vs : List V) (Q : VK) (E : XK), Quiet A → Room k (A.deeper (envOfC qual (defScope st) z.heap.objs.size f cdv)) → sp vs G Q E →
      ∃ t, PSs (cxOf CX0 P w K mg base N qual (defScope st) f cdv A below z G E).nox (defBody st) t ∧ t { nx := fun _ G' => Q .non G', rt := Q } (start N vs) G) : FnQ P w K mg base (k + 1) f fd ps sp := by
  obtain ⟨oc, od, kV, doc, pm, an, cdv, ct, osl, rfl, at_, code⟩ := F.ex
  refine ⟨many, fun A below z G args us vs Q E quiet room around bound rel told => ?_⟩
  have inK : K.In z.heap := around.mod.kin.keeps fun b o e => (around.bs b o e).1
  have kinds : ∀ y ∈ ps.zip us, (defScope st).names.lookup y.1 = some .local ∨ ((defScope st).names.lookup y.1 = some .cell ∧ ((cellsFrom (z.heap.objs.size + 1) (defScope st).names []).lookup y.1).isSome = true) := by
    rintro ⟨n, v⟩ hy
    cases S.par n (List.of_mem_zip hy).1 with
    | inl q => exact .inl q
    | inr q => exact .inr ⟨q, PySem.W.cellsFrom_some _ _ _ (.inl q)⟩
  refine codeAny_call_function room.depth (inK _ _ at_) rfl S.co S.gen rfl (PySem.W.codeRec_of inK code) (bound _ _ _ _ (wpAny_newFunctionEnv_cells S.kind kinds fun env he z1 laid => ?_))
  subst he
  refine ⟨(around.mod.nolimit.keeps fun b o e => (around.bs b o e).1).keeps laid.toInCall.keep, codeAny_func ?_⟩
  obtain ⟨t, run, q⟩ := body cdv A below z G vs Q E quiet (room.deeper _) told
  have I := inv_start (CX := CX0) (E := E) (cd := cdv) S room.hd around (many _ _ _ _ told) rel laid
  refine wpAny_mono (run.nox.run [] z1 (start N vs) G _ I q) (fun fl z' hs => ?_) fun e z' hs => hs
  cases fl with
  | ret u => exact let ⟨v, σ', G', J, rv, qq⟩ := hs; ⟨v, G', J.os, J.bare, J.base, J.hok, rv, qq⟩
  | next => exact let ⟨σ', G', J, qq⟩ := hs; ⟨V.non, G', J.os, J.bare, J.base, J.hok, rfl, qq⟩
  | brk => exact let ⟨_, _, _, qq⟩ := hs; qq.elim
  | cont => exact let ⟨_, _, _, qq⟩ := hs; qq.elim
end
section
variable {X : Cx} {k : Nat} {f : Addr} {fd : FuncData} {ps : List Str} {sp : Sp} {x : Str} {p pos : Pos} {e : Expr} {es : List Expr} {t : TA}
/-- the call of such a def -/
theorem pe_callQ (F : FnQ X.prog X.w X.K X.mg X.base k f fd ps sp) (quiet : Quiet X.A) (room : Room k X.A) (own : Gl X x) (at_ : X.mg x = some (.ref f)) (keep : PySem.W.keepIn X.K (.ref f) = true) (b : Binds X.K fd ps [])
    (args : PA X (e :: es) t) (plain : (x == ("__debug__" : Str)) = false := by decide) (st : starEach (e :: es) X.env = (false, eval e X.env) :: starEach es X.env := by rfl) (nost : (backTo pos (starEach es X.env)).any (·.1) = false := by rfl) :
    PE X (.Call (.Name x p) (e :: es) [] pos) (tCall sp [] E0 t) := ⟨fun pins z σ G Q I h => by
  refine wpAny_Call_Name_kw (ld_glob I own at_ (PySem.W.callWith_K (h₀ := X.base) I.ok.mod.kin keep (thn (args.run pos pins z σ G _ I h) fun us z1 told => ?_) st nost) plain)
  obtain ⟨vs, G1, I1, rel, q⟩ := told
  have q' : sp vs G1 Q E0 := by simpa using q
  have big : us.length = ps.length := by rw [← rel.length]; exact F.many _ _ _ _ q'
  have bb : BindsTo z1 fd ⟨us, []⟩ (ps.zip us) := by
    have := b z1 us I1.kIn (by simpa using big)
    simpa using this
  refine ⟨I1.kIn, wpAny_call (codeAny_mono (F.go X.A X.stack z1 G1 ⟨us, []⟩ us vs Q E0 quiet room I1.env0 bb rel q') fun r z' hq => ?_)⟩
  match r, hq with
  | .ok (.ret u), hq => exact I1.after hq⟩
/-- repr of data -/
def rRepr (K : PySem.W.Frag) : List V → Hp → VK → Prop := fun xs H Q => ∃ a d, xs = [.ref a] ∧ Dp K H (.ref a) d ∧ d.showable = true ∧ d.hasDict = false ∧ d.depth ≤ 50 ∧ d.shown.length ≤ sizeLine ∧ Q (.str d.shown) H
theorem cr_repr (quiet : Quiet X.A) (room : X.A.units + 64 < cLine) : CallR X (.builtin "repr") (rRepr X.K) := by
  intro pins s σ H xs us Q I r h
  obtain ⟨a, d, rfl, hd, show_, nod, deep, small, q⟩ := h
  obtain ⟨u, rfl, ru⟩ := vals1 r
  cases (show u = Value.ref a from ru)
  obtain ⟨as, rd⟩ := Dp.reads I d (.ref a) (.ref a) hd rfl
  exact repr_of_reads' rd show_ (fun z => by rw [nod] at z; cases z) quiet (by omega) (fun _ _ e => e) (fun h' u' tk keep => ⟨.str d.shown, H, I.kept keep, ⟨u', rfl⟩, q⟩) small
end
/-! ### the head for such a def -/
theorem law_callQ {P : Program} {w : World} {K : PySem.W.Frag} {mg mb : Str → Option Value} {k : Nat} {fa a : Addr} {fd : FuncData} {x : Str} {sp : Sp} {z : Shared} {vs : List Value} {ns : List Int}
    (inK : K.In z.heap) (top : z.heap.Ns mainGlobals mg) (bl : z.heap.Ns builtinsNs mb) (boot : ∀ y : Str, y ≠ "__name__" → mb y = bootBuiltins y) (free : z.heap.NoLimit) (nogen : z.gens = #[])
    (obj : z.heap.get? a = some { cls := .type "list", data := .seq vs.toArray }) (nums : IntsAre vs ns) (small : ns.length ≤ sizeLine) (room : Room k callerA)
    (F : ∀ base : Heap, K.In base → base.Ns mainGlobals mg → FnQ P w K mg base k fa fd [x] sp) (bound : ∀ (s : Shared) (u : Value), BindsTo s fd ⟨[u], []⟩ [(x, u)])
    (told : ∀ G : Hp, Only G → SqL K G a (ns.map V.int) → sp [.ref a] G (fun v _ => v = .bl true) E0) :
    codeAny (model P w) callerA (.call (.ref fa) ⟨[.ref a], []⟩) (fun r z' => r = .ok (.ret (.bool true)) ∧ OldK z.heap z'.heap ∧ z'.os = z.os ∧ AllBare z'.gens) z := by
  have many := nums.length
  have run : ∀ G : Hp, Only G → SqL K G a (ns.map V.int) → HOk P w G z.heap → (∀ b, G b ≠ none → b = a ∧ K.lookup a = none) →
      codeAny (model P w) callerA (.call (.ref fa) ⟨[.ref a], []⟩) (fun r z' => r = .ok (.ret (.bool true)) ∧ OldK z.heap z'.heap ∧ z'.os = z.os ∧ AllBare z'.gens) z := by
    intro G only sq hok hid
    have dictFree : ∀ {b : Addr} {o : Obj} {es : Array DictEntry} {ep : Nat}, z.heap.get? b = some o → o.data = .dict es ep → G b = none := by
      intro b o es ep e d
      refine Classical.byContradiction fun q => ?_
      obtain ⟨rfl, _⟩ := hid b q
      rw [obj] at e
      obtain rfl := Option.some.inj e
      exact Data.noConfusion d
    have ownFree : ∀ {b : Addr} {o : Obj}, K.lookup b = some o → G b = none := by
      intro b o e
      refine Classical.byContradiction fun q => ?_
      obtain ⟨rfl, no⟩ := hid b q
      rw [no] at e
      cases e
    have ns_ : ∀ {b : Addr} {m : Str → Option Value}, z.heap.Ns b m → (hidT z.heap G).Ns b m := by
      rintro b m ⟨o, es, ep, e, d, r⟩
      exact ⟨o, es, ep, hidT_get e (dictFree e d), d, r⟩
    have inB : K.In (hidT z.heap G) := fun b o e => hidT_get (inK b o e) (ownFree e)
    obtain ⟨mc, c1, c2⟩ := free
    have around : Env0 P w K mg (hidT z.heap G) callerA [] z G := by
      refine ⟨rfl, ⟨inB, ns_ top, ⟨mb, ns_ bl, boot⟩, ⟨mc, ns_ c1, c2⟩⟩, fun _ _ e => of_hidT e, Nat.le_of_eq (hidT_size _ _), trivial, ?_, hok, .of_eq nogen⟩
      intro b hb
      cases hb
    refine codeAny_mono ((F _ inB (ns_ top)).go callerA [] z G ⟨[.ref a], []⟩ [.ref a] [.ref a] _ _ rfl room around (bound z (.ref a)) (.cons rfl .nil) (told G only sq)) fun r z' h => ?_
    match r, h with
    | .ok (.ret u), h =>
      obtain ⟨v, G', os, bare, un, hok', rel, q⟩ := h
      obtain rfl : v = .bl true := q
      obtain rfl : u = Value.bool true := rel
      refine ⟨rfl, OldK.of_keep fun b o e => ?_, os, bare⟩
      rcases only b with no | ⟨ob, xs, fr⟩
      · exact un.keep b o e no (fun y => by cases y) (fun y => by cases y)
      · have now := (hok' b _ (un.frzs b ob _ fr)).1
        have old := (hok b _ fr).1
        rw [e] at old
        rw [Option.some.inj old]
        exact now
  cases found : K.lookup a with
  | some o =>
    have e := inK a o found
    rw [obj] at e
    obtain rfl := Option.some.inj e
    exact run (fun _ => none) (fun _ => .inl rfl) (.inr ⟨_, vs.toArray, _, found, rfl, rfl, rfl, by rw [List.size_toArray, many]; exact small, by simpa using vals_ints nums⟩) (fun b u y => by cases y) (fun b y => absurd rfl y)
  | none =>
    have at_ : ∀ b, (if b = a then some (HO.frz { cls := .type "list", data := .seq vs.toArray } (.lst (ns.map V.int))) else none) ≠ none → b = a := fun b y => Classical.byContradiction fun ne => y (if_neg ne)
    refine run (fun b => if b = a then some (.frz { cls := .type "list", data := .seq vs.toArray } (.lst (ns.map V.int))) else none) (fun b => ?_) (.inl (.inr ⟨_, if_pos rfl⟩)) (fun b u y => ?_) (fun b y => ⟨at_ b y, found⟩)
    · by_cases e : b = a
      · exact .inr ⟨_, _, if_pos e⟩
      · exact .inl (if_neg e)
    · obtain rfl := at_ b (fun no => by have := y.symm.trans no; cases this)
      obtain rfl := Option.some.inj ((if_pos rfl).symm.trans y)
      exact ⟨obj, by rw [List.length_map]; exact small, vs, _, vals_ints nums, obj⟩
theorem walk_ofQ {l : PySem.W.OpenLaw} {n k : Nat} {q : Program} {loose : List Str} {XP : (Str → Option Value) → Heap → Prop} {YP : World → Heap → Prop} {d : DefRec} {K : Params → PySem.W.Frag} {sp : World → Sp} {x : Str}
    (most : l.most = some n) (line : n ≤ sizeLine) (plain : d.params.defaults = []) (room : Room k callerA) (inY : ∀ (w : World) (h : Heap), YP w h → (K w.params).In h)
    (F : ∀ (w : World) (mg : Str → Option Value) (fa : Addr) (h : Heap), (K w.params).In h → h.Ns mainGlobals mg → mg d.name = some (.ref fa) →
      ∃ fd : FuncData, (∀ (s : Shared) (u : Value), BindsTo s fd ⟨[u], []⟩ [(x, u)]) ∧ ∀ base : Heap, (K w.params).In base → base.Ns mainGlobals mg → FnQ l.prog w (K w.params) mg base k fa fd [x] (sp w))
    (told : ∀ (w : World) (G : Hp) (a : Addr) (ns : List Int), ns.length ≤ n → Only G → SqL (K w.params) G a (ns.map V.int) → sp w [.ref a] G (fun v _ => v = .bl true) E0) :
    PySem.W.WalkO q loose XP YP l.row.toRowW d [] (fun f vs => PySem.call f vs) :=
  Att.attach_call most plain fun w _ z mg mb fa _ _ _ _ a vs ns ground Y _ _ _ named obj nums len nogen =>
    let ⟨_, bound, G⟩ := F w mg fa _ (inY w _ Y) ground.T.g named
    law_callQ (inY w _ Y) ground.T.g ground.T.b ground.T.builtins ground.T.nolimit nogen obj nums (Nat.le_trans len line) room G bound fun H only sq => told w H a ns len only sq
end WS

set_option Elab.async false
set_option linter.all false
set_option maxRecDepth 100000
set_option maxHeartbeats 2000000
namespace WS
open PySem PySem.Spec PyProof.Rows L2 Evl
def below : Nat → Nat → List (List Int)
  | 0, _ => [[]]
  | n + 1, top => (below n top).flatMap fun r => (List.range top).map fun i : Nat => r ++ [(i : Int)]
theorem below_len : ∀ n top, (below n top).length = top ^ n
  | 0, _ => rfl
  | n + 1, top => by
    have h : ∀ l : List (List Int), (l.flatMap fun r => (List.range top).map fun i : Nat => r ++ [(i : Int)]).length = l.length * top := by
      intro l
      induction l with
      | nil => simp
      | cons a r ih => rw [List.flatMap_cons, List.length_append, ih, List.length_map, List.length_range, List.length_cons, Nat.succ_mul]; omega
    unfold below
    rw [h, below_len n top, Nat.pow_succ]
theorem below_row : ∀ (n top : Nat) (r : List Int), r ∈ below n top → r.length = n ∧ ∀ x ∈ r, 0 ≤ x ∧ x < (top : Int)
  | 0, top, r, h => by
    rw [List.mem_singleton.mp h]
    exact ⟨rfl, fun x hx => absurd hx List.not_mem_nil⟩
  | n + 1, top, r, h => by
    obtain ⟨s, hs, h2⟩ := List.mem_flatMap.mp h
    obtain ⟨i, hi, rfl⟩ := List.mem_map.mp h2
    obtain ⟨k1, k2⟩ := below_row n top s hs
    refine ⟨by rw [List.length_append, k1]; rfl, fun x hx => ?_⟩
    rcases List.mem_append.mp hx with z | z
    · exact k2 x z
    · rw [List.mem_singleton.mp z]
      have := List.mem_range.mp hi
      omega
theorem snoc_rec {motive : List Int → Prop} (nil : motive []) (snoc : ∀ r x, motive r → motive (r ++ [x])) : ∀ r, motive r := by
  intro r
  have : ∀ s : List Int, motive s.reverse := by
    intro s
    induction s with
    | nil => exact nil
    | cons x t ih => rw [List.reverse_cons]; exact snoc _ _ ih
  have h := this r.reverse
  rwa [List.reverse_reverse] at h
theorem below_all : ∀ (r : List Int) (top : Nat), (∀ x ∈ r, 0 ≤ x ∧ x < (top : Int)) → r ∈ below r.length top := by
  intro r
  induction r using snoc_rec with
  | nil => exact fun top _ => List.mem_singleton.mpr rfl
  | snoc r x ih =>
    intro top h
    rw [List.length_append]
    show _ ∈ (below r.length top).flatMap _
    refine List.mem_flatMap.mpr ⟨r, ih top fun y hy => h y (List.mem_append_left _ hy), List.mem_map.mpr ⟨x.toNat, ?_, ?_⟩⟩
    · have := h x (List.mem_append_right _ List.mem_cons_self)
      exact List.mem_range.mpr (by omega)
    · have := h x (List.mem_append_right _ List.mem_cons_self)
      rw [show ((x.toNat : Nat) : Int) = x by omega]
/-- a list of lists of ints -/
def Lv (H : Hp) (vs : List V) (rs : List (List Int)) : Prop := vs.length = rs.length ∧ ∀ (i : Nat) (r : List Int), rs[i]? = some r → ∃ a : Addr, vs[i]? = some (V.ref a) ∧ H a = some (HO.lst (r.map V.int))
theorem Lv.ex {H H' : Hp} {vs : List V} {rs : List (List Int)} (h : Lv H vs rs) (e : Ex H H') : Lv H' vs rs := ⟨h.1, fun i r hr => by
  obtain ⟨a, h1, h2⟩ := h.2 i r hr
  exact ⟨a, h1, e _ _ h2⟩⟩
theorem Lv.get {H : Hp} {vs : List V} {rs : List (List Int)} (h : Lv H vs rs) {i : Nat} {x : V} (hx : vs[i]? = some x) : ∃ (a : Addr) (r : List Int), x = V.ref a ∧ rs[i]? = some r ∧ H a = some (.lst (r.map V.int)) := by
  have hi := (List.getElem?_eq_some_iff.mp hx).1
  have hr : rs[i]? = some (rs[i]'(by have := h.1; omega)) := List.getElem?_eq_getElem (by have := h.1; omega)
  obtain ⟨a, h1, h2⟩ := h.2 i _ hr
  rw [hx] at h1
  exact ⟨a, _, Option.some.inj h1, hr, h2⟩
theorem Lv.app {H : Hp} {vs ws : List V} {rs ss : List (List Int)} (h : Lv H vs rs) (k : Lv H ws ss) : Lv H (vs ++ ws) (rs ++ ss) := by
  refine ⟨by rw [List.length_append, List.length_append, h.1, k.1], fun i r hr => ?_⟩
  have hl := h.1
  by_cases c : i < rs.length
  · rw [List.getElem?_append_left c] at hr
    rw [List.getElem?_append_left (by omega)]
    exact h.2 i r hr
  · rw [List.getElem?_append_right (by omega)] at hr
    rw [List.getElem?_append_right (by omega), hl]
    exact k.2 _ r hr
def LL (H : Hp) (p : Addr) (rs : List (List Int)) : Prop := ∃ vs, H p = some (.lst vs) ∧ Lv H vs rs
theorem LL.ex {H H' : Hp} {p : Addr} {rs : List (List Int)} (h : LL H p rs) (e : Ex H H') : LL H' p rs := by
  obtain ⟨vs, h1, h2⟩ := h
  exact ⟨vs, e _ _ h1, h2.ex e⟩
section
variable {K : PySem.W.Frag} {σ : L2.St} {H : Hp} {ta tb te tl : TE} {D : Ends} {tr : TA}
theorem s_in {i : Nat} (k : te σ H fun x H1 => D.nx (σ.set i (some x)) H1) : tAsg te (gName i) D σ H := k
theorem el_catVL {a : Addr} {xs zs : List V} (ha : Ev ta σ H (.ref a)) (h2 : H a = some (.lst xs)) (hb : EvL tb σ H zs) (hz : xs.length + zs.length ≤ 100000) : EvL (tOp rCat ta tb) σ H (xs ++ zs) := fun H1 e Q q =>
  ha H1 e _ fun H2 e2 => hb H2 (e.trans e2) _ fun p H3 _ e3 hp => ⟨a, p, xs, zs, rfl, rfl, e3 _ _ (e2 _ _ (e _ _ h2)), hp, sz_of hz, fun u hu => q u _ (fresh_back (e2.trans e3) hu) ((e2.trans e3).trans (Ex.new hu)) upd_same⟩
theorem el_catLV {a : Addr} {xs zs : List V} (hb : EvL ta σ H zs) (ha : Ev tb σ H (.ref a)) (h2 : H a = some (.lst xs)) (hz : zs.length + xs.length ≤ 100000) : EvL (tOp rCat ta tb) σ H (zs ++ xs) := fun H1 e Q q =>
  hb H1 e _ fun p H2 _ e2 hp => ha H2 (e.trans e2) _ fun H3 e3 => ⟨p, a, zs, xs, rfl, rfl, e3 _ _ hp, e3 _ _ (e2 _ _ (e _ _ h2)), sz_of hz, fun u hu => q u _ (fresh_back (e2.trans e3) hu) ((e2.trans e3).trans (Ex.new hu)) upd_same⟩
/-- [row + [i] for i in range(n)] -/
theorem longer_use {r : List Int} {a : Addr} {i1 j : Nat} {ws : List Nat} {n : Nat} {Q : VK} (hn : n ≤ 10000) (hr : r.length ≤ 100) (h : EvA tr σ H [.int (n : Int)]) (ha : H a = some (.lst (r.map V.int)))
    (hw : ∀ y, wipe ((wipe σ ws).set j (some y)) ws = wipe σ ws) (hx : ∀ y, ((wipe σ ws).set j (some y))[i1]? = some (some (.ref a))) (hj : ∀ y, ((wipe σ ws).set j (some y))[j]? = some (some y))
    (k : ∀ D H', H D = none → Ex H H' → LL H' D ((List.range n).map fun i : Nat => r ++ [(i : Int)]) → Q (.ref D) H') : tLc (iRng1 tr) (gName j) tYes (tOp rCat (tVar i1) (tLst (tCons (tVar j) tNil))) ws σ H Q := by
  refine h H (Ex.refl H) _ fun H1 e1 => ⟨_, rfl, by omega, by omega, fun D hD => ?_⟩
  have hD0 := fresh_back e1 hD
  rw [Int.toNat_natCast]
  refine lc_range (lo := 0) (n := n) (fun i H' => Ex H1 H' ∧ ∃ acc : List V, H' D = some (.lst acc) ∧ acc.length = i ∧ ∀ (t : Nat) (v : V), acc[t]? = some v → ∃ u, v = V.ref u ∧ u ≠ D ∧ H' u = some (HO.lst ((r ++ [(t : Int)]).map V.int)))
    ⟨Ex.new hD, [], upd_same, rfl, fun n v hv => by simp at hv⟩ (fun i H' hi p' => ?_) (fun H' p' => ?_)
  · obtain ⟨e, acc, ha', hl, hacc⟩ := p'
    refine ⟨hw _, ?_⟩
    unfold tYes
    dsimp only
    rw [if_pos rfl]
    have ec : (0 : Int) + (i : Int) = (i : Int) := Int.zero_add _
    show tOp rCat (tVar i1) (tLst (tCons (tVar j) tNil)) ((wipe σ ws).set j (some (.int ((0 : Int) + (i : Int))))) H' _
    rw [ec]
    refine el_use (el_catVL (a := a) (xs := r.map V.int) (zs := [V.int (i : Int)]) (ev_var (hx _)) ((e1.trans e) _ _ ha) (el_lst (ea_cons (ev_var (hj _)) ea_nil) (by show 1 ≤ 100000; decide)) (by rw [List.length_map]; show r.length + 1 ≤ 100000; omega)) fun u H2 hu e2 ku => ?_
    have uD : u ≠ D := fun z => by rw [z, ha'] at hu; cases hu
    refine ⟨acc, e2 _ _ ha', sz_lt (by omega), Ex.mut (e.trans e2) hD, acc ++ [.ref u], upd_same, by rw [List.length_append, hl]; rfl, fun t v hv => ?_⟩
    by_cases hn : t < acc.length
    · rw [List.getElem?_append_left hn] at hv
      obtain ⟨z, rfl, hz1, hz3⟩ := hacc t v hv
      exact ⟨z, rfl, hz1, by rw [upd_ne hz1]; exact e2 _ _ hz3⟩
    · rw [List.getElem?_append_right (by omega)] at hv
      cases hd : t - acc.length with
      | zero =>
        rw [hd] at hv
        cases hv
        have : t = i := by omega
        subst this
        exact ⟨u, rfl, uD, by rw [upd_ne uD, List.map_append]; exact ku⟩
      | succ m => rw [hd] at hv; simp at hv
  · obtain ⟨e, acc, ha', hl, hacc⟩ := p'
    refine k D H' hD0 (e1.trans e) ⟨acc, ha', by rw [hl, List.length_map, List.length_range], fun t s hs => ?_⟩
    rw [List.getElem?_map] at hs
    have ht : t < n := by
      by_cases c : t < n
      · exact c
      · rw [List.getElem?_eq_none (by rw [List.length_range]; omega)] at hs; cases hs
    rw [List.getElem?_range ht] at hs
    cases hs
    have hv : acc[t]? = some (acc[t]'(by omega)) := List.getElem?_eq_getElem (by omega)
    obtain ⟨u, hu, _, h3⟩ := hacc t _ hv
    exact ⟨u, by rw [hv, hu], h3⟩
/-- a comprehension over range(n) that makes lists of ints -/
theorem lists_use {f : Nat → List Int} {j : Nat} {ws : List Nat} {n : Nat} {Q : VK} (hn : n ≤ 40000) (h : EvA tr σ H [.int (n : Int)])
    (hw : ∀ y, wipe ((wipe σ ws).set j (some y)) ws = wipe σ ws) (he : ∀ (i : Nat) H1, Ex H H1 → i < n → EvL te ((wipe σ ws).set j (some (.int (i : Int)))) H1 ((f i).map V.int))
    (k : ∀ D H', H D = none → Ex H H' → LL H' D ((List.range n).map f) → Q (.ref D) H') : tLc (iRng1 tr) (gName j) tYes te ws σ H Q := by
  refine h H (Ex.refl H) _ fun H1 e1 => ⟨_, rfl, by omega, by omega, fun D hD => ?_⟩
  have hD0 := fresh_back e1 hD
  rw [Int.toNat_natCast]
  refine lc_range (lo := 0) (n := n) (fun i H' => Ex H1 H' ∧ ∃ acc : List V, H' D = some (.lst acc) ∧ acc.length = i ∧ ∀ (t : Nat) (v : V), acc[t]? = some v → ∃ u, v = V.ref u ∧ u ≠ D ∧ H' u = some (HO.lst ((f t).map V.int)))
    ⟨Ex.new hD, [], upd_same, rfl, fun n v hv => by simp at hv⟩ (fun i H' hi p' => ?_) (fun H' p' => ?_)
  · obtain ⟨e, acc, ha', hl, hacc⟩ := p'
    refine ⟨hw _, ?_⟩
    unfold tYes
    dsimp only
    rw [if_pos rfl]
    have ec : (0 : Int) + (i : Int) = (i : Int) := Int.zero_add _
    show te ((wipe σ ws).set j (some (.int ((0 : Int) + (i : Int))))) H' _
    rw [ec]
    refine el_use (he i H' (e1.trans e) hi) fun u H2 hu e2 ku => ?_
    have uD : u ≠ D := fun z => by rw [z, ha'] at hu; cases hu
    refine ⟨acc, e2 _ _ ha', sz_lt (by omega), Ex.mut (e.trans e2) hD, acc ++ [.ref u], upd_same, by rw [List.length_append, hl]; rfl, fun t v hv => ?_⟩
    by_cases hn : t < acc.length
    · rw [List.getElem?_append_left hn] at hv
      obtain ⟨z, rfl, hz1, hz3⟩ := hacc t v hv
      exact ⟨z, rfl, hz1, by rw [upd_ne hz1]; exact e2 _ _ hz3⟩
    · rw [List.getElem?_append_right (by omega)] at hv
      cases hd : t - acc.length with
      | zero =>
        rw [hd] at hv
        cases hv
        have : t = i := by omega
        subst this
        exact ⟨u, rfl, uD, by rw [upd_ne uD]; exact ku⟩
      | succ m => rw [hd] at hv; simp at hv
  · obtain ⟨e, acc, ha', hl, hacc⟩ := p'
    refine k D H' hD0 (e1.trans e) ⟨acc, ha', by rw [hl, List.length_map, List.length_range], fun t s hs => ?_⟩
    rw [List.getElem?_map] at hs
    have ht : t < n := by
      by_cases c : t < n
      · exact c
      · rw [List.getElem?_eq_none (by rw [List.length_range]; omega)] at hs; cases hs
    rw [List.getElem?_range ht] at hs
    cases hs
    have hv : acc[t]? = some (acc[t]'(by omega)) := List.getElem?_eq_getElem (by omega)
    obtain ⟨u, hu, _, h3⟩ := hacc t _ hv
    exact ⟨u, by rw [hv, hu], h3⟩
/-- [f(r) for r in rows if t(r)] -/
theorem el_mapLLt {rs : List (List Int)} {p : Addr} {j : Nat} {vs : List Nat} {t : TT} (b : List Int → Bool) (f : List Int → V) (h : Ev tl σ H (.ref p)) (hp : LL H p rs) (hz : rs.length ≤ 40000) (hw : ∀ x, wipe ((wipe σ vs).set j (some x)) vs = wipe σ vs)
    (ht : ∀ (a : Addr) (r : List Int) H1, Ex H H1 → r ∈ rs → H1 a = some (.lst (r.map V.int)) → EvT t ((wipe σ vs).set j (some (.ref a))) H1 (b r))
    (he : ∀ (a : Addr) (r : List Int) H1, Ex H H1 → r ∈ rs → H1 a = some (.lst (r.map V.int)) → b r = true → Ev te ((wipe σ vs).set j (some (.ref a))) H1 (f r)) : EvL (tLc (iList K tl) (gName j) t te vs) σ H ((rs.filter b).map f) := by
  obtain ⟨as, h1, h2⟩ := hp
  have e : ∀ l : List (List Int), given l.length (fun i => b (l.getD i [])) (fun i => f (l.getD i [])) = (l.filter b).map f := by
    intro l
    unfold given
    show List.map (f ∘ fun i => l.getD i []) _ = _
    rw [← List.map_map]
    congr 1
    have m : (List.range l.length).map (fun i => l.getD i []) = l := by
      apply List.ext_getElem?
      intro i
      rw [List.getElem?_map]
      by_cases c : i < l.length
      · rw [List.getElem?_range c, List.getElem?_eq_getElem c]
        simp [c]
      · rw [List.getElem?_eq_none (by rw [List.length_range]; omega), List.getElem?_eq_none (by omega)]
        rfl
    conv => rhs; rw [← m]
    rw [List.filter_map]
    rfl
  rw [← e rs, ← h2.1]
  refine el_lcL (fun i => b (rs.getD i [])) (fun i => f (rs.getD i [])) h (sq_of h1) (by rw [h2.1]; exact hz) hw (fun i x H1 ex hx => ?_) (fun i x H1 ex hx hb => ?_)
  · obtain ⟨a, r, rfl, hr, ha⟩ := h2.get hx
    rw [List.getD_eq_getElem?_getD, hr]
    exact ht a r H1 ex (List.mem_of_getElem? hr) (ex _ _ ha)
  · obtain ⟨a, r, rfl, hr, ha⟩ := h2.get hx
    rw [List.getD_eq_getElem?_getD, hr] at hb ⊢
    exact he a r H1 ex (List.mem_of_getElem? hr) (ex _ _ ha) hb
theorem el_mapLL {rs : List (List Int)} {p : Addr} {j : Nat} {vs : List Nat} (f : List Int → V) (h : Ev tl σ H (.ref p)) (hp : LL H p rs) (hz : rs.length ≤ 40000) (hw : ∀ x, wipe ((wipe σ vs).set j (some x)) vs = wipe σ vs)
    (he : ∀ (a : Addr) (r : List Int) H1, Ex H H1 → r ∈ rs → H1 a = some (.lst (r.map V.int)) → Ev te ((wipe σ vs).set j (some (.ref a))) H1 (f r)) : EvL (tLc (iList K tl) (gName j) tYes te vs) σ H (rs.map f) := by
  have k := el_mapLLt (K := K) (t := tYes) (fun _ => true) f h hp hz hw (fun a r H1 _ _ _ => fun H2 _ Q q => q H2 (Ex.refl H2)) (fun a r H1 e hr ha _ => he a r H1 e hr ha)
  rw [List.filter_eq_self.mpr (fun _ _ => rfl)] at k
  exact k
theorem Lv.nil : Lv H [] [] := ⟨rfl, fun i r hr => by cases hr⟩
theorem top_in2 {r : R2} {Q : VK} (k : ta σ H fun x H1 => tb σ H1 fun y H2 => r x y H2 Q) : tOp r ta tb σ H Q := k
theorem cut_nat {xs : List Int} {lo hi : Nat} (h : hi ≤ xs.length) : cutV (xs.map V.int) (some (lo : Int)) (some (hi : Int)) = ((xs.drop lo).take (hi - lo)).map V.int := by
  unfold cutV
  rw [HT.sIx_nat, HT.sIx_nat, List.length_map, Nat.min_eq_left h, List.map_take, List.map_drop]
  by_cases c : lo ≤ xs.length
  · rw [Nat.min_eq_left c]
  · rw [Nat.min_eq_right (by omega), List.drop_of_length_le (by rw [List.length_map]; omega), List.drop_of_length_le (by rw [List.length_map]; omega), List.take_nil, List.take_nil]
end
end WS

set_option Elab.async false
set_option linter.all false
set_option maxRecDepth 100000
set_option maxHeartbeats 2000000
namespace WS
open PySem PySem.Spec PyProof.Rows L2 Evl
theorem fmod_in (a b : Int) (h : 0 < b) : 0 ≤ a.fmod b ∧ a.fmod b < b := by
  rw [Int.fmod_eq_emod_of_nonneg a (by omega)]
  exact ⟨Int.emod_nonneg a (by omega), Int.emod_lt_of_pos a h⟩
/-- a generator at g, of which so many numbers at most were drawn by counting -/
def Gs (H : Hp) (g : Addr) (C : Nat) : Prop := ∃ A B c : Int, H g = some (.lst [.int A, .int B, .int c]) ∧ 0 ≤ A ∧ (0 ≤ B ∧ B < 2147483648) ∧ 0 ≤ c ∧ c ≤ C
theorem Gs.ex {H H' : Hp} {g : Addr} {C : Nat} (h : Gs H g C) (e : Ex H H') : Gs H' g C := by
  obtain ⟨A, B, c, h1, h2⟩ := h
  exact ⟨A, B, c, e _ _ h1, h2⟩
theorem Gs.mono {H : Hp} {g : Addr} {C C' : Nat} (h : Gs H g C) (e : C ≤ C') : Gs H g C' := by
  obtain ⟨A, B, c, h1, h2, h3, h4, h5⟩ := h
  exact ⟨A, B, c, h1, h2, h3, h4, by omega⟩
theorem Gs.some {H : Hp} {g : Addr} {C : Nat} (h : Gs H g C) : ∃ o, H g = some o := by
  obtain ⟨A, B, c, h1, _⟩ := h
  exact ⟨_, h1⟩
theorem Gs.upd {H : Hp} {g p : Addr} {C : Nat} {o : HO} (h : Gs H g C) (n : g ≠ p) : Gs (upd H p o) g C := by
  obtain ⟨A, B, c, h1, h2⟩ := h
  exact ⟨A, B, c, by rw [upd_ne n]; exact h1, h2⟩
theorem ints_use {σ : L2.St} {H : Hp} {ta : TA} {te : TE} {j : Nat} {ws : List Nat} {n : Nat} {g : Addr} {C d : Nat} {Q : VK} (P : Int → Prop) (h : EvA ta σ H [.int (n : Int)]) (hn : n ≤ 100) (hw : ∀ x, wipe ((wipe σ ws).set j (some x)) ws = wipe σ ws) (hg : Gs H g C)
    (step : ∀ (i : Nat) H' (R : VK), i < n → Gs H' g (C + d * i) → ExB g H H' → (∀ z H2, P z → Gs H2 g (C + d * i + d) → ExB g H' H2 → R (.int z) H2) → te ((wipe σ ws).set j (some (.int (i : Int)))) H' R)
    (k : ∀ (D : Addr) (H' : Hp) (zs : List Int), H D = none → zs.length = n → (∀ z ∈ zs, P z) → H' D = Option.some (HO.lst (zs.map V.int)) → Gs H' g (C + d * n) → ExB g H H' → Q (.ref D) H') : tLc (iRng1 ta) (gName j) tYes te ws σ H Q := by
  obtain ⟨og, hog⟩ := hg.some
  refine h H (Ex.refl H) _ fun H1 e1 => ⟨(n : Int), rfl, by omega, by omega, fun D hD => ?_⟩
  have hD0 := fresh_back e1 hD
  have gD : g ≠ D := fun z => by rw [z, hD0] at hog; cases hog
  rw [Int.toNat_natCast]
  refine lc_range (lo := 0) (n := n) (fun i H' => ∃ zs : List Int, zs.length = i ∧ (∀ z ∈ zs, P z) ∧ H' D = Option.some (HO.lst (zs.map V.int)) ∧ Gs H' g (C + d * i) ∧ ExB g H H') ⟨[], rfl, fun z hz => absurd hz List.not_mem_nil, upd_same, (hg.ex e1).upd gD, fun b o hb hh => by rw [upd_ne (ne_of_none hh hD0)]; exact e1 _ _ hh⟩ (fun i H' hi p => ?_) (fun H' p => ?_)
  · obtain ⟨zs, hl, hz, hL, hG, hE⟩ := p
    rw [Int.zero_add]
    refine ⟨hw _, step i H' _ hi hG hE fun z H2 pz hG2 hE2 => ⟨zs.map V.int, hE2 D _ (Ne.symm gD) hL, sz_lt (by rw [List.length_map]; omega), zs ++ [z], by rw [List.length_append, hl]; rfl, fun y hy => ?_, ?_, ?_, ?_⟩⟩
    · rcases List.mem_append.mp hy with h | h
      · exact hz y h
      · rw [List.mem_singleton] at h
        rw [h]
        exact pz
    · show _ = _
      rw [upd_same, List.map_append]
      rfl
    · rw [Nat.mul_add, Nat.mul_one, ← Nat.add_assoc]
      exact hG2.upd gD
    · exact fun b o hb hh => by rw [upd_ne (ne_of_none hh hD0)]; exact (hE.trans hE2) b o hb hh
  · obtain ⟨zs, hl, hz, hL, hG, hE⟩ := p
    exact k D H' zs hD0 hl hz hL hG hE
end WS

set_option Elab.async false
set_option linter.all false
set_option maxRecDepth 100000
set_option maxHeartbeats 2000000
namespace K47
open PySem PySem.Spec PyProof.Rows L2 Evl WS M41 M47
def topS (i : Nat) : Stmt := PySem.Challenge.pw_wholesound_k47_gains_and_halves.main.body.getD i (.Pass ⟨0, 0, 0, 0⟩)
abbrev s_is_number : Stmt := topS 5
theorem sc_is_number : FnScope ["value"] ["value"] (defScope s_is_number) := ⟨rfl, rfl, rfl, by decide +kernel, rfl, by decide +kernel, by decide +kernel⟩
abbrev s_is_count : Stmt := topS 6
theorem sc_is_count : FnScope ["value"] ["value"] (defScope s_is_count) := ⟨rfl, rfl, rfl, by decide +kernel, rfl, by decide +kernel, by decide +kernel⟩
abbrev s_is_counts : Stmt := topS 7
theorem sc_is_counts : FnScope ["value", "item"] ["value"] (defScope s_is_counts) := ⟨rfl, rfl, rfl, by decide +kernel, rfl, by decide +kernel, by decide +kernel⟩
abbrev s_check_from : Stmt := topS 8
theorem sc_check_from : FnScope ["number", "low"] ["number", "low"] (defScope s_check_from) := ⟨rfl, rfl, rfl, by decide +kernel, rfl, by decide +kernel, by decide +kernel⟩
abbrev s_check_count : Stmt := topS 9
theorem sc_check_count : FnScope ["number"] ["number"] (defScope s_check_count) := ⟨rfl, rfl, rfl, by decide +kernel, rfl, by decide +kernel, by decide +kernel⟩
abbrev s_check_folds : Stmt := topS 12
theorem sc_check_folds : FnScope ["folds"] ["folds"] (defScope s_check_folds) := ⟨rfl, rfl, rfl, by decide +kernel, rfl, by decide +kernel, by decide +kernel⟩
abbrev s_cost_at : Stmt := topS 13
theorem sc_cost_at : FnScope ["folds", "width", "number"] ["folds", "width"] (defScope s_cost_at) := ⟨rfl, rfl, rfl, by decide +kernel, rfl, by decide +kernel, by decide +kernel⟩
abbrev s_best_widths : Stmt := topS 14
theorem sc_best_widths : FnScope ["folds", "first", "last"] ["folds"] (defScope s_best_widths) := ⟨rfl, rfl, rfl, by decide +kernel, rfl, by decide +kernel, by decide +kernel⟩
abbrev s_rise : Stmt := topS 15
theorem sc_rise : FnScope ["folds", "width", "number"] ["folds", "width"] (defScope s_rise) := ⟨rfl, rfl, rfl, by decide +kernel, rfl, by decide +kernel, by decide +kernel⟩
abbrev s_gain_beside : Stmt := topS 17
theorem sc_gain_beside : FnScope ["noughts", "full", "bits", "greatest", "widths", "others", "both", "width", "price"] ["noughts", "full", "bits"] (defScope s_gain_beside) := ⟨rfl, rfl, rfl, by decide +kernel, rfl, by decide +kernel, by decide +kernel⟩
abbrev s_greatest_gain : Stmt := topS 18
theorem sc_greatest_gain : FnScope ["one", "other", "bits"] ["one", "other", "bits"] (defScope s_greatest_gain) := ⟨rfl, rfl, rfl, by decide +kernel, rfl, by decide +kernel, by decide +kernel⟩
abbrev s_check_rows : Stmt := topS 19
theorem sc_check_rows : FnScope ["one", "other", "bits"] ["one", "other", "bits"] (defScope s_check_rows) := ⟨rfl, rfl, rfl, by decide +kernel, rfl, by decide +kernel, by decide +kernel⟩
abbrev s_most_gained : Stmt := topS 20
theorem sc_most_gained : FnScope ["one", "other", "bits"] ["one", "other", "bits"] (defScope s_most_gained) := ⟨rfl, rfl, rfl, by decide +kernel, rfl, by decide +kernel, by decide +kernel⟩
abbrev s_gain_rows : Stmt := topS 21
theorem sc_gain_rows : FnScope ["one", "other", "bits", "full"] ["one", "other", "bits"] (defScope s_gain_rows) := ⟨rfl, rfl, rfl, by decide +kernel, rfl, by decide +kernel, by decide +kernel⟩
abbrev s_never_pays : Stmt := topS 22
theorem sc_never_pays : FnScope ["one", "other", "bits", "cost"] ["one", "other", "bits", "cost"] (defScope s_never_pays) := ⟨rfl, rfl, rfl, by decide +kernel, rfl, by decide +kernel, by decide +kernel⟩
abbrev s_halves : Stmt := topS 23
theorem sc_halves : FnScope ["folds", "most"] ["folds", "most"] (defScope s_halves) := ⟨rfl, rfl, rfl, by decide +kernel, rfl, by decide +kernel, by decide +kernel⟩
abbrev s_halved_sums : Stmt := topS 24
theorem sc_halved_sums : FnScope ["folds", "most", "sums", "length", "stretches", "at", "stretch"] ["folds", "most"] (defScope s_halved_sums) := ⟨rfl, rfl, rfl, by decide +kernel, rfl, by decide +kernel, by decide +kernel⟩
abbrev s_least_half : Stmt := topS 25
theorem sc_least_half : FnScope ["folds", "most", "cost", "totals", "times", "total"] ["folds", "most", "cost"] (defScope s_least_half) := ⟨rfl, rfl, rfl, by decide +kernel, rfl, by decide +kernel, by decide +kernel⟩
abbrev s__law_cell : Stmt := topS 27
theorem sc__law_cell : FnScope ["_law_script", "_law_index"] ["_law_script", "_law_index"] (defScope s__law_cell) := ⟨rfl, rfl, rfl, by decide +kernel, rfl, by decide +kernel, by decide +kernel⟩
abbrev s__law_hash : Stmt := topS 28
theorem sc__law_hash : FnScope ["_law_seed", "_law_index", "_law_mixed"] ["_law_seed", "_law_index"] (defScope s__law_hash) := ⟨rfl, rfl, rfl, by decide +kernel, rfl, by decide +kernel, by decide +kernel⟩
abbrev s__law_generator : Stmt := topS 29
theorem sc__law_generator : FnScope ["_law_script", "_law_index", "_law_seed"] ["_law_script", "_law_index"] (defScope s__law_generator) := ⟨rfl, rfl, rfl, by decide +kernel, rfl, by decide +kernel, by decide +kernel⟩
abbrev s__law_random : Stmt := topS 30
theorem sc__law_random : FnScope ["_law_generator_here", "_law_bound", "_law_drawn_here", "_law_turn"] ["_law_generator_here", "_law_bound"] (defScope s__law_random) := ⟨rfl, rfl, rfl, by decide +kernel, rfl, by decide +kernel, by decide +kernel⟩
abbrev s__law_price : Stmt := topS 31
theorem sc__law_price : FnScope ["_law_folds", "_law_width", "_law_total", "_law_fold"] ["_law_folds", "_law_width"] (defScope s__law_price) := ⟨rfl, rfl, rfl, by decide +kernel, rfl, by decide +kernel, by decide +kernel⟩
abbrev s__law_below : Stmt := topS 32
theorem sc__law_below : FnScope ["_law_many", "_law_top", "_law_found", "_law_turn", "_law_longer", "_law_row", "_law_one"] ["_law_many", "_law_top"] (defScope s__law_below) := ⟨rfl, rfl, rfl, by decide +kernel, rfl, by decide +kernel, by decide +kernel⟩
abbrev s__law_least_price : Stmt := topS 33
theorem sc__law_least_price : FnScope ["_law_folds", "_law_width"] ["_law_folds"] (defScope s__law_least_price) := ⟨rfl, rfl, rfl, by decide +kernel, rfl, by decide +kernel, by decide +kernel⟩
abbrev s__law_gain : Stmt := topS 34
theorem sc__law_gain : FnScope ["_law_one", "_law_other"] ["_law_one", "_law_other"] (defScope s__law_gain) := ⟨rfl, rfl, rfl, by decide +kernel, rfl, by decide +kernel, by decide +kernel⟩
abbrev s__law_rows_right : Stmt := topS 35
theorem sc__law_rows_right : FnScope ["_law_one", "_law_other", "_law_bits", "_law_most", "_law_mine", "_law_yours", "_law_told", "_law_fold", "_law_cost"] ["_law_one", "_law_other", "_law_bits", "_law_most"] (defScope s__law_rows_right) := ⟨rfl, rfl, rfl, by decide +kernel, rfl, by decide +kernel, by decide +kernel⟩
abbrev s__law_small_right : Stmt := topS 36
theorem sc__law_small_right : FnScope ["_law_one", "_law_other", "_law_bits", "_law_left", "_law_right", "_law_gains", "_law_mine", "_law_most", "_law_yours"] ["_law_one", "_law_other", "_law_bits"] (defScope s__law_small_right) := ⟨rfl, rfl, rfl, by decide +kernel, rfl, by decide +kernel, by decide +kernel⟩
abbrev s__law_drawn : Stmt := topS 37
theorem sc__law_drawn : FnScope ["_law_generator_here", "_law_many", "_law_bits", "_law_loud", "_law_turn"] ["_law_generator_here", "_law_many", "_law_bits"] (defScope s__law_drawn) := ⟨rfl, rfl, rfl, by decide +kernel, rfl, by decide +kernel, by decide +kernel⟩
abbrev s__law_halves_right : Stmt := topS 38
theorem sc__law_halves_right : FnScope ["_law_folds", "_law_most", "_law_due", "_law_power", "_law_size", "_law_parts", "_law_cost", "_law_totals", "_law_at", "_law_part", "_law_total"] ["_law_folds", "_law_most"] (defScope s__law_halves_right) := ⟨rfl, rfl, rfl, by decide +kernel, rfl, by decide +kernel, by decide +kernel⟩
abbrev s_law : Stmt := topS 39
theorem sc_law : FnScope ["_law_script", "_law_generator_here", "_law_some", "_law_one", "_law_other", "_law_bits", "_law_most", "_law_turn", "_law_many", "_law_folds"] ["_law_script"] (defScope s_law) := ⟨rfl, rfl, rfl, by decide +kernel, rfl, by decide +kernel, by decide +kernel⟩
structure Tx (K : PySem.W.Frag) (mg : Str → Option Value) where
  a_is_number : Addr
  d_is_number : FuncData
  f_is_number : Fun K "is_number" "is_number" s_is_number a_is_number d_is_number
  b_is_number : Binds K d_is_number ["value"] []
  g_is_number : mg "is_number" = some (.ref a_is_number)
  a_is_count : Addr
  d_is_count : FuncData
  f_is_count : Fun K "is_count" "is_count" s_is_count a_is_count d_is_count
  b_is_count : Binds K d_is_count ["value"] []
  g_is_count : mg "is_count" = some (.ref a_is_count)
  a_is_counts : Addr
  d_is_counts : FuncData
  f_is_counts : Fun K "is_counts" "is_counts" s_is_counts a_is_counts d_is_counts
  b_is_counts : Binds K d_is_counts ["value"] []
  g_is_counts : mg "is_counts" = some (.ref a_is_counts)
  a_check_from : Addr
  d_check_from : FuncData
  f_check_from : Fun K "check_from" "check_from" s_check_from a_check_from d_check_from
  b_check_from : Binds K d_check_from ["number", "low"] []
  g_check_from : mg "check_from" = some (.ref a_check_from)
  a_check_count : Addr
  d_check_count : FuncData
  f_check_count : Fun K "check_count" "check_count" s_check_count a_check_count d_check_count
  b_check_count : Binds K d_check_count ["number"] []
  g_check_count : mg "check_count" = some (.ref a_check_count)
  a_check_folds : Addr
  d_check_folds : FuncData
  f_check_folds : Fun K "check_folds" "check_folds" s_check_folds a_check_folds d_check_folds
  b_check_folds : Binds K d_check_folds ["folds"] []
  g_check_folds : mg "check_folds" = some (.ref a_check_folds)
  a_cost_at : Addr
  d_cost_at : FuncData
  f_cost_at : Fun K "cost_at" "cost_at" s_cost_at a_cost_at d_cost_at
  b_cost_at : Binds K d_cost_at ["folds", "width"] []
  g_cost_at : mg "cost_at" = some (.ref a_cost_at)
  a_best_widths : Addr
  d_best_widths : FuncData
  f_best_widths : Fun K "best_widths" "best_widths" s_best_widths a_best_widths d_best_widths
  b_best_widths : Binds K d_best_widths ["folds"] []
  g_best_widths : mg "best_widths" = some (.ref a_best_widths)
  a_rise : Addr
  d_rise : FuncData
  f_rise : Fun K "rise" "rise" s_rise a_rise d_rise
  b_rise : Binds K d_rise ["folds", "width"] []
  g_rise : mg "rise" = some (.ref a_rise)
  a_gain_beside : Addr
  d_gain_beside : FuncData
  f_gain_beside : Fun K "gain_beside" "gain_beside" s_gain_beside a_gain_beside d_gain_beside
  b_gain_beside : Binds K d_gain_beside ["noughts", "full", "bits"] []
  g_gain_beside : mg "gain_beside" = some (.ref a_gain_beside)
  a_greatest_gain : Addr
  d_greatest_gain : FuncData
  f_greatest_gain : Fun K "greatest_gain" "greatest_gain" s_greatest_gain a_greatest_gain d_greatest_gain
  b_greatest_gain : Binds K d_greatest_gain ["one", "other", "bits"] []
  g_greatest_gain : mg "greatest_gain" = some (.ref a_greatest_gain)
  a_check_rows : Addr
  d_check_rows : FuncData
  f_check_rows : Fun K "check_rows" "check_rows" s_check_rows a_check_rows d_check_rows
  b_check_rows : Binds K d_check_rows ["one", "other", "bits"] []
  g_check_rows : mg "check_rows" = some (.ref a_check_rows)
  a_most_gained : Addr
  d_most_gained : FuncData
  f_most_gained : Fun K "most_gained" "most_gained" s_most_gained a_most_gained d_most_gained
  b_most_gained : Binds K d_most_gained ["one", "other", "bits"] []
  g_most_gained : mg "most_gained" = some (.ref a_most_gained)
  a_gain_rows : Addr
  d_gain_rows : FuncData
  f_gain_rows : Fun K "gain_rows" "gain_rows" s_gain_rows a_gain_rows d_gain_rows
  b_gain_rows : Binds K d_gain_rows ["one", "other", "bits"] []
  g_gain_rows : mg "gain_rows" = some (.ref a_gain_rows)
  a_never_pays : Addr
  d_never_pays : FuncData
  f_never_pays : Fun K "never_pays" "never_pays" s_never_pays a_never_pays d_never_pays
  b_never_pays : Binds K d_never_pays ["one", "other", "bits", "cost"] []
  g_never_pays : mg "never_pays" = some (.ref a_never_pays)
  a_halves : Addr
  d_halves : FuncData
  f_halves : Fun K "halves" "halves" s_halves a_halves d_halves
  b_halves : Binds K d_halves ["folds", "most"] []
  g_halves : mg "halves" = some (.ref a_halves)
  a_halved_sums : Addr
  d_halved_sums : FuncData
  f_halved_sums : Fun K "halved_sums" "halved_sums" s_halved_sums a_halved_sums d_halved_sums
  b_halved_sums : Binds K d_halved_sums ["folds", "most"] []
  g_halved_sums : mg "halved_sums" = some (.ref a_halved_sums)
  a_least_half : Addr
  d_least_half : FuncData
  f_least_half : Fun K "least_half" "least_half" s_least_half a_least_half d_least_half
  b_least_half : Binds K d_least_half ["folds", "most", "cost"] []
  g_least_half : mg "least_half" = some (.ref a_least_half)
  a__law_cell : Addr
  d__law_cell : FuncData
  f__law_cell : Fun K "_law_cell" "_law_cell" s__law_cell a__law_cell d__law_cell
  b__law_cell : Binds K d__law_cell ["_law_script", "_law_index"] []
  g__law_cell : mg "_law_cell" = some (.ref a__law_cell)
  a__law_hash : Addr
  d__law_hash : FuncData
  f__law_hash : Fun K "_law_hash" "_law_hash" s__law_hash a__law_hash d__law_hash
  b__law_hash : Binds K d__law_hash ["_law_seed", "_law_index"] []
  g__law_hash : mg "_law_hash" = some (.ref a__law_hash)
  a__law_generator : Addr
  d__law_generator : FuncData
  f__law_generator : Fun K "_law_generator" "_law_generator" s__law_generator a__law_generator d__law_generator
  b__law_generator : Binds K d__law_generator ["_law_script", "_law_index"] []
  g__law_generator : mg "_law_generator" = some (.ref a__law_generator)
  a__law_random : Addr
  d__law_random : FuncData
  f__law_random : Fun K "_law_random" "_law_random" s__law_random a__law_random d__law_random
  b__law_random : Binds K d__law_random ["_law_generator_here", "_law_bound"] []
  g__law_random : mg "_law_random" = some (.ref a__law_random)
  a__law_price : Addr
  d__law_price : FuncData
  f__law_price : Fun K "_law_price" "_law_price" s__law_price a__law_price d__law_price
  b__law_price : Binds K d__law_price ["_law_folds", "_law_width"] []
  g__law_price : mg "_law_price" = some (.ref a__law_price)
  a__law_below : Addr
  d__law_below : FuncData
  f__law_below : Fun K "_law_below" "_law_below" s__law_below a__law_below d__law_below
  b__law_below : Binds K d__law_below ["_law_many", "_law_top"] []
  g__law_below : mg "_law_below" = some (.ref a__law_below)
  a__law_least_price : Addr
  d__law_least_price : FuncData
  f__law_least_price : Fun K "_law_least_price" "_law_least_price" s__law_least_price a__law_least_price d__law_least_price
  b__law_least_price : Binds K d__law_least_price ["_law_folds"] []
  g__law_least_price : mg "_law_least_price" = some (.ref a__law_least_price)
  a__law_gain : Addr
  d__law_gain : FuncData
  f__law_gain : Fun K "_law_gain" "_law_gain" s__law_gain a__law_gain d__law_gain
  b__law_gain : Binds K d__law_gain ["_law_one", "_law_other"] []
  g__law_gain : mg "_law_gain" = some (.ref a__law_gain)
  a__law_rows_right : Addr
  d__law_rows_right : FuncData
  f__law_rows_right : Fun K "_law_rows_right" "_law_rows_right" s__law_rows_right a__law_rows_right d__law_rows_right
  b__law_rows_right : Binds K d__law_rows_right ["_law_one", "_law_other", "_law_bits", "_law_most"] []
  g__law_rows_right : mg "_law_rows_right" = some (.ref a__law_rows_right)
  a__law_small_right : Addr
  d__law_small_right : FuncData
  f__law_small_right : Fun K "_law_small_right" "_law_small_right" s__law_small_right a__law_small_right d__law_small_right
  b__law_small_right : Binds K d__law_small_right ["_law_one", "_law_other", "_law_bits"] []
  g__law_small_right : mg "_law_small_right" = some (.ref a__law_small_right)
  a__law_drawn : Addr
  d__law_drawn : FuncData
  f__law_drawn : Fun K "_law_drawn" "_law_drawn" s__law_drawn a__law_drawn d__law_drawn
  b__law_drawn : Binds K d__law_drawn ["_law_generator_here", "_law_many", "_law_bits"] []
  g__law_drawn : mg "_law_drawn" = some (.ref a__law_drawn)
  a__law_halves_right : Addr
  d__law_halves_right : FuncData
  f__law_halves_right : Fun K "_law_halves_right" "_law_halves_right" s__law_halves_right a__law_halves_right d__law_halves_right
  b__law_halves_right : Binds K d__law_halves_right ["_law_folds", "_law_most"] []
  g__law_halves_right : mg "_law_halves_right" = some (.ref a__law_halves_right)
  a_law : Addr
  d_law : FuncData
  f_law : Fun K "law" "law" s_law a_law d_law
  b_law : Binds K d_law ["_law_script"] []
  g_law : mg "law" = some (.ref a_law)
  t_GREATEST_WIDTH : Tok
  c_GREATEST_WIDTH : mg "GREATEST_WIDTH" = some (.int 120 t_GREATEST_WIDTH)
  m_all : mg "all" = none
  m_bool : mg "bool" = none
  m_enumerate : mg "enumerate" = none
  m_int : mg "int" = none
  m_isinstance : mg "isinstance" = none
  m_len : mg "len" = none
  m_list : mg "list" = none
  m_max : mg "max" = none
  m_min : mg "min" = none
  m_range : mg "range" = none
  m_repr : mg "repr" = none
  m_sorted : mg "sorted" = none
  m_sum : mg "sum" = none
end K47

set_option Elab.async false
set_option linter.all false
set_option maxRecDepth 100000
set_option maxHeartbeats 4000000
namespace K47
open PySem PySem.Spec PyProof.Rows L2 Evl WS M41 M47
/-- folds at a: a tracked list of good numbers -/
structure Fo (H : Hp) (a : Addr) (fs : List Int) : Prop where
  at_ : H a = some (.lst (fs.map V.int))
  good : Good fs
  len : fs.length ≤ 1000
theorem Fo.ex {H H' : Hp} {a : Addr} {fs : List Int} (h : Fo H a fs) (e : Ex H H') : Fo H' a fs := ⟨e _ _ h.at_, h.good, h.len⟩
theorem Fo.sq {K : PySem.W.Frag} {H : Hp} {a : Addr} {fs : List Int} (h : Fo H a fs) : SqL K H a (fs.map V.int) := sq_of h.at_
def sp_is_number (K : PySem.W.Frag) : Sp := fun vs H Q _ => ∃ i, vs = [.int i] ∧ RetV (.bl true) H Q
def sp_is_count (K : PySem.W.Frag) : Sp := fun vs H Q _ => ∃ i, vs = [.int i] ∧ 0 ≤ i ∧ RetV (.bl true) H Q
def sp_is_counts (K : PySem.W.Frag) : Sp := fun vs H Q _ => ∃ a fs, vs = [.ref a] ∧ Fo H a fs ∧ RetV (.bl true) H Q
def sp_check_folds (K : PySem.W.Frag) : Sp := fun vs H Q _ => ∃ a fs, vs = [.ref a] ∧ Fo H a fs ∧ RetV .non H Q
def sp_check_from (K : PySem.W.Frag) : Sp := fun vs H Q _ => ∃ i j, vs = [.int i, .int j] ∧ j ≤ i ∧ RetV .non H Q
def sp_check_count (K : PySem.W.Frag) : Sp := fun vs H Q _ => ∃ i, vs = [.int i] ∧ 0 ≤ i ∧ RetV .non H Q
def sp_cost_at (K : PySem.W.Frag) : Sp := fun vs H Q _ => ∃ a fs, ∃ k : Nat, vs = [.ref a, .int (k : Int)] ∧ Fo H a fs ∧ k ≤ 1000 ∧ RetV (.int (cst fs k)) H Q
def sp_rise (K : PySem.W.Frag) : Sp := fun vs H Q _ => ∃ a fs, ∃ k : Nat, vs = [.ref a, .int (k : Int)] ∧ Fo H a fs ∧ k ≤ 1000 ∧ RetV (.int (ris fs k)) H Q
def lwV (fs : List Int) : List V := if fs = [] then [.int 0, .int 0, .non] else [.int (cst fs (firstW fs)), .int (firstW fs : Int), .int (lastW fs : Int)]
def sp_best_widths (K : PySem.W.Frag) : Sp := fun vs H Q _ => ∃ a fs, vs = [.ref a] ∧ Fo H a fs ∧ RetU (lwV fs) H Q
section
variable {P : Program} {w : World} {K : PySem.W.Frag} {mg : Str → Option Value} {base : Heap}
theorem ok_is_number (T : Tx K mg) : FnOk P w K mg base CX0 1 T.a_is_number T.d_is_number ["value"] (sp_is_number K) := by
  refine T.f_is_number.ok (k := 0) sc_is_number (fun vs H Q E h => ?_) (fun cdv A outer s H vs Q E hr h => ?_)
  · obtain ⟨i, rfl, _⟩ := h
    rfl
  · obtain ⟨i, rfl, q⟩ := h
    refine ⟨_,       (pss_one (ps_ret (pe_and (pe_callB (id := "isinstance") (r := rIsi K) call_isi (by rfl) T.m_isinstance (by decide +kernel) (pa_cons (pv 0) (pa_cons (pe_bltn (by rfl) T.m_int (v := .ty "int") (by decide +kernel) rfl) pa_nil))) (pe_one (pe_not (pe_callB (id := "isinstance") (r := rIsi K) call_isi (by rfl) T.m_isinstance (by decide +kernel) (pa_cons (pv 0) (pa_cons (pe_bltn (by rfl) T.m_bool (v := .ty "bool") (by decide +kernel) rfl) pa_nil)))))))), ?_⟩
    exact s_ret (ev_andV (ev_isiI (b := true) (ev_var rfl) (by decide +kernel)) fun _ => ev_notV (ev_isiI (b := false) (ev_var rfl) (by decide +kernel))) q
theorem ok_is_count (T : Tx K mg) : FnOk P w K mg base CX0 2 T.a_is_count T.d_is_count ["value"] (sp_is_count K) := by
  refine T.f_is_count.ok (k := 1) sc_is_count (fun vs H Q E h => ?_) (fun cdv A outer s H vs Q E hr h => ?_)
  · obtain ⟨i, rfl, _⟩ := h
    rfl
  · obtain ⟨i, rfl, h1, q⟩ := h
    refine ⟨_,       (pss_one (ps_ret (pe_and (pe_call (ok_is_number T) hr (by rfl) T.g_is_number T.f_is_number.kp T.b_is_number .nil pass0 (pa_cons (pv 0) pa_nil)) (pe_one (pe_cmpR op_ge (pv 0) pe_int (nomark _)))))), ?_⟩
    refine s_ret (ev_is (ev_andV (ev_call (ea_cons (ev_var rfl) ea_nil) (spv fun H1 e Q q E => ⟨i, rfl, q⟩)) fun _ => ev_op (ev_var rfl) ev_c rv_I0) ?_) q
    rw [decide_eq_true h1]
    rfl
theorem ok_is_counts (T : Tx K mg) : FnOk P w K mg base CX0 3 T.a_is_counts T.d_is_counts ["value"] (sp_is_counts K) := by
  refine T.f_is_counts.ok (k := 2) sc_is_counts (fun vs H Q E h => ?_) (fun cdv A outer s H vs Q E hr h => ?_)
  · obtain ⟨a, fs, rfl, _⟩ := h
    rfl
  · obtain ⟨a, fs, rfl, hf, q⟩ := h
    refine ⟨_,       (pss_one (ps_ret (pe_and (pe_callB (id := "isinstance") (r := rIsi K) call_isi (by rfl) T.m_isinstance (by decide +kernel) (pa_cons (pv 0) (pa_cons (pe_bltn (by rfl) T.m_list (v := .ty "list") (by decide +kernel) rfl) pa_nil))) (pe_one (pe_callB (id := "all") (r := rAll K) (cr_all rfl) (by rfl) T.m_all (by decide +kernel) (pa_cons (pe_lc (own := [("item", 1)]) (g := gName 1) (tt := tYes) rfl sc_is_counts.nd (pi_list (pv 0)) (blkOk_by (own := [("item", 1)]) (N := ["value", "item"]) (sc := defScope s_is_counts) (by decide +kernel)) (fun _ _ _ _ _ => (pg_name (i := 1) sc_is_counts.nd rfl (by first | exact Or.inl rfl | exact Or.inr rfl))) (fun _ _ _ _ _ => pts_nil) (fun _ _ _ _ _ => (pe_call (ok_is_count T) hr (by rfl) T.g_is_count T.f_is_count.kp T.b_is_count .nil pass0 (pa_cons (pv 1) pa_nil)))) pa_nil)))))), ?_⟩
    refine s_ret (ev_is (ev_andV (ev_isiL (b := true) (ev_var rfl) hf.at_ (by decide +kernel)) fun _ => ev_allN (bs := fs.map fun _ => true) ?_) ?_) q
    · rw [List.map_map]
      exact el_map (0 : Int) (V.bl ∘ fun _ => true) (ev_var rfl) hf.sq (by have := hf.len; omega) (fun _ => rfl) (fun x H1 e hx => ev_call (ea_cons (ev_var rfl) ea_nil) (spv fun H1 e Q q E => ⟨x, rfl, (hf.good x hx).1, q⟩))
    · have : (fs.map fun _ => true).all id = true := by simp
      rw [this]
      rfl
theorem ok_check_folds (T : Tx K mg) : FnOk P w K mg base CX0 4 T.a_check_folds T.d_check_folds ["folds"] (sp_check_folds K) := by
  refine T.f_check_folds.ok (k := 3) sc_check_folds (fun vs H Q E h => ?_) (fun cdv A outer s H vs Q E hr h => ?_)
  · obtain ⟨a, fs, rfl, _⟩ := h
    rfl
  · obtain ⟨a, fs, rfl, hf, q⟩ := h
    refine ⟨_,       (pss_one (ps_if (pt_not (pt_val (pe_call (ok_is_counts T) hr (by rfl) T.g_is_counts T.f_is_counts.kp T.b_is_counts .nil pass0 (pa_cons (pv 0) pa_nil)))) 
        (pss_one ps_never) pss_nil)), ?_⟩
    exact s_when (et_not (et_B (ev_call (ea_cons (ev_var rfl) ea_nil) (spv fun H1 e Q q E => ⟨a, fs, rfl, hf.ex e, q⟩)))) (fun z => by cases z) (fun _ => q)
theorem ok_check_from (T : Tx K mg) : FnOk P w K mg base CX0 2 T.a_check_from T.d_check_from ["number", "low"] (sp_check_from K) := by
  refine T.f_check_from.ok (k := 1) sc_check_from (fun vs H Q E h => ?_) (fun cdv A outer s H vs Q E hr h => ?_)
  · obtain ⟨i, j, rfl, _⟩ := h
    rfl
  · obtain ⟨i, j, rfl, h1, q⟩ := h
    refine ⟨_,       (pss_one (ps_if (PW.pt (pw_or (pt_not (pt_val (pe_call (ok_is_number T) hr (by rfl) T.g_is_number T.f_is_number.kp T.b_is_number .nil pass0 (pa_cons (pv 0) pa_nil)))) (pw_or1 (pt_cmpR op_lt (pv 0) (pv 1) (nomark _))))) 
        (pss_one ps_never) pss_nil)), ?_⟩
    refine s_when (b := false) (et_is (et_or (et_not (et_B (ev_call (ea_cons (ev_var rfl) ea_nil) (spv fun H1 e Q q E => ⟨i, rfl, q⟩)))) (fun _ => et_test (ev_op (ev_var rfl) (ev_var rfl) rv_I0))) ?_) (fun z => by cases z) (fun _ => q)
    show (!true || decide (i < j)) = false
    rw [decide_eq_false (by omega)]
    rfl
theorem ok_check_count (T : Tx K mg) : FnOk P w K mg base CX0 3 T.a_check_count T.d_check_count ["number"] (sp_check_count K) := by
  refine T.f_check_count.ok (k := 2) sc_check_count (fun vs H Q E h => ?_) (fun cdv A outer s H vs Q E hr h => ?_)
  · obtain ⟨i, rfl, _⟩ := h
    rfl
  · obtain ⟨i, rfl, h1, q⟩ := h
    refine ⟨_,       (pss_one (ps_expr (pe_call (ok_check_from T) hr (by rfl) T.g_check_from T.f_check_from.kp T.b_check_from .nil pass0 (pa_cons (pv 0) (pa_cons pe_int pa_nil))))), ?_⟩
    exact s_drop (ev_call (ea_cons (ev_var rfl) (ea_cons ev_c ea_nil)) (spv fun H1 e Q q E => ⟨i, 0, rfl, h1, q⟩)) fun H1 e => q H1 e
theorem ok_cost_at (T : Tx K mg) : FnOk P w K mg base CX0 1 T.a_cost_at T.d_cost_at ["folds", "width"] (sp_cost_at K) := by
  refine T.f_cost_at.ok (k := 0) sc_cost_at (fun vs H Q E h => ?_) (fun cdv A outer s H vs Q E hr h => ?_)
  · obtain ⟨a, fs, k, rfl, _⟩ := h
    rfl
  · obtain ⟨a, fs, k, rfl, hf, hk, q⟩ := h
    refine ⟨_,       (pss_one (ps_ret (pe_op op_add (pe_callB (id := "sum") (r := rSum K) (cr_sum rfl) (by rfl) T.m_sum (by decide +kernel) (pa_cons (pe_lc (own := [("number", 2)]) (g := gName 2) (tt := tYes) rfl sc_cost_at.nd (pi_list (pv 0)) (blkOk_by (own := [("number", 2)]) (N := ["folds", "width", "number"]) (sc := defScope s_cost_at) (by decide +kernel)) (fun _ _ _ _ _ => (pg_name (i := 2) sc_cost_at.nd rfl (by first | exact Or.inl rfl | exact Or.inr rfl))) (fun _ _ _ _ _ => pts_nil) (fun _ _ _ _ _ => (pe_op op_shr (pv 2) (pv 1)))) pa_nil)) (pe_op op_mul (pe_callB (id := "len") (r := rLenS K) call_len_seq (by rfl) T.m_len PySem.boot_len (pa_cons (pv 0) pa_nil)) (pe_op op_add pe_int (pv 1)))))), ?_⟩
    refine s_ret (ev_op (ev_sumN (ns := fs.map fun u => u / 2 ^ k) ?_) (ev_op (ev_len (K := K) (ev_var rfl) hf.sq) (ev_op ev_c (ev_var rfl) rv_I0) (rv_I ?_)) rv_I0) ?_
    · rw [List.map_map]
      refine el_map (0 : Int) (V.int ∘ fun u => u / 2 ^ k) (ev_var rfl) hf.sq (by have := hf.len; omega) (fun _ => rfl) (fun x H1 e hx => ev_is (ev_op (ev_var rfl) (ev_var rfl) (rv_I (Int.natCast_nonneg k))) ?_)
      show V.int (x / 2 ^ (k : Int).toNat) = V.int (x / 2 ^ k)
      rw [Int.toNat_natCast]
    · have := hf.len
      rw [List.length_map]
      exact Or.inl ⟨by omega, by omega⟩
    · rw [List.length_map]
      exact q
theorem ok_rise (T : Tx K mg) : FnOk P w K mg base CX0 1 T.a_rise T.d_rise ["folds", "width"] (sp_rise K) := by
  refine T.f_rise.ok (k := 0) sc_rise (fun vs H Q E h => ?_) (fun cdv A outer s H vs Q E hr h => ?_)
  · obtain ⟨a, fs, k, rfl, _⟩ := h
    rfl
  · obtain ⟨a, fs, k, rfl, hf, hk, q⟩ := h
    refine ⟨_,       (pss_one (ps_ret (pe_op op_sub (pe_callB (id := "len") (r := rLenS K) call_len_seq (by rfl) T.m_len PySem.boot_len (pa_cons (pv 0) pa_nil)) (pe_callB (id := "sum") (r := rSum K) (cr_sum rfl) (by rfl) T.m_sum (by decide +kernel) (pa_cons (pe_lc (own := [("number", 2)]) (g := gName 2) (tt := tYes) rfl sc_rise.nd (pi_list (pv 0)) (blkOk_by (own := [("number", 2)]) (N := ["folds", "width", "number"]) (sc := defScope s_rise) (by decide +kernel)) (fun _ _ _ _ _ => (pg_name (i := 2) sc_rise.nd rfl (by first | exact Or.inl rfl | exact Or.inr rfl))) (fun _ _ _ _ _ => pts_nil) (fun _ _ _ _ _ => (pe_op op_fdiv (pe_op op_add (pe_op op_shr (pv 2) (pv 1)) pe_int) pe_int))) pa_nil))))), ?_⟩
    refine s_ret (ev_op (ev_len (K := K) (ev_var rfl) hf.sq) (ev_sumN (ns := fs.map fun u => (u / 2 ^ k + 1) / 2) ?_) rv_I0) ?_
    · rw [List.map_map]
      refine el_map (0 : Int) (V.int ∘ fun u => (u / 2 ^ k + 1) / 2) (ev_var rfl) hf.sq (by have := hf.len; omega) (fun _ => rfl) (fun x H1 e hx => ev_is (ev_op (ev_op (ev_op (ev_var rfl) (ev_var rfl) (rv_I (Int.natCast_nonneg k))) ev_c rv_I0) ev_c (rv_I ⟨by decide, by decide⟩)) ?_)
      show V.int ((x / 2 ^ (k : Int).toNat + 1) / 2) = V.int ((x / 2 ^ k + 1) / 2)
      rw [Int.toNat_natCast]
    · rw [List.length_map]
      exact q
theorem ok_best_widths (T : Tx K mg) : FnOk P w K mg base CX0 2 T.a_best_widths T.d_best_widths ["folds"] (sp_best_widths K) := by
  refine T.f_best_widths.ok (k := 1) sc_best_widths (fun vs H Q E h => ?_) (fun cdv A outer s H vs Q E hr h => ?_)
  · obtain ⟨a, fs, rfl, _⟩ := h
    rfl
  · obtain ⟨a, fs, rfl, hf, q⟩ := h
    refine ⟨_,       (pss_cons (ps_if (pt_cmpR (op_eqD hr.units) (pv 0) (pe_lst pa_nil) (nomark _)) 
        (pss_one (ps_ret (pe_tup (pa_cons pe_int (pa_cons pe_int (pa_cons pe_non pa_nil)))))) pss_nil) 
      (pss_cons (ps_set (i := 1) sc_best_widths.nd rfl (by first | exact Or.inl rfl | exact Or.inr rfl) pe_int) 
      (pss_cons (ps_while PassesOwn.never (pt_cmpR op_lt (pe_call (ok_rise T) hr (by rfl) T.g_rise T.f_rise.kp T.b_rise .nil pass0 (pa_cons (pv 0) (pa_cons (pv 1) pa_nil))) pe_int (nomark _)) 
        (pss_one (ps_aug (i := 1) sc_best_widths.nd rfl (by first | exact Or.inl rfl | exact Or.inr rfl) pe_int ip_add))) 
      (pss_cons (ps_set (i := 2) sc_best_widths.nd rfl (by first | exact Or.inl rfl | exact Or.inr rfl) (pv 1)) 
      (pss_cons (ps_while PassesOwn.never (pt_cmpR op_eq (pe_call (ok_rise T) hr (by rfl) T.g_rise T.f_rise.kp T.b_rise .nil pass0 (pa_cons (pv 0) (pa_cons (pv 2) pa_nil))) pe_int (nomark _)) 
        (pss_one (ps_aug (i := 2) sc_best_widths.nd rfl (by first | exact Or.inl rfl | exact Or.inr rfl) pe_int ip_add))) 
      (pss_one (ps_ret (pe_tup (pa_cons (pe_call (ok_cost_at T) hr (by rfl) T.g_cost_at T.f_cost_at.kp T.b_cost_at .nil pass0 (pa_cons (pv 0) (pa_cons (pv 1) pa_nil))) (pa_cons (pv 1) (pa_cons (pv 2) pa_nil))))))))))), ?_⟩
    have e1 := Ex.refl H
    refine q_when (b := decide (fs = [])) (et_test (ev_opL (xs := []) (ev_var rfl) (el_lst ea_nil (by decide)) fun p H2 hp e => rv_eqI (K := K) (ns := fs) (ms := []) ((hf.ex e1).ex e).sq (sq_of hp))) (fun z H2 e2 => ?_) (fun z H2 e2 => ?_)
    · have hz : fs = [] := of_decide_eq_true z
      refine s_retU (eu_tup (ea_cons ev_c (ea_cons ev_c (ea_cons ev_c ea_nil))) (by decide)) fun p H3 hp e3 h3 => ?_
      refine q.go (e1.trans e2) hp e3 ?_
      rw [h3]
      unfold lwV
      rw [if_pos hz]
    have ne : fs ≠ [] := of_decide_eq_false z
    have L := lw hf.good ne
    have e02 := e1.trans e2
    have hR : ∀ (j : Nat) (k : Nat) (σ : L2.St) (H3 : Hp), Ex H H3 → σ[0]? = some (some (.ref a)) → σ[j]? = some (some (.int (k : Int))) → k ≤ 40 → ∀ E : XK, Ev (tCall (sp_rise K) [] E (tCons (tVar 0) (tCons (tVar j) tNil))) σ H3 (.int (ris fs k)) := fun j k σ H3 e s0 sj hk E =>
      ev_call (ea_cons (ev_var s0) (ea_cons (ev_var sj) ea_nil)) (spv fun H1 e' Q q E => ⟨a, fs, k, rfl, hf.ex (e.trans e'), by omega, q⟩)
    refine q_asg ev_c fun H3 e3 => ?_
    refine q_while (fun m σ' H' => ∃ k : Nat, σ' = [some (.ref a), some (.int (k : Int)), none] ∧ Ex H H' ∧ k ≤ firstW fs ∧ m = 40 - k) 40 ⟨0, rfl, e02.trans e3, Nat.zero_le _, rfl⟩ (fun m σ' H' hW => ?_)
    obtain ⟨k, rfl, eH, hk, rfl⟩ := hW
    have f40 : firstW fs ≤ 40 := Nat.le_trans L.fl L.l40
    refine ⟨decide (ris fs k < 0), et_test (ev_op (hR 1 k _ H' eH rfl rfl (by omega) _) ev_c rv_I0), fun z H4 e4 => ?_, fun z H4 e4 => ?_⟩
    · have hz : ris fs k < 0 := of_decide_eq_true z
      have hlt : k < firstW fs := by
        rcases Nat.lt_or_ge k (firstW fs) with h | h
        · exact h
        · have : k = firstW fs := by omega
          have := L.at0
          subst k
          omega
      refine ⟨fun σ2 H2 => ∃ k' : Nat, σ2 = [some (.ref a), some (.int (k' : Int)), none] ∧ Ex H H2 ∧ k' ≤ firstW fs ∧ k' = k + 1, fun σ2 H2 hN => ?_, ?_⟩
      · obtain ⟨k', rfl, e', hk', rfl⟩ := hN
        exact ⟨40 - (k + 1), by omega, k + 1, rfl, e', hk', rfl⟩
      · refine s_aug (f := fun i j => i + j) rfl ev_c fun H5 e5 => ?_
        exact ⟨k + 1, rfl, (eH.trans e4).trans e5, by omega, rfl⟩
    have hz : ¬ ris fs k < 0 := of_decide_eq_false z
    have ek : k = firstW fs := by
      rcases Nat.lt_or_ge k (firstW fs) with h | h
      · exact absurd (L.lo k h) hz
      · omega
    subst ek
    refine q_asg (ev_var rfl) fun H5 e5 => ?_
    refine q_while (fun m σ' H' => ∃ k : Nat, σ' = [some (.ref a), some (.int (firstW fs : Int)), some (.int (k : Int))] ∧ Ex H H' ∧ firstW fs ≤ k ∧ k ≤ lastW fs ∧ m = 40 - k) (40 - firstW fs) ⟨firstW fs, rfl, (eH.trans e4).trans e5, Nat.le_refl _, L.fl, rfl⟩ (fun m σ' H' hW => ?_)
    obtain ⟨k, rfl, eH', hk1, hk2, rfl⟩ := hW
    have l40 := L.l40
    refine ⟨decide (V.int (ris fs k) = V.int 0), et_test (ev_op (hR 2 k _ H' eH' rfl rfl (by omega) _) ev_c (rv_eq rfl)), fun z H6 e6 => ?_, fun z H6 e6 => ?_⟩
    · have hz : ris fs k = 0 := V.int.inj (of_decide_eq_true z)
      have hlt : k < lastW fs := by
        rcases Nat.lt_or_ge k (lastW fs) with h | h
        · exact h
        · have : k = lastW fs := by omega
          have := L.hi
          subst k
          omega
      refine ⟨fun σ2 H2 => ∃ k' : Nat, σ2 = [some (.ref a), some (.int (firstW fs : Int)), some (.int (k' : Int))] ∧ Ex H H2 ∧ firstW fs ≤ k' ∧ k' ≤ lastW fs ∧ k' = k + 1, fun σ2 H2 hN => ?_, ?_⟩
      · obtain ⟨k', rfl, e', hk', hk'', rfl⟩ := hN
        exact ⟨40 - (k + 1), by omega, k + 1, rfl, e', hk', hk'', rfl⟩
      · refine s_aug (f := fun i j => i + j) rfl ev_c fun H5 e5 => ?_
        exact ⟨k + 1, rfl, (eH'.trans e6).trans e5, by omega, by omega, rfl⟩
    have hz : ¬ ris fs k = 0 := fun h => of_decide_eq_false z (by rw [h])
    have ek : k = lastW fs := by
      rcases Nat.lt_or_ge k (lastW fs) with h | h
      · exact absurd (L.mid k hk1 h) hz
      · omega
    subst ek
    have eA := eH'.trans e6
    refine s_retU (eu_tup (ea_cons (ev_call (ea_cons (ev_var rfl) (ea_cons (ev_var rfl) ea_nil)) (spv fun H1 e' Q q E => ⟨a, fs, firstW fs, rfl, hf.ex (eA.trans e'), by omega, q⟩)) (ea_cons (ev_var rfl) (ea_cons (ev_var rfl) ea_nil))) (by show 3 ≤ 100000; decide)) fun p H7 hp e7 h7 => ?_
    refine q.go eA hp e7 ?_
    rw [h7]
    unfold lwV
    rw [if_neg ne]
end
end K47

set_option Elab.async false
set_option linter.all false
set_option maxRecDepth 100000
set_option maxHeartbeats 4000000
namespace K47
open PySem PySem.Spec PyProof.Rows L2 Evl WS M41 M47
theorem one_p (k : Nat) : (1 : Int) * 2 ^ (k : Int).toNat = 2 ^ k := by rw [Int.toNat_natCast, Int.one_mul]
theorem shl1 {k : Nat} (hk : k ≤ 1000) : CShl 1 (k : Int) := shl_ok (n := 1) (j := k) (by decide) (by omega)
section
variable {K : PySem.W.Frag} {σ : L2.St} {H : Hp} {ta tb te tl : TE} {D : Ends} {tr : TA}
theorem tcb_in {r : List V → Hp → VK → Prop} {t : TA} {Q : VK} (k : t σ H fun vs H1 => r vs H1 Q) : tCB r t σ H Q := k
theorem ev_minL {ns : List Int} {m : Int} (h : EvL te σ H (ns.map V.int)) (hm : m ∈ ns) (hle : ∀ y ∈ ns, m ≤ y) : Ev (tCB (rMin K) (tCons te tNil)) σ H (.int m) := fun H1 e Q q =>
  h H1 e _ fun p H2 _ e2 h2 => ⟨p, ns, rfl, sq_of h2, by cases ns with | nil => cases hm | cons a r => simp, fun k hk hkl => by
    rw [show k = m from Int.le_antisymm (hkl m hm) (hle k hk)]
    exact q H2 e2⟩
end
/-- the least of the first prices, so far as the folds go -/
theorem min_first {fs : List Int} {b : Nat} (h : Bel b fs) (hb : b ≤ 40) : lp fs ∈ (List.range (b + 1)).map (cst fs) ∧ ∀ y ∈ (List.range (b + 1)).map (cst fs), lp fs ≤ y := by
  refine ⟨List.mem_map.mpr ⟨firstW fs, List.mem_range.mpr (by have := first_bel h hb; omega), (lp_first fs).symm⟩, fun y hy => ?_⟩
  obtain ⟨k, _, rfl⟩ := List.mem_map.mp hy
  exact lp_le (h.good hb) k
def sp_gain_beside (K : PySem.W.Frag) : Sp := fun vs H Q _ => ∃ n m b : Nat, vs = [.int (n : Int), .int (m : Int), .int (b : Int)] ∧ n ≤ 1000 ∧ m ≤ 1000 ∧ b ≤ 40 ∧ RetV (.int (gb n m b)) H Q
def sp_most_gained (K : PySem.W.Frag) : Sp := fun vs H Q _ => ∃ n m b : Nat, vs = [.int (n : Int), .int (m : Int), .int (b : Int)] ∧ n ≤ 1000 ∧ m ≤ 1000 ∧ b ≤ 40 ∧ RetV (.int (mg n m b)) H Q
def sp_check_rows (K : PySem.W.Frag) : Sp := fun vs H Q _ => ∃ n m b : Nat, vs = [.int (n : Int), .int (m : Int), .int (b : Int)] ∧ RetV .non H Q
def sp_greatest_gain (K : PySem.W.Frag) : Sp := fun vs H Q _ => ∃ n m b : Nat, vs = [.int (n : Int), .int (m : Int), .int (b : Int)] ∧ n ≤ 1000 ∧ m ≤ 1000 ∧ b ≤ 40 ∧ RetV (.int (mg n m b)) H Q
def sp_never_pays (K : PySem.W.Frag) : Sp := fun vs H Q _ => ∃ n m b : Nat, ∃ c : Int, vs = [.int (n : Int), .int (m : Int), .int (b : Int), .int c] ∧ n ≤ 1000 ∧ m ≤ 1000 ∧ b ≤ 40 ∧ 0 ≤ c ∧ RetV (.bl (decide (mg n m b ≤ c))) H Q
def sp_gain_rows (K : PySem.W.Frag) : Sp := fun vs H Q _ => ∃ n m b : Nat, vs = [.int (n : Int), .int (m : Int), .int (b : Int)] ∧ n ≤ 1000 ∧ m ≤ 1000 ∧ b ≤ 40 ∧
  ∀ p t1 t2 H2, H p = none → Ex H H2 → H2 p = some (.tup [.ref t1, .ref t2]) → H2 t1 = some (.lst ((rA n m b).map V.int)) → H2 t2 = some (.lst ((rB n m b).map V.int)) → Q (.ref p) H2
section
variable {P : Program} {w : World} {K : PySem.W.Frag} {mg : Str → Option Value} {base : Heap}
theorem ok_gain_beside (T : Tx K mg) : FnOk P w K mg base CX0 1 T.a_gain_beside T.d_gain_beside ["noughts", "full", "bits"] (sp_gain_beside K) := by
  refine T.f_gain_beside.ok (k := 0) sc_gain_beside (fun vs H Q E h => ?_) (fun cdv A outer s H vs Q E hr h => ?_)
  · obtain ⟨n, m, b, rfl, _⟩ := h
    rfl
  · obtain ⟨n, m, b, rfl, hn, hm, hb, q⟩ := h
    refine ⟨_,       (pss_cons (ps_set (i := 3) sc_gain_beside.nd rfl (by first | exact Or.inl rfl | exact Or.inr rfl) (pe_op op_sub (pe_op op_shlW pe_int (pv 2)) pe_int)) 
      (pss_cons (ps_set (i := 4) sc_gain_beside.nd rfl (by first | exact Or.inl rfl | exact Or.inr rfl) (pe_callTy (T := "range") cr_range1 (by rfl) T.m_range (by decide +kernel) (pa_cons (pe_op op_add (pe_callB (id := "min") (r := rMin K) (cr_min rfl) (by rfl) T.m_min (by decide +kernel) (pa_cons (pe_lst (pa_cons (pv 2) (pa_cons (pe_glob (v := .int 120) rfl T.c_GREATEST_WIDTH ⟨_, rfl⟩) pa_nil))) pa_nil)) pe_int) pa_nil))) 
      (pss_cons (ps_setLc (i := 5) (own := [("width", 7)]) (g := gName 7) (tt := tYes) rfl sc_gain_beside.nd rfl rfl (sw_true rfl rfl rfl (by decide +kernel)) (pi_rngV (pv 4)) (blkOk_by (own := [("width", 7)]) (N := ["noughts", "full", "bits", "greatest", "widths", "others", "both", "width", "price"]) (sc := defScope s_gain_beside) (by decide +kernel)) (fun _ _ _ _ _ => (pg_name (i := 7) sc_gain_beside.nd rfl (by first | exact Or.inl rfl | exact Or.inr rfl))) (fun _ _ _ _ _ => pts_nil) (fun _ _ _ _ _ => (pe_op op_mul (pv 1) (pe_op op_add (pe_op op_add (pe_op op_shr (pv 3) (pv 7)) pe_int) (pv 7))))) 
      (pss_cons (ps_setLc (i := 6) (own := [("width", 7), ("price", 8)]) (g := gTup K 2 (gCons (gName 7) (gCons (gName 8) gNil))) (tt := tYes) rfl sc_gain_beside.nd rfl rfl (sw_true rfl rfl rfl (by decide +kernel)) (pi_enum (by rfl) T.m_enumerate (pa_cons (pv 5) pa_nil)) (blkOk_by (own := [("width", 7), ("price", 8)]) (N := ["noughts", "full", "bits", "greatest", "widths", "others", "both", "width", "price"]) (sc := defScope s_gain_beside) (by decide +kernel)) (fun _ _ _ _ _ => by exact (pg_tup rfl (pgs_cons (pg_name (i := 7) sc_gain_beside.nd rfl (by first | exact Or.inl rfl | exact Or.inr rfl)) (pgs_cons (pg_name (i := 8) sc_gain_beside.nd rfl (by first | exact Or.inl rfl | exact Or.inr rfl)) pgs_nil)))) (fun _ _ _ _ _ => pts_nil) (fun _ _ _ _ _ => (pe_op op_add (pv 8) (pe_op op_mul (pv 0) (pe_op op_add pe_int (pv 7)))))) 
      (pss_one (ps_ret (pe_op op_sub (pe_op op_sub (pe_callB (id := "min") (r := rMin K) (cr_min rfl) (by rfl) T.m_min (by decide +kernel) (pa_cons (pv 6) pa_nil)) (pe_callB (id := "min") (r := rMin K) (cr_min rfl) (by rfl) T.m_min (by decide +kernel) (pa_cons (pv 5) pa_nil))) (pv 0)))))))), ?_⟩
    refine q_asg (v := .int (2 ^ b - 1)) (ev_is (ev_op (ev_op ev_c (ev_var rfl) (rv_I (shl1 (by omega)))) ev_c rv_I0) (by rw [one_p])) fun H1 e1 => ?_
    refine q_in (tcb_in (ta_consV (v := .int ((b : Int) + 1)) (ev_op (ev_minL (K := K) (ns := [(b : Int), 120]) (m := (b : Int)) (el_lst (ea_cons (ev_var rfl) (ea_cons ev_c ea_nil)) (by show 2 ≤ 100000; decide)) List.mem_cons_self (fun y hy => ?_)) ev_c rv_I0) fun H2 e2 => ta_nil ⟨_, rfl, fun p hp => ?_⟩))
    · rcases List.mem_cons.mp hy with rfl | hy
      · exact Int.le_refl _
      · rw [List.mem_singleton.mp hy]
        omega
    have er : upd H2 p (.rng 0 ((b : Int) + 1)) p = some (.rng 0 ((b + 1 : Nat) : Int)) := upd_same
    have e3 := Ex.new (o := .rng 0 ((b : Int) + 1)) hp
    have ef : ∀ k, k ≤ b → V.int ((m : Int) * ((2 ^ b - 1) / 2 ^ (k : Int).toNat + 1 + (k : Int))) = V.int (cst (fl m b) k) := fun k hk => by
      unfold fl
      rw [cst_rep, Int.toNat_natCast]
    refine q_asgL (xs := (List.range (b + 1)).map fun k => V.int (cst (fl m b) k)) (el_mapRV _ (ev_var rfl) er (by omega) (fun _ => rfl) fun k H4 e4 hk => ev_is (ev_op (ev_var rfl) (ev_op (ev_op (ev_op (ev_var rfl) (ev_var rfl) (rv_I (Int.natCast_nonneg k))) ev_c rv_I0) (ev_var rfl) rv_I0) (rv_I (Or.inl ⟨by omega, by omega⟩))) (ef k (by omega))) fun o H4 ho e4 h4 => ?_
    have em : (List.range ((List.range (b + 1)).map fun k => V.int (cst (fl m b) k)).length).map (fun k => V.int (cst (zs n ++ fl m b) k)) = ((List.range (b + 1)).map (cst (zs n ++ fl m b))).map V.int := by
      rw [List.length_map, List.length_range, List.map_map]
      rfl
    have eo : ((List.range (b + 1)).map fun k => V.int (cst (fl m b) k)) = ((List.range (b + 1)).map (cst (fl m b))).map V.int := by
      rw [List.map_map]
      rfl
    refine q_asgL (el_enum (K := K) (fun k => V.int (cst (zs n ++ fl m b) k)) (ea_cons (ev_var rfl) ea_nil) (sq_of h4) (by rw [List.length_map, List.length_range]; omega) (fun _ _ => rfl) fun k x H5 e5 hx => ?_) fun bo H5 hbo e5 h5 => ?_
    · have hk : k < b + 1 := by
        have := (List.getElem?_eq_some_iff.mp hx).1
        rw [List.length_map, List.length_range] at this
        exact this
      rw [List.getElem?_map, List.getElem?_range hk] at hx
      obtain rfl := Option.some.inj hx
      refine ev_is (ev_op (ev_var rfl) (ev_op (ev_var rfl) (ev_op ev_c (ev_var rfl) rv_I0) (rv_I (Or.inl ⟨by omega, by omega⟩))) rv_I0) ?_
      rw [cst_app, cst_zs]
      show V.int (cst (fl m b) k + (n : Int) * (1 + (k : Int))) = _
      rw [Int.add_comm]
    rw [em] at h5
    rw [eo] at h4
    have h4 := e5 _ _ h4
    have m1 := min_first ((zs_bel n b).app (fl_bel m b)) hb
    have m2 := min_first (fl_bel m b) hb
    refine s_ret (ev_is (ev_op (ev_op (ev_min (K := K) (ev_var rfl) (sq_of h5) m1.1 m1.2) (ev_min (K := K) (ev_var rfl) (sq_of h4) m2.1 m2.2) rv_I0) (ev_var rfl) rv_I0) ?_) fun H6 e6 => q H6 (((((e1.trans e2).trans e3).trans e4).trans e5).trans e6)
    unfold gb gn
    rw [lp_zs]
    show V.int (lp (zs n ++ fl m b) - lp (fl m b) - (n : Int)) = V.int (lp (zs n ++ fl m b) - (n : Int) - lp (fl m b))
    rw [show lp (zs n ++ fl m b) - lp (fl m b) - (n : Int) = lp (zs n ++ fl m b) - (n : Int) - lp (fl m b) by omega]
theorem ok_most_gained (T : Tx K mg) : FnOk P w K mg base CX0 2 T.a_most_gained T.d_most_gained ["one", "other", "bits"] (sp_most_gained K) := by
  refine T.f_most_gained.ok (k := 1) sc_most_gained (fun vs H Q E h => ?_) (fun cdv A outer s H vs Q E hr h => ?_)
  · obtain ⟨n, m, b, rfl, _⟩ := h
    rfl
  · obtain ⟨n, m, b, rfl, hn, hm, hb, q⟩ := h
    refine ⟨_,       (pss_one (ps_ret (pe_callB (id := "max") (r := rMax K) (cr_max rfl) (by rfl) T.m_max (by decide +kernel) (pa_cons (pe_lst (pa_cons (pe_call (ok_gain_beside T) hr (by rfl) T.g_gain_beside T.f_gain_beside.kp T.b_gain_beside .nil pass0 (pa_cons (pv 0) (pa_cons (pv 1) (pa_cons (pv 2) pa_nil)))) (pa_cons (pe_call (ok_gain_beside T) hr (by rfl) T.g_gain_beside T.f_gain_beside.kp T.b_gain_beside .nil pass0 (pa_cons (pv 1) (pa_cons (pv 0) (pa_cons (pv 2) pa_nil)))) pa_nil))) pa_nil)))), ?_⟩
    refine s_ret (ev_maxN (K := K) (ns := [gb n m b, gb m n b]) (m := M47.mg n m b) (el_lst (ea_cons (ev_call (ea_cons (ev_var rfl) (ea_cons (ev_var rfl) (ea_cons (ev_var rfl) ea_nil))) (spv fun H1 e Q q E => ⟨n, m, b, rfl, hn, hm, hb, q⟩)) (ea_cons (ev_call (ea_cons (ev_var rfl) (ea_cons (ev_var rfl) (ea_cons (ev_var rfl) ea_nil))) (spv fun H1 e Q q E => ⟨m, n, b, rfl, hm, hn, hb, q⟩)) ea_nil)) (by show 2 ≤ 100000; decide)) ?_ ?_) q
    · unfold M47.mg
      split
      · exact List.mem_cons_self
      · exact List.mem_cons_of_mem _ List.mem_cons_self
    · intro y hy
      rcases List.mem_cons.mp hy with rfl | hy
      · unfold M47.mg
        split <;> omega
      · rw [List.mem_singleton.mp hy]
        unfold M47.mg
        split <;> omega
theorem ok_check_rows (T : Tx K mg) : FnOk P w K mg base CX0 4 T.a_check_rows T.d_check_rows ["one", "other", "bits"] (sp_check_rows K) := by
  refine T.f_check_rows.ok (k := 3) sc_check_rows (fun vs H Q E h => ?_) (fun cdv A outer s H vs Q E hr h => ?_)
  · obtain ⟨n, m, b, rfl, _⟩ := h
    rfl
  · obtain ⟨n, m, b, rfl, q⟩ := h
    refine ⟨_,       (pss_cons (ps_expr (pe_call (ok_check_count T) hr (by rfl) T.g_check_count T.f_check_count.kp T.b_check_count .nil pass0 (pa_cons (pv 0) pa_nil))) 
      (pss_cons (ps_expr (pe_call (ok_check_count T) hr (by rfl) T.g_check_count T.f_check_count.kp T.b_check_count .nil pass0 (pa_cons (pv 1) pa_nil))) 
      (pss_one (ps_expr (pe_call (ok_check_count T) hr (by rfl) T.g_check_count T.f_check_count.kp T.b_check_count .nil pass0 (pa_cons (pv 2) pa_nil)))))), ?_⟩
    refine q_drop (ev_call (ea_cons (ev_var rfl) ea_nil) (spv fun H1 e Q q E => ⟨_, rfl, Int.natCast_nonneg _, q⟩)) fun H1 e1 => ?_
    refine q_drop (ev_call (ea_cons (ev_var rfl) ea_nil) (spv fun H1 e Q q E => ⟨_, rfl, Int.natCast_nonneg _, q⟩)) fun H2 e2 => ?_
    exact s_drop (ev_call (ea_cons (ev_var rfl) ea_nil) (spv fun H1 e Q q E => ⟨_, rfl, Int.natCast_nonneg _, q⟩)) fun H3 e3 => q H3 ((e1.trans e2).trans e3)
theorem ok_greatest_gain (T : Tx K mg) : FnOk P w K mg base CX0 5 T.a_greatest_gain T.d_greatest_gain ["one", "other", "bits"] (sp_greatest_gain K) := by
  refine T.f_greatest_gain.ok (k := 4) sc_greatest_gain (fun vs H Q E h => ?_) (fun cdv A outer s H vs Q E hr h => ?_)
  · obtain ⟨n, m, b, rfl, _⟩ := h
    rfl
  · obtain ⟨n, m, b, rfl, hn, hm, hb, q⟩ := h
    refine ⟨_,       (pss_cons (ps_expr (pe_call (ok_check_rows T) hr (by rfl) T.g_check_rows T.f_check_rows.kp T.b_check_rows .nil pass0 (pa_cons (pv 0) (pa_cons (pv 1) (pa_cons (pv 2) pa_nil))))) 
      (pss_one (ps_ret (pe_call (ok_most_gained T) (hr.mono (by decide)) (by rfl) T.g_most_gained T.f_most_gained.kp T.b_most_gained .nil pass0 (pa_cons (pv 0) (pa_cons (pv 1) (pa_cons (pv 2) pa_nil))))))), ?_⟩
    refine q_drop (ev_call (ea_cons (ev_var rfl) (ea_cons (ev_var rfl) (ea_cons (ev_var rfl) ea_nil))) (spv fun H1 e Q q E => ⟨n, m, b, rfl, q⟩)) fun H1 e1 => ?_
    exact s_ret (ev_call (ea_cons (ev_var rfl) (ea_cons (ev_var rfl) (ea_cons (ev_var rfl) ea_nil))) (spv fun H1 e Q q E => ⟨n, m, b, rfl, hn, hm, hb, q⟩)) fun H2 e2 => q H2 (e1.trans e2)
theorem ok_never_pays (T : Tx K mg) : FnOk P w K mg base CX0 5 T.a_never_pays T.d_never_pays ["one", "other", "bits", "cost"] (sp_never_pays K) := by
  refine T.f_never_pays.ok (k := 4) sc_never_pays (fun vs H Q E h => ?_) (fun cdv A outer s H vs Q E hr h => ?_)
  · obtain ⟨n, m, b, c, rfl, _⟩ := h
    rfl
  · obtain ⟨n, m, b, c, rfl, hn, hm, hb, hc, q⟩ := h
    refine ⟨_,       (pss_cons (ps_expr (pe_call (ok_check_rows T) hr (by rfl) T.g_check_rows T.f_check_rows.kp T.b_check_rows .nil pass0 (pa_cons (pv 0) (pa_cons (pv 1) (pa_cons (pv 2) pa_nil))))) 
      (pss_cons (ps_expr (pe_call (ok_check_count T) (hr.mono (by decide)) (by rfl) T.g_check_count T.f_check_count.kp T.b_check_count .nil pass0 (pa_cons (pv 3) pa_nil))) 
      (pss_one (ps_ret (pe_cmpR op_le (pe_call (ok_most_gained T) (hr.mono (by decide)) (by rfl) T.g_most_gained T.f_most_gained.kp T.b_most_gained .nil pass0 (pa_cons (pv 0) (pa_cons (pv 1) (pa_cons (pv 2) pa_nil)))) (pv 3) (nomark _)))))), ?_⟩
    refine q_drop (ev_call (ea_cons (ev_var rfl) (ea_cons (ev_var rfl) (ea_cons (ev_var rfl) ea_nil))) (spv fun H1 e Q q E => ⟨n, m, b, rfl, q⟩)) fun H1 e1 => ?_
    refine q_drop (ev_call (ea_cons (ev_var rfl) ea_nil) (spv fun H1 e Q q E => ⟨c, rfl, hc, q⟩)) fun H2 e2 => ?_
    exact s_ret (ev_op (ev_call (ea_cons (ev_var rfl) (ea_cons (ev_var rfl) (ea_cons (ev_var rfl) ea_nil))) (spv fun H1 e Q q E => ⟨n, m, b, rfl, hn, hm, hb, q⟩)) (ev_var rfl) rv_I0) fun H3 e3 => q H3 ((e1.trans e2).trans e3)
theorem ok_gain_rows (T : Tx K mg) : FnOk P w K mg base CX0 5 T.a_gain_rows T.d_gain_rows ["one", "other", "bits"] (sp_gain_rows K) := by
  refine T.f_gain_rows.ok (k := 4) sc_gain_rows (fun vs H Q E h => ?_) (fun cdv A outer s H vs Q E hr h => ?_)
  · obtain ⟨n, m, b, rfl, _⟩ := h
    rfl
  · obtain ⟨n, m, b, rfl, hn, hm, hb, q⟩ := h
    refine ⟨_,       (pss_cons (ps_expr (pe_call (ok_check_rows T) hr (by rfl) T.g_check_rows T.f_check_rows.kp T.b_check_rows .nil pass0 (pa_cons (pv 0) (pa_cons (pv 1) (pa_cons (pv 2) pa_nil))))) 
      (pss_cons (ps_set (i := 3) sc_gain_rows.nd rfl (by first | exact Or.inl rfl | exact Or.inr rfl) (pe_op op_sub (pe_op op_shlW pe_int (pv 2)) pe_int)) 
      (pss_cons (ps_if (pt_cmpR op_eq (pe_call (ok_gain_beside T) (hr.mono (by decide)) (by rfl) T.g_gain_beside T.f_gain_beside.kp T.b_gain_beside .nil pass0 (pa_cons (pv 0) (pa_cons (pv 1) (pa_cons (pv 2) pa_nil)))) (pe_call (ok_most_gained T) (hr.mono (by decide)) (by rfl) T.g_most_gained T.f_most_gained.kp T.b_most_gained .nil pass0 (pa_cons (pv 0) (pa_cons (pv 1) (pa_cons (pv 2) pa_nil)))) (nomark _)) 
        (pss_one (ps_ret (pe_tup (pa_cons (pe_op op_rep (pe_lst (pa_cons pe_int pa_nil)) (pv 0)) (pa_cons (pe_op op_rep (pe_lst (pa_cons (pv 3) pa_nil)) (pv 1)) pa_nil))))) pss_nil) 
      (pss_one (ps_ret (pe_tup (pa_cons (pe_op op_rep (pe_lst (pa_cons (pv 3) pa_nil)) (pv 0)) (pa_cons (pe_op op_rep (pe_lst (pa_cons pe_int pa_nil)) (pv 1)) pa_nil)))))))), ?_⟩
    refine q_drop (ev_call (ea_cons (ev_var rfl) (ea_cons (ev_var rfl) (ea_cons (ev_var rfl) ea_nil))) (spv fun H1 e Q q E => ⟨n, m, b, rfl, q⟩)) fun H1 e1 => ?_
    refine q_asg (v := .int (2 ^ b - 1)) (ev_is (ev_op (ev_op ev_c (ev_var rfl) (rv_I (shl1 (by omega)))) ev_c rv_I0) (by rw [one_p])) fun H2 e2 => ?_
    have el_times : ∀ (u : Int) (k i : Nat) (σ : L2.St) (H : Hp) (te : TE), k ≤ 1000 → Ev te σ H (.int u) → σ[i]? = some (some (.int (k : Int))) → EvL (tOp rRep (tLst (tCons te tNil)) (tVar i)) σ H ((List.replicate k u).map V.int) := fun u k i σ H te hk hu hi H1 e Q q => by
      refine el_lst (ea_cons hu ea_nil) (by show 1 ≤ 100000; decide) H1 e _ fun l H2 hl e2 h2 => ?_
      refine ev_var hi H2 (e.trans e2) _ fun H3 e3 => ⟨l, (k : Int), _, rfl, rfl, e3 _ _ h2, by omega, by omega, ?_, fun p hp => ?_⟩
      · show 1 * (k : Int).toNat ≤ sizeLine
        rw [Int.toNat_natCast, Nat.one_mul]
        exact sz_of (by omega)
      · refine q p _ (fresh_back (e2.trans e3) hp) ((e2.trans e3).trans (Ex.new hp)) ?_
        rw [upd_same, Int.toNat_natCast, List.map_replicate]
        congr 2
        simp
    have e12 := e1.trans e2
    refine q_when (b := decide (V.int (gb n m b) = V.int (M47.mg n m b))) (et_test (ev_op (ev_call (ea_cons (ev_var rfl) (ea_cons (ev_var rfl) (ea_cons (ev_var rfl) ea_nil))) (spv fun H1 e Q q E => ⟨n, m, b, rfl, hn, hm, hb, q⟩)) (ev_call (ea_cons (ev_var rfl) (ea_cons (ev_var rfl) (ea_cons (ev_var rfl) ea_nil))) (spv fun H1 e Q q E => ⟨n, m, b, rfl, hn, hm, hb, q⟩)) (rv_eq rfl))) (fun z H3 e3 => ?_) (fun z H3 e3 => ?_)
    · have hz : gb n m b = M47.mg n m b := V.int.inj (of_decide_eq_true z)
      refine r_in (tup_in (ta_consL (el_times 0 n 0 _ _ _ hn ev_c rfl) fun t1 H4 ht1 e4 h4 => ta_consL (el_times (2 ^ b - 1) m 1 _ _ _ hm (ev_var rfl) rfl) fun t2 H5 ht2 e5 h5 => ta_nil ⟨by show 2 ≤ sizeLine; decide, fun p hp => ?_⟩))
      have e6 := Ex.new (o := .tup [.ref t1, .ref t2]) hp
      refine q p t1 t2 _ (fresh_back (((e12.trans e3).trans e4).trans e5) hp) ((((e12.trans e3).trans e4).trans e5).trans e6) upd_same ?_ ?_
      · rw [e6 _ _ (e5 _ _ h4)]
        unfold rA zs
        rw [if_pos hz]
      · rw [e6 _ _ h5]
        unfold rB fl
        rw [if_pos hz]
    · have hz : ¬ gb n m b = M47.mg n m b := fun h => of_decide_eq_false z (by rw [h])
      refine r_in (tup_in (ta_consL (el_times (2 ^ b - 1) n 0 _ _ _ hn (ev_var rfl) rfl) fun t1 H4 ht1 e4 h4 => ta_consL (el_times 0 m 1 _ _ _ hm ev_c rfl) fun t2 H5 ht2 e5 h5 => ta_nil ⟨by show 2 ≤ sizeLine; decide, fun p hp => ?_⟩))
      have e6 := Ex.new (o := .tup [.ref t1, .ref t2]) hp
      refine q p t1 t2 _ (fresh_back (((e12.trans e3).trans e4).trans e5) hp) ((((e12.trans e3).trans e4).trans e5).trans e6) upd_same ?_ ?_
      · rw [e6 _ _ (e5 _ _ h4)]
        unfold rA fl
        rw [if_neg hz]
      · rw [e6 _ _ h5]
        unfold rB zs
        rw [if_neg hz]
end
end K47

set_option Elab.async false
set_option linter.all false
set_option maxRecDepth 100000
set_option maxHeartbeats 4000000
namespace K47
open PySem PySem.Spec PyProof.Rows L2 Evl WS M41 M47
def sp_halved_sums (K : PySem.W.Frag) : Sp := fun vs H Q _ => ∃ a fs, ∃ most : Nat, vs = [.ref a, .int (most : Int)] ∧ Fo H a fs ∧ most ≤ 12 ∧ RetL ((sums fs most).map V.int) H Q
def sp_halves (K : PySem.W.Frag) : Sp := fun vs H Q _ => ∃ a fs, ∃ most : Nat, vs = [.ref a, .int (most : Int)] ∧ Fo H a fs ∧ most ≤ 12 ∧ RetL ((sums fs most).map V.int) H Q
/-- the first of the least ones -/
structure First (f : Nat → Int) (n k : Nat) (m : Int) : Prop where
  at_ : k < n
  eq : f k = m
  le : ∀ j, j < n → m ≤ f j
  no : ∀ j, j < k → m < f j
theorem first_min_ex (f : Nat → Int) : ∀ n, 0 < n → ∃ k m, First f n k m
  | 0, h => absurd h (Nat.lt_irrefl 0)
  | 1, _ => ⟨0, f 0, ⟨by omega, rfl, fun j hj => by rw [show j = 0 by omega]; exact Int.le_refl _, fun j hj => absurd hj (Nat.not_lt_zero j)⟩⟩
  | n + 2, _ => by
    obtain ⟨k, m, h1, h2, h3, h4⟩ := first_min_ex f (n + 1) (by omega)
    by_cases c : f (n + 1) < m
    · refine ⟨n + 1, f (n + 1), ⟨by omega, rfl, fun j hj => ?_, fun j hj => ?_⟩⟩
      · by_cases e : j = n + 1
        · rw [e]; exact Int.le_refl _
        · have := h3 j (by omega); omega
      · have := h3 j (by omega); omega
    · refine ⟨k, m, ⟨by omega, h2, fun j hj => ?_, h4⟩⟩
      by_cases e : j = n + 1
      · rw [e]; omega
      · exact h3 j (by omega)
def totF (fs : List Int) (c : Int) (p : Nat) : Int := S fs p + c * 2 ^ p
def sp_least_half (K : PySem.W.Frag) : Sp := fun vs H Q _ => ∃ a fs, ∃ most : Nat, ∃ c : Int, vs = [.ref a, .int (most : Int), .int c] ∧ Fo H a fs ∧ most ≤ 12 ∧ 0 ≤ c ∧ c ≤ 1000 ∧ ∀ k m, First (totF fs c) (P fs.length most) k m → RetU [.int (k : Int), .int m] H Q
section
variable {K : PySem.W.Frag} {σ : L2.St} {H : Hp} {ta tb te tl : TE}
theorem index_use {a : Addr} {f : Nat → Int} {N k : Nat} {m : Int} (ha : Ev ta σ H (.ref a)) (hb : ∀ H1, Ex H H1 → Ev tb σ H1 (.int m)) (hl : H a = some (.lst ((List.range N).map fun j => V.int (f j)))) (F : First f N k m) :
    Ev (tBM K "list" (rIndexD K) ta (tCons tb tNil)) σ H (.int (k : Int)) := fun H1 e Q q => ha H1 e _ fun H2 e2 => ⟨Or.inl ⟨rfl, _, sq_of (e2 _ _ (e _ _ hl))⟩, hb H2 (e.trans e2) H2 (Ex.refl H2) _ fun H3 e3 => by
    have h3 := e3 _ _ (e2 _ _ (e _ _ hl))
    have em : ((List.range N).map fun j => V.int (f j)) = ((List.range N).map f).map V.int := by rw [List.map_map]; rfl
    rw [em] at h3
    refine ⟨a, .int m, .int m, (((List.range N).map f).map V.int).map sD, k, .int (f k), rfl, rfl, .lst (sq_of h3) (dpAll_sc (ints_sc _)), .int _, shaped_lst _, rfl, ?_, ?_, fun j z hj hz => ?_, q H3 (e2.trans e3)⟩
    · rw [ints_sD, List.getElem?_map, List.getElem?_map, List.getElem?_range F.at_]
      rfl
    · rw [F.eq]
      simp [PyData.eqv]
    · rw [ints_sD, List.getElem?_map, List.getElem?_map, List.getElem?_range (by have := F.at_; omega)] at hz
      cases hz
      have := F.no j hj
      simp [PyData.eqv]
      omega⟩
theorem ev_minF {a : Addr} {f : Nat → Int} {N k i : Nat} {m : Int} (h : Ev te σ H (.ref a)) (hl : H a = some (.lst ((List.range N).map fun j => V.int (f j)))) (F : First f N k m) : Ev (tCB (rMin K) (tCons te tNil)) σ H (.int m) := by
  have em : ((List.range N).map fun j => V.int (f j)) = ((List.range N).map f).map V.int := by rw [List.map_map]; rfl
  rw [em] at hl
  refine ev_min (K := K) (ns := (List.range N).map f) h (sq_of hl) (List.mem_map.mpr ⟨k, List.mem_range.mpr F.at_, F.eq⟩) fun y hy => ?_
  obtain ⟨j, hj, rfl⟩ := List.mem_map.mp hy
  exact F.le j (List.mem_range.mp hj)
end
theorem and_zero (n i : Nat) : decide (V.int (Builtin.bitAnd (n : Int) (1 * 2 ^ (i : Int).toNat - 1)) = V.int 0) = isDiv n i := by
  rw [one_p, Bits.bitAnd_mask i (Int.natCast_nonneg n)]
  unfold isDiv
  have e : (n : Int) % 2 ^ i = ((n % 2 ^ i : Nat) : Int) := by
    rw [Int.natCast_emod, Int.natCast_pow]
    rfl
  rw [e]
  by_cases c : n % 2 ^ i = 0
  · rw [c]
    rfl
  · rw [decide_eq_false c]
    refine decide_eq_false fun h => c ?_
    have := V.int.inj h
    omega
theorem prt_eq {fs : List Int} {p i : Nat} (hi : i < 2 ^ p) : prt fs (fs.length / 2 ^ p) i = (fs.drop (i * (fs.length / 2 ^ p))).take ((i + 1) * (fs.length / 2 ^ p) - i * (fs.length / 2 ^ p)) := by
  unfold prt
  rw [Nat.add_mul, Nat.one_mul, Nat.add_sub_cancel_left]
theorem prt_in {n p i : Nat} (hi : i < 2 ^ p) : (i + 1) * (n / 2 ^ p) ≤ n := Nat.le_trans (Nat.mul_le_mul_right _ hi) (Nat.mul_div_le n (2 ^ p))
theorem prt_fo {H : Hp} {a u : Addr} {fs : List Int} {s i : Nat} (h : Fo H a fs) {H1 : Hp} (hu : H1 u = some (.lst ((prt fs s i).map V.int))) : Fo H1 u (prt fs s i) :=
  ⟨hu, prt_good h.good s i, by
    unfold prt
    have := h.len
    rw [List.length_take, List.length_drop]
    omega⟩
theorem pow12 {p : Nat} (h : p ≤ 12) : 2 ^ p ≤ 4096 := Nat.pow_le_pow_right (n := 2) (by decide) h
theorem shr_nat (n i : Nat) : V.int ((n : Int) / 2 ^ (i : Int).toNat) = V.int ((n / 2 ^ i : Nat) : Int) := by
  rw [Int.toNat_natCast, Int.natCast_ediv, Int.natCast_pow]
  rfl
theorem lwV0 (fs : List Int) : (lwV fs)[0]? = some (.int (lp fs)) := by
  unfold lwV lp
  by_cases e : fs = []
  · rw [if_pos e, if_pos e]
    rfl
  · rw [if_neg e, if_neg e]
    rfl
section
variable {P : Program} {w : World} {K : PySem.W.Frag} {mg : Str → Option Value} {base : Heap}
theorem ok_halved_sums (T : Tx K mg) : FnOk P w K mg base CX0 3 T.a_halved_sums T.d_halved_sums ["folds", "most"] (sp_halved_sums K) := by
  refine T.f_halved_sums.ok (k := 2) sc_halved_sums (fun vs H Q E h => ?_) (fun cdv A outer s H vs Q E hr h => ?_)
  · obtain ⟨a, fs, m, rfl, _⟩ := h
    rfl
  · obtain ⟨a, fs, most, rfl, hf, hm, q⟩ := h
    refine ⟨_,       (pss_cons (ps_set (i := 2) sc_halved_sums.nd rfl (by first | exact Or.inl rfl | exact Or.inr rfl) (pe_lst pa_nil)) 
      (pss_cons (ps_while PassesOwn.never (PW.pt (pw_and (pt_cmpR op_le (pe_callB (id := "len") (r := rLenS K) call_len_seq (by rfl) T.m_len PySem.boot_len (pa_cons (pv 2) pa_nil)) (pv 1) (nomark _)) (pw_and1 (pt_cmpR op_eq (pe_op op_and (pe_callB (id := "len") (r := rLenS K) call_len_seq (by rfl) T.m_len PySem.boot_len (pa_cons (pv 0) pa_nil)) (pe_op op_sub (pe_op op_shlW pe_int (pe_callB (id := "len") (r := rLenS K) call_len_seq (by rfl) T.m_len PySem.boot_len (pa_cons (pv 2) pa_nil))) pe_int)) pe_int (nomark _))))) 
        (pss_cons (ps_set (i := 3) sc_halved_sums.nd rfl (by first | exact Or.inl rfl | exact Or.inr rfl) (pe_op op_shr (pe_callB (id := "len") (r := rLenS K) call_len_seq (by rfl) T.m_len PySem.boot_len (pa_cons (pv 0) pa_nil)) (pe_callB (id := "len") (r := rLenS K) call_len_seq (by rfl) T.m_len PySem.boot_len (pa_cons (pv 2) pa_nil)))) 
        (pss_cons (ps_setLc (i := 4) (own := [("at", 5)]) (g := gName 5) (tt := tYes) rfl sc_halved_sums.nd rfl rfl (sw_true rfl rfl rfl (by decide +kernel)) (pi_range1 rfl T.m_range (pa_cons (pe_op op_shlW pe_int (pe_callB (id := "len") (r := rLenS K) call_len_seq (by rfl) T.m_len PySem.boot_len (pa_cons (pv 2) pa_nil))) pa_nil)) (blkOk_by (own := [("at", 5)]) (N := ["folds", "most", "sums", "length", "stretches", "at", "stretch"]) (sc := defScope s_halved_sums) (by decide +kernel)) (fun _ _ _ _ _ => (pg_name (i := 5) sc_halved_sums.nd rfl (by first | exact Or.inl rfl | exact Or.inr rfl))) (fun _ _ _ _ _ => pts_nil) (fun _ _ _ _ _ => (pe_slice (r := rSlL K) sl_list (pv 0) (po_some (pe_op op_mul (pv 5) (pv 3))) (po_some (pe_op op_mul (pe_op op_add (pv 5) pe_int) (pv 3)))))) 
        (pss_one (ps_expr (pe_bm PySem.F.plainAttrs_list PySem.F.slot_list_append PySem.F.type_list_append mt_append (pv 2) (pa_cons (pe_callB (id := "sum") (r := rSum K) (cr_sum rfl) (by rfl) T.m_sum (by decide +kernel) (pa_cons (pe_lc (own := [("stretch", 6)]) (g := gName 6) (tt := tYes) rfl sc_halved_sums.nd (pi_list (pv 4)) (blkOk_by (own := [("stretch", 6)]) (N := ["folds", "most", "sums", "length", "stretches", "at", "stretch"]) (sc := defScope s_halved_sums) (by decide +kernel)) (fun _ _ _ _ _ => (pg_name (i := 6) sc_halved_sums.nd rfl (by first | exact Or.inl rfl | exact Or.inr rfl))) (fun _ _ _ _ _ => pts_nil) (fun _ _ _ _ _ => (pe_ix (r := rIxT K) ix_tup (pe_call (ok_best_widths T) hr (by rfl) T.g_best_widths T.f_best_widths.kp T.b_best_widths .nil pass0 (pa_cons (pv 6) pa_nil)) pe_int (fun _ _ => rfl)))) pa_nil)) pa_nil))))))) 
      (pss_one (ps_ret (pv 2))))), ?_⟩
    refine q_asgL (xs := []) (el_lst ea_nil (by decide)) fun p H1 hp e1 h1 => ?_
    have hPl := P_le fs.length most
    refine q_while (fun m σ' H' => ∃ i y3 y4, σ' = [some (.ref a), some (.int (most : Int)), some (.ref p), y3, y4, none, none] ∧ Ex H H' ∧ H' p = some (.lst (((List.range i).map (S fs)).map V.int)) ∧ i ≤ M47.P fs.length most ∧ m = 20 - i) 20 ⟨0, none, none, rfl, e1, h1, Nat.zero_le _, rfl⟩ (fun m σ' H' hW => ?_)
    obtain ⟨i, y3, y4, rfl, e, hl, hi, rfl⟩ := hW
    have ln : ((((List.range i).map (S fs)).map V.int).length : Int) = (i : Int) := by rw [List.length_map, List.length_map, List.length_range]
    have lf : ((fs.map V.int).length : Int) = ((fs.length : Nat) : Int) := by rw [List.length_map]
    have evl : ∀ {H2 : Hp} {σ : L2.St}, Ex H' H2 → σ[2]? = some (some (.ref p)) → Ev (tCB (rLenS K) (tCons (tVar 2) tNil)) σ H2 (.int (i : Int)) := fun {H2 σ} e2 h2 => by
      rw [← ln]
      exact ev_len (K := K) (ev_var h2) (sq_of (e2 _ _ hl))
    have evf : ∀ {H2 : Hp} {σ : L2.St}, Ex H' H2 → σ[0]? = some (some (.ref a)) → Ev (tCB (rLenS K) (tCons (tVar 0) tNil)) σ H2 (.int ((fs.length : Nat) : Int)) := fun {H2 σ} e2 h2 => by
      rw [← lf]
      exact ev_len (K := K) (ev_var h2) (hf.ex (e.trans e2)).sq
    refine ⟨decide ((i : Int) ≤ (most : Int)) && isDiv fs.length i, et_and (et_test (ev_op (evl (Ex.refl _) rfl) (ev_var rfl) rv_I0)) (fun _ => et_test (ev_is (ev_op (ev_op (evf (Ex.refl _) rfl) (ev_op (ev_op ev_c (evl (Ex.refl _) rfl) (rv_I (shl1 (by omega)))) ev_c rv_I0) rv_I0) ev_c (rv_eq rfl)) (by rw [and_zero]))), fun z H2 e2 => ?_, fun z H2 e2 => ?_⟩
    · rw [Bool.and_eq_true] at z
      have z1 : i ≤ most := by have := of_decide_eq_true z.1; omega
      have hlt : i < M47.P fs.length most := by
        rcases Nat.lt_or_ge i (M47.P fs.length most) with c | c
        · exact c
        · have ei : i = M47.P fs.length most := by omega
          have := P_stop (n := fs.length) (most := most) (by omega)
          rw [← ei, z.2] at this
          cases this
      have hp12 := pow12 (show i ≤ 12 by omega)
      refine ⟨fun σ2 H3 => ∃ y3 y4, σ2 = [some (.ref a), some (.int (most : Int)), some (.ref p), y3, y4, none, none] ∧ Ex H H3 ∧ H3 p = some (.lst (((List.range (i + 1)).map (S fs)).map V.int)), fun σ2 H3 hN => ?_, ?_⟩
      · obtain ⟨y3, y4, rfl, eN, hN⟩ := hN
        exact ⟨20 - (i + 1), by omega, i + 1, y3, y4, rfl, eN, hN, hlt, rfl⟩
      · refine q_asg (v := .int ((fs.length / 2 ^ i : Nat) : Int)) (ev_is (ev_op (evf e2 rfl) (evl e2 rfl) (rv_I (Int.natCast_nonneg i))) (shr_nat _ _)) fun H3 e3 => ?_
        have e23 := e2.trans e3
        refine q_in (lists_use (f := prt fs (fs.length / 2 ^ i)) (n := 2 ^ i) (by omega) (ea_cons (ev_is (ev_op ev_c (evl e23 rfl) (rv_I (shl1 (by omega)))) (by rw [one_p, Int.natCast_pow]; rfl)) ea_nil) (fun _ => rfl) (fun j H4 e4 hj => ?_) fun D H4 hD e4 hLL => ?_)
        · have hin := prt_in (n := fs.length) hj
          have h5 := el_sl (K := K) (te := tVar 0) (σ := [some (.ref a), some (.int (most : Int)), some (.ref p), some (.int ((fs.length / 2 ^ i : Nat) : Int)), y4, some (.int (j : Int)), none]) (ev_var rfl) (lo := some ((j * (fs.length / 2 ^ i) : Nat) : Int)) (hi := some (((j + 1) * (fs.length / 2 ^ i) : Nat) : Int))
            (eo_some (te := tOp (rI CMul fun i j => .int (i * j)) (tVar 5) (tVar 3)) (ev_is (ev_op (ev_var rfl) (ev_var rfl) (rv_I (Or.inl ⟨by omega, by omega⟩))) (by rw [Int.natCast_mul])))
            (eo_some (te := tOp (rI CMul fun i j => .int (i * j)) (tOp (rI0 fun i j => .int (i + j)) (tVar 5) (tC (.int 1))) (tVar 3)) (ev_is (ev_op (ev_op (ev_var rfl) ev_c rv_I0) (ev_var rfl) (rv_I (Or.inl ⟨by omega, by omega⟩))) (by rw [Int.natCast_mul]; rfl)))
            (hf.ex ((e.trans e23).trans e4)).sq
          rw [cut_nat hin, ← prt_eq hj] at h5
          exact h5
        · have eS : (((List.range (2 ^ i)).map (prt fs (fs.length / 2 ^ i))).map fun r => V.int (lp r)) = (((List.range (2 ^ i)).map fun j => lp (prt fs (fs.length / 2 ^ i) j)).map V.int) := by
            rw [List.map_map, List.map_map]
            rfl
          refine s_app (v := .int (S fs i)) ((e23.trans e4) _ _ hl) (ev_var rfl) (ev_sumN (K := K) (ns := (List.range (2 ^ i)).map fun j => lp (prt fs (fs.length / 2 ^ i) j)) ?_) (by rw [List.length_map, List.length_map, List.length_range]; omega) fun H5 e5 => ?_
          · rw [← eS]
            refine el_mapLL (K := K) (fun r => V.int (lp r)) (ev_var rfl) hLL (by rw [List.length_map, List.length_range]; omega) (fun _ => rfl) fun u r H6 e6 hr hu => ?_
            obtain ⟨j, hj, rfl⟩ := List.mem_map.mp hr
            exact ev_opU1 (xs := lwV (prt fs (fs.length / 2 ^ i) j)) (eu_call (ea_cons (ev_var rfl) ea_nil) fun H7 e7 Q k E => ⟨u, _, rfl, (prt_fo hf hu).ex e7, k⟩) (fun _ _ => ev_c) fun t H7 ht _ => rv_ixT (K := K) (st_of ht) (atI_nat (j := 0) (lwV0 _))
          · refine ⟨_, _, rfl, ?_, ?_⟩
            · exact Ex.mut (((e.trans e23).trans e4).trans e5) hp
            · rw [upd_same, List.range_succ, List.map_append, List.map_append]
              rfl
    · rw [Bool.and_eq_false_iff] at z
      have ei : i = M47.P fs.length most := by
        rcases z with z | z
        · have := of_decide_eq_false z
          omega
        · rcases Nat.lt_or_ge most i with c | c
          · omega
          · have := P_out c z
            omega
      subst ei
      exact s_ret (ev_var rfl) fun H3 e3 => q p H3 hp ((e.trans e2).trans e3) ((e2.trans e3) _ _ hl)
theorem ok_halves (T : Tx K mg) : FnOk P w K mg base CX0 5 T.a_halves T.d_halves ["folds", "most"] (sp_halves K) := by
  refine T.f_halves.ok (k := 4) sc_halves (fun vs H Q E h => ?_) (fun cdv A outer s H vs Q E hr h => ?_)
  · obtain ⟨a, fs, m, rfl, _⟩ := h
    rfl
  · obtain ⟨a, fs, most, rfl, hf, hm, q⟩ := h
    refine ⟨_,       (pss_cons (ps_expr (pe_call (ok_check_folds T) hr (by rfl) T.g_check_folds T.f_check_folds.kp T.b_check_folds .nil pass0 (pa_cons (pv 0) pa_nil))) 
      (pss_cons (ps_expr (pe_call (ok_check_count T) (hr.mono (by decide)) (by rfl) T.g_check_count T.f_check_count.kp T.b_check_count .nil pass0 (pa_cons (pv 1) pa_nil))) 
      (pss_one (ps_ret (pe_call (ok_halved_sums T) (hr.mono (by decide)) (by rfl) T.g_halved_sums T.f_halved_sums.kp T.b_halved_sums .nil pass0 (pa_cons (pv 0) (pa_cons (pv 1) pa_nil))))))), ?_⟩
    refine q_drop (ev_call (ea_cons (ev_var rfl) ea_nil) (spv fun H1 e Q q E => ⟨a, fs, rfl, hf.ex e, q⟩)) fun H1 e1 => ?_
    refine q_drop (ev_call (ea_cons (ev_var rfl) ea_nil) (spv fun H1 e Q q E => ⟨_, rfl, Int.natCast_nonneg _, q⟩)) fun H2 e2 => ?_
    exact s_retL (el_callR (ea_cons (ev_var rfl) (ea_cons (ev_var rfl) ea_nil)) fun H3 e3 Q k E => ⟨a, fs, most, rfl, hf.ex ((e1.trans e2).trans e3), hm, k⟩) fun p H3 hp e3 h3 => q.go (e1.trans e2) hp e3 h3
theorem ok_least_half (T : Tx K mg) : FnOk P w K mg base CX0 5 T.a_least_half T.d_least_half ["folds", "most", "cost"] (sp_least_half K) := by
  refine T.f_least_half.ok (k := 4) sc_least_half (fun vs H Q E h => ?_) (fun cdv A outer s H vs Q E hr h => ?_)
  · obtain ⟨a, fs, m, c, rfl, _⟩ := h
    rfl
  · obtain ⟨a, fs, most, c, rfl, hf, hm, hc0, hc1, q⟩ := h
    refine ⟨_,       (pss_cons (ps_expr (pe_call (ok_check_folds T) hr (by rfl) T.g_check_folds T.f_check_folds.kp T.b_check_folds .nil pass0 (pa_cons (pv 0) pa_nil))) 
      (pss_cons (ps_expr (pe_call (ok_check_count T) (hr.mono (by decide)) (by rfl) T.g_check_count T.f_check_count.kp T.b_check_count .nil pass0 (pa_cons (pv 1) pa_nil))) 
      (pss_cons (ps_expr (pe_call (ok_check_count T) (hr.mono (by decide)) (by rfl) T.g_check_count T.f_check_count.kp T.b_check_count .nil pass0 (pa_cons (pv 2) pa_nil))) 
      (pss_cons (ps_setLc (i := 3) (own := [("times", 4), ("total", 5)]) (g := gTup K 2 (gCons (gName 4) (gCons (gName 5) gNil))) (tt := tYes) rfl sc_least_half.nd rfl rfl (sw_true rfl rfl rfl (by decide +kernel)) (pi_enum (by rfl) T.m_enumerate (pa_cons (pe_call (ok_halved_sums T) (hr.mono (by decide)) (by rfl) T.g_halved_sums T.f_halved_sums.kp T.b_halved_sums .nil pass0 (pa_cons (pv 0) (pa_cons (pv 1) pa_nil))) pa_nil)) (blkOk_by (own := [("times", 4), ("total", 5)]) (N := ["folds", "most", "cost", "totals", "times", "total"]) (sc := defScope s_least_half) (by decide +kernel)) (fun _ _ _ _ _ => by exact (pg_tup rfl (pgs_cons (pg_name (i := 4) sc_least_half.nd rfl (by first | exact Or.inl rfl | exact Or.inr rfl)) (pgs_cons (pg_name (i := 5) sc_least_half.nd rfl (by first | exact Or.inl rfl | exact Or.inr rfl)) pgs_nil)))) (fun _ _ _ _ _ => pts_nil) (fun _ _ _ _ _ => (pe_op op_add (pv 5) (pe_op op_shlW (pv 2) (pv 4))))) 
      (pss_one (ps_ret (pe_tup (pa_cons (pe_bm PySem.F.plainAttrs_list PySem.F.slot_list_index PySem.F.type_list_index (mt_indexD (un65 hr)) (pv 3) (pa_cons (pe_callB (id := "min") (r := rMin K) (cr_min rfl) (by rfl) T.m_min (by decide +kernel) (pa_cons (pv 3) pa_nil)) pa_nil)) (pa_cons (pe_callB (id := "min") (r := rMin K) (cr_min rfl) (by rfl) T.m_min (by decide +kernel) (pa_cons (pv 3) pa_nil)) pa_nil))))))))), ?_⟩
    refine q_drop (ev_call (ea_cons (ev_var rfl) ea_nil) (spv fun H1 e Q q E => ⟨a, fs, rfl, hf.ex e, q⟩)) fun H1 e1 => ?_
    refine q_drop (ev_call (ea_cons (ev_var rfl) ea_nil) (spv fun H1 e Q q E => ⟨_, rfl, Int.natCast_nonneg _, q⟩)) fun H2 e2 => ?_
    refine q_drop (ev_call (ea_cons (ev_var rfl) ea_nil) (spv fun H1 e Q q E => ⟨c, rfl, hc0, q⟩)) fun H3 e3 => ?_
    have e13 := (e1.trans e2).trans e3
    have hPl := P_le fs.length most
    have sl : ((sums fs most).map V.int).length = M47.P fs.length most := by
      unfold sums
      rw [List.length_map, List.length_map, List.length_range]
    obtain ⟨k, m, F⟩ := first_min_ex (totF fs c) (M47.P fs.length most) (P_pos _ _)
    refine q_asgL (el_enumN (K := K) (xs := (sums fs most).map V.int) (fun k => V.int (totF fs c k)) (el_callR (ea_cons (ev_var rfl) (ea_cons (ev_var rfl) ea_nil)) fun H4 e4 Q k E => ⟨a, fs, most, rfl, hf.ex (e13.trans e4), hm, k⟩) (by rw [sl]; omega) (fun _ _ => rfl) fun j x H4 e4 hx => ?_) fun D H4 hD e4 h4 => ?_
    · have hj : j < M47.P fs.length most := by
        have := (List.getElem?_eq_some_iff.mp hx).1
        rw [sl] at this
        exact this
      unfold sums at hx
      rw [List.map_map, List.getElem?_map, List.getElem?_range hj] at hx
      obtain rfl := Option.some.inj hx
      refine ev_is (ev_op (ev_var rfl) (ev_op (ev_var rfl) (ev_var rfl) (rv_I (shl_ok (n := 10) (j := j) (by omega) (by omega)))) rv_I0) ?_
      rw [Int.toNat_natCast]
      rfl
    rw [sl] at h4
    refine s_retU (eu_tup (ea_cons (index_use (K := K) (ev_var rfl) (fun H5 e5 => ev_minF (K := K) (i := 0) (ev_var rfl) (e5 _ _ h4) F) h4 F) (ea_cons (ev_minF (K := K) (i := 0) (ev_var rfl) h4 F) ea_nil)) (by show 2 ≤ 100000; decide)) fun p H5 hp e5 h5 => (q k m F).go (e13.trans e4) hp e5 h5
end
end K47

set_option Elab.async false
set_option linter.all false
set_option maxRecDepth 100000
set_option maxHeartbeats 4000000
namespace K47
open PySem PySem.Spec PyProof.Rows L2 Evl WS M41 M47
/-! ### the draws -/
def cellV (ns : List Int) (k : Nat) : Int := if k < ns.length then ns.getD k 0 else (ns.take 1).sum.fmod 1000003
def mixA (s i : Int) : Int := (s * 1299709 + 104729 * i * i + 31 * i + 7).fmod 2147483629
def mixB (s i : Int) : Int := (mixA s i * mixA s i + 48271 * i + 15485863).fmod 2147483587
def hashV (s i : Int) : Int := (mixB s i * 69621).fmod 2147483647
def sp__law_cell (K : PySem.W.Frag) : Sp := fun vs H Q _ => ∃ a, ∃ ns : List Int, ∃ k : Nat, vs = [.ref a, .int (k : Int)] ∧ SqL K H a (ns.map V.int) ∧ ns.length ≤ 63 ∧ RetV (.int (cellV ns k)) H Q
def sp__law_hash (K : PySem.W.Frag) : Sp := fun vs H Q _ => ∃ s i : Int, vs = [.int s, .int i] ∧ (0 ≤ s ∧ s < 2147483648) ∧ (0 ≤ i ∧ i ≤ 1000000000000) ∧ RetV (.int (hashV s i)) H Q
def sp__law_generator (K : PySem.W.Frag) : Sp := fun vs H Q _ => ∃ a, ∃ ns : List Int, ∃ k : Nat, vs = [.ref a, .int (k : Int)] ∧ SqL K H a (ns.map V.int) ∧ ns.length ≤ 63 ∧ k ≤ 1000 ∧ ∀ p H2, H p = none → Ex H H2 → Gs H2 p (1000 * k) → Q (.ref p) H2
def sp__law_random (K : PySem.W.Frag) : Sp := fun vs H Q _ => ∃ g, ∃ n : Int, ∃ C : Nat, vs = [.ref g, .int n] ∧ Gs H g C ∧ C ≤ 1000000000 ∧ 1 ≤ n ∧ n ≤ 1000000000000 ∧
  ∀ z H2, 0 ≤ z → z < n → Gs H2 g (C + 4) → ExB g H H2 → Q (.int z) H2
section
variable {P : Program} {w : World} {K : PySem.W.Frag} {mg : Str → Option Value} {base : Heap}
theorem ok__law_cell (T : Tx K mg) : FnOk P w K mg base CX0 1 T.a__law_cell T.d__law_cell ["_law_script", "_law_index"] (sp__law_cell K) := by
  refine T.f__law_cell.ok (k := 0) sc__law_cell (fun vs H Q E h => ?_) (fun cdv A outer s H vs Q E hr h => ?_)
  · obtain ⟨a, ns, k, rfl, _⟩ := h
    rfl
  · obtain ⟨a, ns, k, rfl, hs, hl, q⟩ := h
    refine ⟨_,       (pss_cons (ps_if (pt_cmpR op_lt (pv 1) (pe_callB (id := "len") (r := rLenS K) call_len_seq (by rfl) T.m_len PySem.boot_len (pa_cons (pv 0) pa_nil)) (nomark _)) 
        (pss_one (ps_ret (pe_ix (r := rIxL K) ix_list (pv 0) (pv 1) (fun _ _ => rfl)))) pss_nil) 
      (pss_one (ps_ret (pe_op op_modN (pe_callB (id := "sum") (r := rSum K) (cr_sum rfl) (by rfl) T.m_sum (by decide +kernel) (pa_cons (pe_slice (r := rSlL K) sl_list (pv 0) po_none (po_some pe_int)) pa_nil)) pe_int)))), ?_⟩
    refine q_when (et_test (ev_op (ev_var rfl) (ev_len (K := K) (ev_var rfl) hs) rv_I0)) (fun z H1 e1 => ?_) (fun z H1 e1 => ?_)
    · have hz : (k : Int) < ((ns.map V.int).length : Int) := of_decide_eq_true z
      rw [List.length_map] at hz
      have hk : k < ns.length := by omega
      refine s_ret (ev_op (ev_var rfl) (ev_var rfl) (rv_ixL (K := K) (v := .int (cellV ns k)) (ex_l e1 hs) ?_)) fun H2 e2 => q H2 (e1.trans e2)
      refine atI_nat ?_
      rw [List.getElem?_map, List.getElem?_eq_getElem hk]
      unfold cellV
      rw [if_pos hk, List.getD_eq_getElem?_getD, List.getElem?_eq_getElem hk] <;> rfl
    · have hz : ¬ (k : Int) < ((ns.map V.int).length : Int) := of_decide_eq_false z
      rw [List.length_map] at hz
      have hk : ¬ k < ns.length := by omega
      refine s_ret (ev_is (ev_op (ev_sumN (K := K) (ns := ns.take 1) ?_) ev_c (rv_I (by decide))) ?_) fun H2 e2 => q H2 (e1.trans e2)
      · have k1 := el_sl (σ := start ["_law_script", "_law_index"] [V.ref a, V.int (k : Int)]) (K := K) (te := tVar 0) (ev_var rfl) eo_none (eo_some (te := tC (.int 1)) ev_c) (ex_l e1 hs)
        have ec : cutV (ns.map V.int) none (some 1) = (ns.take 1).map V.int := by
          unfold cutV
          rw [HT.sIx_none, show HT.sIx (ns.map V.int).length (ns.map V.int).length (some 1) = min 1 (ns.map V.int).length from HT.sIx_nat _ _ 1]
          cases ns with
          | nil => rfl
          | cons x r => simp
        rw [ec] at k1
        exact k1
      · unfold cellV
        rw [if_neg hk]
theorem ok__law_hash (T : Tx K mg) : FnOk P w K mg base CX0 1 T.a__law_hash T.d__law_hash ["_law_seed", "_law_index"] (sp__law_hash K) := by
  refine T.f__law_hash.ok (k := 0) sc__law_hash (fun vs H Q E h => ?_) (fun cdv A outer s H vs Q E hr h => ?_)
  · obtain ⟨s, i, rfl, _⟩ := h
    rfl
  · obtain ⟨s, i, rfl, ⟨s0, s1⟩, ⟨i0, i1⟩, q⟩ := h
    refine ⟨_,       (pss_cons (ps_set (i := 2) sc__law_hash.nd rfl (by first | exact Or.inl rfl | exact Or.inr rfl) (pe_op op_modN (pe_callTy call_int1 (by rfl) T.m_int (by decide +kernel) (pa_cons (pe_op op_add (pe_op op_add (pe_op op_add (pe_op op_mul (pv 0) pe_int) (pe_op op_mul (pe_op op_mul pe_int (pv 1)) (pv 1))) (pe_op op_mul pe_int (pv 1))) pe_int) pa_nil)) pe_int)) 
      (pss_cons (ps_set (i := 2) sc__law_hash.nd rfl (by first | exact Or.inl rfl | exact Or.inr rfl) (pe_op op_modN (pe_callTy call_int1 (by rfl) T.m_int (by decide +kernel) (pa_cons (pe_op op_add (pe_op op_add (pe_op op_mul (pv 2) (pv 2)) (pe_op op_mul pe_int (pv 1))) pe_int) pa_nil)) pe_int)) 
      (pss_one (ps_ret (pe_op op_modN (pe_callTy call_int1 (by rfl) T.m_int (by decide +kernel) (pa_cons (pe_op op_mul (pv 2) pe_int) pa_nil)) pe_int))))), ?_⟩
    have hA := fmod_in (s * 1299709 + 104729 * i * i + 31 * i + 7) 2147483629 (by decide)
    have hB := fmod_in (mixA s i * mixA s i + 48271 * i + 15485863) 2147483587 (by decide)
    refine q_asg (v := .int (mixA s i)) (ev_op (ev_int (ev_op (ev_op (ev_op (ev_op (ev_var rfl) ev_c (rv_I (Or.inr ⟨by decide, by decide⟩))) (ev_op (ev_op ev_c (ev_var rfl) (rv_I (Or.inl ⟨by decide, by decide⟩))) (ev_var rfl) (rv_I (Or.inr ⟨by omega, by omega⟩))) rv_I0) (ev_op ev_c (ev_var rfl) (rv_I (Or.inl ⟨by decide, by decide⟩))) rv_I0) ev_c rv_I0)) ev_c (rv_I (by decide))) fun H1 e1 => ?_
    have hA' : 0 ≤ mixA s i ∧ mixA s i < 2147483629 := hA
    refine q_asg (v := .int (mixB s i)) (ev_op (ev_int (ev_op (ev_op (ev_op (ev_var rfl) (ev_var rfl) (rv_I (Or.inl ⟨by omega, by omega⟩))) (ev_op ev_c (ev_var rfl) (rv_I (Or.inl ⟨by decide, by decide⟩))) rv_I0) ev_c rv_I0)) ev_c (rv_I (by decide))) fun H2 e2 => ?_
    refine s_ret (v := .int (hashV s i)) (ev_op (ev_int (ev_op (ev_var rfl) ev_c (rv_I (Or.inr ⟨by decide, by decide⟩)))) ev_c (rv_I (by decide))) fun H3 e3 => q H3 ((e1.trans e2).trans e3)
theorem ok__law_generator (T : Tx K mg) : FnOk P w K mg base CX0 2 T.a__law_generator T.d__law_generator ["_law_script", "_law_index"] (sp__law_generator K) := by
  refine T.f__law_generator.ok (k := 1) sc__law_generator (fun vs H Q E h => ?_) (fun cdv A outer s H vs Q E hr h => ?_)
  · obtain ⟨a, ns, k, rfl, _⟩ := h
    rfl
  · obtain ⟨a, ns, k, rfl, hs, hl, hk, q⟩ := h
    refine ⟨_,       (pss_cons (ps_set (i := 2) sc__law_generator.nd rfl (by first | exact Or.inl rfl | exact Or.inr rfl) (pe_call (ok__law_cell T) hr (by rfl) T.g__law_cell T.f__law_cell.kp T.b__law_cell .nil pass0 (pa_cons (pv 0) (pa_cons (pv 1) pa_nil)))) 
      (pss_one (ps_ret (pe_lst (pa_cons (pe_op op_modN (pe_callTy call_int1 (by rfl) T.m_int (by decide +kernel) (pa_cons (pe_callB (id := "max") (call_max2 rfl) (by rfl) T.m_max (by decide +kernel) (pa_cons (pe_op op_sub (pv 2) (pe_op op_powW pe_int pe_int)) (pa_cons pe_int pa_nil))) pa_nil)) (pe_op op_powW (pe_op op_powW pe_int pe_int) pe_int)) (pa_cons (pe_op op_modN (pe_callTy call_int1 (by rfl) T.m_int (by decide +kernel) (pa_cons (pv 2) pa_nil)) pe_int) (pa_cons (pe_op op_mul pe_int (pv 1)) pa_nil))))))), ?_⟩
    refine q_asg (ev_call (ea_cons (ev_var rfl) (ea_cons (ev_var rfl) ea_nil)) (spv fun H1 e Q q E => ⟨a, ns, k, rfl, ex_l e hs, hl, q⟩)) fun H1 e1 => ?_
    generalize cellV ns k = seed
    refine s_retL (el_lst (ea_cons (ev_op (ev_int (ev_max2 (ev_op (ev_var rfl) (ev_op ev_c ev_c (rv_I ⟨by decide, by decide +kernel⟩)) rv_I0) ev_c)) (ev_op (ev_op ev_c ev_c (rv_I ⟨by decide, by decide +kernel⟩)) ev_c (rv_I ⟨by decide, by decide +kernel⟩)) (rv_I (by decide +kernel))) (ea_cons (ev_op (ev_int (ev_var rfl)) ev_c (rv_I (by decide))) (ea_cons (ev_op ev_c (ev_var rfl) (rv_I (Or.inl ⟨by decide, by decide⟩))) ea_nil))) (by show 3 ≤ 100000; decide)) fun p H2 hp e2 h2 => ?_
    refine q p H2 (fresh_back e1 hp) (e1.trans e2) ⟨_, _, _, h2, (fmod_in _ _ (by decide +kernel)).1, ?_, ?_, ?_⟩
    · have := fmod_in seed 2147483647 (by decide)
      omega
    · omega
    · omega
theorem ok__law_random (T : Tx K mg) : FnOk P w K mg base CX0 2 T.a__law_random T.d__law_random ["_law_generator_here", "_law_bound"] (sp__law_random K) := by
  refine T.f__law_random.ok (k := 1) sc__law_random (fun vs H Q E h => ?_) (fun cdv A outer s H vs Q E hr h => ?_)
  · obtain ⟨g, n, C, rfl, _⟩ := h
    rfl
  · obtain ⟨g, n, C, rfl, hg, hC, hn1, hn2, q⟩ := h
    obtain ⟨A0, B, c, hg, hA, hB, hc0, hc1⟩ := hg
    refine ⟨_,       (pss_cons (ps_if (pt_cmpR op_gt (pe_ix (r := rIxL K) ix_list (pv 0) pe_int (fun _ _ => rfl)) pe_int (nomark _)) 
        (pss_cons (ps_set (i := 2) sc__law_random.nd rfl (by first | exact Or.inl rfl | exact Or.inr rfl) (pe_op op_modN (pe_callTy call_int1 (by rfl) T.m_int (by decide +kernel) (pa_cons (pe_ix (r := rIxL K) ix_list (pv 0) pe_int (fun _ _ => rfl)) pa_nil)) (pv 1))) 
        (pss_cons (ps_asg (pe_op op_fdivW (pe_ix (r := rIxL K) ix_list (pv 0) pe_int (fun _ _ => rfl)) (pv 1)) (pg_sub (pv 0) pe_int set_list)) 
        (pss_one (ps_ret (pv 2))))) pss_nil) 
      (pss_cons (ps_set (i := 2) sc__law_random.nd rfl (by first | exact Or.inl rfl | exact Or.inr rfl) pe_int) 
      (pss_cons (ps_for PassesOwn.never rfl (pi_range1 rfl T.m_range (pa_cons (pe_op op_add pe_int (pe_op op_fdiv (pe_bits (pv 1)) pe_int)) pa_nil)) (pg_name (i := 3) sc__law_random.nd rfl (by first | exact Or.inl rfl | exact Or.inr rfl)) 
        (pss_cons (ps_asg (pe_op op_add (pe_ix (r := rIxL K) ix_list (pv 0) pe_int (fun _ _ => rfl)) pe_int) (pg_sub (pv 0) pe_int set_list)) 
        (pss_one (ps_set (i := 2) sc__law_random.nd rfl (by first | exact Or.inl rfl | exact Or.inr rfl) (pe_op op_add (pe_op op_mul (pv 2) pe_int) (pe_call (ok__law_hash T) hr (by rfl) T.g__law_hash T.f__law_hash.kp T.b__law_hash .nil pass0 (pa_cons (pe_ix (r := rIxL K) ix_list (pv 0) pe_int (fun _ _ => rfl)) (pa_cons (pe_ix (r := rIxL K) ix_list (pv 0) pe_int (fun _ _ => rfl)) pa_nil)))))))) 
      (pss_one (ps_ret (pe_op op_modN (pe_callTy call_int1 (by rfl) T.m_int (by decide +kernel) (pa_cons (pv 2) pa_nil)) (pv 1))))))), ?_⟩
    refine q_when (b := decide (0 < A0)) (et_test (ev_op (ev_op (ev_var rfl) ev_c (rv_ixL (K := K) (sq_of hg) (atI_nat (j := 0) rfl))) ev_c rv_I0)) (fun z H1 e1 => ?_) (fun z H1 e1 => ?_)
    · have g1 := e1 _ _ hg
      refine q_asg (ev_op (ev_int (ev_op (ev_var rfl) ev_c (rv_ixL (K := K) (sq_of g1) (atI_nat (j := 0) rfl)))) (ev_var rfl) (rv_I (show n ≠ 0 by omega))) fun H2 e2 => ?_
      have g2 := e2 _ _ g1
      refine q_setL (j := 0) (v := .int (A0 / n)) g2 (ev_op (ev_op (ev_var rfl) ev_c (rv_ixL (K := K) (sq_of g2) (atI_nat (j := 0) rfl))) (ev_var rfl) (rv_I (wide_div (b := 64) (by omega) (by omega) (by decide) (by decide)))) (ev_var rfl) ev_c (by show 0 < 3; decide) fun H3 e3 => ?_
      have hm := fmod_in A0 n (by omega)
      refine s_ret (ev_var rfl) fun H4 e4 => q _ H4 hm.1 hm.2 ⟨A0 / n, B, c, e4 _ _ upd_same, Int.ediv_nonneg hA (by omega), hB, hc0, by omega⟩ ?_
      exact ((ExB.of ((e1.trans e2).trans e3)).upd).trans (ExB.of e4)
    · refine q_asg ev_c fun H2 e2 => ?_
      have hbits : Builtin.Int.intBits n ≤ 40 := PyProof.Rows.intBits_le (k := 40) (show n.natAbs < 2 ^ 40 by omega)
      refine q_forR1 (n := 1 + ((Builtin.Int.intBits n : Nat) : Int) / 30) (ea_cons (ev_op ev_c (ev_op (ev_bits (ev_var rfl)) ev_c (rv_I ⟨by decide, by decide⟩)) rv_I0) ea_nil) (by omega)
        (fun i σ' H' => ∃ d y3, σ' = [some (.ref g), some (.int n), some (.int d), y3] ∧ ExB g H H' ∧ H' g = some (.lst [.int A0, .int B, .int (c + (i : Int))])) (fun H3 e3 => ⟨0, none, rfl, ExB.of ((e1.trans e2).trans e3), by
          rw [((e1.trans e2).trans e3) _ _ hg, show c + ((0 : Nat) : Int) = c by omega]⟩) (fun i σ' H' hi hP => ?_) (fun σ' H' hP => ?_)
      · obtain ⟨d, y3, rfl, hE, hg'⟩ := hP
        refine q_setL (j := 2) (v := .int (c + (i : Int) + 1)) hg' (ev_op (ev_op (ev_var rfl) ev_c (rv_ixL (K := K) (sq_of hg') (atI_nat (j := 2) rfl))) ev_c rv_I0) (ev_var rfl) ev_c (by show 2 < 3; decide) fun H3 e3 => ?_
        have g3 : (upd H3 g (.lst [.int A0, .int B, .int (c + (i : Int) + 1)])) g = some (.lst [.int A0, .int B, .int (c + (i : Int) + 1)]) := upd_same
        refine s_asg (ev_op (ev_op (ev_var rfl) ev_c (rv_I (Or.inr ⟨by decide, by decide⟩))) (ev_call (ea_cons (ev_op (ev_var rfl) ev_c (rv_ixL (K := K) (sq_of g3) (atI_nat (j := 1) rfl))) (ea_cons (ev_op (ev_var rfl) ev_c (rv_ixL (K := K) (sq_of g3) (atI_nat (j := 2) rfl))) ea_nil)) (spv fun H1 e Q q E => ⟨B, c + (i : Int) + 1, rfl, hB, by omega, q⟩)) rv_I0) fun H4 e4 => ?_
        refine ⟨_, _, rfl, (hE.trans (ExB.of e3)).upd.trans (ExB.of e4), ?_⟩
        rw [e4 _ _ g3, show c + (i : Int) + 1 = c + ((i + 1 : Nat) : Int) by omega]
      · obtain ⟨d, y3, rfl, hE, hg'⟩ := hP
        have hm := fmod_in d n (by omega)
        refine s_ret (ev_op (ev_int (ev_var rfl)) (ev_var rfl) (rv_I (show n ≠ 0 by omega))) fun H4 e4 => q _ H4 hm.1 hm.2 ⟨A0, B, _, e4 _ _ hg', hA, hB, by omega, by omega⟩ (hE.trans (ExB.of e4))
end
end K47

set_option Elab.async false
set_option linter.all false
set_option maxRecDepth 100000
set_option maxHeartbeats 4000000
namespace K47
open PySem PySem.Spec PyProof.Rows L2 Evl WS M41 M47
theorem cst_one (x : Int) (k : Nat) : cst [x] k = x / 2 ^ k + 1 + (k : Int) := by
  unfold cst qs
  simp
  omega
theorem cst_take {fs : List Int} {i : Nat} {x : Int} (h : fs[i]? = some x) (k : Nat) : cst (fs.take (i + 1)) k = cst (fs.take i) k + x / 2 ^ k + 1 + (k : Int) := by
  rw [List.take_add_one, h]
  show cst (fs.take i ++ [x]) k = _
  rw [cst_app, cst_one]
  omega
def sp__law_price (K : PySem.W.Frag) : Sp := fun vs H Q _ => ∃ a fs, ∃ k : Nat, vs = [.ref a, .int (k : Int)] ∧ Fo H a fs ∧ k ≤ 120 ∧ RetV (.int (cst fs k)) H Q
def sp__law_below (K : PySem.W.Frag) : Sp := fun vs H Q _ => ∃ m t : Nat, vs = [.int (m : Int), .int (t : Int)] ∧ 1 ≤ t ∧ m ≤ 50 ∧ t ≤ 10000 ∧ t ^ m ≤ 10000 ∧ ∀ p H2, H p = none → Ex H H2 → LL H2 p (below m t) → Q (.ref p) H2
def sp__law_least_price (K : PySem.W.Frag) : Sp := fun vs H Q _ => ∃ a fs, vs = [.ref a] ∧ Fo H a fs ∧ RetV (.int (lp fs)) H Q
def sp__law_gain (K : PySem.W.Frag) : Sp := fun vs H Q _ => ∃ a b fs gs, vs = [.ref a, .ref b] ∧ Fo H a fs ∧ Fo H b gs ∧ fs.length ≤ 500 ∧ gs.length ≤ 500 ∧ RetV (.int (gn fs gs)) H Q
def sp__law_drawn (K : PySem.W.Frag) : Sp := fun vs H Q _ => ∃ g, ∃ n b C : Nat, vs = [.ref g, .int (n : Int), .int (b : Int)] ∧ Gs H g C ∧ n ≤ 100 ∧ b ≤ 38 ∧ C ≤ 100000000 ∧
  ∀ p fs H2, H p = none → Fo H2 p fs → fs.length = n → Bel b fs → Gs H2 g (C + 4 + 8 * n) → ExB g H H2 → Q (.ref p) H2
section
variable {K : PySem.W.Frag} {σ : L2.St} {H : Hp} {ta tb te tl : TE}
theorem draw_use {g : Addr} {n : Int} {C : Nat} {E : XK} {Q : VK} (ha : Ev ta σ H (.ref g)) (hb : Ev tb σ H (.int n)) (hg : Gs H g C) (hC : C ≤ 1000000000) (h1 : 1 ≤ n) (h2 : n ≤ 1000000000000)
    (k : ∀ z H2, 0 ≤ z → z < n → Gs H2 g (C + 4) → ExB g H H2 → Q (.int z) H2) : tCall (sp__law_random K) [] E (tCons ta (tCons tb tNil)) σ H Q :=
  ha H (Ex.refl H) _ fun H1 e1 => hb H1 e1 _ fun H2 e2 => ⟨g, n, C, rfl, hg.ex (e1.trans e2), hC, h1, h2, fun z H3 a b c d => k z H3 a b c ((ExB.of (e1.trans e2)).trans d)⟩
end
section
variable {P : Program} {w : World} {K : PySem.W.Frag} {mg : Str → Option Value} {base : Heap}
theorem ok__law_price (T : Tx K mg) : FnOk P w K mg base CX0 1 T.a__law_price T.d__law_price ["_law_folds", "_law_width"] (sp__law_price K) := by
  refine T.f__law_price.ok (k := 0) sc__law_price (fun vs H Q E h => ?_) (fun cdv A outer s H vs Q E hr h => ?_)
  · obtain ⟨a, fs, k, rfl, _⟩ := h
    rfl
  · obtain ⟨a, fs, k, rfl, hf, hk, q⟩ := h
    refine ⟨_,       (pss_cons (ps_set (i := 2) sc__law_price.nd rfl (by first | exact Or.inl rfl | exact Or.inr rfl) pe_int) 
      (pss_cons (ps_for PassesOwn.never rfl (pi_list (pv 0)) (pg_name (i := 3) sc__law_price.nd rfl (by first | exact Or.inl rfl | exact Or.inr rfl)) 
        (pss_one (ps_set (i := 2) sc__law_price.nd rfl (by first | exact Or.inl rfl | exact Or.inr rfl) (pe_op op_add (pe_op op_add (pe_op op_add (pv 2) (pe_op op_fdivW (pv 3) (pe_op op_shlW pe_int (pv 1)))) pe_int) (pv 1))))) 
      (pss_one (ps_ret (pv 2))))), ?_⟩
    refine q_asg ev_c fun H1 e1 => ?_
    refine q_forLn (xs := fs.map V.int) (K := K) (ev_var rfl) (hf.ex e1).sq (fun i σ' H' => ∃ y, σ' = [some (.ref a), some (.int (k : Int)), some (.int (cst (fs.take i) k)), y] ∧ Ex H H') (fun H2 e2 => ⟨none, ?_, e1.trans e2⟩) (fun i σ' H' _ hP => ?_) (fun i x σ' H' hx hP => ?_) (fun σ' H' hP => ?_)
    · show _ = [some (V.ref a), some (V.int (k : Int)), some (V.int (cst (fs.take 0) k)), none]
      rw [List.take_zero]
      unfold cst qs
      simp
      rfl
    · obtain ⟨y, _, e⟩ := hP
      exact (hf.ex e).sq
    · obtain ⟨y, rfl, e⟩ := hP
      rw [List.getElem?_map] at hx
      cases hq : fs[i]? with
      | none => rw [hq] at hx; cases hx
      | some z =>
        rw [hq] at hx
        have ez : V.int z = x := Option.some.inj hx
        subst ez
        have h2 := show (0 : Int) < 2 ^ k from Int.pow_pos (by decide)
        have hlt : ((1 : Int) * 2 ^ (k : Int).toNat).natAbs < 2 ^ 130 := by
          rw [Int.one_mul, Int.toNat_natCast, Int.natAbs_pow]
          exact Nat.lt_of_le_of_lt (Nat.pow_le_pow_right (by decide) hk) (by decide)
        refine s_asg (ev_op (ev_op (ev_op (ev_var rfl) (ev_op (ev_var rfl) (ev_op ev_c (ev_var rfl) (rv_I (shl_ok (n := 1) (j := k) (by decide) (by omega)))) (rv_I (wide_div (b := 130) ?_ hlt (by decide) (by decide)))) rv_I0) ev_c rv_I0) (ev_var rfl) rv_I0) fun H2 e2 => ?_
        · rw [Int.one_mul, Int.toNat_natCast]
          exact h2
        · refine ⟨some (V.int z), ?_, e.trans e2⟩
          rw [cst_take hq k, Int.one_mul, Int.toNat_natCast]
          rfl
    · obtain ⟨y, rfl, e⟩ := hP
      refine s_ret (ev_var rfl) fun H3 e3 => ?_
      rw [List.length_map, List.take_length]
      exact q H3 (e.trans e3)
theorem ok__law_below (T : Tx K mg) : FnOk P w K mg base CX0 1 T.a__law_below T.d__law_below ["_law_many", "_law_top"] (sp__law_below K) := by
  refine T.f__law_below.ok (k := 0) sc__law_below (fun vs H Q E h => ?_) (fun cdv A outer s H vs Q E hr h => ?_)
  · obtain ⟨m, t, rfl, _⟩ := h
    rfl
  · obtain ⟨m, t, rfl, t1, m2, t2, hpow, q⟩ := h
    refine ⟨_,       (pss_cons (ps_set (i := 2) sc__law_below.nd rfl (by first | exact Or.inl rfl | exact Or.inr rfl) (pe_lst (pa_cons (pe_lst pa_nil) pa_nil))) 
      (pss_cons (ps_for PassesOwn.never rfl (pi_range1 rfl T.m_range (pa_cons (pv 0) pa_nil)) (pg_name (i := 3) sc__law_below.nd rfl (by first | exact Or.inl rfl | exact Or.inr rfl)) 
        (pss_cons (ps_set (i := 4) sc__law_below.nd rfl (by first | exact Or.inl rfl | exact Or.inr rfl) (pe_lst pa_nil)) 
        (pss_cons (ps_for PassesOwn.never rfl (pi_list (pv 2)) (pg_name (i := 5) sc__law_below.nd rfl (by first | exact Or.inl rfl | exact Or.inr rfl)) 
          (pss_one (ps_set (i := 4) sc__law_below.nd rfl (by first | exact Or.inl rfl | exact Or.inr rfl) (pe_op op_cat (pv 4) (pe_lc (own := [("_law_one", 6)]) (g := gName 6) (tt := tYes) rfl sc__law_below.nd (pi_range1 rfl T.m_range (pa_cons (pv 1) pa_nil)) (blkOk_by (own := [("_law_one", 6)]) (N := ["_law_many", "_law_top", "_law_found", "_law_turn", "_law_longer", "_law_row", "_law_one"]) (sc := defScope s__law_below) (by decide +kernel)) (fun _ _ _ _ _ => (pg_name (i := 6) sc__law_below.nd rfl (by first | exact Or.inl rfl | exact Or.inr rfl))) (fun _ _ _ _ _ => pts_nil) (fun _ _ _ _ _ => (pe_op op_cat (pv 5) (pe_lst (pa_cons (pv 6) pa_nil))))))))) 
        (pss_one (ps_set (i := 2) sc__law_below.nd rfl (by first | exact Or.inl rfl | exact Or.inr rfl) (pv 4)))))) 
      (pss_one (ps_ret (pv 2))))), ?_⟩
    refine q_in (ta_consL (el_lst ea_nil (by decide)) fun p1 H1 hp1 e1 k1 => ta_nil ⟨sz_of (by show 1 ≤ 100000; decide), fun p hp => ?_⟩)
    have hp0 := fresh_back e1 hp
    refine q_forR1 (n := (m : Int)) (ea_cons (ev_var rfl) ea_nil) (by omega)
      (fun i σ' H' => ∃ u y3 y4 y5 y6, σ' = [some (.int (m : Int)), some (.int (t : Int)), some (.ref u), y3, y4, y5, y6] ∧ Ex H H' ∧ H u = none ∧ LL H' u (below i t)) (fun H3 e3 => ⟨p, none, none, none, none, rfl, (e1.trans (Ex.new hp)).trans e3, hp0, [.ref p1], e3 _ _ upd_same, rfl, fun i r hr => ?_⟩) (fun i σ' H' hi hP => ?_) (fun σ' H' hP => ?_)
    · cases i with
      | zero =>
        cases hr
        exact ⟨p1, rfl, e3 _ _ (Ex.new hp _ _ k1)⟩
      | succ i => cases hr
    · obtain ⟨u, y3, y4, y5, y6, rfl, e, hu, hL⟩ := hP
      refine q_asgL (xs := []) (el_lst ea_nil (by decide)) fun p2 H4 hp2 e4 k4 => ?_
      obtain ⟨vs, hv1, hv2⟩ := hL.ex e4
      have hbl := below_len i t
      have hbi : t ^ i ≤ 10000 := Nat.le_trans (Nat.pow_le_pow_right t1 (by omega)) hpow
      refine q_forLn (K := K) (xs := vs) (ev_var rfl) (sq_of hv1) (fun j σ2 H2 => ∃ l y5 y6, σ2 = [some (.int (m : Int)), some (.int (t : Int)), some (.ref u), some (.int (i : Int)), some (.ref l), y5, y6] ∧ Ex H4 H2 ∧ H l = none ∧ LL H2 l (((below i t).take j).flatMap fun r => (List.range t).map fun i : Nat => r ++ [(i : Int)]))
        (fun H5 e5 => ⟨p2, y5, y6, rfl, e5, fresh_back e hp2, [], e5 _ _ k4, Lv.nil⟩) (fun j σ2 H2 _ h => by obtain ⟨_, _, _, _, e, _⟩ := h; exact sq_of (e _ _ hv1)) (fun j x σ2 H2 hx h => ?_) (fun σ2 H2 h => ?_)
      · obtain ⟨l, y5, y6, rfl, e5, hl, zs, hz1, hz2⟩ := h
        obtain ⟨a, r, rfl, hri, har⟩ := hv2.get hx
        have hrm : r ∈ below i t := List.mem_of_getElem? hri
        obtain ⟨hr1, hr2⟩ := below_row i t r hrm
        refine s_in (top_in2 (ev_use (v := .ref l) (ev_var rfl) fun Ha ea => longer_use (r := r) (a := a) (n := t) t2 (by omega) (ea_cons (ev_var rfl) ea_nil) (ea _ _ (e5 _ _ har)) (fun _ => rfl) (fun _ => rfl) (fun _ => rfl) fun Dd Hd hD eD hLL => ?_))
        obtain ⟨ws, hw1, hw2⟩ := hLL
        have hsum : zs.length + ws.length ≤ 10000 := by
          have h1 : (((below i t).take (j + 1)).flatMap fun r => (List.range t).map fun i : Nat => r ++ [(i : Int)]).length ≤ (below (i + 1) t).length := by
            have e7 : below (i + 1) t = ((below i t).take (j + 1)).flatMap (fun r => (List.range t).map fun i : Nat => r ++ [(i : Int)]) ++ ((below i t).drop (j + 1)).flatMap (fun r => (List.range t).map fun i : Nat => r ++ [(i : Int)]) := by
              rw [← List.flatMap_append, List.take_append_drop]
              rfl
            rw [e7, List.length_append]
            omega
          have h2 : (below (i + 1) t).length ≤ 10000 := by
            rw [below_len]
            exact Nat.le_trans (Nat.pow_le_pow_right t1 (by omega)) hpow
          rw [List.take_succ, hri, List.flatMap_append, List.length_append] at h1
          have h3 : ((some r).toList.flatMap fun r => (List.range t).map fun i : Nat => r ++ [(i : Int)]).length = ws.length := by
            rw [hw2.1]
            simp
          rw [h3, ← hz2.1] at h1
          omega
        refine ⟨l, Dd, zs, ws, rfl, rfl, (ea.trans eD) _ _ hz1, hw1, sz_of (by omega), fun p3 hp3 => ?_⟩
        have e6 := Ex.new (o := .lst (zs ++ ws)) hp3
        have e46 := ((e5.trans ea).trans eD).trans e6
        refine ⟨p3, _, _, rfl, e46, fresh_back (((e.trans e4).trans e5).trans (ea.trans eD)) hp3, zs ++ ws, upd_same, ?_⟩
        rw [List.take_succ, hri, List.flatMap_append]
        have h3 : ((some r).toList.flatMap fun r => (List.range t).map fun i : Nat => r ++ [(i : Int)]) = (List.range t).map fun i : Nat => r ++ [(i : Int)] := by simp
        rw [h3]
        exact (hz2.ex ((ea.trans eD).trans e6)).app (hw2.ex e6)
      · obtain ⟨l, y5, y6, rfl, e5, hl, hLL⟩ := h
        rw [hv2.1, List.take_length] at hLL
        exact s_asg (ev_var rfl) fun H6 e6 => ⟨l, _, _, _, _, rfl, ((e.trans e4).trans e5).trans e6, hl, hLL.ex e6⟩
    · obtain ⟨u, y3, y4, y5, y6, rfl, e, hu, hL⟩ := hP
      rw [Int.toNat_natCast] at hL
      exact s_ret (ev_var rfl) fun H4 e4 => q u H4 hu (e.trans e4) (hL.ex e4)
theorem ok__law_least_price (T : Tx K mg) : FnOk P w K mg base CX0 2 T.a__law_least_price T.d__law_least_price ["_law_folds"] (sp__law_least_price K) := by
  refine T.f__law_least_price.ok (k := 1) sc__law_least_price (fun vs H Q E h => ?_) (fun cdv A outer s H vs Q E hr h => ?_)
  · obtain ⟨a, fs, rfl, _⟩ := h
    rfl
  · obtain ⟨a, fs, rfl, hf, q⟩ := h
    refine ⟨_,       (pss_one (ps_ret (pe_callB (id := "min") (r := rMin K) (cr_min rfl) (by rfl) T.m_min (by decide +kernel) (pa_cons (pe_lc (own := [("_law_width", 1)]) (g := gName 1) (tt := tYes) rfl sc__law_least_price.nd (pi_range1 rfl T.m_range (pa_cons pe_int pa_nil)) (blkOk_by (own := [("_law_width", 1)]) (N := ["_law_folds", "_law_width"]) (sc := defScope s__law_least_price) (by decide +kernel)) (fun _ _ _ _ _ => (pg_name (i := 1) sc__law_least_price.nd rfl (by first | exact Or.inl rfl | exact Or.inr rfl))) (fun _ _ _ _ _ => pts_nil) (fun _ _ _ _ _ => (pe_call (ok__law_price T) hr (by rfl) T.g__law_price T.f__law_price.kp T.b__law_price .nil pass0 (pa_cons (pv 0) (pa_cons (pv 1) pa_nil))))) pa_nil)))), ?_⟩
    refine s_ret (ev_minL (K := K) (ns := (List.range 42).map fun k => cst fs k) ?_ ?_ ?_) q
    · rw [List.map_map]
      exact el_mapR (n := 42) (V.int ∘ fun k => cst fs k) (ea_cons ev_c ea_nil) (by decide) (fun _ => rfl) (fun i H1 e hi => ev_call (ea_cons (ev_var rfl) (ea_cons (ev_var rfl) ea_nil)) (spv fun H2 e2 Q q E => ⟨a, fs, i, rfl, hf.ex (e.trans e2), by omega, q⟩))
    · refine List.mem_map.mpr ⟨firstW fs, List.mem_range.mpr ?_, (lp_first fs).symm⟩
      have : firstW fs ≤ 40 := first_bel (b := 40) hf.good (Nat.le_refl _)
      omega
    · intro y hy
      obtain ⟨k, _, rfl⟩ := List.mem_map.mp hy
      exact lp_le hf.good k
theorem ok__law_gain (T : Tx K mg) : FnOk P w K mg base CX0 3 T.a__law_gain T.d__law_gain ["_law_one", "_law_other"] (sp__law_gain K) := by
  refine T.f__law_gain.ok (k := 2) sc__law_gain (fun vs H Q E h => ?_) (fun cdv A outer s H vs Q E hr h => ?_)
  · obtain ⟨a, b, fs, gs, rfl, _⟩ := h
    rfl
  · obtain ⟨a, b, fs, gs, rfl, ha, hb, h1, h2, q⟩ := h
    refine ⟨_,       (pss_one (ps_ret (pe_op op_sub (pe_op op_sub (pe_call (ok__law_least_price T) hr (by rfl) T.g__law_least_price T.f__law_least_price.kp T.b__law_least_price .nil pass0 (pa_cons (pe_op op_cat (pv 0) (pv 1)) pa_nil)) (pe_call (ok__law_least_price T) hr (by rfl) T.g__law_least_price T.f__law_least_price.kp T.b__law_least_price .nil pass0 (pa_cons (pv 0) pa_nil))) (pe_call (ok__law_least_price T) hr (by rfl) T.g__law_least_price T.f__law_least_price.kp T.b__law_least_price .nil pass0 (pa_cons (pv 1) pa_nil))))), ?_⟩
    refine s_ret (ev_op (ev_op (ev_callN (el_cat (ev_var rfl) (ev_var rfl) ha.at_ hb.at_ (by rw [List.length_map, List.length_map]; omega)) fun u H1 hu e => spv fun H2 e2 Q q E => ⟨u, fs ++ gs, rfl, ⟨by rw [e2 _ _ hu, List.map_append], good_app ha.good hb.good, by rw [List.length_append]; omega⟩, q⟩) (ev_call (ea_cons (ev_var rfl) ea_nil) (spv fun H2 e2 Q q E => ⟨a, fs, rfl, ha.ex e2, q⟩)) rv_I0) (ev_call (ea_cons (ev_var rfl) ea_nil) (spv fun H2 e2 Q q E => ⟨b, gs, rfl, hb.ex e2, q⟩)) rv_I0) q
theorem ok__law_drawn (T : Tx K mg) : FnOk P w K mg base CX0 3 T.a__law_drawn T.d__law_drawn ["_law_generator_here", "_law_many", "_law_bits"] (sp__law_drawn K) := by
  refine T.f__law_drawn.ok (k := 2) sc__law_drawn (fun vs H Q E h => ?_) (fun cdv A outer s H vs Q E hr h => ?_)
  · obtain ⟨g, n, b, C, rfl, _⟩ := h
    rfl
  · obtain ⟨g, n, b, C, rfl, hg, hn, hb, hC, q⟩ := h
    refine ⟨_,       (pss_cons (ps_set (i := 3) sc__law_drawn.nd rfl (by first | exact Or.inl rfl | exact Or.inr rfl) (pe_op op_shlW pe_int (pe_call (ok__law_random T) hr (by rfl) T.g__law_random T.f__law_random.kp T.b__law_random .nil pass0 (pa_cons (pv 0) (pa_cons (pe_op op_add (pv 2) pe_int) pa_nil))))) 
      (pss_one (ps_ret (pe_lc (own := [("_law_turn", 4)]) (g := gName 4) (tt := tYes) rfl sc__law_drawn.nd (pi_range1 rfl T.m_range (pa_cons (pv 1) pa_nil)) (blkOk_by (own := [("_law_turn", 4)]) (N := ["_law_generator_here", "_law_many", "_law_bits", "_law_loud", "_law_turn"]) (sc := defScope s__law_drawn) (by decide +kernel)) (fun _ _ _ _ _ => (pg_name (i := 4) sc__law_drawn.nd rfl (by first | exact Or.inl rfl | exact Or.inr rfl))) (fun _ _ _ _ _ => pts_nil) (fun _ _ _ _ _ => (pe_ix (r := rIxL K) ix_list (pe_lst (pa_cons (pe_op op_sub (pv 3) pe_int) (pa_cons (pe_call (ok__law_random T) hr (by rfl) T.g__law_random T.f__law_random.kp T.b__law_random .nil pass0 (pa_cons (pv 0) (pa_cons (pv 3) pa_nil))) pa_nil))) (pe_call (ok__law_random T) hr (by rfl) T.g__law_random T.f__law_random.kp T.b__law_random .nil pass0 (pa_cons (pv 0) (pa_cons pe_int pa_nil))) (fun _ _ => rfl))))))), ?_⟩
    refine q_in (top_in2 (ev_use ev_c fun H1 e1 => draw_use (n := (b : Int) + 1) (ev_var rfl) (ev_op (ev_var rfl) ev_c rv_I0) (hg.ex e1) (by omega) (by omega) (by omega) fun r H2 r0 r1 hg2 hE2 => ⟨1, r, rfl, rfl, ?_, ?_⟩))
    · obtain ⟨r', rfl⟩ : ∃ r' : Nat, r = (r' : Int) := ⟨r.toNat, by omega⟩
      exact shl1 (by omega)
    have hl : (1 : Int) * 2 ^ r.toNat = 2 ^ r.toNat := Int.one_mul _
    have hp := two_pos r.toNat
    have hle : (2 : Int) ^ r.toNat ≤ 2 ^ b := two_mono (by omega)
    have hb38 : (2 : Int) ^ b ≤ 2 ^ 38 := two_mono hb
    have e38 : (2 : Int) ^ 38 = 274877906944 := by decide
    dsimp only
    rw [hl]
    generalize (2 : Int) ^ r.toNat = loud at hp hle
    have hEA : ExB g H H2 := (ExB.of e1).trans hE2
    refine r_in (ints_use (fun z => 0 ≤ z ∧ z < 2 ^ b) (n := n) (d := 8) (ea_cons (ev_var rfl) ea_nil) (by omega) (fun _ => rfl) hg2 (fun i H' R hi hG hE k => ?_) fun D H' zs hD hlen hz hL hG hE => ?_)
    · refine top_in (tl_lst (ta_consV (ev_op (ev_var rfl) ev_c rv_I0) fun H3 e3 => ta_in (draw_use (n := loud) (ev_var rfl) (ev_var rfl) (hG.ex e3) (by omega) (by omega) (by omega) fun z1 H4 a1 a2 hG4 hE4 => ta_nil ⟨by show 2 ≤ sizeLine; decide, fun p hp => ?_⟩)))
      obtain ⟨og, hog⟩ := hG4.some
      have gp : g ≠ p := fun z => by rw [z, hp] at hog; cases hog
      refine draw_use (n := 2) (ev_var rfl) ev_c (hG4.upd gp) (by omega) (by omega) (by omega) fun z2 H5 b1 b2 hG5 hE5 => ?_
      have hx : H5 p = some (.lst [.int (loud - 1), .int z1]) := hE5 p _ (Ne.symm gp) upd_same
      have hEz : ExB g H' H5 := (((ExB.of e3).trans hE4).trans (ExB.of (Ex.new hp))).trans hE5
      have hGz : Gs H5 g (C + 4 + 8 * i + 8) := hG5.mono (by omega)
      have hz2 : z2 = 0 ∨ z2 = 1 := by omega
      rcases hz2 with rfl | rfl
      · exact ⟨p, _, 0, .int (loud - 1), rfl, rfl, sq_of hx, rfl, k _ H5 ⟨by omega, by omega⟩ hGz hEz⟩
      · exact ⟨p, _, 1, .int z1, rfl, rfl, sq_of hx, rfl, k _ H5 ⟨by omega, by omega⟩ hGz hEz⟩
    · obtain ⟨og, hog⟩ := hg2.some
      exact q D zs H' (hEA.back hog hD) ⟨hL, Bel.good hz (by omega), by omega⟩ hlen hz hG (hEA.trans hE)
end
end K47

set_option Elab.async false
set_option linter.all false
set_option maxRecDepth 100000
set_option maxHeartbeats 4000000
namespace K47
open PySem PySem.Spec PyProof.Rows L2 Evl WS M41 M47
def sp__law_rows_right (K : PySem.W.Frag) : Sp := fun vs H Q _ => ∃ n m b : Nat, vs = [.int (n : Int), .int (m : Int), .int (b : Int), .int (M47.mg n m b)] ∧ n ≤ 500 ∧ m ≤ 500 ∧ b ≤ 38 ∧ RetV (.bl true) H Q
def sp__law_small_right (K : PySem.W.Frag) : Sp := fun vs H Q _ => ∃ n m b : Nat, vs = [.int (n : Int), .int (m : Int), .int (b : Int)] ∧ n ≤ 50 ∧ m ≤ 50 ∧ b ≤ 6 ∧ (2 ^ b) ^ n ≤ 100 ∧ (2 ^ b) ^ m ≤ 100 ∧ RetV (.bl true) H Q
section
variable {K : PySem.W.Frag} {σ : L2.St} {H : Hp} {ta tb te tl : TE} {D : Ends} {tz : TS} {tr : TA} {g : TG}
theorem q_gin (k : te σ H fun x H1 => g x σ H1 fun σ2 H2 => tz D σ2 H2) : tSeq (tAsg te g) tz D σ H := k
theorem q_par3 {i j l : Nat} (k : tr σ H fun vs H1 => ∃ u v w, vs = [u, v, w] ∧ tz D (((σ.set i (some u)).set j (some v)).set l (some w)) H1) : tSeq (tPar3 i j l tr) tz D σ H := k
theorem ev_reprL {xs : List V} (h : EvL te σ H xs) (hs : xs.all isSc = true) (sh : (PyData.list (xs.map sD)).showable = true) (nd : (PyData.list (xs.map sD)).hasDict = false) (dp : (PyData.list (xs.map sD)).depth ≤ 50) (sz : (PyData.list (xs.map sD)).shown.length ≤ sizeLine) :
    Ev (tCB (rRepr K) (tCons te tNil)) σ H (.str (PyData.list (xs.map sD)).shown) := fun H1 e Q q =>
  h H1 e _ fun p H2 _ e2 h2 => ⟨p, _, rfl, .lst (sq_of h2) (dpAll_sc hs), sh, nd, dp, sz, q H2 e2⟩
theorem ev_reprV {a : Addr} {xs : List V} (h : Ev te σ H (.ref a)) (ha : H a = some (.lst xs)) (hs : xs.all isSc = true) (sh : (PyData.list (xs.map sD)).showable = true) (nd : (PyData.list (xs.map sD)).hasDict = false) (dp : (PyData.list (xs.map sD)).depth ≤ 50) (sz : (PyData.list (xs.map sD)).shown.length ≤ sizeLine) :
    Ev (tCB (rRepr K) (tCons te tNil)) σ H (.str (PyData.list (xs.map sD)).shown) := fun H1 e Q q =>
  h H1 e _ fun H2 e2 => ⟨a, _, rfl, .lst (sq_of (e2 _ _ (e _ _ ha))) (dpAll_sc hs), sh, nd, dp, sz, q H2 e2⟩
theorem ev_maxV {a : Addr} {ns : List Int} {m : Int} (h : Ev te σ H (.ref a)) (ha : H a = some (.lst (ns.map V.int))) (hm : m ∈ ns) (hle : ∀ y ∈ ns, y ≤ m) : Ev (tCB (rMax K) (tCons te tNil)) σ H (.int m) := fun H1 e Q q =>
  h H1 e _ fun H2 e2 => ⟨a, ns, rfl, sq_of (e2 _ _ (e _ _ ha)), by cases ns with | nil => cases hm | cons a r => simp, fun k hk hkl => by
    rw [show k = m from Int.le_antisymm (hle k hk) (hkl m hm)]
    exact q H2 e2⟩
theorem q_ext {l : Addr} {xs ys : List V} (hl : H l = some (.lst xs)) (ha : Ev ta σ H (.ref l)) (h : EvL te σ H ys) (hz : xs.length + ys.length ≤ 100000) (k : ∀ H1, Ex H H1 → D.nx σ (upd H1 l (.lst (xs ++ ys)))) : tDrop (tBM K "list" rExtend ta (tCons te tNil)) D σ H :=
  ha H (Ex.refl H) _ fun H1 e1 => ⟨Or.inl ⟨rfl, _, sq_of (e1 _ _ hl)⟩, h H1 e1 _ fun p H2 hp e2 h2 => ⟨l, p, xs, ys, rfl, rfl, e2 _ _ (e1 _ _ hl), h2, sz_of hz, k H2 (e1.trans e2)⟩⟩
end
theorem bel_bound {b : Nat} {x : Int} (h0 : 0 ≤ x) (h1 : x < 2 ^ b) : (!((decide (0 ≤ x)) && (decide (x < 2 ^ b)))) = false := by
  rw [decide_eq_true h0, decide_eq_true h1]
  rfl
theorem given_none {n : Nat} {v : Nat → V} : given n (fun _ => false) v = [] := by
  unfold given
  rw [List.filter_eq_nil_iff.mpr (fun _ _ => by simp)]
  rfl
theorem told3 (b : Bool) : (PyData.list ([V.bl true, V.bl true, V.bl b].map sD)).showable = true ∧ (PyData.list ([V.bl true, V.bl true, V.bl b].map sD)).hasDict = false ∧ (PyData.list ([V.bl true, V.bl true, V.bl b].map sD)).depth ≤ 50 ∧ (PyData.list ([V.bl true, V.bl true, V.bl b].map sD)).shown.length ≤ 100 := by
  cases b <;> exact ⟨by decide +kernel, by decide +kernel, by decide +kernel, by decide +kernel⟩
section
variable {P : Program} {w : World} {K : PySem.W.Frag} {mg : Str → Option Value} {base : Heap}
theorem ok__law_rows_right (T : Tx K mg) : FnQ P w K mg base 6 T.a__law_rows_right T.d__law_rows_right ["_law_one", "_law_other", "_law_bits", "_law_most"] (sp__law_rows_right K) := by
  refine okQ T.f__law_rows_right (k := 5) sc__law_rows_right (fun vs H Q E h => ?_) (fun cdv A outer s H vs Q E hq hr h => ?_)
  · obtain ⟨n, m, b, rfl, _⟩ := h
    rfl
  · obtain ⟨n, m, b, rfl, hn, hm, hb, q⟩ := h
    refine ⟨_,       (pss_cons (ps_asg (pe_call (ok_gain_rows T) hr (by rfl) T.g_gain_rows T.f_gain_rows.kp T.b_gain_rows .nil pass0 (pa_cons (pv 0) (pa_cons (pv 1) (pa_cons (pv 2) pa_nil)))) (pg_tup rfl (pgs_cons (pg_name (i := 4) sc__law_rows_right.nd rfl (by first | exact Or.inl rfl | exact Or.inr rfl)) (pgs_cons (pg_name (i := 5) sc__law_rows_right.nd rfl (by first | exact Or.inl rfl | exact Or.inr rfl)) pgs_nil)))) 
      (pss_cons (ps_if (PW.pt (pw_or (pt_cmpR (op_neD hr.units) (pe_lst (pa_cons (pe_callB (id := "len") (r := rLenS K) call_len_seq (by rfl) T.m_len PySem.boot_len (pa_cons (pv 4) pa_nil)) (pa_cons (pe_callB (id := "len") (r := rLenS K) call_len_seq (by rfl) T.m_len PySem.boot_len (pa_cons (pv 5) pa_nil)) pa_nil))) (pe_lst (pa_cons (pv 0) (pa_cons (pv 1) pa_nil))) (nomark _)) (pw_or1 (pt_cmpR (op_neD hr.units) (pe_lc (own := [("_law_fold", 7)]) (g := gName 7) rfl sc__law_rows_right.nd (pi_list (pe_op op_cat (pv 4) (pv 5))) (blkOk_by (own := [("_law_fold", 7)]) (N := ["_law_one", "_law_other", "_law_bits", "_law_most", "_law_mine", "_law_yours", "_law_told", "_law_fold", "_law_cost"]) (sc := defScope s__law_rows_right) (by decide +kernel)) (fun _ _ _ _ _ => (pg_name (i := 7) sc__law_rows_right.nd rfl (by first | exact Or.inl rfl | exact Or.inr rfl))) (fun _ _ _ _ _ => (pts_one (pt_not (pt_chain op_le op_lt pe_int (pv 7) (pe_op op_shlW pe_int (pv 2)))))) (fun _ _ _ _ _ => (pv 7))) (pe_lst pa_nil) (nomark _))))) 
        (pss_one (ps_ret pe_bl)) pss_nil) 
      (pss_cons (ps_if (PW.pt (pw_or (pt_cmpR op_ne (pe_call (ok__law_gain T) (hr.mono (by decide)) (by rfl) T.g__law_gain T.f__law_gain.kp T.b__law_gain .nil pass0 (pa_cons (pv 4) (pa_cons (pv 5) pa_nil))) (pv 3) (nomark _)) (pw_or1 (pt_cmpR op_ne (pe_call (ok_greatest_gain T) hr (by rfl) T.g_greatest_gain T.f_greatest_gain.kp T.b_greatest_gain .nil pass0 (pa_cons (pv 1) (pa_cons (pv 0) (pa_cons (pv 2) pa_nil)))) (pv 3) (nomark _))))) 
        (pss_one (ps_ret pe_bl)) pss_nil) 
      (pss_cons (ps_setLc (i := 6) (own := [("_law_cost", 8)]) (g := gName 8) (tt := tYes) rfl sc__law_rows_right.nd rfl rfl (sw_true rfl rfl rfl (by decide +kernel)) (pi_list (pe_lst (pa_cons (pv 3) (pa_cons (pe_op op_add (pv 3) pe_int) (pa_cons (pe_callB (id := "max") (call_max2 rfl) (by rfl) T.m_max (by decide +kernel) (pa_cons pe_int (pa_cons (pe_op op_sub (pv 3) pe_int) pa_nil))) pa_nil))))) (blkOk_by (own := [("_law_cost", 8)]) (N := ["_law_one", "_law_other", "_law_bits", "_law_most", "_law_mine", "_law_yours", "_law_told", "_law_fold", "_law_cost"]) (sc := defScope s__law_rows_right) (by decide +kernel)) (fun _ _ _ _ _ => (pg_name (i := 8) sc__law_rows_right.nd rfl (by first | exact Or.inl rfl | exact Or.inr rfl))) (fun _ _ _ _ _ => pts_nil) (fun _ _ _ _ _ => (pe_call (ok_never_pays T) hr (by rfl) T.g_never_pays T.f_never_pays.kp T.b_never_pays .nil pass0 (pa_cons (pv 0) (pa_cons (pv 1) (pa_cons (pv 2) (pa_cons (pv 8) pa_nil))))))) 
      (pss_one (ps_ret (pe_cmpR op_eq (pe_callB (id := "repr") (r := rRepr K) (cr_repr hq hr.units) (by rfl) T.m_repr (by decide +kernel) (pa_cons (pv 6) pa_nil)) (pe_callB (id := "repr") (r := rRepr K) (cr_repr hq hr.units) (by rfl) T.m_repr (by decide +kernel) (pa_cons (pe_lst (pa_cons pe_bl (pa_cons pe_bl (pa_cons (pe_cmpR op_eq (pv 3) pe_int (nomark _)) pa_nil)))) pa_nil)) (nomark _)))))))), ?_⟩
    have mg0 := mg_nonneg n m (b := b) (by omega)
    refine q_gin (tcall_in (ta_consV (ev_var rfl) fun H1 e1 => ta_consV (ev_var rfl) fun H2 e2 => ta_consV (ev_var rfl) fun H3 e3 => ta_nil ⟨n, m, b, rfl, by omega, by omega, by omega, fun p t1 t2 H4 hp e4 k4 kA kB => ⟨p, _, rfl, st_of k4, rfl, _, _, rfl, _, _, rfl, rfl, ?_⟩⟩))
    have e14 := ((e1.trans e2).trans e3).trans e4
    have lA := rA_len n m b
    have lB := rB_len n m b
    have FA : Fo H4 t1 (rA n m b) := ⟨kA, (rA_bel n m b).good (by omega), by omega⟩
    have FB : Fo H4 t2 (rB n m b) := ⟨kB, (rB_bel n m b).good (by omega), by omega⟩
    have hrow := (rA_bel n m b).app (rB_bel n m b)
    refine q_when (b := false) (et_is (et_or (b := false) (et_test (ev_opLL (xs := [V.int (n : Int), V.int (m : Int)]) (ys := [V.int (n : Int), V.int (m : Int)]) ?_ (el_lst (ea_cons (ev_var rfl) (ea_cons (ev_var rfl) ea_nil)) (by show 2 ≤ 100000; decide)) fun p q H5 hp hq e => rv_neI (K := K) (ns := [(n : Int), (m : Int)]) (ms := [(n : Int), (m : Int)]) (sq_of hp) (sq_of hq))) fun _ => et_is (et_test (ev_opLL (xs := []) (ys := []) ?_ (el_lst ea_nil (by decide)) fun p q H5 hp hq e => rv_neI (K := K) (ns := []) (ms := []) (sq_of hp) (sq_of hq))) ?_) ?_) (fun z => by cases z) fun _ H5 e5 => ?_
    · refine el_lst (ea_cons (ev_is (ev_len (K := K) (ev_var rfl) FA.sq) ?_) (ea_cons (ev_is (ev_len (K := K) (ev_var rfl) FB.sq) ?_) ea_nil)) (by show 2 ≤ 100000; decide)
      · rw [List.length_map, lA]
      · rw [List.length_map, lB]
    · have k := el_lcNL (K := K) (xs := (rA n m b).map V.int ++ (rB n m b).map V.int) (tl := tOp rCat (tVar 4) (tVar 5)) (t := tNot (tTest (tChain (rI0 fun i j => .bl (decide (i ≤ j))) (rI0 fun i j => .bl (decide (i < j))) (tC (.int 0)) (tVar 7) (tOp (rI CShl fun i j => .int (i * 2 ^ j.toNat)) (tC (.int 1)) (tVar 2))))) (te := tVar 7) (j := 7) (vs := [7]) (σ := [some (V.int (n : Int)), some (V.int (m : Int)), some (V.int (b : Int)), some (V.int (M47.mg n m b)), some (V.ref t1), some (V.ref t2), none, none, none]) (H := H4) (fun _ => false) (fun _ => V.non) (el_cat (ev_var rfl) (ev_var rfl) kA kB (by rw [List.length_map, List.length_map]; omega)) (by rw [List.length_append, List.length_map, List.length_map]; omega) (fun _ => rfl) (fun i x H6 e6 hx => ?_) (fun i x H6 e6 hx hf => by cases hf)
      · rw [given_none] at k
        exact k
      · rw [← List.map_append] at hx
        rw [List.getElem?_map] at hx
        cases hq : (rA n m b ++ rB n m b)[i]? with
        | none => rw [hq] at hx; cases hx
        | some u =>
          rw [hq] at hx
          obtain rfl := Option.some.inj hx
          have hu := hrow u (List.mem_of_getElem? hq)
          have eb := bel_bound hu.1 hu.2
          refine et_is (et_not (et_test (ev_chain ev_c (ev_var rfl) rv_I0 (ev_op ev_c (ev_var rfl) (rv_I (shl1 (by omega)))) rv_I0))) ?_
          rw [one_p]
          exact eb
    · rfl
    · simp
    have FA5 := FA.ex e5
    have FB5 := FB.ex e5
    refine q_when (b := false) (et_is (et_or (b := false) (et_test (ev_op (ev_call (ea_cons (ev_var rfl) (ea_cons (ev_var rfl) ea_nil)) (spv fun H6 e6 Q q E => ⟨t1, t2, _, _, rfl, FA5.ex e6, FB5.ex e6, by omega, by omega, q⟩)) (ev_var rfl) (rv_ne rfl))) fun _ => et_is (et_test (ev_op (ev_call (ea_cons (ev_var rfl) (ea_cons (ev_var rfl) (ea_cons (ev_var rfl) ea_nil))) (spv fun H6 e6 Q q E => ⟨m, n, b, rfl, by omega, by omega, by omega, q⟩)) (ev_var rfl) (rv_ne rfl))) ?_) ?_) (fun z => by cases z) fun _ H6 e6 => ?_
    · rw [mg_swap]
      simp
    · rw [r_gain (by omega)]
      simp
    have hd : ∀ i x, [V.int (M47.mg n m b), V.int (M47.mg n m b + 1), V.int (if M47.mg n m b - 1 > 0 then M47.mg n m b - 1 else 0)][i]? = some x → ∃ c : Int, x = V.int c ∧ 0 ≤ c ∧ (i = 0 → decide (M47.mg n m b ≤ c) = true) ∧ (i = 1 → decide (M47.mg n m b ≤ c) = true) ∧ (i = 2 → decide (M47.mg n m b ≤ c) = decide (M47.mg n m b = 0)) := by
      intro i x hx
      match i, hx with
      | 0, hx => exact ⟨_, (Option.some.inj hx).symm, mg0, fun _ => decide_eq_true (Int.le_refl _), fun h => absurd h (by decide), fun h => absurd h (by decide)⟩
      | 1, hx => exact ⟨_, (Option.some.inj hx).symm, by omega, fun h => absurd h (by decide), fun _ => decide_eq_true (by omega), fun h => absurd h (by decide)⟩
      | 2, hx =>
        refine ⟨_, (Option.some.inj hx).symm, by split <;> omega, fun h => absurd h (by decide), fun h => absurd h (by decide), fun _ => decide_eq_decide.mpr ?_⟩
        constructor
        · intro h
          split at h <;> omega
        · intro h
          split <;> omega
    have eg : given 3 (fun _ => true) (fun i => [V.bl true, V.bl true, V.bl (decide (M47.mg n m b = 0))].getD i V.non) = [V.bl true, V.bl true, V.bl (decide (M47.mg n m b = 0))] := by
      rw [given_all]
      rfl
    have T3 := told3 (decide (M47.mg n m b = 0))
    refine q_asgL (xs := [V.bl true, V.bl true, V.bl (decide (M47.mg n m b = 0))]) ?_ fun D H7 hD e7 h7 => ?_
    · rw [← eg]
      refine el_lcNL (K := K) (xs := [V.int (M47.mg n m b), V.int (M47.mg n m b + 1), V.int (if M47.mg n m b - 1 > 0 then M47.mg n m b - 1 else 0)]) (fun _ => true) _ (el_lst (ea_cons (ev_var rfl) (ea_cons (ev_op (ev_var rfl) ev_c rv_I0) (ea_cons (ev_max2 ev_c (ev_op (ev_var rfl) ev_c rv_I0)) ea_nil))) (by show 3 ≤ 100000; decide)) (by show 3 ≤ 40000; decide) (fun _ => rfl) (fun i x H8 e8 hx => et_yes) (fun i x H8 e8 hx _ => ?_)
      obtain ⟨c, rfl, c0, c1, c2, c3⟩ := hd i x hx
      have hi : i < 3 := (List.getElem?_eq_some_iff.mp hx).1
      refine ev_is (ev_call (ea_cons (ev_var rfl) (ea_cons (ev_var rfl) (ea_cons (ev_var rfl) (ea_cons (ev_var rfl) ea_nil)))) (spv fun H9 e9 Q q E => ⟨n, m, b, c, rfl, by omega, by omega, by omega, c0, q⟩)) ?_
      match i, hi, c1, c2, c3 with
      | 0, _, c1, _, _ => rw [c1 rfl]; rfl
      | 1, _, _, c2, _ => rw [c2 rfl]; rfl
      | 2, _, _, _, c3 => rw [c3 rfl]; rfl
    refine s_ret (ev_is (ev_op (ev_reprV (K := K) (ev_var rfl) h7 rfl T3.1 T3.2.1 T3.2.2.1 (sz_of (by have := T3.2.2.2; omega))) (ev_reprL (K := K) (xs := [V.bl true, V.bl true, V.bl (decide (M47.mg n m b = 0))]) (el_lst (ea_cons ev_c (ea_cons ev_c (ea_cons (ev_is (ev_op (ev_var rfl) ev_c (rv_eq rfl)) ?_) ea_nil))) (by show 3 ≤ 100000; decide)) rfl T3.1 T3.2.1 T3.2.2.1 (sz_of (by have := T3.2.2.2; omega))) (rv_eq rfl)) ?_) fun H8 e8 => q H8 ((((e14.trans e5).trans e6).trans e7).trans e8)
    · congr 1
      exact decide_eq_decide.mpr ⟨fun h => V.int.inj h, fun h => by rw [h]⟩
    · simp
end
end K47

set_option Elab.async false
set_option linter.all false
set_option maxRecDepth 100000
set_option maxHeartbeats 4000000
namespace K47
open PySem PySem.Spec PyProof.Rows L2 Evl WS M41 M47
theorem flat_len {n : Nat} (R : List (List Int)) (f : List Int → List Int → Int) : ∀ L : List (List Int), R.length ≤ n → (L.flatMap fun A => R.map (f A)).length ≤ L.length * n
  | [], _ => by simp
  | A :: r, h => by
    have ih := flat_len R f r h
    rw [List.flatMap_cons, List.length_append, List.length_map, List.length_cons, Nat.add_mul]
    omega
theorem sum_filter : ∀ l : List (List Int), ((l.filter fun r => !decide (r = [])).map lp).sum = (l.map lp).sum
  | [] => rfl
  | r :: t => by
    have ih := sum_filter t
    by_cases c : r = []
    · rw [List.filter_cons_of_neg (by simp [c]), ih, List.map_cons, List.sum_cons, c]
      show _ = lp [] + _
      rw [show lp [] = 0 from rfl, Int.zero_add]
    · rw [List.filter_cons_of_pos (by simp [c]), List.map_cons, List.sum_cons, ih, List.map_cons, List.sum_cons]
theorem First.uniq {f : Nat → Int} {n k k' : Nat} {m m' : Int} (a : First f n k m) (b : First f n k' m') : k = k' ∧ m = m' := by
  have e : m = m' := by
    have h1 := a.le k' b.at_
    have h2 := b.le k a.at_
    rw [b.eq] at h1
    rw [a.eq] at h2
    omega
  refine ⟨?_, e⟩
  rcases Nat.lt_trichotomy k k' with c | c | c
  · have := b.no k c
    rw [a.eq] at this
    omega
  · exact c
  · have := a.no k' c
    rw [b.eq] at this
    omega
theorem slice_in {n p i : Nat} (hi : i < 2 ^ p) : i * (n / 2 ^ p) + n / 2 ^ p ≤ n := by
  have := prt_in (n := n) hi
  rw [Nat.add_mul, Nat.one_mul] at this
  exact this
theorem prt_eq2 {fs : List Int} {p i : Nat} : prt fs (fs.length / 2 ^ p) i = (fs.drop (i * (fs.length / 2 ^ p))).take (i * (fs.length / 2 ^ p) + fs.length / 2 ^ p - i * (fs.length / 2 ^ p)) := by
  unfold prt
  rw [Nat.add_sub_cancel_left]
def sp__law_halves_right (K : PySem.W.Frag) : Sp := fun vs H Q _ => ∃ a fs, ∃ most : Nat, vs = [.ref a, .int (most : Int)] ∧ Fo H a fs ∧ most ≤ 12 ∧ RetV (.bl true) H Q
section
variable {K : PySem.W.Frag} {σ : L2.St} {H : Hp} {ta tb te tl : TE} {D : Ends} {tz : TS} {tr : TA} {g : TG}
/-- sorted(ns)[::-1], ns falling -/
theorem el_revSorted {a : Addr} {ns : List Int} (h : Ev te σ H (.ref a)) (ha : H a = some (.lst (ns.map V.int))) (hl : ns.length < 64) (hd : ns.Pairwise fun x y => y ≤ x) : EvL (tRevL K (tCB (rSorted K) (tCons te tNil))) σ H (ns.map V.int) := fun H1 e Q q =>
  h H1 e _ fun H2 e2 => ⟨a, ns, rfl, sq_of (e2 _ _ (e _ _ ha)), hl, fun ns' p perm asc hp => ⟨p, ns'.map V.int, rfl, sq_of upd_same, fun r hr => q r _ (fresh_back (e2.trans (Ex.new hp)) hr) ((e2.trans (Ex.new hp)).trans (Ex.new hr)) (by rw [upd_same, ← List.map_reverse, sort_rev perm asc hd])⟩⟩
end
section
variable {P : Program} {w : World} {K : PySem.W.Frag} {mg : Str → Option Value} {base : Heap}
theorem ok__law_small_right (T : Tx K mg) : FnQ P w K mg base 7 T.a__law_small_right T.d__law_small_right ["_law_one", "_law_other", "_law_bits"] (sp__law_small_right K) := by
  refine okQ T.f__law_small_right (k := 6) sc__law_small_right (fun vs H Q E h => ?_) (fun cdv A outer s H vs Q E hq hr h => ?_)
  · obtain ⟨n, m, b, rfl, _⟩ := h
    rfl
  · obtain ⟨n, m, b, rfl, hn, hm, hb, hpn, hpm, q⟩ := h
    refine ⟨_,       (pss_cons (ps_par3 (i := 3) (j := 4) (l := 5) (by rfl) sc__law_small_right.nd rfl rfl rfl (by decide) (by decide) (by decide) rfl rfl rfl (pa_cons (pe_call (ok__law_below T) (hr.mono (by decide)) (by rfl) T.g__law_below T.f__law_below.kp T.b__law_below .nil pass0 (pa_cons (pv 0) (pa_cons (pe_op op_shlW pe_int (pv 2)) pa_nil))) (pa_cons (pe_call (ok__law_below T) (hr.mono (by decide)) (by rfl) T.g__law_below T.f__law_below.kp T.b__law_below .nil pass0 (pa_cons (pv 1) (pa_cons (pe_op op_shlW pe_int (pv 2)) pa_nil))) (pa_cons (pe_lst (pa_cons pe_int pa_nil)) pa_nil))) (by rfl)) 
      (pss_cons (ps_for PassesOwn.never rfl (pi_list (pv 3)) (pg_name (i := 6) sc__law_small_right.nd rfl (by first | exact Or.inl rfl | exact Or.inr rfl)) 
        (pss_one (ps_expr (pe_bm PySem.F.plainAttrs_list PySem.F.slot_list_extend PySem.F.type_list_extend mt_extend (pv 5) (pa_cons (pe_lc (own := [("_law_yours", 8)]) (g := gName 8) (tt := tYes) rfl sc__law_small_right.nd (pi_list (pv 4)) (blkOk_by (own := [("_law_yours", 8)]) (N := ["_law_one", "_law_other", "_law_bits", "_law_left", "_law_right", "_law_gains", "_law_mine", "_law_most", "_law_yours"]) (sc := defScope s__law_small_right) (by decide +kernel)) (fun _ _ _ _ _ => (pg_name (i := 8) sc__law_small_right.nd rfl (by first | exact Or.inl rfl | exact Or.inr rfl))) (fun _ _ _ _ _ => pts_nil) (fun _ _ _ _ _ => (pe_call (ok__law_gain T) (hr.mono (by decide)) (by rfl) T.g__law_gain T.f__law_gain.kp T.b__law_gain .nil pass0 (pa_cons (pv 6) (pa_cons (pv 8) pa_nil))))) pa_nil))))) 
      (pss_cons (ps_set (i := 7) sc__law_small_right.nd rfl (by first | exact Or.inl rfl | exact Or.inr rfl) (pe_call (ok_greatest_gain T) (hr.mono (by decide)) (by rfl) T.g_greatest_gain T.f_greatest_gain.kp T.b_greatest_gain .nil pass0 (pa_cons (pv 0) (pa_cons (pv 1) (pa_cons (pv 2) pa_nil))))) 
      (pss_one (ps_ret (pe_and (pe_cmpR op_eq (pv 7) (pe_callB (id := "max") (r := rMax K) (cr_max rfl) (by rfl) T.m_max (by decide +kernel) (pa_cons (pv 5) pa_nil)) (nomark _)) (pe_one (pe_callQ (ok__law_rows_right T) hq hr (by rfl) T.g__law_rows_right T.f__law_rows_right.kp T.b__law_rows_right (pa_cons (pv 0) (pa_cons (pv 1) (pa_cons (pv 2) (pa_cons (pv 7) pa_nil)))))))))))), ?_⟩
    have t1 : 1 ≤ 2 ^ b := Nat.one_le_two_pow
    have t6 : 2 ^ b ≤ 64 := Nat.pow_le_pow_right (n := 2) (by decide) hb
    have e1p : V.int (1 * 2 ^ (b : Int).toNat) = V.int ((2 ^ b : Nat) : Int) := by rw [one_p, Int.natCast_pow]; rfl
    have lenL := below_len n (2 ^ b)
    have lenR := below_len m (2 ^ b)
    refine q_par3 (ta_in (tcall_in (ta_consV (ev_var rfl) fun H1 e1 => ta_consV (ev_is (ev_op ev_c (ev_var rfl) (rv_I (shl1 (by omega)))) e1p) fun H2 e2 => ta_nil ⟨n, 2 ^ b, rfl, t1, by omega, by omega, by omega, fun pl H3 hpl e3 LL1 => ?_⟩)))
    refine ta_in (tcall_in (ta_consV (ev_var rfl) fun H4 e4 => ta_consV (ev_is (ev_op ev_c (ev_var rfl) (rv_I (shl1 (by omega)))) e1p) fun H5 e5 => ta_nil ⟨m, 2 ^ b, rfl, t1, by omega, by omega, by omega, fun pr H6 hpr e6 LL2 => ?_⟩))
    refine ta_consL (xs := [V.int 0]) (el_lst (ea_cons ev_c ea_nil) (by show 1 ≤ 100000; decide)) fun pg H7 hpg e7 k7 => ta_nil ⟨_, _, _, rfl, ?_⟩
    have e36 := (e4.trans e5).trans e6
    have LL1 := LL1.ex e36
    have e06 := ((e1.trans e2).trans e3).trans e36
    obtain ⟨vs, hv1, hv2⟩ := LL1
    refine q_forLn (K := K) (xs := vs) (ev_var rfl) (sq_of (e7 _ _ hv1)) (fun i σ' H' => ∃ y6, σ' = [some (.int (n : Int)), some (.int (m : Int)), some (.int (b : Int)), some (.ref pl), some (.ref pr), some (.ref pg), y6, none, none] ∧ Ex H6 H' ∧ H' pg = some (.lst ((0 :: ((below n (2 ^ b)).take i).flatMap fun A => (below m (2 ^ b)).map (gn A)).map V.int)))
      (fun H8 e8 => ⟨none, rfl, e7.trans e8, e8 _ _ k7⟩) (fun i σ' H' _ h => by obtain ⟨_, _, e, _⟩ := h; exact sq_of (e _ _ hv1)) (fun i x σ' H' hx h => ?_) (fun σ' H' h => ?_)
    · obtain ⟨y6, rfl, e, hG⟩ := h
      obtain ⟨a, A, rfl, hA, haA⟩ := hv2.get hx
      obtain ⟨lA, bA⟩ := below_row n (2 ^ b) A (List.mem_of_getElem? hA)
      have FA : Fo H' a A := ⟨e _ _ haA, Bel.good (b := b) (fun u hu => by have := bA u hu; rw [Int.natCast_pow] at this; exact this) (by omega), by omega⟩
      refine q_ext (ys := ((below m (2 ^ b)).map fun B => V.int (gn A B))) hG (ev_var rfl) (el_mapLL (K := K) (fun B => V.int (gn A B)) (ev_var rfl) (LL2.ex e) (by rw [lenR]; omega) (fun _ => rfl) fun u B H8 e8 hB hu => ev_call (ea_cons (ev_var rfl) (ea_cons (ev_var rfl) ea_nil)) (spv fun H9 e9 Q q E => ?_)) ?_ fun H8 e8 => ?_
      · obtain ⟨lB, bB⟩ := below_row m (2 ^ b) B hB
        exact ⟨a, u, A, B, rfl, (FA.ex e8).ex e9, Fo.ex ⟨hu, Bel.good (b := b) (fun u hu => by have := bB u hu; rw [Int.natCast_pow] at this; exact this) (by omega), by omega⟩ e9, by omega, by omega, q⟩
      · rw [List.length_map, List.length_cons, List.length_map, lenR]
        have h1 := flat_len (n := 100) (below m (2 ^ b)) gn ((below n (2 ^ b)).take i) (by rw [lenR]; exact hpm)
        have h2 : ((below n (2 ^ b)).take i).length ≤ 100 := by rw [List.length_take, lenL]; omega
        have h3 : ((below n (2 ^ b)).take i).length * 100 ≤ 100 * 100 := Nat.mul_le_mul_right 100 h2
        omega
      · refine ⟨_, rfl, Ex.mut (e.trans e8) hpg, ?_⟩
        rw [upd_same, List.take_succ, hA, List.flatMap_append]
        have e3 : ((some A).toList.flatMap fun A => (below m (2 ^ b)).map (gn A)) = (below m (2 ^ b)).map (gn A) := by simp
        rw [e3, List.map_cons, List.map_cons, List.map_append, List.map_map]
        rfl
    · obtain ⟨y6, rfl, e, hG⟩ := h
      rw [hv2.1, List.take_length] at hG
      have hmem : M47.mg n m b ∈ 0 :: (below n (2 ^ b)).flatMap fun A => (below m (2 ^ b)).map (gn A) := by
        refine List.mem_cons_of_mem _ (List.mem_flatMap.mpr ⟨rA n m b, ?_, List.mem_map.mpr ⟨rB n m b, ?_, r_gain (by omega)⟩⟩)
        · have := below_all (rA n m b) (2 ^ b) fun x hx => by rw [Int.natCast_pow]; exact rA_bel n m b x hx
          rw [rA_len] at this
          exact this
        · have := below_all (rB n m b) (2 ^ b) fun x hx => by rw [Int.natCast_pow]; exact rB_bel n m b x hx
          rw [rB_len] at this
          exact this
      have hle : ∀ y ∈ 0 :: (below n (2 ^ b)).flatMap fun A => (below m (2 ^ b)).map (gn A), y ≤ M47.mg n m b := by
        intro y hy
        rcases List.mem_cons.mp hy with rfl | hy
        · exact mg_nonneg n m (by omega)
        · obtain ⟨A, hA, hy⟩ := List.mem_flatMap.mp hy
          obtain ⟨B, hB, rfl⟩ := List.mem_map.mp hy
          obtain ⟨lA, bA⟩ := below_row n (2 ^ b) A hA
          obtain ⟨lB, bB⟩ := below_row m (2 ^ b) B hB
          have := gain_le (b := b) (A := A) (B := B) (fun u hu => by have := bA u hu; rw [Int.natCast_pow] at this; exact this) (fun u hu => by have := bB u hu; rw [Int.natCast_pow] at this; exact this) (by omega)
          rw [lA, lB] at this
          exact this
      refine q_asg (ev_call (ea_cons (ev_var rfl) (ea_cons (ev_var rfl) (ea_cons (ev_var rfl) ea_nil))) (spv fun H8 e8 Q q E => ⟨n, m, b, rfl, by omega, by omega, by omega, q⟩)) fun H8 e8 => ?_
      refine s_ret (ev_is (ev_andV (b := true) (ev_op (ev_var rfl) (ev_maxV (K := K) (ev_var rfl) (e8 _ _ hG) hmem hle) (rv_eq rfl)) fun _ => ev_call (ea_cons (ev_var rfl) (ea_cons (ev_var rfl) (ea_cons (ev_var rfl) (ea_cons (ev_var rfl) ea_nil)))) (spv fun H9 e9 Q q E => ⟨n, m, b, rfl, by omega, by omega, by omega, q⟩)) (by simp)) fun H9 e9 => q H9 (((e06.trans e).trans e8).trans e9)
theorem ok__law_halves_right (T : Tx K mg) : FnOk P w K mg base CX0 6 T.a__law_halves_right T.d__law_halves_right ["_law_folds", "_law_most"] (sp__law_halves_right K) := by
  refine T.f__law_halves_right.ok (k := 5) sc__law_halves_right (fun vs H Q E h => ?_) (fun cdv A outer s H vs Q E hr h => ?_)
  · obtain ⟨a, fs, most, rfl, _⟩ := h
    rfl
  · obtain ⟨a, fs, most, rfl, hf, hm, q⟩ := h
    refine ⟨_,       (pss_cons (ps_set (i := 2) sc__law_halves_right.nd rfl (by first | exact Or.inl rfl | exact Or.inr rfl) (pe_lst pa_nil)) 
      (pss_cons (ps_for PassesOwn.never rfl (pi_range1 rfl T.m_range (pa_cons (pe_op op_add (pv 1) pe_int) pa_nil)) (pg_name (i := 3) sc__law_halves_right.nd rfl (by first | exact Or.inl rfl | exact Or.inr rfl)) 
        (pss_one (ps_if (PW.pt (pw_and (pt_cmpR op_eq (pe_op op_modN (pe_callB (id := "len") (r := rLenS K) call_len_seq (by rfl) T.m_len PySem.boot_len (pa_cons (pv 0) pa_nil)) (pe_op op_shlW pe_int (pv 3))) pe_int (nomark _)) (pw_and1 (pt_cmpR op_eq (pe_callB (id := "len") (r := rLenS K) call_len_seq (by rfl) T.m_len PySem.boot_len (pa_cons (pv 2) pa_nil)) (pv 3) (nomark _))))) 
          (pss_cons (ps_set (i := 4) sc__law_halves_right.nd rfl (by first | exact Or.inl rfl | exact Or.inr rfl) (pe_op op_fdivW (pe_callB (id := "len") (r := rLenS K) call_len_seq (by rfl) T.m_len PySem.boot_len (pa_cons (pv 0) pa_nil)) (pe_op op_shlW pe_int (pv 3)))) 
          (pss_cons (ps_setLc (i := 5) (own := [("_law_at", 8)]) (g := gName 8) (tt := tYes) rfl sc__law_halves_right.nd rfl rfl (sw_true rfl rfl rfl (by decide +kernel)) (pi_range1 rfl T.m_range (pa_cons (pe_op op_shlW pe_int (pv 3)) pa_nil)) (blkOk_by (own := [("_law_at", 8)]) (N := ["_law_folds", "_law_most", "_law_due", "_law_power", "_law_size", "_law_parts", "_law_cost", "_law_totals", "_law_at", "_law_part", "_law_total"]) (sc := defScope s__law_halves_right) (by decide +kernel)) (fun _ _ _ _ _ => (pg_name (i := 8) sc__law_halves_right.nd rfl (by first | exact Or.inl rfl | exact Or.inr rfl))) (fun _ _ _ _ _ => pts_nil) (fun _ _ _ _ _ => (pe_slice (r := rSlL K) sl_list (pv 0) (po_some (pe_op op_mul (pv 8) (pv 4))) (po_some (pe_op op_add (pe_op op_mul (pv 8) (pv 4)) (pv 4)))))) 
          (pss_one (ps_expr (pe_bm PySem.F.plainAttrs_list PySem.F.slot_list_append PySem.F.type_list_append mt_append (pv 2) (pa_cons (pe_callB (id := "sum") (r := rSum K) (cr_sum rfl) (by rfl) T.m_sum (by decide +kernel) (pa_cons (pe_lc (own := [("_law_part", 9)]) (g := gName 9) rfl sc__law_halves_right.nd (pi_list (pv 5)) (blkOk_by (own := [("_law_part", 9)]) (N := ["_law_folds", "_law_most", "_law_due", "_law_power", "_law_size", "_law_parts", "_law_cost", "_law_totals", "_law_at", "_law_part", "_law_total"]) (sc := defScope s__law_halves_right) (by decide +kernel)) (fun _ _ _ _ _ => (pg_name (i := 9) sc__law_halves_right.nd rfl (by first | exact Or.inl rfl | exact Or.inr rfl))) (fun _ _ _ _ _ => (pts_one (pt_cmpR (r := rNeD K) (op_neD hr.units) (pv 9) (pe_lst pa_nil) (nomark _)))) (fun _ _ _ _ _ => (pe_call (ok__law_least_price T) (hr.mono (by decide)) (by rfl) T.g__law_least_price T.f__law_least_price.kp T.b__law_least_price .nil pass0 (pa_cons (pv 9) pa_nil)))) pa_nil)) pa_nil)))))) pss_nil))) 
      (pss_cons (ps_if (PW.pt (pw_or (pt_cmpR (op_neD hr.units) (pe_call (ok_halves T) hr (by rfl) T.g_halves T.f_halves.kp T.b_halves .nil pass0 (pa_cons (pv 0) (pa_cons (pv 1) pa_nil))) (pv 2) (nomark _)) (pw_or1 (pt_cmpR (op_neD hr.units) (pe_revL (pe_callB (id := "sorted") (r := rSorted K) cr_sorted (by rfl) T.m_sorted (by decide +kernel) (pa_cons (pv 2) pa_nil))) (pv 2) (nomark _))))) 
        (pss_one (ps_ret pe_bl)) pss_nil) 
      (pss_cons (ps_for PassesOwn.never rfl (pi_list (pe_lst (pa_cons pe_int (pa_cons pe_int (pa_cons pe_int (pa_cons pe_int pa_nil)))))) (pg_name (i := 6) sc__law_halves_right.nd rfl (by first | exact Or.inl rfl | exact Or.inr rfl)) 
        (pss_cons (ps_setLc (i := 7) (own := [("_law_power", 3), ("_law_total", 10)]) (g := gTup K 2 (gCons (gName 3) (gCons (gName 10) gNil))) (tt := tYes) rfl sc__law_halves_right.nd rfl rfl (sw_true rfl rfl rfl (by decide +kernel)) (pi_enum (by rfl) T.m_enumerate (pa_cons (pv 2) pa_nil)) (blkOk_by (own := [("_law_power", 3), ("_law_total", 10)]) (N := ["_law_folds", "_law_most", "_law_due", "_law_power", "_law_size", "_law_parts", "_law_cost", "_law_totals", "_law_at", "_law_part", "_law_total"]) (sc := defScope s__law_halves_right) (by decide +kernel)) (fun _ _ _ _ _ => by exact (pg_tup rfl (pgs_cons (pg_name (i := 3) sc__law_halves_right.nd rfl (by first | exact Or.inl rfl | exact Or.inr rfl)) (pgs_cons (pg_name (i := 10) sc__law_halves_right.nd rfl (by first | exact Or.inl rfl | exact Or.inr rfl)) pgs_nil)))) (fun _ _ _ _ _ => pts_nil) (fun _ _ _ _ _ => (pe_op op_add (pv 10) (pe_op op_mul (pv 6) (pe_op op_shlW pe_int (pv 3)))))) 
        (pss_one (ps_if (pt_cmpR (op_neD hr.units) (pe_call (ok_least_half T) hr (by rfl) T.g_least_half T.f_least_half.kp T.b_least_half .nil pass0 (pa_cons (pv 0) (pa_cons (pv 1) (pa_cons (pv 6) pa_nil)))) (pe_tup (pa_cons (pe_bm PySem.F.plainAttrs_list PySem.F.slot_list_index PySem.F.type_list_index (mt_indexD (un65 hr)) (pv 7) (pa_cons (pe_callB (id := "min") (r := rMin K) (cr_min rfl) (by rfl) T.m_min (by decide +kernel) (pa_cons (pv 7) pa_nil)) pa_nil)) (pa_cons (pe_callB (id := "min") (r := rMin K) (cr_min rfl) (by rfl) T.m_min (by decide +kernel) (pa_cons (pv 7) pa_nil)) pa_nil))) (nomark _)) 
          (pss_one (ps_ret pe_bl)) pss_nil)))) 
      (pss_one (ps_ret pe_bl)))))), ?_⟩
    have hPl := P_le fs.length most
    have hfl := hf.len
    have lf : ((fs.map V.int).length : Int) = ((fs.length : Nat) : Int) := by rw [List.length_map]
    refine q_asgL (xs := []) (el_lst ea_nil (by decide)) fun pd H1 hpd e1 k1 => ?_
    refine q_forR1 (n := (most : Int) + 1) (ea_cons (ev_op (ev_var rfl) ev_c rv_I0) ea_nil) (by omega)
      (fun i σ' H' => ∃ y3 y4 y5 y6 y7, σ' = [some (.ref a), some (.int (most : Int)), some (.ref pd), y3, y4, y5, y6, y7, none, none, none] ∧ Ex H H' ∧ H' pd = some (.lst (((List.range (min i (M47.P fs.length most))).map (S fs)).map V.int)))
      (fun H2 e2 => ⟨none, none, none, none, none, rfl, e1.trans e2, by rw [e2 _ _ k1, Nat.zero_min]; rfl⟩) (fun i σ' H' hi hP => ?_) (fun σ' H' hP => ?_)
    · obtain ⟨y3, y4, y5, y6, y7, rfl, e, hD⟩ := hP
      have hi12 : i ≤ most := by omega
      have ln : ((((List.range (min i (M47.P fs.length most))).map (S fs)).map V.int).length : Int) = ((min i (M47.P fs.length most) : Nat) : Int) := by rw [List.length_map, List.length_map, List.length_range]
      have ed : decide (V.int (((fs.length : Nat) : Int).fmod (1 * 2 ^ (i : Int).toNat)) = V.int 0) = isDiv fs.length i := by
        rw [one_p, Int.fmod_eq_emod_of_nonneg _ (Int.le_of_lt (two_pos i))]
        unfold isDiv
        rw [show ((fs.length : Nat) : Int) % 2 ^ i = ((fs.length % 2 ^ i : Nat) : Int) by rw [Int.natCast_emod, Int.natCast_pow]; rfl]
        refine decide_eq_decide.mpr ⟨fun h => ?_, fun h => by rw [h]; rfl⟩
        have := V.int.inj h
        omega
      have tne : (1 : Int) * 2 ^ (i : Int).toNat ≠ 0 := by
        rw [one_p]
        have := two_pos i
        omega
      refine s_when (et_and (et_test (ev_is (ev_op (ev_op (ev_is (ev_len (K := K) (ev_var rfl) (hf.ex e).sq) (by rw [lf])) (ev_op ev_c (ev_var rfl) (rv_I (shl1 (by omega)))) (rv_I tne)) ev_c (rv_eq rfl)) (by rw [ed]))) fun _ => et_test (ev_op (ev_is (ev_len (K := K) (ev_var rfl) (sq_of hD)) (by rw [ln])) (ev_var rfl) (rv_eq rfl))) (fun z H2 e2 => ?_) (fun z H2 e2 => ?_)
      · rw [Bool.and_eq_true] at z
        have hdv : isDiv fs.length i = true := z.1
        have hmin : min i (M47.P fs.length most) = i := by
          have := V.int.inj (of_decide_eq_true z.2)
          omega
        have hlt : i < M47.P fs.length most := by
          rcases Nat.lt_or_ge i (M47.P fs.length most) with c | c
          · exact c
          · have ei : i = M47.P fs.length most := by omega
            have := P_stop (n := fs.length) (most := most) (by omega)
            rw [← ei, hdv] at this
            cases this
        have hp12 := pow12 (show i ≤ 12 by omega)
        have e02 := e.trans e2
        refine q_asg (v := .int ((fs.length / 2 ^ i : Nat) : Int)) (ev_is (ev_op (ev_is (ev_len (K := K) (ev_var rfl) (hf.ex e02).sq) (by rw [lf])) (ev_op ev_c (ev_var rfl) (rv_I (shl1 (by omega)))) (rv_I (wide_div (b := 40) ?_ ?_ (by decide) (by decide)))) ?_) fun H3 e3 => ?_
        · rw [one_p]
          exact two_pos i
        · rw [one_p, Int.natAbs_pow]
          exact Nat.pow_lt_pow_right (by decide) (by omega)
        · rw [one_p, Int.natCast_ediv, Int.natCast_pow]
          rfl
        have e03 := e02.trans e3
        refine q_in (lists_use (f := prt fs (fs.length / 2 ^ i)) (n := 2 ^ i) (by omega) (ea_cons (ev_is (ev_op ev_c (ev_var rfl) (rv_I (shl1 (by omega)))) (by rw [one_p, Int.natCast_pow]; rfl)) ea_nil) (fun _ => rfl) (fun j H4 e4 hj => ?_) fun D H4 hDn e4 hLL => ?_)
        · have hin := slice_in (n := fs.length) hj
          have ej : V.int ((j : Int) * ((fs.length / 2 ^ i : Nat) : Int)) = V.int ((j * (fs.length / 2 ^ i) : Nat) : Int) := by rw [Int.natCast_mul]
          have h5 := el_sl (K := K) (te := tVar 0) (σ := [some (.ref a), some (.int (most : Int)), some (.ref pd), some (.int (i : Int)), some (.int ((fs.length / 2 ^ i : Nat) : Int)), y5, y6, y7, some (.int (j : Int)), none, none]) (ev_var rfl) (lo := some ((j * (fs.length / 2 ^ i) : Nat) : Int)) (hi := some ((j * (fs.length / 2 ^ i) + fs.length / 2 ^ i : Nat) : Int))
            (eo_some (te := tOp (rI CMul fun i j => .int (i * j)) (tVar 8) (tVar 4)) (ev_is (ev_op (ev_var rfl) (ev_var rfl) (rv_I (Or.inl ⟨by omega, by omega⟩))) ej))
            (eo_some (te := tOp (rI0 fun i j => .int (i + j)) (tOp (rI CMul fun i j => .int (i * j)) (tVar 8) (tVar 4)) (tVar 4)) (ev_is (ev_op (ev_is (ev_op (ev_var rfl) (ev_var rfl) (rv_I (Or.inl ⟨by omega, by omega⟩))) ej) (ev_var rfl) rv_I0) (by rw [Int.natCast_add])))
            (hf.ex (e03.trans e4)).sq
          rw [cut_nat hin, ← prt_eq2] at h5
          exact h5
        · have e34 := (e2.trans e3).trans e4
          refine s_app (v := .int (S fs i)) (e34 _ _ hD) (ev_var rfl) (ev_is (ev_sumN (K := K) (ns := (((List.range (2 ^ i)).map (prt fs (fs.length / 2 ^ i))).filter fun r => !decide (r = [])).map lp) ?_) ?_) (by rw [List.length_map, List.length_map, List.length_range]; omega) fun H5 e5 => ?_
          · rw [List.map_map]
            refine el_mapLLt (K := K) (fun r => !decide (r = [])) (V.int ∘ lp) (ev_var rfl) hLL (by rw [List.length_map, List.length_range]; omega) (fun _ => rfl) (fun u r H6 e6 hr hu => et_test (ev_opL (xs := []) (ev_var rfl) (el_lst ea_nil (by decide)) fun p H7 hp e7 => rv_neI (K := K) (ns := r) (ms := []) (sq_of (e7 _ _ hu)) (sq_of hp))) (fun u r H6 e6 hr hu _ => ?_)
            obtain ⟨j, hj, rfl⟩ := List.mem_map.mp hr
            exact ev_call (ea_cons (ev_var rfl) ea_nil) (spv fun H7 e7 Q q E => ⟨u, _, rfl, (prt_fo hf hu).ex e7, q⟩)
          · rw [sum_filter, List.map_map]
            rfl
          · refine ⟨_, _, _, _, _, rfl, Ex.mut ((e.trans e34).trans e5) hpd, ?_⟩
            rw [upd_same, hmin, Nat.min_eq_left hlt, List.range_succ, List.map_append, List.map_append]
            rfl
      · refine ⟨_, _, _, _, _, rfl, e.trans e2, ?_⟩
        have hmin : min (i + 1) (M47.P fs.length most) = min i (M47.P fs.length most) := by
          rw [Bool.and_eq_false_iff] at z
          rcases z with z | z
          · have := P_out (n := fs.length) (most := most) hi12 z
            omega
          · have : ¬ min i (M47.P fs.length most) = i := fun h => of_decide_eq_false z (by rw [h])
            omega
        rw [hmin]
        exact e2 _ _ hD
    · obtain ⟨y3, y4, y5, y6, y7, rfl, e, hD⟩ := hP
      have em : min (((most : Int) + 1).toNat) (M47.P fs.length most) = M47.P fs.length most := by omega
      rw [em] at hD
      have es : (List.range (M47.P fs.length most)).map (S fs) = sums fs most := rfl
      rw [es] at hD
      have sl : (sums fs most).length = M47.P fs.length most := by
        unfold sums
        rw [List.length_map, List.length_range]
      refine q_when (b := false) (et_is (et_or (b := false) (et_test (ev_opL1 (xs := (sums fs most).map V.int) (el_callR (ea_cons (ev_var rfl) (ea_cons (ev_var rfl) ea_nil)) fun H4 e4 Q k E => ⟨a, fs, most, rfl, (hf.ex e).ex e4, hm, k⟩) (fun _ _ => ev_var rfl) fun p H4 hp e4 => rv_neI (K := K) (ns := sums fs most) (ms := sums fs most) (sq_of hp) (sq_of (e4 _ _ hD)))) fun _ => et_is (et_test (ev_opL1 (xs := (sums fs most).map V.int) (el_revSorted (K := K) (ev_var rfl) hD (by rw [sl]; omega) (sums_fall hf.good most)) (fun _ _ => ev_var rfl) fun p H4 hp e4 => rv_neI (K := K) (ns := sums fs most) (ms := sums fs most) (sq_of hp) (sq_of (e4 _ _ hD)))) (by simp)) (by simp)) (fun z => by cases z) fun _ H4 e4 => ?_
      have hD4 := e4 _ _ hD
      refine q_forNLn (K := K) (xs := [V.int 0, V.int 1, V.int 5, V.int 40]) (el_lst (ea_cons ev_c (ea_cons ev_c (ea_cons ev_c (ea_cons ev_c ea_nil)))) (by show 4 ≤ 100000; decide)) (fun p i σ' H' => ∃ y6 y7, σ' = [some (.ref a), some (.int (most : Int)), some (.ref pd), y3, y4, y5, y6, y7, none, none, none] ∧ Ex H4 H' ∧ H' p = some (.lst [V.int 0, V.int 1, V.int 5, V.int 40]))
        (fun p H5 hp e5 h5 => ⟨y6, y7, rfl, e5, h5⟩) (fun p i σ' H' _ h => by obtain ⟨_, _, _, _, h5⟩ := h; exact sq_of h5) (fun p i x σ' H' hx h => ?_) (fun p σ' H' h => ?_)
      · obtain ⟨y6, y7, rfl, e5, h5⟩ := h
        obtain ⟨c, rfl, c0, c1⟩ : ∃ c : Int, x = V.int c ∧ 0 ≤ c ∧ c ≤ 40 := by
          match i, hx with
          | 0, hx => exact ⟨0, (Option.some.inj hx).symm, by decide, by decide⟩
          | 1, hx => exact ⟨1, (Option.some.inj hx).symm, by decide, by decide⟩
          | 2, hx => exact ⟨5, (Option.some.inj hx).symm, by decide, by decide⟩
          | 3, hx => exact ⟨40, (Option.some.inj hx).symm, by decide, by decide⟩
          | n + 4, hx => cases hx
        obtain ⟨k, m, F⟩ := first_min_ex (totF fs c) (M47.P fs.length most) (P_pos _ _)
        have hD5 := e5 _ _ hD4
        refine q_asgL (el_enum (K := K) (xs := (sums fs most).map V.int) (fun k => V.int (totF fs c k)) (ea_cons (ev_var rfl) ea_nil) (sq_of hD5) (by rw [List.length_map, sl]; omega) (fun _ _ => rfl) fun j x H6 e6 hx => ?_) fun D H6 hDn e6 h6 => ?_
        · have hj : j < M47.P fs.length most := by
            have := (List.getElem?_eq_some_iff.mp hx).1
            rw [List.length_map, sl] at this
            exact this
          unfold sums at hx
          rw [List.map_map, List.getElem?_map, List.getElem?_range hj] at hx
          obtain rfl := Option.some.inj hx
          refine ev_is (ev_op (ev_var rfl) (ev_op (ev_var rfl) (ev_op ev_c (ev_var rfl) (rv_I (shl1 (by omega)))) (rv_I (Or.inl ⟨by omega, by omega⟩))) rv_I0) ?_
          rw [one_p]
          rfl
        rw [List.length_map, sl] at h6
        refine s_when (b := false) (et_is (et_test (ev_opUU (xs := [.int (k : Int), .int m]) (ys := [.int (k : Int), .int m]) (eu_call (ea_cons (ev_var rfl) (ea_cons (ev_var rfl) (ea_cons (ev_var rfl) ea_nil))) fun H7 e7 Q kk E => ⟨a, fs, most, c, rfl, (hf.ex (((e.trans e4).trans e5).trans e6)).ex e7, hm, c0, by omega, fun k' m' F' => by obtain ⟨rfl, rfl⟩ := F.uniq F'; exact kk⟩) (eu_tup (ea_cons (index_use (K := K) (ev_var rfl) (fun H5 e5 => ev_minF (K := K) (i := 0) (ev_var rfl) (e5 _ _ h6) F) h6 F) (ea_cons (ev_minF (K := K) (i := 0) (ev_var rfl) h6 F) ea_nil)) (by show 2 ≤ 100000; decide)) fun p q H7 hp hq _ => rv_neT (K := K) hp hq rfl)) rfl) (fun z => by cases z) fun _ H7 e7 => ⟨_, _, rfl, (e5.trans e6).trans e7, (e6.trans e7) _ _ h5⟩
      · obtain ⟨y6, y7, rfl, e5, h5⟩ := h
        exact s_ret ev_c fun H6 e6 => q H6 (((e.trans e4).trans e5).trans e6)
end
end K47

set_option Elab.async false
set_option linter.all false
set_option maxRecDepth 100000
set_option maxHeartbeats 4000000
namespace K47
open PySem PySem.Spec PyProof.Rows L2 Evl WS M41 M47
abbrev Tri := Nat × Nat × Nat
def triTA : List Tri → TA
  | [] => tNil
  | p :: r => tCons (tTup (tCons (tC (.int (p.1 : Int))) (tCons (tC (.int (p.2.1 : Int))) (tCons (tC (.int (p.2.2 : Int))) tNil)))) (triTA r)
def Tvs (H : Hp) (vs : List V) (ps : List Tri) : Prop := vs.length = ps.length ∧ ∀ (i : Nat) (p : Tri), ps[i]? = some p → ∃ a : Addr, vs[i]? = some (V.ref a) ∧ H a = some (.tup [.int (p.1 : Int), .int (p.2.1 : Int), .int (p.2.2 : Int)])
theorem tri_use : ∀ (ps : List Tri) {σ : L2.St} {H : Hp} {Q : List V → Hp → Prop}, (∀ vs H1, Ex H H1 → Tvs H1 vs ps → Q vs H1) → triTA ps σ H Q
  | [], σ, H, Q, k => ta_nil (k [] H (Ex.refl H) ⟨rfl, fun i p h => by cases h⟩)
  | p :: r, σ, H, Q, k => ta_consU (eu_tup (ea_cons ev_c (ea_cons ev_c (ea_cons ev_c ea_nil))) (by show 3 ≤ 100000; decide)) fun u H1 hu e1 k1 => tri_use r fun vs H2 e2 hv => k (.ref u :: vs) H2 (e1.trans e2) ⟨by rw [List.length_cons, List.length_cons, hv.1], fun i q h => by
      cases i with
      | zero =>
        cases h
        exact ⟨u, rfl, e2 _ _ k1⟩
      | succ i => exact hv.2 i q h⟩
def S9 : List Tri := [(1, 1, 3), (1, 2, 2), (2, 2, 2), (2, 1, 2), (1, 1, 4), (3, 1, 1), (0, 2, 2), (2, 3, 1), (1, 3, 2)]
def S10 : List Tri := S9 ++ [(2, 2, 0)]
def okTri (p : Tri) : Bool := decide (p.1 ≤ 50) && decide (p.2.1 ≤ 50) && decide (p.2.2 ≤ 6) && decide ((2 ^ p.2.2) ^ p.1 ≤ 100) && decide ((2 ^ p.2.2) ^ p.2.1 ≤ 100)
theorem okS10 : S10.all okTri = true := by decide +kernel
theorem ok_of {n m b : Nat} (h : okTri (n, m, b) = true) : n ≤ 50 ∧ m ≤ 50 ∧ b ≤ 6 ∧ (2 ^ b) ^ n ≤ 100 ∧ (2 ^ b) ^ m ≤ 100 := by
  unfold okTri at h
  rw [Bool.and_eq_true, Bool.and_eq_true, Bool.and_eq_true, Bool.and_eq_true] at h
  obtain ⟨⟨⟨⟨h1, h2⟩, h3⟩, h4⟩, h5⟩ := h
  exact ⟨of_decide_eq_true h1, of_decide_eq_true h2, of_decide_eq_true h3, of_decide_eq_true h4, of_decide_eq_true h5⟩
section
variable {σ : L2.St} {H : Hp} {ta tb te tl : TE} {D : Ends} {tz tu : TS} {tr : TA} {K : PySem.W.Frag} {g : TG}
theorem q_unless (k : te σ H fun x H1 => ∃ c, x = .bl c ∧ (if (!c) = true then tu { D with nx := tz D } σ H1 else tNext { D with nx := tz D } σ H1)) : tSeq (tIfS (tNot (tB te)) tu tNext) tz D σ H := k
theorem unless_ok {p : Prop} (h : tz D σ H) : ∃ c, V.bl true = .bl c ∧ (if (!c) = true then p else tNext { D with nx := tz D } σ H) := ⟨true, rfl, by rw [if_neg (by decide)]; exact h⟩
theorem q_unless2 {te2 : TE} (k : te σ H fun x H1 => ∃ c, x = .bl c ∧ (if (!c) = true then (if true = true then tu { D with nx := tz D } σ H1 else tNext { D with nx := tz D } σ H1) else te2 σ H1 fun y H2 => ∃ c', y = .bl c' ∧ (if (!c') = true then tu { D with nx := tz D } σ H2 else tNext { D with nx := tz D } σ H2))) :
    tSeq (tIfS (tOr (tNot (tB te)) (tNot (tB te2))) tu tNext) tz D σ H := k
theorem q_test (k : te σ H fun x H1 => ∃ c, x = .bl c ∧ (if c = true then tu { D with nx := tz D } σ H1 else tNext { D with nx := tz D } σ H1)) : tSeq (tIfS (tTest te) tu tNext) tz D σ H := k
theorem rv_eqLs {a b : Addr} {xs : List V} (ha : H a = some (.lst xs)) (hb : H b = some (.lst xs)) (h : xs.all isSc = true) : RV (rEqD K) (.ref a) (.ref b) H (.bl true) := fun H1 e Q q =>
  ⟨.list (xs.map sD), .list (xs.map sD), .lst (sq_of (e _ _ ha)) (dpAll_sc h), .lst (sq_of (e _ _ hb)) (dpAll_sc h), shaped_lst xs, shaped_lst xs, by
    rw [SeqAt.eqv_refl _ (SeqAt.canLay_of_shaped (shaped_lst xs))]
    exact q H1 (Ex.refl H1)⟩
end
theorem Gs_ne {H : Hp} {g a : Addr} {C : Nat} {xs : List V} (h : Gs H g C) (ha : H a = Option.some (HO.tup xs)) : a ≠ g := fun c => by
  obtain ⟨A, B, n, h1, _⟩ := h
  rw [c, h1] at ha
  cases ha
def sp_law (K : PySem.W.Frag) : Sp := fun vs H Q _ => ∃ a, ∃ ns : List Int, vs = [.ref a] ∧ SqL K H a (ns.map V.int) ∧ ns.length ≤ 63 ∧ ∀ H', Q (.bl true) H'
theorem mg112 : M47.mg 1 1 2 = 1 := by decide +kernel
theorem first0077 : First (totF [0, 0, 7, 7] 5) (M47.P 4 2) 0 19 := by
  have h : M47.P 4 2 = 3 := by decide +kernel
  have h0 : totF [0, 0, 7, 7] 5 0 = 19 := by decide +kernel
  have h1 : totF [0, 0, 7, 7] 5 1 = 20 := by decide +kernel
  have h2 : totF [0, 0, 7, 7] 5 2 = 30 := by decide +kernel
  refine ⟨by rw [h]; decide, h0, fun j hj => ?_, fun j hj => absurd hj (Nat.not_lt_zero j)⟩
  rw [h] at hj
  match j, hj with
  | 0, _ => rw [h0]; decide
  | 1, _ => rw [h1]; decide
  | 2, _ => rw [h2]; decide
theorem pick8 (i : Nat) (h : i < 8) : ∃ M : Nat, M ≤ 32 ∧ [V.int 0, V.int 1, V.int 6, V.int 8, V.int 12, V.int 16, V.int 24, V.int 32][i]? = some (V.int (M : Int)) := by
  match i, h with
  | 0, _ => exact ⟨0, by decide, rfl⟩
  | 1, _ => exact ⟨1, by decide, rfl⟩
  | 2, _ => exact ⟨6, by decide, rfl⟩
  | 3, _ => exact ⟨8, by decide, rfl⟩
  | 4, _ => exact ⟨12, by decide, rfl⟩
  | 5, _ => exact ⟨16, by decide, rfl⟩
  | 6, _ => exact ⟨24, by decide, rfl⟩
  | 7, _ => exact ⟨32, by decide, rfl⟩
theorem sums0077 : sums [0, 0, 7, 7] 2 = [14, 10, 10] := by decide +kernel
section
variable {P : Program} {w : World} {K : PySem.W.Frag} {mg : Str → Option Value} {base : Heap}
theorem ok_law (T : Tx K mg) : FnQ P w K mg base 8 T.a_law T.d_law ["_law_script"] (sp_law K) := by
  refine okQ T.f_law (k := 7) sc_law (fun vs H Q E h => ?_) (fun cdv A outer s H vs Q E hq hr h => ?_)
  · obtain ⟨a, ns, rfl, _⟩ := h
    rfl
  · obtain ⟨a, ns, rfl, hS, hl, q⟩ := h
    refine ⟨_,       (pss_cons (ps_set (i := 1) sc_law.nd rfl (by first | exact Or.inl rfl | exact Or.inr rfl) (pe_call (ok__law_generator T) (hr.mono (by decide)) (by rfl) T.g__law_generator T.f__law_generator.kp T.b__law_generator .nil pass0 (pa_cons (pv 0) (pa_cons pe_int pa_nil)))) 
      (pss_cons (ps_set (i := 2) sc_law.nd rfl (by first | exact Or.inl rfl | exact Or.inr rfl) (pe_lst (pa_cons (pe_tup (pa_cons pe_int (pa_cons pe_int (pa_cons pe_int pa_nil)))) (pa_cons (pe_tup (pa_cons pe_int (pa_cons pe_int (pa_cons pe_int pa_nil)))) (pa_cons (pe_tup (pa_cons pe_int (pa_cons pe_int (pa_cons pe_int pa_nil)))) (pa_cons (pe_tup (pa_cons pe_int (pa_cons pe_int (pa_cons pe_int pa_nil)))) (pa_cons (pe_tup (pa_cons pe_int (pa_cons pe_int (pa_cons pe_int pa_nil)))) (pa_cons (pe_tup (pa_cons pe_int (pa_cons pe_int (pa_cons pe_int pa_nil)))) (pa_cons (pe_tup (pa_cons pe_int (pa_cons pe_int (pa_cons pe_int pa_nil)))) (pa_cons (pe_tup (pa_cons pe_int (pa_cons pe_int (pa_cons pe_int pa_nil)))) (pa_cons (pe_tup (pa_cons pe_int (pa_cons pe_int (pa_cons pe_int pa_nil)))) pa_nil))))))))))) 
      (pss_cons (ps_asg (pe_ix (r := rIxL K) ix_list (pe_op op_cat (pv 2) (pe_lst (pa_cons (pe_tup (pa_cons pe_int (pa_cons pe_int (pa_cons pe_int pa_nil)))) pa_nil))) (pe_call (ok__law_random T) (hr.mono (by decide)) (by rfl) T.g__law_random T.f__law_random.kp T.b__law_random .nil pass0 (pa_cons (pv 1) (pa_cons pe_int pa_nil))) (fun _ _ => rfl)) (pg_tup rfl (pgs_cons (pg_name (i := 3) sc_law.nd rfl (by first | exact Or.inl rfl | exact Or.inr rfl)) (pgs_cons (pg_name (i := 4) sc_law.nd rfl (by first | exact Or.inl rfl | exact Or.inr rfl)) (pgs_cons (pg_name (i := 5) sc_law.nd rfl (by first | exact Or.inl rfl | exact Or.inr rfl)) pgs_nil))))) 
      (pss_cons (ps_if (pt_not (pt_val (pe_callQ (ok__law_small_right T) hq hr (by rfl) T.g__law_small_right T.f__law_small_right.kp T.b__law_small_right (pa_cons (pv 3) (pa_cons (pv 4) (pa_cons (pv 5) pa_nil)))))) 
        (pss_one (ps_ret pe_bl)) pss_nil) 
      (pss_cons (ps_par3 (i := 3) (j := 4) (l := 5) (by rfl) sc_law.nd rfl rfl rfl (by decide) (by decide) (by decide) rfl rfl rfl (pa_cons (pe_call (ok__law_random T) (hr.mono (by decide)) (by rfl) T.g__law_random T.f__law_random.kp T.b__law_random .nil pass0 (pa_cons (pv 1) (pa_cons pe_int pa_nil))) (pa_cons (pe_call (ok__law_random T) (hr.mono (by decide)) (by rfl) T.g__law_random T.f__law_random.kp T.b__law_random .nil pass0 (pa_cons (pv 1) (pa_cons pe_int pa_nil))) (pa_cons (pe_call (ok__law_random T) (hr.mono (by decide)) (by rfl) T.g__law_random T.f__law_random.kp T.b__law_random .nil pass0 (pa_cons (pv 1) (pa_cons pe_int pa_nil))) pa_nil))) (by rfl)) 
      (pss_cons (ps_set (i := 6) sc_law.nd rfl (by first | exact Or.inl rfl | exact Or.inr rfl) (pe_call (ok_greatest_gain T) (hr.mono (by decide)) (by rfl) T.g_greatest_gain T.f_greatest_gain.kp T.b_greatest_gain .nil pass0 (pa_cons (pv 3) (pa_cons (pv 4) (pa_cons (pv 5) pa_nil))))) 
      (pss_cons (ps_if (pt_not (pt_val (pe_callQ (ok__law_rows_right T) hq (hr.mono (by decide)) (by rfl) T.g__law_rows_right T.f__law_rows_right.kp T.b__law_rows_right (pa_cons (pv 3) (pa_cons (pv 4) (pa_cons (pv 5) (pa_cons (pv 6) pa_nil))))))) 
        (pss_one (ps_ret pe_bl)) pss_nil) 
      (pss_cons (ps_for PassesOwn.never rfl (pi_range1 rfl T.m_range (pa_cons pe_int pa_nil)) (pg_name (i := 7) sc_law.nd rfl (by first | exact Or.inl rfl | exact Or.inr rfl)) 
        (pss_one (ps_if (pt_cmpR op_gt (pe_call (ok__law_gain T) (hr.mono (by decide)) (by rfl) T.g__law_gain T.f__law_gain.kp T.b__law_gain .nil pass0 (pa_cons (pe_call (ok__law_drawn T) (hr.mono (by decide)) (by rfl) T.g__law_drawn T.f__law_drawn.kp T.b__law_drawn .nil pass0 (pa_cons (pv 1) (pa_cons (pv 3) (pa_cons (pv 5) pa_nil)))) (pa_cons (pe_call (ok__law_drawn T) (hr.mono (by decide)) (by rfl) T.g__law_drawn T.f__law_drawn.kp T.b__law_drawn .nil pass0 (pa_cons (pv 1) (pa_cons (pv 4) (pa_cons (pv 5) pa_nil)))) pa_nil))) (pv 6) (nomark _)) 
          (pss_one (ps_ret pe_bl)) pss_nil))) 
      (pss_cons (ps_set (i := 8) sc_law.nd rfl (by first | exact Or.inl rfl | exact Or.inr rfl) (pe_ix (r := rIxL K) ix_list (pe_lst (pa_cons pe_int (pa_cons pe_int (pa_cons pe_int (pa_cons pe_int (pa_cons pe_int (pa_cons pe_int (pa_cons pe_int (pa_cons pe_int pa_nil))))))))) (pe_call (ok__law_random T) (hr.mono (by decide)) (by rfl) T.g__law_random T.f__law_random.kp T.b__law_random .nil pass0 (pa_cons (pv 1) (pa_cons pe_int pa_nil))) (fun _ _ => rfl))) 
      (pss_cons (ps_set (i := 9) sc_law.nd rfl (by first | exact Or.inl rfl | exact Or.inr rfl) (pe_op op_cat (pe_call (ok__law_drawn T) (hr.mono (by decide)) (by rfl) T.g__law_drawn T.f__law_drawn.kp T.b__law_drawn .nil pass0 (pa_cons (pv 1) (pa_cons (pe_op op_fdiv (pv 8) pe_int) (pa_cons pe_int pa_nil)))) (pe_call (ok__law_drawn T) (hr.mono (by decide)) (by rfl) T.g__law_drawn T.f__law_drawn.kp T.b__law_drawn .nil pass0 (pa_cons (pv 1) (pa_cons (pe_op op_sub (pv 8) (pe_op op_fdiv (pv 8) pe_int)) (pa_cons pe_int pa_nil)))))) 
      (pss_cons (ps_if (PW.pt (pw_or (pt_not (pt_val (pe_call (ok__law_halves_right T) (hr.mono (by decide)) (by rfl) T.g__law_halves_right T.f__law_halves_right.kp T.b__law_halves_right .nil pass0 (pa_cons (pv 9) (pa_cons (pe_call (ok__law_random T) (hr.mono (by decide)) (by rfl) T.g__law_random T.f__law_random.kp T.b__law_random .nil pass0 (pa_cons (pv 1) (pa_cons pe_int pa_nil))) pa_nil))))) (pw_or1 (pt_not (pt_val (pe_call (ok__law_halves_right T) (hr.mono (by decide)) (by rfl) T.g__law_halves_right T.f__law_halves_right.kp T.b__law_halves_right .nil pass0 (pa_cons (pe_lst pa_nil) (pa_cons pe_int pa_nil)))))))) 
        (pss_one (ps_ret pe_bl)) pss_nil) 
      (pss_cons (ps_if (pt_cmpR (op_neD hr.units) (pe_lst (pa_cons (pe_call (ok_halves T) (hr.mono (by decide)) (by rfl) T.g_halves T.f_halves.kp T.b_halves .nil pass0 (pa_cons (pe_lst (pa_cons pe_int (pa_cons pe_int (pa_cons pe_int (pa_cons pe_int pa_nil))))) (pa_cons pe_int pa_nil))) (pa_cons (pe_call (ok_least_half T) (hr.mono (by decide)) (by rfl) T.g_least_half T.f_least_half.kp T.b_least_half .nil pass0 (pa_cons (pe_lst (pa_cons pe_int (pa_cons pe_int (pa_cons pe_int (pa_cons pe_int pa_nil))))) (pa_cons pe_int (pa_cons pe_int pa_nil)))) pa_nil))) (pe_lst (pa_cons (pe_lst (pa_cons pe_int (pa_cons pe_int (pa_cons pe_int pa_nil)))) (pa_cons (pe_tup (pa_cons pe_int (pa_cons pe_int pa_nil))) pa_nil))) (nomark _)) 
        (pss_one (ps_ret pe_bl)) pss_nil) 
      (pss_one (ps_ret (pe_cmpR (op_eqD hr.units) (pe_lst (pa_cons (pe_call (ok_greatest_gain T) (hr.mono (by decide)) (by rfl) T.g_greatest_gain T.f_greatest_gain.kp T.b_greatest_gain .nil pass0 (pa_cons pe_int (pa_cons pe_int (pa_cons pe_int pa_nil)))) (pa_cons (pe_call (ok_never_pays T) (hr.mono (by decide)) (by rfl) T.g_never_pays T.f_never_pays.kp T.b_never_pays .nil pass0 (pa_cons pe_int (pa_cons pe_int (pa_cons pe_int (pa_cons pe_int pa_nil))))) (pa_cons (pe_call (ok_never_pays T) (hr.mono (by decide)) (by rfl) T.g_never_pays T.f_never_pays.kp T.b_never_pays .nil pass0 (pa_cons pe_int (pa_cons pe_int (pa_cons pe_int (pa_cons pe_int pa_nil))))) pa_nil)))) (pe_lst (pa_cons pe_int (pa_cons pe_bl (pa_cons pe_bl pa_nil)))) (nomark _)))))))))))))))), ?_⟩
    refine q_in (tcall_in (ta_consV (ev_var rfl) fun Ha ea => ta_consV ev_c fun Hb eb => ta_nil ⟨a, ns, 0, rfl, ex_l (ea.trans eb) hS, hl, by decide, fun g H1 hg0 e1 hg1 => ?_⟩))
    refine q_in (tl_lst ?_)
    show triTA S9 _ _ _
    refine tri_use S9 fun vs H2 e2 hv => ⟨by rw [hv.1]; show 9 ≤ sizeLine; decide, fun pl hpl => ?_⟩
    have x3 := Ex.new (o := .lst vs) hpl
    have hg3 := (hg1.ex e2).ex x3
    -- some + [(2, 2, 0)], its item
    refine q_gin (top_in (top_in (ev_use (ev_var rfl) fun H4 e4 => tl_lst (ta_consU (eu_tup (ea_cons ev_c (ea_cons ev_c (ea_cons ev_c ea_nil))) (by show 3 ≤ 100000; decide)) fun u H5 hu e5 k5 => ta_nil ⟨by show 1 ≤ sizeLine; decide, fun p2 hp2 => ?_⟩))))
    have x6 := Ex.new (o := .lst [V.ref u]) hp2
    refine ⟨pl, p2, vs, [V.ref u], rfl, rfl, x6 _ _ (e5 _ _ (e4 _ _ upd_same)), upd_same, sz_of (by rw [hv.1]; show 10 ≤ 100000; decide), fun pc hpc => ?_⟩
    have x7 := Ex.new (o := .lst (vs ++ [V.ref u])) hpc
    have hg7 := (((hg3.ex e4).ex e5).ex x6).ex x7
    have hT : ∀ (i : Nat) (p : Tri), S10[i]? = some p → ∃ a : Addr, (vs ++ [V.ref u])[i]? = some (V.ref a) ∧ (upd (upd H5 p2 (.lst [V.ref u])) pc (.lst (vs ++ [V.ref u]))) a = some (.tup [.int (p.1 : Int), .int (p.2.1 : Int), .int (p.2.2 : Int)]) := fun i p h => by
      unfold S10 at h
      by_cases c : i < S9.length
      · rw [List.getElem?_append_left c] at h
        obtain ⟨a, h1, h2⟩ := hv.2 i p h
        exact ⟨a, by rw [List.getElem?_append_left (by rw [hv.1]; exact c)]; exact h1, x7 _ _ (x6 _ _ (e5 _ _ (e4 _ _ (x3 _ _ h2))))⟩
      · rw [List.getElem?_append_right (by omega)] at h
        cases hd : i - S9.length with
        | zero =>
          rw [hd] at h
          cases h
          exact ⟨u, by rw [List.getElem?_append_right (by rw [hv.1]; omega), hv.1, hd]; rfl, x7 _ _ (x6 _ _ k5)⟩
        | succ k => rw [hd] at h; cases h
    obtain ⟨og, hog⟩ := (((hg3.ex e4).ex e5).ex x6).some
    have gl : pc ≠ g := fun z => by rw [z, hog] at hpc; cases hpc
    refine tcall_in (ta_consV (ev_var rfl) fun H8 e8 => ta_consV ev_c fun H9 e9 => ta_nil ⟨g, 10, _, rfl, (hg7.ex e8).ex e9, by decide, by decide, by decide, fun z1 H10 z10 z11 hg10 E10 => ?_⟩)
    obtain ⟨i1, rfl⟩ := Int.eq_ofNat_of_zero_le z10
    obtain ⟨⟨n, m, b⟩, hp⟩ : ∃ p, S10[i1]? = some p := ⟨_, List.getElem?_eq_getElem (show i1 < S10.length by show i1 < 10; omega)⟩
    obtain ⟨a1, ha1, ha2⟩ := hT i1 _ hp
    have e89 := e8.trans e9
    have ha3 := e89 _ _ ha2
    have an := Gs_ne ((hg7.ex e8).ex e9) ha3
    refine ⟨pc, _, _, .ref a1, rfl, rfl, sq_of (E10 _ _ gl (e89 _ _ upd_same)), atI_nat ha1, ?_⟩
    refine ⟨a1, _, rfl, st_of (E10 _ _ an ha3), rfl, _, _, rfl, _, _, rfl, _, _, rfl, rfl, ?_⟩
    obtain ⟨n1, m1, b1, hpn, hpm⟩ := ok_of (List.all_eq_true.mp okS10 _ (List.mem_of_getElem? hp))
    refine q_unless (tcall_in (ta_consV (ev_var rfl) fun H11 e11 => ta_consV (ev_var rfl) fun H12 e12 => ta_consV (ev_var rfl) fun H13 e13 => ta_nil ⟨n, m, b, rfl, n1, m1, b1, hpn, hpm, fun H14 e14 => unless_ok ?_⟩))
    have hg14 := (((hg10.ex e11).ex e12).ex e13).ex e14
    clear hp ha1 ha2 ha3 an n1 m1 b1 hpn hpm hT
    -- greater ones
    refine q_par3 (ta_in (draw_use (n := 40) (ev_var rfl) ev_c hg14 (by decide) (by decide) (by decide) fun z2 H15 z20 z21 hg15 E15 => ta_in (draw_use (n := 40) (ev_var rfl) ev_c hg15 (by decide) (by decide) (by decide) fun z3 H16 z30 z31 hg16 E16 => ta_in (draw_use (n := 30) (ev_var rfl) ev_c hg16 (by decide) (by decide) (by decide) fun z4 H17 z40 z41 hg17 E17 => ta_nil ⟨_, _, _, rfl, ?_⟩))))
    obtain ⟨n', rfl⟩ := Int.eq_ofNat_of_zero_le z20
    obtain ⟨m', rfl⟩ := Int.eq_ofNat_of_zero_le z30
    obtain ⟨b', rfl⟩ := Int.eq_ofNat_of_zero_le z40
    refine q_asg (ev_call (ea_cons (ev_var rfl) (ea_cons (ev_var rfl) (ea_cons (ev_var rfl) ea_nil))) (spv fun H8 e8 Q q E => ⟨n', m', b', rfl, by omega, by omega, by omega, q⟩)) fun H18 e18 => ?_
    refine q_unless (tcall_in (ta_consV (ev_var rfl) fun H19 e19 => ta_consV (ev_var rfl) fun H20 e20 => ta_consV (ev_var rfl) fun H21 e21 => ta_consV (ev_var rfl) fun H22 e22 => ta_nil ⟨n', m', b', rfl, by omega, by omega, by omega, fun H23 e23 => unless_ok ?_⟩))
    have hg23 := (((((hg17.ex e18).ex e19).ex e20).ex e21).ex e22).ex e23
    -- drawn rows gain no more
    refine q_forR1 (n := 3) (ea_cons ev_c ea_nil) (by decide)
      (fun i σ' H' => ∃ y7, σ' = [some (.ref a), some (.ref g), some (.ref pl), some (.int (n' : Int)), some (.int (m' : Int)), some (.int (b' : Int)), some (.int (M47.mg n' m' b')), y7, none, none] ∧ Gs H' g (100000 + 1000 * i))
      (fun H24 e24 => ⟨none, rfl, (hg23.ex e24).mono (by omega)⟩) (fun i σ' H' hi hP => ?_) (fun σ' H' hP => ?_)
    · obtain ⟨y7, rfl, hg⟩ := hP
      refine tcall_in (ta_in (tcall_in (ta_consV (ev_var rfl) fun H25 e25 => ta_consV (ev_var rfl) fun H26 e26 => ta_consV (ev_var rfl) fun H27 e27 => ta_nil ⟨g, n', b', _, rfl, ((hg.ex e25).ex e26).ex e27, by omega, by omega, by omega, fun p1 f1 H28 hp1 F1 l1 B1 hg28 E28 => ?_⟩)))
      refine ta_in (tcall_in (ta_consV (ev_var rfl) fun H29 e29 => ta_consV (ev_var rfl) fun H30 e30 => ta_consV (ev_var rfl) fun H31 e31 => ta_nil ⟨g, m', b', _, rfl, ((hg28.ex e29).ex e30).ex e31, by omega, by omega, by omega, fun p2' f2 H32 hp2' F2 l2 B2 hg32 E32 => ?_⟩))
      have n1 : p1 ≠ g := fun c => by
        obtain ⟨A, B, n, h1, _⟩ := hg28
        obtain ⟨A', B', n'', h1', _⟩ := ((hg.ex e25).ex e26).ex e27
        rw [c, h1'] at hp1
        cases hp1
      have F1' : Fo H32 p1 f1 := ⟨E32 _ _ n1 (((e29.trans e30).trans e31) _ _ F1.at_), F1.good, F1.len⟩
      refine ta_nil ⟨p1, p2', f1, f2, rfl, F1', F2, by omega, by omega, fun H33 e33 => ?_⟩
      have hgl := gain_le B1 B2 (by omega)
      rw [l1, l2] at hgl
      refine ⟨_, rfl, _, _, rfl, rfl, _, rfl, ?_⟩
      rw [decide_eq_false (by omega)]
      refine iteF ⟨_, rfl, (hg32.ex e33).mono (by omega)⟩
    · obtain ⟨y7, rfl, hg⟩ := hP
      -- halves
      refine q_in (top_in (el_use (el_lst (ea_cons ev_c (ea_cons ev_c (ea_cons ev_c (ea_cons ev_c (ea_cons ev_c (ea_cons ev_c (ea_cons ev_c (ea_cons ev_c ea_nil)))))))) (by show 8 ≤ 100000; decide)) fun pm H34 hpm e34 k34 => draw_use (n := 8) (ev_var rfl) ev_c (hg.ex e34) (by decide) (by decide) (by decide) fun z5 H35 z50 z51 hg35 E35 => ?_))
      obtain ⟨i5, rfl⟩ := Int.eq_ofNat_of_zero_le z50
      obtain ⟨M, hM, hMi⟩ := pick8 i5 (by omega)
      have nm : pm ≠ g := fun c => by
        obtain ⟨A, B, n, h1, _⟩ := hg
        rw [c, h1] at hpm
        cases hpm
      refine ⟨pm, _, _, .int (M : Int), rfl, rfl, sq_of (E35 _ _ nm k34), atI_nat hMi, ?_⟩
      refine q_in (top_in (tcall_in (ta_consV (ev_var rfl) fun H36 e36 => ta_consV (v := .int ((M / 2 : Nat) : Int)) (ev_is (ev_op (ev_var rfl) ev_c (rv_I ⟨by decide, by decide⟩)) (congrArg V.int (by omega))) fun H37 e37 => ta_consV ev_c fun H38 e38 => ta_nil ⟨g, M / 2, 9, _, rfl, ((hg35.ex e36).ex e37).ex e38, by omega, by decide, by omega, fun p3 f3 H39 hp3 F3 l3 B3 hg39 E39 => ?_⟩)))
      have hg38 := ((hg35.ex e36).ex e37).ex e38
      have n3 : p3 ≠ g := fun c => by
        obtain ⟨A', B', n'', h1', _⟩ := hg38
        rw [c, h1'] at hp3
        cases hp3
      refine tcall_in (ta_consV (ev_var rfl) fun H40 e40 => ta_consV (v := .int ((M - M / 2 : Nat) : Int)) (ev_is (ev_op (ev_var rfl) (ev_op (ev_var rfl) ev_c (rv_I ⟨by decide, by decide⟩)) rv_I0) (congrArg V.int (by omega))) fun H41 e41 => ta_consV ev_c fun H42 e42 => ta_nil ⟨g, M - M / 2, 4, _, rfl, ((hg39.ex e40).ex e41).ex e42, by omega, by decide, by omega, fun p4 f4 H43 hp4 F4 l4 B4 hg43 E43 => ?_⟩)
      have k3 := E43 _ _ n3 (((e40.trans e41).trans e42) _ _ F3.at_)
      refine ⟨p3, p4, _, _, rfl, rfl, k3, F4.at_, sz_of (by rw [List.length_map, List.length_map]; omega), fun pf hpf => ?_⟩
      have x44 := Ex.new (o := .lst (f3.map V.int ++ f4.map V.int)) hpf
      have Ff : Fo (upd H43 pf (.lst (f3.map V.int ++ f4.map V.int))) pf (f3 ++ f4) := ⟨by rw [upd_same, List.map_append], good_app F3.good F4.good, by rw [List.length_append]; omega⟩
      have hg44 := hg43.ex x44
      refine q_unless2 (tcall_in (ta_consV (ev_var rfl) fun H45 e45 => ta_in (draw_use (n := 7) (ev_var rfl) ev_c (hg44.ex e45) (by omega) (by decide) (by decide) fun z6 H46 z60 z61 hg46 E46 => ?_)))
      obtain ⟨i6, rfl⟩ := Int.eq_ofNat_of_zero_le z60
      have nf : pf ≠ g := fun c => by
        obtain ⟨A', B', n'', h1', _⟩ := hg43
        rw [c, h1'] at hpf
        cases hpf
      refine ta_nil ⟨pf, _, i6, rfl, ⟨E46 _ _ nf (e45 _ _ Ff.at_), Ff.good, Ff.len⟩, by omega, fun H47 e47 => ⟨true, rfl, ?_⟩⟩
      rw [if_neg (by decide)]
      refine tcall_in (ta_consL (el_lst ea_nil (by decide)) fun pe H48 hpe e48 k48 => ta_consV ev_c fun H49 e49 => ta_nil ⟨pe, [], 3, rfl, ⟨e49 _ _ k48, fun u hu => absurd hu List.not_mem_nil, by decide⟩, by decide, fun H50 e50 => ⟨true, rfl, ?_⟩⟩)
      rw [if_neg (by decide)]
      -- what is known
      have g4 : Good [0, 0, 7, 7] := fun u hu => by
        have : u = 0 ∨ u = 7 := by simpa using hu
        rcases this with rfl | rfl <;> decide
      unfold tNext
      dsimp only
      refine q_test (top_in (tl_lst (ta_in (tcall_in (ta_consL (xs := [V.int 0, V.int 0, V.int 7, V.int 7]) (el_lst (ea_cons ev_c (ea_cons ev_c (ea_cons ev_c (ea_cons ev_c ea_nil)))) (by show 4 ≤ 100000; decide)) fun l1 H51 hl1 e51 k51 => ta_consV ev_c fun H52 e52 => ta_nil ⟨l1, [0, 0, 7, 7], 2, rfl, ⟨e52 _ _ k51, g4, by decide⟩, by decide, fun r1 H53 hr1 e53 k53 => ?_⟩)))))
      refine ta_in (tcall_in (ta_consL (xs := [V.int 0, V.int 0, V.int 7, V.int 7]) (el_lst (ea_cons ev_c (ea_cons ev_c (ea_cons ev_c (ea_cons ev_c ea_nil)))) (by show 4 ≤ 100000; decide)) fun l2 H54 hl2 e54 k54 => ta_consV ev_c fun H55 e55 => ta_consV ev_c fun H56 e56 => ta_nil ⟨l2, [0, 0, 7, 7], 2, 5, rfl, ⟨e56 _ _ (e55 _ _ k54), g4, by decide⟩, by decide, by decide, by decide, fun k' m' F' => ?_⟩))
      obtain ⟨rfl, rfl⟩ := First.uniq F' first0077
      intro r2 H57 hr2 e57 k57
      refine ta_nil ⟨by show 2 ≤ sizeLine; decide, fun u1 hu1 => ?_⟩
      have x1 := Ex.new (o := .lst [V.ref r1, V.ref r2]) hu1
      refine tl_lst (ta_consL (xs := [V.int 14, V.int 10, V.int 10]) (el_lst (ea_cons ev_c (ea_cons ev_c (ea_cons ev_c ea_nil))) (by show 3 ≤ 100000; decide)) fun r3 H58 hr3 e58 k58 => ta_consU (xs := [V.int 0, V.int 19]) (eu_tup (ea_cons ev_c (ea_cons ev_c ea_nil)) (by show 2 ≤ 100000; decide)) fun r4 H59 hr4 e59 k59 => ta_nil ⟨by show 2 ≤ sizeLine; decide, fun u2 hu2 => ?_⟩)
      have x2 := Ex.new (o := .lst [V.ref r3, V.ref r4]) hu2
      have y := (e58.trans e59).trans x2
      rw [sums0077] at k53
      have k53 := y _ _ (x1 _ _ (e57 _ _ (e56 _ _ (e55 _ _ (e54 _ _ k53)))))
      have k57 := y _ _ (x1 _ _ k57)
      have km := y _ _ (upd_same (H := H57) (a := u1) (o := HO.lst [V.ref r1, V.ref r2]))
      have k58 := x2 _ _ (e59 _ _ k58)
      have k59 := x2 _ _ k59
      refine ⟨.list [.list ([V.int 14, V.int 10, V.int 10].map sD), .tuple ([V.int 0, V.int 19].map sD)], .list [.list ([V.int 14, V.int 10, V.int 10].map sD), .tuple ([V.int 0, V.int 19].map sD)],
        .lst (sq_of km) (.cons (.lst (sq_of k53) (dpAll_sc rfl)) (.cons (.tup (st_of k57) (dpAll_sc rfl)) .nil)), .lst (sq_of upd_same) (.cons (.lst (sq_of k58) (dpAll_sc rfl)) (.cons (.tup (st_of k59) (dpAll_sc rfl)) .nil)), by decide, by decide, false, by rw [SeqAt.eqv_refl _ (by decide)]; rfl, ?_⟩
      rw [if_neg (by decide)]
      unfold tNext
      dsimp only
      refine s_ret (ev_opLL (xs := [V.int 1, V.bl false, V.bl true]) (ys := [V.int 1, V.bl false, V.bl true]) (el_lst (ea_cons (ev_is (ev_call (ea_cons ev_c (ea_cons ev_c (ea_cons ev_c ea_nil))) (spv fun H8 e8 Q q E => ⟨1, 1, 2, rfl, by decide, by decide, by decide, q⟩)) (by rw [mg112])) (ea_cons (ev_is (ev_call (ea_cons ev_c (ea_cons ev_c (ea_cons ev_c (ea_cons ev_c ea_nil)))) (spv fun H8 e8 Q q E => ⟨1, 1, 2, 0, rfl, by decide, by decide, by decide, by decide, q⟩)) (by rw [mg112]; rfl)) (ea_cons (ev_is (ev_call (ea_cons ev_c (ea_cons ev_c (ea_cons ev_c (ea_cons ev_c ea_nil)))) (spv fun H8 e8 Q q E => ⟨1, 1, 2, 1, rfl, by decide, by decide, by decide, by decide, q⟩)) (by rw [mg112]; rfl)) ea_nil))) (by show 3 ≤ 100000; decide)) (el_lst (ea_cons ev_c (ea_cons ev_c (ea_cons ev_c ea_nil))) (by show 3 ≤ 100000; decide)) fun p q H8 hp hq _ => rv_eqLs (K := K) hp hq rfl) fun H9 e9 => q H9
end
end K47

set_option Elab.async false
set_option linter.all false
set_option maxRecDepth 100000
set_option maxHeartbeats 4000000
namespace K47
open PySem PySem.Spec PyProof.Rows L2 Evl WS M41 M47
theorem all_mk {l : PySem.W.OpenLaw} {w : World} {K : PySem.W.Frag} {h : Heap} {mg : Str → Option Value} {fa f1 f2 f3 f4 f5 f6 f7 f8 f9 f10 f11 f12 f13 f14 f15 f16 f17 f18 f19 f20 f21 f22 f23 f24 f25 f26 f27 f28 f29 f30 f31 : Addr} (X : K.In h) (G : h.Ns mainGlobals mg) (hfa : mg "law" = some (.ref fa))
    {od1 an1 od2 an2 od3 an3 od4 an4 od5 an5 od6 an6 od7 an7 od8 an8 od9 an9 od10 an10 od11 an11 od12 an12 od13 an13 od14 an14 od15 an15 od16 an16 od17 an17 od18 an18 od19 an19 od20 an20 od21 an21 od22 an22 od23 an23 od24 an24 od25 an25 od26 an26 od27 an27 od28 an28 od29 an29 od30 an30 od31 an31 : Option Addr} {sl1 sl2 sl3 sl4 sl5 sl6 sl7 sl8 sl9 sl10 sl11 sl12 sl13 sl14 sl15 sl16 sl17 sl18 sl19 sl20 sl21 sl22 sl23 sl24 sl25 sl26 sl27 sl28 sl29 sl30 sl31 : Array (Option Value)} {oc1 kV1 dc1 pm1 cd1 ct1 oc2 kV2 dc2 pm2 cd2 ct2 oc3 kV3 dc3 pm3 cd3 ct3 oc4 kV4 dc4 pm4 cd4 ct4 oc5 kV5 dc5 pm5 cd5 ct5 oc6 kV6 dc6 pm6 cd6 ct6 oc7 kV7 dc7 pm7 cd7 ct7 oc8 kV8 dc8 pm8 cd8 ct8 oc9 kV9 dc9 pm9 cd9 ct9 oc10 kV10 dc10 pm10 cd10 ct10 oc11 kV11 dc11 pm11 cd11 ct11 oc12 kV12 dc12 pm12 cd12 ct12 oc13 kV13 dc13 pm13 cd13 ct13 oc14 kV14 dc14 pm14 cd14 ct14 oc15 kV15 dc15 pm15 cd15 ct15 oc16 kV16 dc16 pm16 cd16 ct16 oc17 kV17 dc17 pm17 cd17 ct17 oc18 kV18 dc18 pm18 cd18 ct18 oc19 kV19 dc19 pm19 cd19 ct19 oc20 kV20 dc20 pm20 cd20 ct20 oc21 kV21 dc21 pm21 cd21 ct21 oc22 kV22 dc22 pm22 cd22 ct22 oc23 kV23 dc23 pm23 cd23 ct23 oc24 kV24 dc24 pm24 cd24 ct24 oc25 kV25 dc25 pm25 cd25 ct25 oc26 kV26 dc26 pm26 cd26 ct26 oc27 kV27 dc27 pm27 cd27 ct27 oc28 kV28 dc28 pm28 cd28 ct28 oc29 kV29 dc29 pm29 cd29 ct29 oc30 kV30 dc30 pm30 cd30 ct30 oc31 kV31 dc31 pm31 cd31 ct31 : Value}
    {t_GREATEST_WIDTH : Tok}
    (a1 : PySem.W.nsIn K mainGlobals "is_number" = some (some (.ref f1)))
    (l1 : K.lookup f1 = some ⟨oc1, od1, .func (PySem.W.fnOf "is_number" "is_number" (defArgs s_is_number) (defBody s_is_number) (defScope s_is_number) .none kV1 dc1 pm1 an1 cd1 ct1), sl1⟩)
    (e1 : PySem.W.codeIn K cd1 "is_number" = true)
    (k1 : PySem.W.keepIn K (.ref f1) = true)
    (a2 : PySem.W.nsIn K mainGlobals "is_count" = some (some (.ref f2)))
    (l2 : K.lookup f2 = some ⟨oc2, od2, .func (PySem.W.fnOf "is_count" "is_count" (defArgs s_is_count) (defBody s_is_count) (defScope s_is_count) .none kV2 dc2 pm2 an2 cd2 ct2), sl2⟩)
    (e2 : PySem.W.codeIn K cd2 "is_count" = true)
    (k2 : PySem.W.keepIn K (.ref f2) = true)
    (a3 : PySem.W.nsIn K mainGlobals "is_counts" = some (some (.ref f3)))
    (l3 : K.lookup f3 = some ⟨oc3, od3, .func (PySem.W.fnOf "is_counts" "is_counts" (defArgs s_is_counts) (defBody s_is_counts) (defScope s_is_counts) .none kV3 dc3 pm3 an3 cd3 ct3), sl3⟩)
    (e3 : PySem.W.codeIn K cd3 "is_counts" = true)
    (k3 : PySem.W.keepIn K (.ref f3) = true)
    (a4 : PySem.W.nsIn K mainGlobals "check_from" = some (some (.ref f4)))
    (l4 : K.lookup f4 = some ⟨oc4, od4, .func (PySem.W.fnOf "check_from" "check_from" (defArgs s_check_from) (defBody s_check_from) (defScope s_check_from) .none kV4 dc4 pm4 an4 cd4 ct4), sl4⟩)
    (e4 : PySem.W.codeIn K cd4 "check_from" = true)
    (k4 : PySem.W.keepIn K (.ref f4) = true)
    (a5 : PySem.W.nsIn K mainGlobals "check_count" = some (some (.ref f5)))
    (l5 : K.lookup f5 = some ⟨oc5, od5, .func (PySem.W.fnOf "check_count" "check_count" (defArgs s_check_count) (defBody s_check_count) (defScope s_check_count) .none kV5 dc5 pm5 an5 cd5 ct5), sl5⟩)
    (e5 : PySem.W.codeIn K cd5 "check_count" = true)
    (k5 : PySem.W.keepIn K (.ref f5) = true)
    (a6 : PySem.W.nsIn K mainGlobals "check_folds" = some (some (.ref f6)))
    (l6 : K.lookup f6 = some ⟨oc6, od6, .func (PySem.W.fnOf "check_folds" "check_folds" (defArgs s_check_folds) (defBody s_check_folds) (defScope s_check_folds) .none kV6 dc6 pm6 an6 cd6 ct6), sl6⟩)
    (e6 : PySem.W.codeIn K cd6 "check_folds" = true)
    (k6 : PySem.W.keepIn K (.ref f6) = true)
    (a7 : PySem.W.nsIn K mainGlobals "cost_at" = some (some (.ref f7)))
    (l7 : K.lookup f7 = some ⟨oc7, od7, .func (PySem.W.fnOf "cost_at" "cost_at" (defArgs s_cost_at) (defBody s_cost_at) (defScope s_cost_at) .none kV7 dc7 pm7 an7 cd7 ct7), sl7⟩)
    (e7 : PySem.W.codeIn K cd7 "cost_at" = true)
    (k7 : PySem.W.keepIn K (.ref f7) = true)
    (a8 : PySem.W.nsIn K mainGlobals "best_widths" = some (some (.ref f8)))
    (l8 : K.lookup f8 = some ⟨oc8, od8, .func (PySem.W.fnOf "best_widths" "best_widths" (defArgs s_best_widths) (defBody s_best_widths) (defScope s_best_widths) .none kV8 dc8 pm8 an8 cd8 ct8), sl8⟩)
    (e8 : PySem.W.codeIn K cd8 "best_widths" = true)
    (k8 : PySem.W.keepIn K (.ref f8) = true)
    (a9 : PySem.W.nsIn K mainGlobals "rise" = some (some (.ref f9)))
    (l9 : K.lookup f9 = some ⟨oc9, od9, .func (PySem.W.fnOf "rise" "rise" (defArgs s_rise) (defBody s_rise) (defScope s_rise) .none kV9 dc9 pm9 an9 cd9 ct9), sl9⟩)
    (e9 : PySem.W.codeIn K cd9 "rise" = true)
    (k9 : PySem.W.keepIn K (.ref f9) = true)
    (a10 : PySem.W.nsIn K mainGlobals "gain_beside" = some (some (.ref f10)))
    (l10 : K.lookup f10 = some ⟨oc10, od10, .func (PySem.W.fnOf "gain_beside" "gain_beside" (defArgs s_gain_beside) (defBody s_gain_beside) (defScope s_gain_beside) .none kV10 dc10 pm10 an10 cd10 ct10), sl10⟩)
    (e10 : PySem.W.codeIn K cd10 "gain_beside" = true)
    (k10 : PySem.W.keepIn K (.ref f10) = true)
    (a11 : PySem.W.nsIn K mainGlobals "greatest_gain" = some (some (.ref f11)))
    (l11 : K.lookup f11 = some ⟨oc11, od11, .func (PySem.W.fnOf "greatest_gain" "greatest_gain" (defArgs s_greatest_gain) (defBody s_greatest_gain) (defScope s_greatest_gain) .none kV11 dc11 pm11 an11 cd11 ct11), sl11⟩)
    (e11 : PySem.W.codeIn K cd11 "greatest_gain" = true)
    (k11 : PySem.W.keepIn K (.ref f11) = true)
    (a12 : PySem.W.nsIn K mainGlobals "check_rows" = some (some (.ref f12)))
    (l12 : K.lookup f12 = some ⟨oc12, od12, .func (PySem.W.fnOf "check_rows" "check_rows" (defArgs s_check_rows) (defBody s_check_rows) (defScope s_check_rows) .none kV12 dc12 pm12 an12 cd12 ct12), sl12⟩)
    (e12 : PySem.W.codeIn K cd12 "check_rows" = true)
    (k12 : PySem.W.keepIn K (.ref f12) = true)
    (a13 : PySem.W.nsIn K mainGlobals "most_gained" = some (some (.ref f13)))
    (l13 : K.lookup f13 = some ⟨oc13, od13, .func (PySem.W.fnOf "most_gained" "most_gained" (defArgs s_most_gained) (defBody s_most_gained) (defScope s_most_gained) .none kV13 dc13 pm13 an13 cd13 ct13), sl13⟩)
    (e13 : PySem.W.codeIn K cd13 "most_gained" = true)
    (k13 : PySem.W.keepIn K (.ref f13) = true)
    (a14 : PySem.W.nsIn K mainGlobals "gain_rows" = some (some (.ref f14)))
    (l14 : K.lookup f14 = some ⟨oc14, od14, .func (PySem.W.fnOf "gain_rows" "gain_rows" (defArgs s_gain_rows) (defBody s_gain_rows) (defScope s_gain_rows) .none kV14 dc14 pm14 an14 cd14 ct14), sl14⟩)
    (e14 : PySem.W.codeIn K cd14 "gain_rows" = true)
    (k14 : PySem.W.keepIn K (.ref f14) = true)
    (a15 : PySem.W.nsIn K mainGlobals "never_pays" = some (some (.ref f15)))
    (l15 : K.lookup f15 = some ⟨oc15, od15, .func (PySem.W.fnOf "never_pays" "never_pays" (defArgs s_never_pays) (defBody s_never_pays) (defScope s_never_pays) .none kV15 dc15 pm15 an15 cd15 ct15), sl15⟩)
    (e15 : PySem.W.codeIn K cd15 "never_pays" = true)
    (k15 : PySem.W.keepIn K (.ref f15) = true)
    (a16 : PySem.W.nsIn K mainGlobals "halves" = some (some (.ref f16)))
    (l16 : K.lookup f16 = some ⟨oc16, od16, .func (PySem.W.fnOf "halves" "halves" (defArgs s_halves) (defBody s_halves) (defScope s_halves) .none kV16 dc16 pm16 an16 cd16 ct16), sl16⟩)
    (e16 : PySem.W.codeIn K cd16 "halves" = true)
    (k16 : PySem.W.keepIn K (.ref f16) = true)
    (a17 : PySem.W.nsIn K mainGlobals "halved_sums" = some (some (.ref f17)))
    (l17 : K.lookup f17 = some ⟨oc17, od17, .func (PySem.W.fnOf "halved_sums" "halved_sums" (defArgs s_halved_sums) (defBody s_halved_sums) (defScope s_halved_sums) .none kV17 dc17 pm17 an17 cd17 ct17), sl17⟩)
    (e17 : PySem.W.codeIn K cd17 "halved_sums" = true)
    (k17 : PySem.W.keepIn K (.ref f17) = true)
    (a18 : PySem.W.nsIn K mainGlobals "least_half" = some (some (.ref f18)))
    (l18 : K.lookup f18 = some ⟨oc18, od18, .func (PySem.W.fnOf "least_half" "least_half" (defArgs s_least_half) (defBody s_least_half) (defScope s_least_half) .none kV18 dc18 pm18 an18 cd18 ct18), sl18⟩)
    (e18 : PySem.W.codeIn K cd18 "least_half" = true)
    (k18 : PySem.W.keepIn K (.ref f18) = true)
    (a19 : PySem.W.nsIn K mainGlobals "_law_cell" = some (some (.ref f19)))
    (l19 : K.lookup f19 = some ⟨oc19, od19, .func (PySem.W.fnOf "_law_cell" "_law_cell" (defArgs s__law_cell) (defBody s__law_cell) (defScope s__law_cell) .none kV19 dc19 pm19 an19 cd19 ct19), sl19⟩)
    (e19 : PySem.W.codeIn K cd19 "_law_cell" = true)
    (k19 : PySem.W.keepIn K (.ref f19) = true)
    (a20 : PySem.W.nsIn K mainGlobals "_law_hash" = some (some (.ref f20)))
    (l20 : K.lookup f20 = some ⟨oc20, od20, .func (PySem.W.fnOf "_law_hash" "_law_hash" (defArgs s__law_hash) (defBody s__law_hash) (defScope s__law_hash) .none kV20 dc20 pm20 an20 cd20 ct20), sl20⟩)
    (e20 : PySem.W.codeIn K cd20 "_law_hash" = true)
    (k20 : PySem.W.keepIn K (.ref f20) = true)
    (a21 : PySem.W.nsIn K mainGlobals "_law_generator" = some (some (.ref f21)))
    (l21 : K.lookup f21 = some ⟨oc21, od21, .func (PySem.W.fnOf "_law_generator" "_law_generator" (defArgs s__law_generator) (defBody s__law_generator) (defScope s__law_generator) .none kV21 dc21 pm21 an21 cd21 ct21), sl21⟩)
    (e21 : PySem.W.codeIn K cd21 "_law_generator" = true)
    (k21 : PySem.W.keepIn K (.ref f21) = true)
    (a22 : PySem.W.nsIn K mainGlobals "_law_random" = some (some (.ref f22)))
    (l22 : K.lookup f22 = some ⟨oc22, od22, .func (PySem.W.fnOf "_law_random" "_law_random" (defArgs s__law_random) (defBody s__law_random) (defScope s__law_random) .none kV22 dc22 pm22 an22 cd22 ct22), sl22⟩)
    (e22 : PySem.W.codeIn K cd22 "_law_random" = true)
    (k22 : PySem.W.keepIn K (.ref f22) = true)
    (a23 : PySem.W.nsIn K mainGlobals "_law_price" = some (some (.ref f23)))
    (l23 : K.lookup f23 = some ⟨oc23, od23, .func (PySem.W.fnOf "_law_price" "_law_price" (defArgs s__law_price) (defBody s__law_price) (defScope s__law_price) .none kV23 dc23 pm23 an23 cd23 ct23), sl23⟩)
    (e23 : PySem.W.codeIn K cd23 "_law_price" = true)
    (k23 : PySem.W.keepIn K (.ref f23) = true)
    (a24 : PySem.W.nsIn K mainGlobals "_law_below" = some (some (.ref f24)))
    (l24 : K.lookup f24 = some ⟨oc24, od24, .func (PySem.W.fnOf "_law_below" "_law_below" (defArgs s__law_below) (defBody s__law_below) (defScope s__law_below) .none kV24 dc24 pm24 an24 cd24 ct24), sl24⟩)
    (e24 : PySem.W.codeIn K cd24 "_law_below" = true)
    (k24 : PySem.W.keepIn K (.ref f24) = true)
    (a25 : PySem.W.nsIn K mainGlobals "_law_least_price" = some (some (.ref f25)))
    (l25 : K.lookup f25 = some ⟨oc25, od25, .func (PySem.W.fnOf "_law_least_price" "_law_least_price" (defArgs s__law_least_price) (defBody s__law_least_price) (defScope s__law_least_price) .none kV25 dc25 pm25 an25 cd25 ct25), sl25⟩)
    (e25 : PySem.W.codeIn K cd25 "_law_least_price" = true)
    (k25 : PySem.W.keepIn K (.ref f25) = true)
    (a26 : PySem.W.nsIn K mainGlobals "_law_gain" = some (some (.ref f26)))
    (l26 : K.lookup f26 = some ⟨oc26, od26, .func (PySem.W.fnOf "_law_gain" "_law_gain" (defArgs s__law_gain) (defBody s__law_gain) (defScope s__law_gain) .none kV26 dc26 pm26 an26 cd26 ct26), sl26⟩)
    (e26 : PySem.W.codeIn K cd26 "_law_gain" = true)
    (k26 : PySem.W.keepIn K (.ref f26) = true)
    (a27 : PySem.W.nsIn K mainGlobals "_law_rows_right" = some (some (.ref f27)))
    (l27 : K.lookup f27 = some ⟨oc27, od27, .func (PySem.W.fnOf "_law_rows_right" "_law_rows_right" (defArgs s__law_rows_right) (defBody s__law_rows_right) (defScope s__law_rows_right) .none kV27 dc27 pm27 an27 cd27 ct27), sl27⟩)
    (e27 : PySem.W.codeIn K cd27 "_law_rows_right" = true)
    (k27 : PySem.W.keepIn K (.ref f27) = true)
    (a28 : PySem.W.nsIn K mainGlobals "_law_small_right" = some (some (.ref f28)))
    (l28 : K.lookup f28 = some ⟨oc28, od28, .func (PySem.W.fnOf "_law_small_right" "_law_small_right" (defArgs s__law_small_right) (defBody s__law_small_right) (defScope s__law_small_right) .none kV28 dc28 pm28 an28 cd28 ct28), sl28⟩)
    (e28 : PySem.W.codeIn K cd28 "_law_small_right" = true)
    (k28 : PySem.W.keepIn K (.ref f28) = true)
    (a29 : PySem.W.nsIn K mainGlobals "_law_drawn" = some (some (.ref f29)))
    (l29 : K.lookup f29 = some ⟨oc29, od29, .func (PySem.W.fnOf "_law_drawn" "_law_drawn" (defArgs s__law_drawn) (defBody s__law_drawn) (defScope s__law_drawn) .none kV29 dc29 pm29 an29 cd29 ct29), sl29⟩)
    (e29 : PySem.W.codeIn K cd29 "_law_drawn" = true)
    (k29 : PySem.W.keepIn K (.ref f29) = true)
    (a30 : PySem.W.nsIn K mainGlobals "_law_halves_right" = some (some (.ref f30)))
    (l30 : K.lookup f30 = some ⟨oc30, od30, .func (PySem.W.fnOf "_law_halves_right" "_law_halves_right" (defArgs s__law_halves_right) (defBody s__law_halves_right) (defScope s__law_halves_right) .none kV30 dc30 pm30 an30 cd30 ct30), sl30⟩)
    (e30 : PySem.W.codeIn K cd30 "_law_halves_right" = true)
    (k30 : PySem.W.keepIn K (.ref f30) = true)
    (a31 : PySem.W.nsIn K mainGlobals "law" = some (some (.ref f31)))
    (l31 : K.lookup f31 = some ⟨oc31, od31, .func (PySem.W.fnOf "law" "law" (defArgs s_law) (defBody s_law) (defScope s_law) .none kV31 dc31 pm31 an31 cd31 ct31), sl31⟩)
    (e31 : PySem.W.codeIn K cd31 "law" = true)
    (k31 : PySem.W.keepIn K (.ref f31) = true)
    (c_GREATEST_WIDTH : PySem.W.nsIn K mainGlobals "GREATEST_WIDTH" = some (some (.int 120 t_GREATEST_WIDTH)))
    (z_all : PySem.W.nsIn K mainGlobals "all" = some none)
    (z_bool : PySem.W.nsIn K mainGlobals "bool" = some none)
    (z_enumerate : PySem.W.nsIn K mainGlobals "enumerate" = some none)
    (z_int : PySem.W.nsIn K mainGlobals "int" = some none)
    (z_isinstance : PySem.W.nsIn K mainGlobals "isinstance" = some none)
    (z_len : PySem.W.nsIn K mainGlobals "len" = some none)
    (z_list : PySem.W.nsIn K mainGlobals "list" = some none)
    (z_max : PySem.W.nsIn K mainGlobals "max" = some none)
    (z_min : PySem.W.nsIn K mainGlobals "min" = some none)
    (z_range : PySem.W.nsIn K mainGlobals "range" = some none)
    (z_repr : PySem.W.nsIn K mainGlobals "repr" = some none)
    (z_sorted : PySem.W.nsIn K mainGlobals "sorted" = some none)
    (z_sum : PySem.W.nsIn K mainGlobals "sum" = some none) :
    ∃ fd : FuncData, (∀ (s : Shared) (v : Value), BindsTo s fd ⟨[v], []⟩ [("_law_script", v)]) ∧ ∀ base : Heap, K.In base → base.Ns mainGlobals mg → FnQ l.prog w K mg base 8 fa fd ["_law_script"] (sp_law K) := by
  have e := hfa.symm.trans (PySem.W.mg_of X G a31)
  cases e
  have F1 := fun_mk (st := s_is_number) l1 e1 k1
  have b1 := F1.binds (ps := ["value"]) fun _ _ _ _ _ _ us hl => match us, hl with | [_], _ => rfl
  have F2 := fun_mk (st := s_is_count) l2 e2 k2
  have b2 := F2.binds (ps := ["value"]) fun _ _ _ _ _ _ us hl => match us, hl with | [_], _ => rfl
  have F3 := fun_mk (st := s_is_counts) l3 e3 k3
  have b3 := F3.binds (ps := ["value"]) fun _ _ _ _ _ _ us hl => match us, hl with | [_], _ => rfl
  have F4 := fun_mk (st := s_check_from) l4 e4 k4
  have b4 := F4.binds (ps := ["number", "low"]) fun _ _ _ _ _ _ us hl => match us, hl with | [_, _], _ => rfl
  have F5 := fun_mk (st := s_check_count) l5 e5 k5
  have b5 := F5.binds (ps := ["number"]) fun _ _ _ _ _ _ us hl => match us, hl with | [_], _ => rfl
  have F6 := fun_mk (st := s_check_folds) l6 e6 k6
  have b6 := F6.binds (ps := ["folds"]) fun _ _ _ _ _ _ us hl => match us, hl with | [_], _ => rfl
  have F7 := fun_mk (st := s_cost_at) l7 e7 k7
  have b7 := F7.binds (ps := ["folds", "width"]) fun _ _ _ _ _ _ us hl => match us, hl with | [_, _], _ => rfl
  have F8 := fun_mk (st := s_best_widths) l8 e8 k8
  have b8 := F8.binds (ps := ["folds"]) fun _ _ _ _ _ _ us hl => match us, hl with | [_], _ => rfl
  have F9 := fun_mk (st := s_rise) l9 e9 k9
  have b9 := F9.binds (ps := ["folds", "width"]) fun _ _ _ _ _ _ us hl => match us, hl with | [_, _], _ => rfl
  have F10 := fun_mk (st := s_gain_beside) l10 e10 k10
  have b10 := F10.binds (ps := ["noughts", "full", "bits"]) fun _ _ _ _ _ _ us hl => match us, hl with | [_, _, _], _ => rfl
  have F11 := fun_mk (st := s_greatest_gain) l11 e11 k11
  have b11 := F11.binds (ps := ["one", "other", "bits"]) fun _ _ _ _ _ _ us hl => match us, hl with | [_, _, _], _ => rfl
  have F12 := fun_mk (st := s_check_rows) l12 e12 k12
  have b12 := F12.binds (ps := ["one", "other", "bits"]) fun _ _ _ _ _ _ us hl => match us, hl with | [_, _, _], _ => rfl
  have F13 := fun_mk (st := s_most_gained) l13 e13 k13
  have b13 := F13.binds (ps := ["one", "other", "bits"]) fun _ _ _ _ _ _ us hl => match us, hl with | [_, _, _], _ => rfl
  have F14 := fun_mk (st := s_gain_rows) l14 e14 k14
  have b14 := F14.binds (ps := ["one", "other", "bits"]) fun _ _ _ _ _ _ us hl => match us, hl with | [_, _, _], _ => rfl
  have F15 := fun_mk (st := s_never_pays) l15 e15 k15
  have b15 := F15.binds (ps := ["one", "other", "bits", "cost"]) fun _ _ _ _ _ _ us hl => match us, hl with | [_, _, _, _], _ => rfl
  have F16 := fun_mk (st := s_halves) l16 e16 k16
  have b16 := F16.binds (ps := ["folds", "most"]) fun _ _ _ _ _ _ us hl => match us, hl with | [_, _], _ => rfl
  have F17 := fun_mk (st := s_halved_sums) l17 e17 k17
  have b17 := F17.binds (ps := ["folds", "most"]) fun _ _ _ _ _ _ us hl => match us, hl with | [_, _], _ => rfl
  have F18 := fun_mk (st := s_least_half) l18 e18 k18
  have b18 := F18.binds (ps := ["folds", "most", "cost"]) fun _ _ _ _ _ _ us hl => match us, hl with | [_, _, _], _ => rfl
  have F19 := fun_mk (st := s__law_cell) l19 e19 k19
  have b19 := F19.binds (ps := ["_law_script", "_law_index"]) fun _ _ _ _ _ _ us hl => match us, hl with | [_, _], _ => rfl
  have F20 := fun_mk (st := s__law_hash) l20 e20 k20
  have b20 := F20.binds (ps := ["_law_seed", "_law_index"]) fun _ _ _ _ _ _ us hl => match us, hl with | [_, _], _ => rfl
  have F21 := fun_mk (st := s__law_generator) l21 e21 k21
  have b21 := F21.binds (ps := ["_law_script", "_law_index"]) fun _ _ _ _ _ _ us hl => match us, hl with | [_, _], _ => rfl
  have F22 := fun_mk (st := s__law_random) l22 e22 k22
  have b22 := F22.binds (ps := ["_law_generator_here", "_law_bound"]) fun _ _ _ _ _ _ us hl => match us, hl with | [_, _], _ => rfl
  have F23 := fun_mk (st := s__law_price) l23 e23 k23
  have b23 := F23.binds (ps := ["_law_folds", "_law_width"]) fun _ _ _ _ _ _ us hl => match us, hl with | [_, _], _ => rfl
  have F24 := fun_mk (st := s__law_below) l24 e24 k24
  have b24 := F24.binds (ps := ["_law_many", "_law_top"]) fun _ _ _ _ _ _ us hl => match us, hl with | [_, _], _ => rfl
  have F25 := fun_mk (st := s__law_least_price) l25 e25 k25
  have b25 := F25.binds (ps := ["_law_folds"]) fun _ _ _ _ _ _ us hl => match us, hl with | [_], _ => rfl
  have F26 := fun_mk (st := s__law_gain) l26 e26 k26
  have b26 := F26.binds (ps := ["_law_one", "_law_other"]) fun _ _ _ _ _ _ us hl => match us, hl with | [_, _], _ => rfl
  have F27 := fun_mk (st := s__law_rows_right) l27 e27 k27
  have b27 := F27.binds (ps := ["_law_one", "_law_other", "_law_bits", "_law_most"]) fun _ _ _ _ _ _ us hl => match us, hl with | [_, _, _, _], _ => rfl
  have F28 := fun_mk (st := s__law_small_right) l28 e28 k28
  have b28 := F28.binds (ps := ["_law_one", "_law_other", "_law_bits"]) fun _ _ _ _ _ _ us hl => match us, hl with | [_, _, _], _ => rfl
  have F29 := fun_mk (st := s__law_drawn) l29 e29 k29
  have b29 := F29.binds (ps := ["_law_generator_here", "_law_many", "_law_bits"]) fun _ _ _ _ _ _ us hl => match us, hl with | [_, _, _], _ => rfl
  have F30 := fun_mk (st := s__law_halves_right) l30 e30 k30
  have b30 := F30.binds (ps := ["_law_folds", "_law_most"]) fun _ _ _ _ _ _ us hl => match us, hl with | [_, _], _ => rfl
  have F31 := fun_mk (st := s_law) l31 e31 k31
  have b31 := F31.binds (ps := ["_law_script"]) fun _ _ _ _ _ _ us hl => match us, hl with | [_], _ => rfl
  exact ⟨_, fun s v => .of_eq rfl, fun base _ _ => ok_law { a_is_number := f1, d_is_number := _, f_is_number := F1, b_is_number := b1, g_is_number := PySem.W.mg_of X G a1, a_is_count := f2, d_is_count := _, f_is_count := F2, b_is_count := b2, g_is_count := PySem.W.mg_of X G a2, a_is_counts := f3, d_is_counts := _, f_is_counts := F3, b_is_counts := b3, g_is_counts := PySem.W.mg_of X G a3, a_check_from := f4, d_check_from := _, f_check_from := F4, b_check_from := b4, g_check_from := PySem.W.mg_of X G a4, a_check_count := f5, d_check_count := _, f_check_count := F5, b_check_count := b5, g_check_count := PySem.W.mg_of X G a5, a_check_folds := f6, d_check_folds := _, f_check_folds := F6, b_check_folds := b6, g_check_folds := PySem.W.mg_of X G a6, a_cost_at := f7, d_cost_at := _, f_cost_at := F7, b_cost_at := b7, g_cost_at := PySem.W.mg_of X G a7, a_best_widths := f8, d_best_widths := _, f_best_widths := F8, b_best_widths := b8, g_best_widths := PySem.W.mg_of X G a8, a_rise := f9, d_rise := _, f_rise := F9, b_rise := b9, g_rise := PySem.W.mg_of X G a9, a_gain_beside := f10, d_gain_beside := _, f_gain_beside := F10, b_gain_beside := b10, g_gain_beside := PySem.W.mg_of X G a10, a_greatest_gain := f11, d_greatest_gain := _, f_greatest_gain := F11, b_greatest_gain := b11, g_greatest_gain := PySem.W.mg_of X G a11, a_check_rows := f12, d_check_rows := _, f_check_rows := F12, b_check_rows := b12, g_check_rows := PySem.W.mg_of X G a12, a_most_gained := f13, d_most_gained := _, f_most_gained := F13, b_most_gained := b13, g_most_gained := PySem.W.mg_of X G a13, a_gain_rows := f14, d_gain_rows := _, f_gain_rows := F14, b_gain_rows := b14, g_gain_rows := PySem.W.mg_of X G a14, a_never_pays := f15, d_never_pays := _, f_never_pays := F15, b_never_pays := b15, g_never_pays := PySem.W.mg_of X G a15, a_halves := f16, d_halves := _, f_halves := F16, b_halves := b16, g_halves := PySem.W.mg_of X G a16, a_halved_sums := f17, d_halved_sums := _, f_halved_sums := F17, b_halved_sums := b17, g_halved_sums := PySem.W.mg_of X G a17, a_least_half := f18, d_least_half := _, f_least_half := F18, b_least_half := b18, g_least_half := PySem.W.mg_of X G a18, a__law_cell := f19, d__law_cell := _, f__law_cell := F19, b__law_cell := b19, g__law_cell := PySem.W.mg_of X G a19, a__law_hash := f20, d__law_hash := _, f__law_hash := F20, b__law_hash := b20, g__law_hash := PySem.W.mg_of X G a20, a__law_generator := f21, d__law_generator := _, f__law_generator := F21, b__law_generator := b21, g__law_generator := PySem.W.mg_of X G a21, a__law_random := f22, d__law_random := _, f__law_random := F22, b__law_random := b22, g__law_random := PySem.W.mg_of X G a22, a__law_price := f23, d__law_price := _, f__law_price := F23, b__law_price := b23, g__law_price := PySem.W.mg_of X G a23, a__law_below := f24, d__law_below := _, f__law_below := F24, b__law_below := b24, g__law_below := PySem.W.mg_of X G a24, a__law_least_price := f25, d__law_least_price := _, f__law_least_price := F25, b__law_least_price := b25, g__law_least_price := PySem.W.mg_of X G a25, a__law_gain := f26, d__law_gain := _, f__law_gain := F26, b__law_gain := b26, g__law_gain := PySem.W.mg_of X G a26, a__law_rows_right := f27, d__law_rows_right := _, f__law_rows_right := F27, b__law_rows_right := b27, g__law_rows_right := PySem.W.mg_of X G a27, a__law_small_right := f28, d__law_small_right := _, f__law_small_right := F28, b__law_small_right := b28, g__law_small_right := PySem.W.mg_of X G a28, a__law_drawn := f29, d__law_drawn := _, f__law_drawn := F29, b__law_drawn := b29, g__law_drawn := PySem.W.mg_of X G a29, a__law_halves_right := f30, d__law_halves_right := _, f__law_halves_right := F30, b__law_halves_right := b30, g__law_halves_right := PySem.W.mg_of X G a30, a_law := fa, d_law := _, f_law := F31, b_law := b31, g_law := PySem.W.mg_of X G a31, t_GREATEST_WIDTH := t_GREATEST_WIDTH, c_GREATEST_WIDTH := PySem.W.mg_of X G c_GREATEST_WIDTH, m_all := PySem.W.mg_none_of X G z_all, m_bool := PySem.W.mg_none_of X G z_bool, m_enumerate := PySem.W.mg_none_of X G z_enumerate, m_int := PySem.W.mg_none_of X G z_int, m_isinstance := PySem.W.mg_none_of X G z_isinstance, m_len := PySem.W.mg_none_of X G z_len, m_list := PySem.W.mg_none_of X G z_list, m_max := PySem.W.mg_none_of X G z_max, m_min := PySem.W.mg_none_of X G z_min, m_range := PySem.W.mg_none_of X G z_range, m_repr := PySem.W.mg_none_of X G z_repr, m_sorted := PySem.W.mg_none_of X G z_sorted, m_sum := PySem.W.mg_none_of X G z_sum }⟩
end K47
open PySem PySem.W PyProof.Rows
set_option maxHeartbeats 0 in
theorem PySem.Challenge.cw_wholesound_k47_gains_and_halves_holds : PySem.Challenge.rw_wholesound_k47_gains_and_halves.Holds := by
  w_on; o_law; k_head; (case hw => w_witness2)
  k_fill
  refine WS.walk_ofQ (l := PySem.Challenge.rw_wholesound_k47_gains_and_halves) (n := 63) (k := 8) (x := "_law_script") (sp := fun w => K47.sp_law _) rfl (by decide) rfl ⟨rfl, by decide, by decide⟩ (fun w h Y => PySem.W.kIn_of Y) ?F (fun _ _ a ns hl _ hS => ⟨a, ns, rfl, hS, hl, fun _ => rfl⟩)
  case F =>
    intro w mg fa h KX G hmg
    refine' K47.all_mk KX G hmg ?a1 ?l1 ?e1 ?k1 ?a2 ?l2 ?e2 ?k2 ?a3 ?l3 ?e3 ?k3 ?a4 ?l4 ?e4 ?k4 ?a5 ?l5 ?e5 ?k5 ?a6 ?l6 ?e6 ?k6 ?a7 ?l7 ?e7 ?k7 ?a8 ?l8 ?e8 ?k8 ?a9 ?l9 ?e9 ?k9 ?a10 ?l10 ?e10 ?k10 ?a11 ?l11 ?e11 ?k11 ?a12 ?l12 ?e12 ?k12 ?a13 ?l13 ?e13 ?k13 ?a14 ?l14 ?e14 ?k14 ?a15 ?l15 ?e15 ?k15 ?a16 ?l16 ?e16 ?k16 ?a17 ?l17 ?e17 ?k17 ?a18 ?l18 ?e18 ?k18 ?a19 ?l19 ?e19 ?k19 ?a20 ?l20 ?e20 ?k20 ?a21 ?l21 ?e21 ?k21 ?a22 ?l22 ?e22 ?k22 ?a23 ?l23 ?e23 ?k23 ?a24 ?l24 ?e24 ?k24 ?a25 ?l25 ?e25 ?k25 ?a26 ?l26 ?e26 ?k26 ?a27 ?l27 ?e27 ?k27 ?a28 ?l28 ?e28 ?k28 ?a29 ?l29 ?e29 ?k29 ?a30 ?l30 ?e30 ?k30 ?a31 ?l31 ?e31 ?k31 ?c_GREATEST_WIDTH ?z_all ?z_bool ?z_enumerate ?z_int ?z_isinstance ?z_len ?z_list ?z_max ?z_min ?z_range ?z_repr ?z_sorted ?z_sum
    (case a1 => k_is); (case l1 => k_is); (case e1 => k_is); (case k1 => k_is); (case a2 => k_is); (case l2 => k_is)
    (case e2 => k_is); (case k2 => k_is); (case a3 => k_is); (case l3 => k_is); (case e3 => k_is); (case k3 => k_is)
    (case a4 => k_is); (case l4 => k_is); (case e4 => k_is); (case k4 => k_is); (case a5 => k_is); (case l5 => k_is)
    (case e5 => k_is); (case k5 => k_is); (case a6 => k_is); (case l6 => k_is); (case e6 => k_is); (case k6 => k_is)
    (case a7 => k_is); (case l7 => k_is); (case e7 => k_is); (case k7 => k_is); (case a8 => k_is); (case l8 => k_is)
    (case e8 => k_is); (case k8 => k_is); (case a9 => k_is); (case l9 => k_is); (case e9 => k_is); (case k9 => k_is)
    (case a10 => k_is); (case l10 => k_is); (case e10 => k_is); (case k10 => k_is); (case a11 => k_is); (case l11 => k_is)
    (case e11 => k_is); (case k11 => k_is); (case a12 => k_is); (case l12 => k_is); (case e12 => k_is); (case k12 => k_is)
    (case a13 => k_is); (case l13 => k_is); (case e13 => k_is); (case k13 => k_is); (case a14 => k_is); (case l14 => k_is)
    (case e14 => k_is); (case k14 => k_is); (case a15 => k_is); (case l15 => k_is); (case e15 => k_is); (case k15 => k_is)
    (case a16 => k_is); (case l16 => k_is); (case e16 => k_is); (case k16 => k_is); (case a17 => k_is); (case l17 => k_is)
    (case e17 => k_is); (case k17 => k_is); (case a18 => k_is); (case l18 => k_is); (case e18 => k_is); (case k18 => k_is)
    (case a19 => k_is); (case l19 => k_is); (case e19 => k_is); (case k19 => k_is); (case a20 => k_is); (case l20 => k_is)
    (case e20 => k_is); (case k20 => k_is); (case a21 => k_is); (case l21 => k_is); (case e21 => k_is); (case k21 => k_is)
    (case a22 => k_is); (case l22 => k_is); (case e22 => k_is); (case k22 => k_is); (case a23 => k_is); (case l23 => k_is)
    (case e23 => k_is); (case k23 => k_is); (case a24 => k_is); (case l24 => k_is); (case e24 => k_is); (case k24 => k_is)
    (case a25 => k_is); (case l25 => k_is); (case e25 => k_is); (case k25 => k_is); (case a26 => k_is); (case l26 => k_is)
    (case e26 => k_is); (case k26 => k_is); (case a27 => k_is); (case l27 => k_is); (case e27 => k_is); (case k27 => k_is)
    (case a28 => k_is); (case l28 => k_is); (case e28 => k_is); (case k28 => k_is); (case a29 => k_is); (case l29 => k_is)
    (case e29 => k_is); (case k29 => k_is); (case a30 => k_is); (case l30 => k_is); (case e30 => k_is); (case k30 => k_is)
    (case a31 => k_is); (case l31 => k_is); (case e31 => k_is); (case k31 => k_is); (case c_GREATEST_WIDTH => k_is); (case z_all => k_is)
    (case z_bool => k_is); (case z_enumerate => k_is); (case z_int => k_is); (case z_isinstance => k_is); (case z_len => k_is); (case z_list => k_is)
    (case z_max => k_is); (case z_min => k_is); (case z_range => k_is); (case z_repr => k_is); (case z_sorted => k_is); (case z_sum => k_is)
