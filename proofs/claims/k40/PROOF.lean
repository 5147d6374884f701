import PyProof.Rows.All
import Wide.All
import OpenK.AllK
import Wide.FinOn
import KE.IntBitsLaws
import HandS.ForMost
import HandS.Evl
import HandS.WideBits
import HandS.WideMore
import HandS.Style
import HandS.IsInst
import HandS.OwnEq
import HandS.Iter
import HandS.Gcd
import HandS.SortKw
import KE.KMathGC
import KE.DatumOrd
import HandS.Sort
import HandS.Walk
import HandS.Ends
import PyProof.ReprRoads
import HandS.Deep
import HandS.Text
import PySem.Challenge.RW_wholesound_k40_prices_by_bits
namespace M41
def qs (fs : List Int) (k : Nat) : Int := (fs.map fun u => u / 2 ^ k).sum
def cst (fs : List Int) (k : Nat) : Int := qs fs k + (fs.length : Int) * (1 + (k : Int))
def hs (fs : List Int) (k : Nat) : Int := (fs.map fun u => (u / 2 ^ k + 1) / 2).sum
def ris (fs : List Int) (k : Nat) : Int := (fs.length : Int) - hs fs k
def Good (fs : List Int) : Prop := ∀ u ∈ fs, 0 ≤ u ∧ u < 2 ^ 40
theorem half_next (u : Int) (k : Nat) : u / 2 ^ (k + 1) = u / 2 ^ k / 2 := by
  rw [Int.pow_succ, Int.ediv_ediv_of_nonneg (Int.le_of_lt (Int.pow_pos (by decide)))]
theorem qs_step : ∀ (fs : List Int) (k : Nat), qs fs k - qs fs (k + 1) = hs fs k
  | [], k => rfl
  | u :: r, k => by
    have ih := qs_step r k
    unfold qs hs at ih ⊢
    simp only [List.map_cons, List.sum_cons]
    rw [half_next u k]
    omega
theorem cst_step (fs : List Int) (k : Nat) : cst fs (k + 1) - cst fs k = ris fs k := by
  have h := qs_step fs k
  unfold cst ris
  have e : (fs.length : Int) * (1 + ((k + 1 : Nat) : Int)) = (fs.length : Int) * (1 + (k : Int)) + (fs.length : Int) := by
    rw [show (1 + ((k + 1 : Nat) : Int)) = (1 + (k : Int)) + 1 by omega, Int.mul_add, Int.mul_one]
  omega
theorem hs_step : ∀ (fs : List Int) (k : Nat), (∀ u ∈ fs, 0 ≤ u) → hs fs (k + 1) ≤ hs fs k
  | [], k, _ => Int.le_refl _
  | u :: r, k, h => by
    have ih := hs_step r k fun x hx => h x (List.mem_cons_of_mem _ hx)
    have hu := h u List.mem_cons_self
    unfold hs at ih ⊢
    simp only [List.map_cons, List.sum_cons]
    rw [half_next u k]
    have : 0 ≤ u / 2 ^ k := Int.ediv_nonneg hu (Int.le_of_lt (Int.pow_pos (by decide)))
    omega
theorem ris_step {fs : List Int} (g : Good fs) (k : Nat) : ris fs k ≤ ris fs (k + 1) := by
  have := hs_step fs k fun u hu => (g u hu).1
  unfold ris
  omega
theorem ris_mono {fs : List Int} (g : Good fs) {j k : Nat} (h : j ≤ k) : ris fs j ≤ ris fs k := by
  induction h with
  | refl => exact Int.le_refl _
  | step _ ih => exact Int.le_trans ih (ris_step g _)
theorem hs_far : ∀ (fs : List Int), (∀ u ∈ fs, 0 ≤ u ∧ u < 2 ^ 40) → hs fs 40 = 0
  | [], _ => rfl
  | u :: r, h => by
    have ih := hs_far r fun x hx => h x (List.mem_cons_of_mem _ hx)
    have hu := h u List.mem_cons_self
    unfold hs at ih ⊢
    simp only [List.map_cons, List.sum_cons]
    rw [ih, Int.ediv_eq_zero_of_lt hu.1 hu.2]
    decide
theorem ris_far {fs : List Int} (g : Good fs) (ne : fs ≠ []) : 0 < ris fs 40 := by
  unfold ris
  rw [hs_far fs g]
  cases fs with
  | nil => exact absurd rfl ne
  | cons a r =>
    rw [List.length_cons]
    omega
/-- least k from `a`, within n, of which p -/
def seek (p : Nat → Bool) : Nat → Nat → Nat
  | 0, a => a
  | n + 1, a => if p a then a else seek p n (a + 1)
theorem seek_ge (p : Nat → Bool) : ∀ (n a : Nat), a ≤ seek p n a
  | 0, a => Nat.le_refl _
  | n + 1, a => by
    unfold seek
    split
    · exact Nat.le_refl _
    · exact Nat.le_trans (Nat.le_succ a) (seek_ge p n (a + 1))
theorem seek_not (p : Nat → Bool) : ∀ (n a j : Nat), a ≤ j → j < seek p n a → p j = false
  | 0, a, j, h1, h2 => by unfold seek at h2; omega
  | n + 1, a, j, h1, h2 => by
    unfold seek at h2
    split at h2
    · omega
    · rename_i hp
      by_cases e : j = a
      · rw [e]; simpa using hp
      · exact seek_not p n (a + 1) j (by omega) h2
theorem seek_is (p : Nat → Bool) : ∀ (n a j : Nat), a ≤ j → j ≤ a + n → p j = true → p (seek p n a) = true
  | 0, a, j, h1, h2, hp => by
    have e : j = a := by omega
    unfold seek
    rw [← e]; exact hp
  | n + 1, a, j, h1, h2, hp => by
    unfold seek
    split
    · assumption
    · rename_i q
      by_cases e : j = a
      · rw [e] at hp; exact absurd hp q
      · exact seek_is p n (a + 1) j (by omega) (by omega) hp
theorem seek_le (p : Nat → Bool) : ∀ (n a j : Nat), a ≤ j → p j = true → seek p n a ≤ j
  | 0, a, j, h1, _ => by unfold seek; exact h1
  | n + 1, a, j, h1, hp => by
    unfold seek
    split
    · exact h1
    · rename_i q
      by_cases e : j = a
      · rw [e] at hp; exact absurd hp q
      · exact seek_le p n (a + 1) j (by omega) hp
def firstW (fs : List Int) : Nat := seek (fun k => decide (0 ≤ ris fs k)) 40 0
def lastW (fs : List Int) : Nat := seek (fun k => decide (ris fs k ≠ 0)) 40 (firstW fs)
structure LW (fs : List Int) (f l : Nat) : Prop where
  lo : ∀ j, j < f → ris fs j < 0
  at0 : 0 ≤ ris fs f
  mid : ∀ j, f ≤ j → j < l → ris fs j = 0
  fl : f ≤ l
  hi : 0 < ris fs l
  l40 : l ≤ 40
theorem lw {fs : List Int} (g : Good fs) (ne : fs ≠ []) : LW fs (firstW fs) (lastW fs) := by
  have far := ris_far g ne
  have f40 : firstW fs ≤ 40 := seek_le _ 40 0 40 (by omega) (by simp; omega)
  have l40 : lastW fs ≤ 40 := seek_le _ 40 (firstW fs) 40 f40 (by simp; omega)
  have fl : firstW fs ≤ lastW fs := seek_ge _ _ _
  have a0 : 0 ≤ ris fs (firstW fs) := by
    have := seek_is (fun k => decide (0 ≤ ris fs k)) 40 0 40 (by omega) (by omega) (by simp; omega)
    simpa [firstW] using this
  have hn : ris fs (lastW fs) ≠ 0 := by
    have := seek_is (fun k => decide (ris fs k ≠ 0)) 40 (firstW fs) 40 f40 (by omega) (by simp; omega)
    simpa [lastW] using this
  refine ⟨fun j hj => ?_, a0, fun j h1 h2 => ?_, fl, ?_, l40⟩
  · have := seek_not (fun k => decide (0 ≤ ris fs k)) 40 0 j (by omega) hj
    simp at this
    omega
  · have := seek_not (fun k => decide (ris fs k ≠ 0)) 40 (firstW fs) j h1 h2
    simpa using this
  · have := ris_mono g fl
    omega
theorem cst_flat {fs : List Int} {f l : Nat} (h : LW fs f l) : ∀ k, f ≤ k → k ≤ l → cst fs k = cst fs f := by
  intro k h1
  induction h1 with
  | refl => intro _; rfl
  | @step m hm ih =>
    intro h2
    have a := ih (by omega)
    have b := h.mid m hm (by omega)
    have c := cst_step fs m
    show cst fs (m + 1) = _
    omega
theorem cst_up {fs : List Int} {f l : Nat} (g : Good fs) (h : LW fs f l) : ∀ k, l < k → cst fs f < cst fs k := by
  intro k hk
  have base : cst fs f < cst fs (l + 1) := by
    have a := cst_flat h l h.fl (Nat.le_refl _)
    have b := cst_step fs l
    have c := h.hi
    omega
  obtain ⟨d, rfl⟩ : ∃ d, k = l + 1 + d := ⟨k - (l + 1), by omega⟩
  induction d with
  | zero => exact base
  | succ n ih =>
    have a := ih (by omega)
    have b := cst_step fs (l + 1 + n)
    have c := ris_mono g (show l ≤ l + 1 + n by omega)
    have d := h.hi
    show cst fs f < cst fs (l + 1 + n + 1)
    omega
theorem cst_down {fs : List Int} {f l : Nat} (h : LW fs f l) : ∀ d k, k + d = f → 0 < d → cst fs f < cst fs k := by
  intro d
  induction d with
  | zero => intro k _ h; omega
  | succ n ih =>
    intro k e _
    have b := cst_step fs k
    have c := h.lo k (by omega)
    by_cases z : n = 0
    · subst z
      have : f = k + 1 := by omega
      subst this
      omega
    · have a := ih (k + 1) (by omega) (by omega)
      omega
theorem cst_least {fs : List Int} {f l : Nat} (g : Good fs) (h : LW fs f l) (k : Nat) : cst fs f ≤ cst fs k := by
  by_cases h1 : k < f
  · exact Int.le_of_lt (cst_down h (f - k) k (by omega) (by omega))
  · by_cases h2 : k ≤ l
    · rw [cst_flat h k (by omega) h2]; exact Int.le_refl _
    · exact Int.le_of_lt (cst_up g h k (by omega))
theorem cst_eq_iff {fs : List Int} {f l : Nat} (g : Good fs) (h : LW fs f l) (k : Nat) : cst fs k = cst fs f ↔ f ≤ k ∧ k ≤ l := by
  constructor
  · intro e
    by_cases h1 : k < f
    · have := cst_down h (f - k) k (by omega) (by omega); omega
    · by_cases h2 : k ≤ l
      · omega
      · have := cst_up g h k (by omega); omega
  · rintro ⟨a, b⟩; exact cst_flat h k a b
theorem wid : ∀ f < 45, ∀ l < 45, f ≤ l → ((List.range 45).filter (fun k => decide (f ≤ k ∧ k ≤ l)))[0]? = some f ∧ ((List.range 45).filter (fun k => decide (f ≤ k ∧ k ≤ l))).getLast? = some l := by
  decide +kernel
/-! reversal and joining -/
theorem sum_app : ∀ (a b : List Int), (a ++ b).sum = a.sum + b.sum
  | [], b => by simp
  | x :: r, b => by
    rw [List.cons_append, List.sum_cons, List.sum_cons, sum_app r b]
    omega
theorem sum_rev : ∀ (a : List Int), a.reverse.sum = a.sum
  | [] => rfl
  | x :: r => by
    rw [List.reverse_cons, sum_app, sum_rev r, List.sum_cons, List.sum_cons]
    simp
    omega
theorem hs_rev (fs : List Int) (k : Nat) : hs fs.reverse k = hs fs k := by
  unfold hs
  rw [List.map_reverse, sum_rev]
theorem qs_rev (fs : List Int) (k : Nat) : qs fs.reverse k = qs fs k := by
  unfold qs
  rw [List.map_reverse, sum_rev]
theorem ris_rev (fs : List Int) : ris fs.reverse = ris fs := by
  funext k
  unfold ris
  rw [hs_rev, List.length_reverse]
theorem cst_rev (fs : List Int) : cst fs.reverse = cst fs := by
  funext k
  unfold cst
  rw [qs_rev, List.length_reverse]
theorem first_rev (fs : List Int) : firstW fs.reverse = firstW fs := by unfold firstW; rw [ris_rev]
theorem last_rev (fs : List Int) : lastW fs.reverse = lastW fs := by unfold lastW; rw [ris_rev, first_rev]
theorem good_rev {fs : List Int} (g : Good fs) : Good fs.reverse := fun u hu => g u (List.mem_reverse.mp hu)
theorem cst_app (a b : List Int) (k : Nat) : cst (a ++ b) k = cst a k + cst b k := by
  unfold cst qs
  rw [List.map_append, sum_app, List.length_append, Int.natCast_add, Int.add_mul]
  omega
def lp (fs : List Int) : Int := if fs = [] then 0 else cst fs (firstW fs)
theorem lp_le {fs : List Int} (g : Good fs) (k : Nat) : lp fs ≤ cst fs k := by
  unfold lp
  split
  · rename_i e; subst e; unfold cst qs; simp
  · rename_i e; exact cst_least g (lw g e) k
theorem lp_app {a b : List Int} (ga : Good a) (gb : Good b) : lp a + lp b ≤ lp (a ++ b) := by
  by_cases e : a ++ b = []
  · obtain ⟨rfl, rfl⟩ := List.append_eq_nil_iff.mp e
    decide
  · have h : lp (a ++ b) = cst (a ++ b) (firstW (a ++ b)) := by unfold lp; rw [if_neg e]
    rw [h, cst_app]
    have := lp_le ga (firstW (a ++ b))
    have := lp_le gb (firstW (a ++ b))
    omega
end M41

namespace M47
open M41
theorem lp_first (fs : List Int) : lp fs = cst fs (firstW fs) := by
  unfold lp
  split
  · rename_i e
    subst e
    decide
  · rfl
def Bel (b : Nat) (fs : List Int) : Prop := ∀ u ∈ fs, 0 ≤ u ∧ u < 2 ^ b
theorem two_pos (k : Nat) : (0 : Int) < 2 ^ k := Int.pow_pos (by decide)
theorem two_mono {a b : Nat} (h : a ≤ b) : (2 : Int) ^ a ≤ 2 ^ b := by
  induction h with
  | refl => exact Int.le_refl _
  | @step m _ ih =>
    have := two_pos m
    rw [Int.pow_succ]
    omega
theorem Bel.good {b : Nat} {fs : List Int} (h : Bel b fs) (hb : b ≤ 40) : Good fs := fun u hu => ⟨(h u hu).1, Int.lt_of_lt_of_le (h u hu).2 (two_mono hb)⟩
theorem Bel.app {b : Nat} {fs gs : List Int} (h : Bel b fs) (k : Bel b gs) : Bel b (fs ++ gs) := fun u hu => by
  rcases List.mem_append.mp hu with q | q
  · exact h u q
  · exact k u q
theorem Bel.rep {b n : Nat} {u : Int} (h0 : 0 ≤ u) (h1 : u < 2 ^ b) : Bel b (List.replicate n u) := fun v hv => by
  rw [List.eq_of_mem_replicate hv]
  exact ⟨h0, h1⟩
theorem hs_bel : ∀ {b : Nat} {fs : List Int}, Bel b fs → hs fs b = 0
  | _, [], _ => rfl
  | b, u :: r, h => by
    have ih := hs_bel (b := b) (fs := r) fun x hx => h x (List.mem_cons_of_mem _ hx)
    have hu := h u List.mem_cons_self
    unfold hs at ih ⊢
    simp only [List.map_cons, List.sum_cons]
    rw [ih, Int.ediv_eq_zero_of_lt hu.1 hu.2]
    decide
theorem first_bel {b : Nat} {fs : List Int} (h : Bel b fs) (hb : b ≤ 40) : firstW fs ≤ b := seek_le _ 40 0 b (by omega) (by
  unfold ris
  rw [hs_bel h]
  simp)
/-- the gain of a cut -/
def gn (A B : List Int) : Int := lp (A ++ B) - lp A - lp B
theorem gn_nonneg {A B : List Int} (ga : Good A) (gb : Good B) : 0 ≤ gn A B := by
  have := lp_app ga gb
  unfold gn
  omega
theorem good_app {A B : List Int} (ga : Good A) (gb : Good B) : Good (A ++ B) := fun u hu => by
  rcases List.mem_append.mp hu with q | q
  · exact ga u q
  · exact gb u q
theorem lp_swap {A B : List Int} (ga : Good A) (gb : Good B) : lp (A ++ B) = lp (B ++ A) := by
  have e : ∀ k, cst (A ++ B) k = cst (B ++ A) k := fun k => by rw [cst_app, cst_app]; omega
  have h1 := lp_le (good_app ga gb) (firstW (B ++ A))
  have h2 := lp_le (good_app gb ga) (firstW (A ++ B))
  rw [e, ← lp_first] at h1
  rw [← e, ← lp_first] at h2
  omega
theorem gn_swap {A B : List Int} (ga : Good A) (gb : Good B) : gn A B = gn B A := by
  unfold gn
  rw [lp_swap ga gb]
  omega
def zs (n : Nat) : List Int := List.replicate n 0
def fl (m b : Nat) : List Int := List.replicate m (2 ^ b - 1)
def gb (n m b : Nat) : Int := gn (zs n) (fl m b)
theorem zs_bel (n b : Nat) : Bel b (zs n) := .rep (Int.le_refl _) (two_pos b)
theorem fl_bel (m b : Nat) : Bel b (fl m b) := .rep (by have := two_pos b; omega) (by omega)
theorem sum_rep (u : Int) : ∀ n : Nat, (List.replicate n u).sum = n * u
  | 0 => by simp
  | n + 1 => by
    rw [List.replicate_succ, List.sum_cons, sum_rep u n]
    rw [show ((n + 1 : Nat) : Int) = (n : Int) + 1 by omega, Int.add_mul]
    omega
theorem cst_rep (n : Nat) (u : Int) (k : Nat) : cst (List.replicate n u) k = n * (u / 2 ^ k + 1 + k) := by
  unfold cst qs
  rw [List.map_replicate, sum_rep, List.length_replicate, ← Int.mul_add, show u / 2 ^ k + (1 + (k : Int)) = u / 2 ^ k + 1 + k by omega]
theorem cst_zs (n k : Nat) : cst (zs n) k = n * (1 + (k : Int)) := by
  unfold zs
  rw [cst_rep, Int.zero_ediv, Int.zero_add]
theorem full_div {b k : Nat} (hk : k ≤ b) : ((2 : Int) ^ b - 1) / 2 ^ k = 2 ^ (b - k) - 1 := by
  have hp := two_pos k
  have e : (2 : Int) ^ b = 2 ^ (b - k) * 2 ^ k := by rw [← Int.pow_add, Nat.sub_add_cancel hk]
  have e2 : (2 : Int) ^ b - 1 = (2 ^ k - 1) + (2 ^ (b - k) - 1) * 2 ^ k := by rw [Int.sub_mul, e]; omega
  rw [e2, Int.add_mul_ediv_right _ _ (by omega), Int.ediv_eq_zero_of_lt (by omega) (by omega), Int.zero_add]
theorem cst_fl {m b k : Nat} (hk : k ≤ b) : cst (fl m b) k = m * (2 ^ (b - k) + (k : Int)) := by
  unfold fl
  rw [cst_rep, full_div hk, show (2 : Int) ^ (b - k) - 1 + 1 + (k : Int) = 2 ^ (b - k) + k by omega]
theorem lp_zs (n : Nat) : lp (zs n) = n := by
  have h0 := lp_le ((zs_bel n 0).good (by decide)) 0
  rw [lp_first, cst_zs]
  rw [lp_first, cst_zs, cst_zs] at h0
  have := Int.mul_le_mul_of_nonneg_left (show (1 : Int) ≤ 1 + (firstW (zs n) : Int) by omega) (Int.natCast_nonneg n)
  simp at h0 this ⊢
  omega
def ee (c : Nat) : Int := 2 ^ c - 1 - (c : Int)
theorem ee_step (c : Nat) : ee (c + 1) = ee c + (2 ^ c - 1) := by
  unfold ee
  rw [Int.pow_succ]
  omega
theorem ee_mono {a b : Nat} (h : a ≤ b) : ee a ≤ ee b := by
  induction h with
  | refl => exact Int.le_refl _
  | @step m _ ih =>
    have := ee_step m
    have := two_pos m
    show ee a ≤ ee (m + 1)
    omega
theorem ee_nonneg (c : Nat) : 0 ≤ ee c := ee_mono (Nat.zero_le c)
theorem hs_nonneg : ∀ (fs : List Int) (k : Nat), (∀ u ∈ fs, 0 ≤ u) → 0 ≤ hs fs k
  | [], _, _ => Int.le_refl _
  | u :: r, k, h => by
    have ih := hs_nonneg r k fun x hx => h x (List.mem_cons_of_mem _ hx)
    have : 0 ≤ u / 2 ^ k := Int.ediv_nonneg (h u List.mem_cons_self) (Int.le_of_lt (two_pos k))
    unfold hs at ih ⊢
    simp only [List.map_cons, List.sum_cons]
    omega
theorem up_many {b : Nat} {fs : List Int} (h : Bel b fs) {k k' : Nat} (hk : k ≤ k') : cst fs k' - cst fs k ≤ fs.length * ((k' : Int) - k) := by
  induction hk with
  | refl => simp
  | @step m hm ih =>
    have s := cst_step fs m
    have p := hs_nonneg fs m fun u hu => (h u hu).1
    unfold ris at s
    have e : (fs.length : Int) * (((m + 1 : Nat) : Int) - k) = fs.length * ((m : Int) - k) + fs.length := by
      rw [show ((m + 1 : Nat) : Int) - k = ((m : Int) - k) + 1 by omega, Int.mul_add, Int.mul_one]
    show cst fs (m + 1) - cst fs k ≤ (fs.length : Int) * (((m + 1 : Nat) : Int) - k)
    omega
theorem hs_le : ∀ {b : Nat} {fs : List Int} {k c : Nat}, Bel b fs → b = k + (c + 1) → hs fs k ≤ fs.length * 2 ^ c
  | _, [], _, _, _, _ => by unfold hs; simp
  | b, u :: r, k, c, h, e => by
    have ih := hs_le (b := b) (fs := r) (k := k) (c := c) (fun x hx => h x (List.mem_cons_of_mem _ hx)) e
    have hu := h u List.mem_cons_self
    have hq : u / 2 ^ k < 2 ^ (c + 1) := by
      refine Int.ediv_lt_of_lt_mul (two_pos k) ?_
      rw [← Int.pow_add, Nat.add_comm, ← e]
      exact hu.2
    rw [Int.pow_succ] at hq
    unfold hs at ih ⊢
    simp only [List.map_cons, List.sum_cons, List.length_cons]
    rw [show ((r.length + 1 : Nat) : Int) = (r.length : Int) + 1 by omega, Int.add_mul]
    omega
theorem down_many {b : Nat} {fs : List Int} (h : Bel b fs) {k k' : Nat} (hk : k ≤ k') (hb : k' ≤ b) : cst fs k - cst fs k' ≤ fs.length * (ee (b - k) - ee (b - k')) := by
  induction hk with
  | refl => simp
  | @step m hm ih =>
    have ih := ih (by omega)
    have s := cst_step fs m
    have p := hs_le (fs := fs) (k := m) (c := b - (m + 1)) h (by omega)
    unfold ris at s
    have e1 : ee (b - m) = ee (b - (m + 1)) + (2 ^ (b - (m + 1)) - 1) := by
      rw [← ee_step, show b - (m + 1) + 1 = b - m by omega]
    have e2 : (fs.length : Int) * (ee (b - k) - ee (b - (m + 1))) = fs.length * (ee (b - k) - ee (b - m)) + (fs.length * 2 ^ (b - (m + 1)) - fs.length) := by
      rw [show ee (b - k) - ee (b - (m + 1)) = (ee (b - k) - ee (b - m)) + (2 ^ (b - (m + 1)) - 1) by omega, Int.mul_add, Int.mul_sub (fs.length : Int) (2 ^ _) 1, Int.mul_one]
    show cst fs k - cst fs (m + 1) ≤ (fs.length : Int) * (ee (b - k) - ee (b - (m + 1)))
    omega
theorem gb_ge {n m b : Nat} (hb : b ≤ 40) : ∃ k, k ≤ b ∧ (n : Int) * k + m * ee (b - k) ≤ gb n m b := by
  have F : firstW (zs n ++ fl m b) ≤ b := first_bel ((zs_bel n b).app (fl_bel m b)) hb
  refine ⟨firstW (zs n ++ fl m b), F, ?_⟩
  have h1 := lp_le ((fl_bel m b).good hb) b
  unfold gb gn
  rw [lp_zs, lp_first (zs n ++ fl m b), cst_app, cst_zs, cst_fl F]
  rw [cst_fl (Nat.le_refl b), Nat.sub_self] at h1
  generalize firstW (zs n ++ fl m b) = k at F
  have e : (m : Int) * (2 ^ (b - k) + (k : Int)) = m * ee (b - k) + m * (2 ^ 0 + (b : Int)) := by
    rw [← Int.mul_add]
    congr 1
    unfold ee
    have : ((b - k : Nat) : Int) = (b : Int) - k := by omega
    omega
  rw [Int.mul_add, Int.mul_one]
  omega
theorem gain_half {b : Nat} {A B : List Int} (ha : Bel b A) (hB : Bel b B) (hb : b ≤ 40) (h : firstW A ≤ firstW B) : gn A B ≤ gb A.length B.length b := by
  obtain ⟨k, hk, G⟩ := gb_ge (n := A.length) (m := B.length) hb
  have FB := first_bel hB hb
  refine Int.le_trans ?_ G
  unfold gn
  rw [lp_first A, lp_first B]
  have lpk : ∀ j, lp (A ++ B) ≤ cst A j + cst B j := fun j => by
    rw [← cst_app]
    exact lp_le ((ha.app hB).good hb) j
  have nn : ∀ {x : Int}, 0 ≤ x → 0 ≤ (A.length : Int) * x := fun hx => Int.mul_nonneg (Int.natCast_nonneg _) hx
  have mm : ∀ {x y : Int}, x ≤ y → (B.length : Int) * x ≤ B.length * y := fun hx => Int.mul_le_mul_of_nonneg_left hx (Int.natCast_nonneg _)
  have nm : ∀ {x y : Int}, x ≤ y → (A.length : Int) * x ≤ A.length * y := fun hx => Int.mul_le_mul_of_nonneg_left hx (Int.natCast_nonneg _)
  have z : (B.length : Int) * 0 ≤ B.length * ee (b - k) := mm (ee_nonneg _)
  rw [Int.mul_zero] at z
  by_cases c1 : k < firstW A
  · have l := lpk (firstW A)
    have d := down_many hB h FB
    have m1 : (B.length : Int) * (ee (b - firstW A) - ee (b - firstW B)) ≤ B.length * ee (b - k) := mm (by
      have := ee_nonneg (b - firstW B)
      have := ee_mono (show b - firstW A ≤ b - k by omega)
      omega)
    have p := nn (x := (k : Int)) (by omega)
    omega
  · by_cases c2 : k ≤ firstW B
    · have l := lpk k
      have u := up_many ha (show firstW A ≤ k by omega)
      have d := down_many hB c2 FB
      have m1 : (B.length : Int) * (ee (b - k) - ee (b - firstW B)) ≤ B.length * ee (b - k) := mm (by
        have := ee_nonneg (b - firstW B)
        omega)
      have m2 := nm (show ((k : Int) - firstW A) ≤ k by omega)
      omega
    · have l := lpk (firstW B)
      have u := up_many ha h
      have m2 := nm (show ((firstW B : Int) - firstW A) ≤ k by omega)
      omega
/-- the greatest gain -/
def mg (n m b : Nat) : Int := if gb m n b ≤ gb n m b then gb n m b else gb m n b
theorem gain_le {b : Nat} {A B : List Int} (ha : Bel b A) (hB : Bel b B) (hb : b ≤ 40) : gn A B ≤ mg A.length B.length b := by
  have m1 : gb A.length B.length b ≤ mg A.length B.length b := by unfold mg; split <;> omega
  have m2 : gb B.length A.length b ≤ mg A.length B.length b := by unfold mg; split <;> omega
  rcases Nat.le_total (firstW A) (firstW B) with h | h
  · exact Int.le_trans (gain_half ha hB hb h) m1
  · rw [gn_swap (ha.good hb) (hB.good hb)]
    exact Int.le_trans (gain_half hB ha hb h) m2
theorem mg_swap (n m b : Nat) : mg m n b = mg n m b := by
  unfold mg
  split <;> split <;> omega
theorem mg_nonneg (n m : Nat) {b : Nat} (hb : b ≤ 40) : 0 ≤ mg n m b := by
  have h1 := gn_nonneg ((zs_bel n b).good hb) ((fl_bel m b).good hb)
  have h2 := gn_nonneg ((zs_bel m b).good hb) ((fl_bel n b).good hb)
  unfold mg gb
  split <;> assumption
/-- two rows that have it -/
def rA (n m b : Nat) : List Int := if gb n m b = mg n m b then zs n else fl n b
def rB (n m b : Nat) : List Int := if gb n m b = mg n m b then fl m b else zs m
theorem r_gain {n m b : Nat} (hb : b ≤ 40) : gn (rA n m b) (rB n m b) = mg n m b := by
  unfold rA rB
  by_cases h : gb n m b = mg n m b
  · rw [if_pos h, if_pos h]
    exact h
  · rw [if_neg h, if_neg h, gn_swap ((fl_bel n b).good hb) ((zs_bel m b).good hb)]
    show gb m n b = mg n m b
    unfold mg at h ⊢
    split at h
    · exact absurd rfl h
    · rename_i q
      rw [if_neg q]
theorem rA_len (n m b : Nat) : (rA n m b).length = n := by unfold rA zs fl; split <;> rw [List.length_replicate]
theorem rB_len (n m b : Nat) : (rB n m b).length = m := by unfold rB zs fl; split <;> rw [List.length_replicate]
theorem rA_bel (n m b : Nat) : Bel b (rA n m b) := by unfold rA; split; exact zs_bel _ _; exact fl_bel _ _
theorem rB_bel (n m b : Nat) : Bel b (rB n m b) := by unfold rB; split; exact fl_bel _ _; exact zs_bel _ _
end M47

namespace M40
open M41 M47
abbrev ib (u : Int) : Nat := PySem.Builtin.Int.intBits u
def lg (fs : List Int) : Nat := fs.foldr (fun u m => max (ib u) m) 0
theorem lg_le {m : Nat} : ∀ {fs : List Int}, lg fs ≤ m ↔ ∀ u ∈ fs, ib u ≤ m
  | [] => by simp [lg]
  | u :: r => by
    have ih := lg_le (m := m) (fs := r)
    unfold lg at ih ⊢
    rw [List.foldr_cons]
    constructor
    · intro h v hv
      rcases List.mem_cons.mp hv with rfl | hv
      · omega
      · exact ih.mp (by omega) v hv
    · intro h
      have h1 := h u List.mem_cons_self
      have h2 := ih.mpr fun v hv => h v (List.mem_cons_of_mem _ hv)
      omega
theorem lg_mem : ∀ {fs : List Int}, fs ≠ [] → ∃ u ∈ fs, ib u = lg fs
  | [], h => absurd rfl h
  | [u], _ => ⟨u, List.mem_cons_self, by simp [lg]⟩
  | u :: v :: r, _ => by
    obtain ⟨x, hx, e⟩ := lg_mem (fs := v :: r) (by simp)
    have d : lg (u :: v :: r) = max (ib u) (lg (v :: r)) := rfl
    by_cases c : ib u ≤ lg (v :: r)
    · exact ⟨x, List.mem_cons_of_mem _ hx, by rw [d, e]; omega⟩
    · exact ⟨u, List.mem_cons_self, by rw [d]; omega⟩
theorem ib_le {u : Int} {m : Nat} (h : 0 ≤ u) : ib u ≤ m ↔ u < 2 ^ m := by
  rw [show ib u ≤ m ↔ u.natAbs < 2 ^ m from PySem.intBits_le_iff]
  have : ((2 ^ m : Nat) : Int) = 2 ^ m := by rw [Int.natCast_pow]; rfl
  omega
def Nn (fs : List Int) : Prop := ∀ u ∈ fs, 0 ≤ u
theorem lg_bel {fs : List Int} {m : Nat} (h : Nn fs) : lg fs ≤ m ↔ Bel m fs := by
  rw [lg_le]
  exact ⟨fun k u hu => ⟨h u hu, (ib_le (h u hu)).mp (k u hu)⟩, fun k u hu => (ib_le (h u hu)).mpr (k u hu).2⟩
def bt (u : Int) (i : Nat) : Int := u / 2 ^ i % 2
def bc (fs : List Int) (i : Nat) : Int := (fs.map fun u => bt u i).sum
def bcs (fs : List Int) : List Int := (List.range (lg fs)).map (bc fs)
theorem bc_bounds : ∀ (fs : List Int) (i : Nat), 0 ≤ bc fs i ∧ bc fs i ≤ fs.length
  | [], i => by simp [bc]
  | u :: r, i => by
    have ih := bc_bounds r i
    unfold bc bt at ih ⊢
    simp only [List.map_cons, List.sum_cons, List.length_cons]
    omega
theorem odd_count : ∀ fs : List Int, ((fs.filter fun u => decide (u % 2 = 1)).length : Int) = (fs.map fun u => u % 2).sum
  | [] => rfl
  | u :: r => by
    have ih := odd_count r
    by_cases c : u % 2 = 1
    · rw [List.filter_cons_of_pos (by simp [c]), List.length_cons, List.map_cons, List.sum_cons]
      omega
    · rw [List.filter_cons_of_neg (by simp [c]), List.map_cons, List.sum_cons]
      omega
theorem qs_far : ∀ {fs : List Int} {m k : Nat}, Bel m fs → m ≤ k → qs fs k = 0
  | [], _, _, _, _ => rfl
  | u :: r, m, k, h, hk => by
    have ih := qs_far (fs := r) (fun x hx => h x (List.mem_cons_of_mem _ hx)) hk
    have hu := h u List.mem_cons_self
    unfold qs at ih ⊢
    simp only [List.map_cons, List.sum_cons]
    rw [ih, Int.ediv_eq_zero_of_lt hu.1 (Int.lt_of_lt_of_le hu.2 (two_mono hk))]
    decide
theorem cst_far {fs : List Int} {m k : Nat} (h : Bel m fs) (hk : m ≤ k) : cst fs k = fs.length * (1 + (k : Int)) := by
  unfold cst
  rw [qs_far h hk, Int.zero_add]
def unl (A B : List Int) (k : Nat) : Bool := decide (cst A k ≠ cst B k)
theorem unl_far {A B : List Int} {L k : Nat} (ha : Bel L A) (hb : Bel L B) (hk : L ≤ k) (h : unl A B k = true) : unl A B L = true := by
  unfold unl at h ⊢
  rw [decide_eq_true_eq] at h ⊢
  rw [cst_far ha hk, cst_far hb hk] at h
  rw [cst_far ha (Nat.le_refl L), cst_far hb (Nat.le_refl L)]
  intro e
  apply h
  have : (A.length : Int) = B.length := Int.eq_of_mul_eq_mul_right (by omega) e
  rw [this]
/-- the first width with unlike prices -/
def pw (A B : List Int) : Option Nat := (List.range 45).find? (unl A B)
theorem pw_some {A B : List Int} {k : Nat} (hk : k < 45) (h : unl A B k = true) (no : ∀ j, j < k → unl A B j = false) : pw A B = some k := by
  unfold pw
  rw [List.find?_range_eq_some]
  exact ⟨h, List.mem_range.mpr hk, fun j hj => by rw [no j hj]; rfl⟩
theorem pw_none {A B : List Int} (no : ∀ j, j < 45 → unl A B j = false) : pw A B = none := by
  unfold pw
  rw [List.find?_eq_none]
  intro j hj
  rw [no j (List.mem_range.mp hj)]
  decide
theorem pw_swap (A B : List Int) : pw B A = pw A B := by
  unfold pw
  congr 1
  funext k
  unfold unl
  exact decide_eq_decide.mpr ⟨fun h e => h e.symm, fun h e => h e.symm⟩
theorem none_all {A B : List Int} {L : Nat} (ha : Bel L A) (hb : Bel L B) (no : ∀ j, j ≤ L → unl A B j = false) : ∀ j, unl A B j = false := by
  intro j
  rcases Nat.lt_or_ge L j with c | c
  · cases e : unl A B j with
    | false => rfl
    | true =>
      have := unl_far ha hb (Nat.le_of_lt c) e
      rw [no L (Nat.le_refl _)] at this
      cases this
  · exact no j c
/-! rows by counts -/
theorem half_comm {u : Int} {i : Nat} : u / 2 ^ (i + 1) % 2 = u / 2 / 2 ^ i % 2 := by
  rw [Int.pow_succ, Int.mul_comm, Int.ediv_ediv_of_nonneg (show (0 : Int) ≤ 2 by decide)]
def val (p : Int) : List Int → Int
  | [] => 0
  | c :: cs => (if p < c then 1 else 0) + 2 * val p cs
theorem val_cons (p c : Int) (cs : List Int) : val p (c :: cs) = (if p < c then 1 else 0) + 2 * val p cs := rfl
theorem val_nonneg (p : Int) : ∀ cs, 0 ≤ val p cs
  | [] => Int.le_refl _
  | c :: cs => by
    have := val_nonneg p cs
    rw [val_cons]
    split <;> omega
theorem val_bit (p : Int) : ∀ (cs : List Int) (i : Nat), bt (val p cs) i = if p < cs.getD i p then 1 else 0
  | [], i => by
    unfold val bt
    rw [Int.zero_ediv]
    simp
  | c :: cs, 0 => by
    unfold bt
    rw [val_cons, Int.pow_zero, Int.ediv_one]
    show _ = if p < c then 1 else 0
    split <;> omega
  | c :: cs, i + 1 => by
    have ih := val_bit p cs i
    unfold bt at ih ⊢
    rw [half_comm]
    have e : val p (c :: cs) / 2 = val p cs := by
      rw [val_cons]
      split <;> omega
    rw [e, ih]
    rfl
theorem val_lt (p : Int) : ∀ cs : List Int, val p cs < 2 ^ cs.length
  | [] => by simp [val]
  | c :: cs => by
    have := val_lt p cs
    rw [val_cons]
    rw [List.length_cons, Int.pow_succ]
    split <;> omega
/-- the sum as it is written -/
theorem val_sum (p : Int) : ∀ (cs : List Int) (s : Nat), (((List.range cs.length).filter fun i => decide (p < cs.getD i 0)).map fun i => (2 : Int) ^ (s + i)).sum = 2 ^ s * val p cs
  | [], s => by simp [val]
  | c :: cs, s => by
    have ih := val_sum p cs (s + 1)
    rw [List.length_cons, List.range_succ_eq_map]
    have e : ((List.map Nat.succ (List.range cs.length)).filter fun i => decide (p < (c :: cs).getD i 0)).map (fun i => (2 : Int) ^ (s + i)) = ((List.range cs.length).filter fun i => decide (p < cs.getD i 0)).map fun i => (2 : Int) ^ (s + 1 + i) := by
      rw [List.filter_map, List.map_map]
      congr 1
      funext i
      show (2 : Int) ^ (s + (i + 1)) = 2 ^ (s + 1 + i)
      congr 1
      omega
    by_cases h : p < c
    · rw [List.filter_cons_of_pos (by simpa using h), List.map_cons, List.sum_cons, e]
      show (2 : Int) ^ (s + 0) + _ = _
      rw [val_cons, if_pos h, Nat.add_zero]
      have ih' := ih
      rw [Int.pow_succ, Int.mul_assoc] at ih'
      rw [Int.mul_add, Int.mul_one]
      omega
    · rw [List.filter_cons_of_neg (by simpa using h), e]
      rw [val_cons, if_neg h, Int.zero_add]
      have ih' := ih
      rw [Int.pow_succ, Int.mul_assoc] at ih'
      exact ih'
def rowC (m : Nat) (cs : List Int) : List Int := (List.range m).map fun p : Nat => val (p : Int) cs
theorem rowC_nn (m : Nat) (cs : List Int) : Nn (rowC m cs) := fun u hu => by
  obtain ⟨p, _, rfl⟩ := List.mem_map.mp hu
  exact val_nonneg _ _
theorem count_below (c : Int) : ∀ m : Nat, 0 ≤ c → c ≤ m → ((List.range m).map fun p : Nat => if (p : Int) < c then (1 : Int) else 0).sum = c := by
  have h : ∀ (c : Int) (m : Nat), 0 ≤ c → ((List.range m).map fun p : Nat => if (p : Int) < c then (1 : Int) else 0).sum = if (m : Int) ≤ c then (m : Int) else c := by
    intro c m h0
    induction m with
    | zero => simp; omega
    | succ m ih =>
      rw [List.range_succ, List.map_append, sum_app, ih]
      simp only [List.map_cons, List.map_nil, List.sum_cons, List.sum_nil]
      split <;> split <;> split <;> omega
  intro m h0 hm
  rw [h c m h0]
  split <;> omega
theorem bc_row {m : Nat} {cs : List Int} (h : ∀ c ∈ cs, 0 ≤ c ∧ c ≤ (m : Int)) (i : Nat) : bc (rowC m cs) i = cs.getD i 0 := by
  unfold bc rowC
  rw [List.map_map]
  have e : ((fun u => bt u i) ∘ fun p : Nat => val (p : Int) cs) = fun p : Nat => if (p : Int) < cs.getD i 0 then (1 : Int) else 0 := by
    funext p
    show bt (val (p : Int) cs) i = _
    rw [val_bit]
    by_cases c : i < cs.length
    · rw [List.getD_eq_getElem?_getD, List.getD_eq_getElem?_getD, List.getElem?_eq_getElem c]
      rfl
    · rw [List.getD_eq_getElem?_getD, List.getD_eq_getElem?_getD, List.getElem?_eq_none (by omega)]
      show (if (p : Int) < p then (1 : Int) else 0) = if (p : Int) < 0 then 1 else 0
      rw [if_neg (by omega), if_neg (by omega)]
  rw [e]
  refine count_below _ m ?_ ?_
  · by_cases c : i < cs.length
    · rw [List.getD_eq_getElem?_getD, List.getElem?_eq_getElem c]
      exact (h _ (List.getElem_mem c)).1
    · rw [List.getD_eq_getElem?_getD, List.getElem?_eq_none (by omega)]
      exact Int.le_refl _
  · by_cases c : i < cs.length
    · rw [List.getD_eq_getElem?_getD, List.getElem?_eq_getElem c]
      exact (h _ (List.getElem_mem c)).2
    · rw [List.getD_eq_getElem?_getD, List.getElem?_eq_none (by omega)]
      show (0 : Int) ≤ m
      omega
theorem bel_bc {fs : List Int} {m : Nat} (h : Bel m fs) {i : Nat} (hi : m ≤ i) : bc fs i = 0 := by
  have : ∀ l : List Int, (∀ u ∈ l, 0 ≤ u ∧ u < 2 ^ m) → (l.map fun u => bt u i).sum = 0 := by
    intro l
    induction l with
    | nil => intro _; rfl
    | cons u r ih =>
      intro hl
      rw [List.map_cons, List.sum_cons, ih fun x hx => hl x (List.mem_cons_of_mem _ hx)]
      have hu := hl u List.mem_cons_self
      unfold bt
      rw [Int.ediv_eq_zero_of_lt hu.1 (Int.lt_of_lt_of_le hu.2 (two_mono hi))]
      rfl
  exact this fs h
/-- counts without noughts at the end -/
theorem bcs_row {m : Nat} {cs : List Int} (h : ∀ c ∈ cs, 0 ≤ c ∧ c ≤ (m : Int)) (hl : cs.getLast? ≠ some 0) : bcs (rowC m cs) = cs := by
  have hb : Bel cs.length (rowC m cs) := fun u hu => by
    obtain ⟨p, _, rfl⟩ := List.mem_map.mp hu
    exact ⟨val_nonneg _ _, val_lt _ _⟩
  have L : lg (rowC m cs) = cs.length := by
    apply Nat.le_antisymm ((lg_bel (rowC_nn m cs)).mpr hb)
    refine Classical.byContradiction fun hc => ?_
    have hc : lg (rowC m cs) < cs.length := by omega
    have b2 := (lg_bel (m := lg (rowC m cs)) (rowC_nn m cs)).mp (Nat.le_refl _)
    have z := bel_bc b2 (i := cs.length - 1) (by omega)
    rw [bc_row h] at z
    apply hl
    rw [List.getLast?_eq_getElem?]
    rw [List.getD_eq_getElem?_getD] at z
    rw [List.getElem?_eq_getElem (by omega)] at z ⊢
    congr 1
  unfold bcs
  rw [L]
  apply List.ext_getElem?
  intro i
  rw [List.getElem?_map]
  by_cases c : i < cs.length
  · rw [List.getElem?_range c, List.getElem?_eq_getElem c]
    show some (bc (rowC m cs) i) = _
    rw [bc_row h, List.getD_eq_getElem?_getD, List.getElem?_eq_getElem c]
    rfl
  · rw [List.getElem?_eq_none (by rw [List.length_range]; omega), List.getElem?_eq_none (by omega)]
    rfl
end M40

set_option Elab.async false
set_option linter.all false
set_option maxRecDepth 100000
set_option maxHeartbeats 2000000
namespace WS
open PySem PySem.Spec PyProof.Rows L2 Evl

/-! ### a power of any size -/
def CPowW (i j : Int) : Prop := 0 ≤ j ∧ (Builtin.Int.intBits i : Int) * j ≤ 2 ^ 27
section
variable {X : Cx}
theorem op_powW : OpR X (binaryOp .Pow) (rI CPowW fun i j => .int (i ^ j.toNat)) := opI fun _ _ _ _ _ _ _ hc q => pow_int hc.1 hc.2 q
end

section
variable {K : PySem.W.Frag} {σ : L2.St} {H H' : Hp} {ta tb te tx tl : TE} {t u : TT} {x y z v : V} {r : R2} {D : Ends} {tu tw tz : TS} {g : TG}
theorem ev_sumN {ns : List Int} (h : EvL te σ H (ns.map V.int)) : Ev (tCB (rSum K) (tCons te tNil)) σ H (.int ns.sum) := fun H1 e Q q =>
  h H1 e _ fun p H2 _ e2 h2 => ⟨p, ns, rfl, sq_of h2, q H2 e2⟩
theorem ev_sum {p : Addr} {ns : List Int} (h : Ev te σ H (.ref p)) (hp : SqL K H p (ns.map V.int)) : Ev (tCB (rSum K) (tCons te tNil)) σ H (.int ns.sum) := fun H1 e Q q =>
  h H1 e _ fun H2 e2 => ⟨p, ns, rfl, ex_l (e.trans e2) hp, q H2 e2⟩
theorem ev_allN {bs : List Bool} (h : EvL te σ H (bs.map V.bl)) : Ev (tCB (rAll K) (tCons te tNil)) σ H (.bl (bs.all id)) := fun H1 e Q q =>
  h H1 e _ fun p H2 _ e2 h2 => ⟨p, bs, rfl, sq_of h2, q H2 e2⟩
theorem ev_min {p : Addr} {ns : List Int} {m : Int} (h : Ev te σ H (.ref p)) (hp : SqL K H p (ns.map V.int)) (hm : m ∈ ns) (hle : ∀ y ∈ ns, m ≤ y) : Ev (tCB (rMin K) (tCons te tNil)) σ H (.int m) := fun H1 e Q q =>
  h H1 e _ fun H2 e2 => ⟨p, ns, rfl, ex_l (e.trans e2) hp, by cases ns with | nil => cases hm | cons a r => simp, fun k hk hkl => by
    have : k = m := Int.le_antisymm (hkl m hm) (hle k hk)
    rw [this]
    exact q H2 e2⟩
def rInt1 : List V → Hp → VK → Prop := fun xs H Q => (∃ i, xs = [.int i] ∧ Q (.int i) H) ∨ ∃ k, xs = [.bl k] ∧ Q (.int (if k then 1 else 0)) H
theorem ev_int {i : Int} (h : Ev te σ H (.int i)) : Ev (tCB rInt1 (tCons te tNil)) σ H (.int i) := fun H1 e Q q =>
  h H1 e _ fun H2 e2 => Or.inl ⟨i, rfl, q H2 e2⟩
theorem ev_intB {k : Bool} (h : Ev te σ H (.bl k)) : Ev (tCB rInt1 (tCons te tNil)) σ H (.int (if k then 1 else 0)) := fun H1 e Q q =>
  h H1 e _ fun H2 e2 => Or.inr ⟨k, rfl, q H2 e2⟩
theorem ev_bits {i : Int} (h : Ev te σ H (.int i)) : Ev (tBits te) σ H (.int (Builtin.Int.intBits i : Nat)) := fun H1 e Q q =>
  h H1 e _ fun H2 e2 => ⟨i, rfl, q H2 e2⟩
/-- isinstance of a scalar -/
theorem ev_isi {ty : Value} {b : Bool} {n : String} (h : Ev te σ H x) (ht : ∀ H1, Ex H H1 → TyX K H1 x ty) (hk : PySem.W.kitOne K ty (.type n) = some b) : Ev (tCB (rIsi K) (tCons te (tCons (tC (.ty n)) tNil))) σ H (.bl b) := fun H1 e Q q =>
  h H1 e _ fun H2 e2 => ⟨x, .ty n, ty, .type n, b, rfl, ClsV.ty n, ht H2 (e.trans e2), hk, q H2 e2⟩
theorem ev_isiI {i : Int} {b : Bool} {n : String} (h : Ev te σ H (.int i)) (hk : kitB "int" n = some b) : Ev (tCB (rIsi K) (tCons te (tCons (tC (.ty n)) tNil))) σ H (.bl b) :=
  ev_isi h (fun _ _ => TyX.base (TyOf.int i)) (kit_ty hk)
theorem ev_isiL {p : Addr} {xs : List V} {b : Bool} {n : String} (h : Ev te σ H (.ref p)) (hp : H p = some (.lst xs)) (hk : kitB "list" n = some b) : Ev (tCB (rIsi K) (tCons te (tCons (tC (.ty n)) tNil))) σ H (.bl b) :=
  ev_isi h (fun _ e => TyX.base (TyOf.lst (e _ _ hp))) (kit_ty hk)
theorem ev_chain {r' : R2} {tc : TE} {w' : V} {k k' : Bool} (ha : Ev ta σ H x) (hb : Ev tb σ H y) (hr : RV r x y H (.bl k)) (hc : Ev tc σ H w') (hr' : RV r' y w' H (.bl k')) : Ev (tChain r r' ta tb tc) σ H (.bl (k && k')) := fun H1 e Q q =>
  ha H1 e _ fun H2 e2 => hb H2 (e.trans e2) _ fun H3 e3 => hr H3 ((e.trans e2).trans e3) _ fun H4 e4 => ⟨k, rfl, by
    have e' := ((e.trans e2).trans e3).trans e4
    cases k with
    | true =>
      rw [if_pos rfl]
      exact hc H4 e' _ fun H5 e5 => hr' H5 (e'.trans e5) Q fun H6 e6 => q H6 ((((e2.trans e3).trans e4).trans e5).trans e6)
    | false =>
      rw [if_neg Bool.false_ne_true]
      exact q H4 ((e2.trans e3).trans e4)⟩
/-- [f(x) for x in ns] -/
theorem given_map {α : Type} (xs : List α) (d : α) (f : α → V) : given xs.length (fun _ => true) (fun i => f (xs.getD i d)) = xs.map f := by
  unfold given
  rw [List.filter_eq_self.mpr (fun _ _ => rfl)]
  apply List.ext_getElem?
  intro i
  rw [List.getElem?_map, List.getElem?_map]
  by_cases h : i < xs.length
  · rw [List.getElem?_range h, List.getElem?_eq_getElem h]
    simp only [Option.map_some]
    rw [List.getD_eq_getElem?_getD, List.getElem?_eq_getElem h] <;> rfl
  · rw [List.getElem?_eq_none (by rw [List.length_range]; omega), List.getElem?_eq_none (by omega)]
    rfl
theorem el_map {a : Addr} {j : Nat} {vs : List Nat} {α : Type} (d : α) {xs : List α} {c : α → V} (f : α → V) (h : Ev tl σ H (.ref a)) (hx : SqL K H a (xs.map c)) (hz : xs.length ≤ 40000) (hw : ∀ x, wipe ((wipe σ vs).set j (some x)) vs = wipe σ vs)
    (he : ∀ (x : α) H1, Ex H H1 → x ∈ xs → Ev te ((wipe σ vs).set j (some (c x))) H1 (f x)) : EvL (tLc (iList K tl) (gName j) tYes te vs) σ H (xs.map f) := by
  rw [← given_map xs d f]
  have hl : (xs.map c).length = xs.length := List.length_map _
  rw [← hl]
  refine el_lcL (fun _ => true) _ h hx (by rw [hl]; exact hz) hw (fun i x H1 e hi => fun H2 _ Q q => q H2 (Ex.refl H2)) (fun i x H1 e hi _ => ?_)
  rw [List.getElem?_map] at hi
  cases hq : xs[i]? with
  | none => rw [hq] at hi; cases hi
  | some y =>
    rw [hq] at hi
    have ey : c y = x := Option.some.inj hi
    rw [← ey, List.getD_eq_getElem?_getD, hq]
    exact he y H1 e (List.mem_of_getElem? hq)
/-- [f(i) for i in range(n)] -/
theorem el_mapR {a : TA} {j : Nat} {vs : List Nat} {n : Nat} (f : Nat → V) (h : EvA a σ H [.int (n : Int)]) (hn : n ≤ 40000) (hw : ∀ x, wipe ((wipe σ vs).set j (some x)) vs = wipe σ vs)
    (he : ∀ (i : Nat) H1, Ex H H1 → i < n → Ev te ((wipe σ vs).set j (some (.int (i : Int)))) H1 (f i)) : EvL (tLc (iRng1 a) (gName j) tYes te vs) σ H ((List.range n).map f) := by
  have k := el_lcR1 (t := tYes) (te := te) (j := j) (vs := vs) (fun _ => true) f h (by omega) hw (fun i H1 e hi => fun H2 _ Q q => q H2 (Ex.refl H2)) (fun i H1 e hi _ => he i H1 e (by omega))
  unfold given at k
  rw [List.filter_eq_self.mpr (fun _ _ => rfl), Int.toNat_natCast] at k
  exact k
theorem et_if {b : Bool} {te1 te2 : TE} (h : EvT t σ H b) (h1 : b = true → Ev te1 σ H v) (h2 : b = false → Ev te2 σ H v) : Ev (tIf t te1 te2) σ H v := ev_if h h1 h2
/-- a call whose argument is a new list -/
theorem ev_callN {sp : Sp} {xs : List V} {E : XK} (h : EvL te σ H xs) (hs : ∀ p H1, H1 p = some (.lst xs) → Ex H H1 → SpV sp [.ref p] H1 z) : Ev (tCall sp [] E (tCons te tNil)) σ H z := fun H1 e Q q =>
  h H1 e _ fun p H2 _ e2 hp => hs p H2 hp (e.trans e2) H2 (Ex.refl H2) Q (fun H3 e3 => q H3 (e2.trans e3)) E
theorem ev_op2 {H0 : Hp} (e : Ex H0 H) (h : Ev te σ H0 v) : Ev te σ H v := h.mono e
end
/-! ### frames where one object may change -/
/-- all that was tracked but at g is as it was -/
def ExB (g : Addr) (H H' : Hp) : Prop := ∀ a o, a ≠ g → H a = some o → H' a = some o
theorem ExB.refl (g : Addr) (H : Hp) : ExB g H H := fun _ _ _ h => h
theorem ExB.trans {g : Addr} {H H1 H2 : Hp} (a : ExB g H H1) (b : ExB g H1 H2) : ExB g H H2 := fun x o n h => b x o n (a x o n h)
theorem ExB.of {g : Addr} {H H1 : Hp} (a : Ex H H1) : ExB g H H1 := fun x o _ h => a x o h
theorem ExB.upd {g : Addr} {H H1 : Hp} {o : HO} (a : ExB g H H1) : ExB g H (upd H1 g o) := fun x u n h => by
  rw [upd_ne n]
  exact a x u n h
theorem exb_new {g : Addr} {H H1 H2 : Hp} (e : Ex H H1) (hg : H g = none) (E : ExB g H1 H2) : Ex H H2 := fun b o h => E b o (ne_of_none h hg) (e b o h)
theorem ExB.back {g : Addr} {H H' : Hp} {o : HO} (e : ExB g H H') (hg : H' g = some o) {p : Addr} (h : H' p = none) : H p = none := by
  cases q : H p with
  | none => rfl
  | some u =>
    by_cases n : p = g
    · rw [n, hg] at h; cases h
    · rw [e p u n q] at h; cases h

/-! ### data: scalars, lists and tuples of them -/
def sD : V → PyData
  | .int i => .int i
  | .bl b => .bool b
  | _ => .none
def isSc : V → Bool
  | .int _ => true
  | .bl _ => true
  | .non => true
  | _ => false
section
variable {K : PySem.W.Frag} {H : Hp}
theorem dp_sc {v : V} (h : isSc v = true) : Dp K H v (sD v) := by
  cases v <;> first | cases h | skip
  · exact .non
  · exact .bl _
  · exact .int _
theorem dpAll_sc : ∀ {vs : List V}, vs.all isSc = true → DpAll K H vs (vs.map sD)
  | [], _ => .nil
  | v :: r, h => by
    rw [List.all_cons, Bool.and_eq_true] at h
    exact .cons (dp_sc h.1) (dpAll_sc h.2)
theorem lay_sc (v : V) : PyData.canLay0 (sD v) = true := by
  cases v <;> rfl
theorem layAll_sc : ∀ vs : List V, PyData.canLayAll0 (vs.map sD) = true
  | [] => rfl
  | v :: r => by
    rw [List.map_cons, PyData.canLayAll0, lay_sc v, layAll_sc r]
    rfl
theorem depth_sc (v : V) : PyData.depth (sD v) = 0 := by
  cases v <;> rfl
theorem depthAll_sc : ∀ vs : List V, PyData.depthAll (vs.map sD) = 0
  | [] => rfl
  | v :: r => by
    rw [List.map_cons, PyData.depthAll, depth_sc v, depthAll_sc r]
    rfl
theorem shaped_tup (vs : List V) : SeqAt.shaped (.tuple (vs.map sD)) = true := by
  unfold SeqAt.shaped
  rw [PyData.canLay0, layAll_sc, PyData.depth, depthAll_sc]
  rfl
theorem shaped_lst (vs : List V) : SeqAt.shaped (.list (vs.map sD)) = true := by
  unfold SeqAt.shaped
  rw [PyData.canLay0, layAll_sc, PyData.depth, depthAll_sc]
  rfl
theorem ints_sc : ∀ ns : List Int, (ns.map V.int).all isSc = true
  | [] => rfl
  | _ :: r => by rw [List.map_cons, List.all_cons, ints_sc r]; rfl
theorem ints_sD (ns : List Int) : (ns.map V.int).map sD = ns.map PyData.int := by rw [List.map_map]; rfl
/-- two tuples with the same scalars -/
theorem rv_neT {a b : Addr} {xs : List V} (ha : H a = some (.tup xs)) (hb : H b = some (.tup xs)) (h : xs.all isSc = true) : RV (rNeD K) (.ref a) (.ref b) H (.bl false) := fun H1 e Q q =>
  ⟨.tuple (xs.map sD), .tuple (xs.map sD), .tup (st_of (e _ _ ha)) (dpAll_sc h), .tup (st_of (e _ _ hb)) (dpAll_sc h), shaped_tup xs, shaped_tup xs, by
    rw [SeqAt.eqv_refl _ (SeqAt.canLay_of_shaped (shaped_tup xs))]
    exact q H1 (Ex.refl H1)⟩
theorem rv_eqT {a b : Addr} {xs : List V} (ha : H a = some (.tup xs)) (hb : H b = some (.tup xs)) (h : xs.all isSc = true) : RV (rEqD K) (.ref a) (.ref b) H (.bl true) := fun H1 e Q q =>
  ⟨.tuple (xs.map sD), .tuple (xs.map sD), .tup (st_of (e _ _ ha)) (dpAll_sc h), .tup (st_of (e _ _ hb)) (dpAll_sc h), shaped_tup xs, shaped_tup xs, by
    rw [SeqAt.eqv_refl _ (SeqAt.canLay_of_shaped (shaped_tup xs))]
    exact q H1 (Ex.refl H1)⟩
/-- two lists of ints -/
theorem rv_eqI {a b : Addr} {ns ms : List Int} (ha : SqL K H a (ns.map V.int)) (hb : SqL K H b (ms.map V.int)) : RV (rEqD K) (.ref a) (.ref b) H (.bl (decide (ns = ms))) := fun H1 e Q q =>
  ⟨.list ((ns.map V.int).map sD), .list ((ms.map V.int).map sD), .lst (ex_l e ha) (dpAll_sc (ints_sc ns)), .lst (ex_l e hb) (dpAll_sc (ints_sc ms)), shaped_lst _, shaped_lst _, by
    rw [ints_sD, ints_sD, PyData.eqv, PySem.W.ked_eqvAll]
    exact q H1 (Ex.refl H1)⟩
theorem rv_neI {a b : Addr} {ns ms : List Int} (ha : SqL K H a (ns.map V.int)) (hb : SqL K H b (ms.map V.int)) : RV (rNeD K) (.ref a) (.ref b) H (.bl (!decide (ns = ms))) := fun H1 e Q q =>
  ⟨.list ((ns.map V.int).map sD), .list ((ms.map V.int).map sD), .lst (ex_l e ha) (dpAll_sc (ints_sc ns)), .lst (ex_l e hb) (dpAll_sc (ints_sc ms)), shaped_lst _, shaped_lst _, by
    rw [ints_sD, ints_sD, PyData.eqv, PySem.W.ked_eqvAll]
    exact q H1 (Ex.refl H1)⟩
end
/-- a new tuple is handed back -/
def RetU (xs : List V) (H : Hp) (Q : VK) : Prop := ∀ p H2, H p = none → Ex H H2 → H2 p = some (.tup xs) → Q (.ref p) H2
theorem RetU.go {xs : List V} {H H' : Hp} {Q : VK} (k : RetU xs H Q) (e : Ex H H') {p : Addr} {H2 : Hp} (hp : H' p = none) (e2 : Ex H' H2) (h : H2 p = some (.tup xs)) : Q (.ref p) H2 := k p H2 (fresh_back e hp) (e.trans e2) h
theorem RetU.ex {xs : List V} {H H' : Hp} {Q : VK} (k : RetU xs H Q) (e : Ex H H') : RetU xs H' Q := fun p H2 hp e2 h => k p H2 (fresh_back e hp) (e.trans e2) h
theorem eu_if {σ : L2.St} {H : Hp} {t : TT} {ta tb : TE} {xs : List V} {b : Bool} (h : EvT t σ H b) (h1 : b = true → EvU ta σ H xs) (h2 : b = false → EvU tb σ H xs) : EvU (tIf t ta tb) σ H xs := fun H1 e Q q => h H1 e _ fun H2 e2 => by
  cases b with
  | true =>
    show ta σ H2 Q
    exact h1 rfl H2 (e.trans e2) Q fun p H3 hp e3 h3 => q p H3 (fresh_back e2 hp) (e2.trans e3) h3
  | false =>
    show tb σ H2 Q
    exact h2 rfl H2 (e.trans e2) Q fun p H3 hp e3 h3 => q p H3 (fresh_back e2 hp) (e2.trans e3) h3
section
variable {K : PySem.W.Frag} {σ : L2.St} {H H' : Hp} {ta tb te tx tl : TE} {tr : TA} {t u : TT} {x y z v : V} {r : R2} {D : Ends} {tu tw tz : TS}
/-- the first operand a new tuple -/
theorem ev_opU1 {xs : List V} (ha : EvU ta σ H xs) (hb : ∀ H1, Ex H H1 → Ev tb σ H1 y) (hr : ∀ p H1, H1 p = some (.tup xs) → Ex H H1 → RV r (.ref p) y H1 z) : Ev (tOp r ta tb) σ H z := fun H1 e Q q =>
  ha H1 e _ fun p H2 _ e2 hp => hb H2 (e.trans e2) H2 (Ex.refl H2) _ fun H3 e3 => hr p H3 (e3 p _ hp) ((e.trans e2).trans e3) H3 (Ex.refl H3) Q fun H4 e4 => q H4 ((e2.trans e3).trans e4)
theorem el_cat {a b : Addr} {xs zs : List V} (ha : Ev ta σ H (.ref a)) (hb : Ev tb σ H (.ref b)) (h1 : H a = some (.lst xs)) (h2 : H b = some (.lst zs)) (hz : xs.length + zs.length ≤ 100000) : EvL (tOp rCat ta tb) σ H (xs ++ zs) := fun H1 e Q q =>
  ha H1 e _ fun H2 e2 => hb H2 (e.trans e2) _ fun H3 e3 => ⟨a, b, xs, zs, rfl, rfl, e3 _ _ (e2 _ _ (e _ _ h1)), e3 _ _ (e2 _ _ (e _ _ h2)), sz_of hz, fun p hp => q p _ (fresh_back (e2.trans e3) hp) ((e2.trans e3).trans (Ex.new hp)) upd_same⟩
/-- the second one a new list -/
theorem el_catN {a : Addr} {xs zs : List V} (ha : Ev ta σ H (.ref a)) (hb : EvL tb σ H zs) (h1 : H a = some (.lst xs)) (hz : xs.length + zs.length ≤ 100000) : EvL (tOp rCat ta tb) σ H (xs ++ zs) := fun H1 e Q q =>
  ha H1 e _ fun H2 e2 => hb H2 (e.trans e2) _ fun b H3 _ e3 h3 => ⟨a, b, xs, zs, rfl, rfl, e3 _ _ (e2 _ _ (e _ _ h1)), h3, sz_of hz, fun p hp => q p _ (fresh_back (e2.trans e3) hp) ((e2.trans e3).trans (Ex.new hp)) upd_same⟩
/-- a slice of a new list -/
theorem el_slN {tl th : TO} {xs : List V} {lo hi : Option Int} (h : EvL te σ H xs) (h1 : ∀ H1, Ex H H1 → EvO tl σ H1 lo) (h2 : ∀ H1, Ex H H1 → EvO th σ H1 hi) : EvL (tSl (rSlL K) te tl th) σ H (cutV xs lo hi) := fun H1 e _ q =>
  h H1 e _ fun a H2 _ e2 ha => h1 H2 (e.trans e2) H2 (Ex.refl H2) _ fun H3 e3 => h2 H3 ((e.trans e2).trans e3) H3 (Ex.refl H3) _ fun H4 e4 =>
    ⟨a, xs, rfl, sq_of (e4 _ _ (e3 _ _ ha)), fun p hp => q p _ (fresh_back ((e2.trans e3).trans e4) hp) (((e2.trans e3).trans e4).trans (Ex.new hp)) upd_same⟩
theorem el_rev {a : Addr} {xs : List V} (h : Ev te σ H (.ref a)) (hx : SqL K H a xs) : EvL (tRevL K te) σ H xs.reverse := fun H1 e _ q =>
  h H1 e _ fun H2 e2 => ⟨a, xs, rfl, ex_l (e.trans e2) hx, fun p hp => q p _ (fresh_back e2 hp) (e2.trans (Ex.new hp)) upd_same⟩
theorem rv_isN {x : V} : RV (fun x y H Q => y = .non ∧ Q (.bl (decide (x = .non))) H) x .non H (.bl (decide (x = .non))) := fun H1 _ _ q => ⟨rfl, q H1 (Ex.refl H1)⟩
theorem q_par {i j : Nat} {tr : TA} (k : tr σ H fun vs H1 => ∃ v w, vs = [v, w] ∧ tz D ((σ.set i (some v)).set j (some w)) H1) : tSeq (tPar i j tr) tz D σ H := k
theorem s_par {i j : Nat} {tr : TA} (k : tr σ H fun vs H1 => ∃ v w, vs = [v, w] ∧ D.nx ((σ.set i (some v)).set j (some w)) H1) : tPar i j tr D σ H := k
theorem q_parV {i j : Nat} {tr : TA} {v w : V} (h : EvA tr σ H [v, w]) (k : ∀ H1, Ex H H1 → tz D ((σ.set i (some v)).set j (some w)) H1) : tSeq (tPar i j tr) tz D σ H := h H (Ex.refl H) _ fun H1 e => ⟨v, w, rfl, k H1 e⟩
/-! steps of a reading at a heap -/
theorem ta_consU {Q : List V → Hp → Prop} {xs : List V} (h : EvU te σ H xs) (k : ∀ p H1, H p = none → Ex H H1 → H1 p = some (.tup xs) → tr σ H1 fun vs H2 => Q (.ref p :: vs) H2) : tCons te tr σ H Q := h H (Ex.refl H) _ fun p H1 hp e h1 => k p H1 hp e h1
theorem ta_consL {Q : List V → Hp → Prop} {xs : List V} (h : EvL te σ H xs) (k : ∀ p H1, H p = none → Ex H H1 → H1 p = some (.lst xs) → tr σ H1 fun vs H2 => Q (.ref p :: vs) H2) : tCons te tr σ H Q := h H (Ex.refl H) _ fun p H1 hp e h1 => k p H1 hp e h1
theorem ta_consV {Q : List V → Hp → Prop} (h : Ev te σ H v) (k : ∀ H1, Ex H H1 → tr σ H1 fun vs H2 => Q (v :: vs) H2) : tCons te tr σ H Q := h H (Ex.refl H) _ fun H1 e => k H1 e
theorem el_use {Q : VK} {xs : List V} (h : EvL te σ H xs) (k : ∀ p H1, H p = none → Ex H H1 → H1 p = some (.lst xs) → Q (.ref p) H1) : te σ H Q := h H (Ex.refl H) _ fun p H1 hp e h1 => k p H1 hp e h1
theorem eu_use {Q : VK} {xs : List V} (h : EvU te σ H xs) (k : ∀ p H1, H p = none → Ex H H1 → H1 p = some (.tup xs) → Q (.ref p) H1) : te σ H Q := h H (Ex.refl H) _ fun p H1 hp e h1 => k p H1 hp e h1
theorem ev_use {Q : VK} (h : Ev te σ H v) (k : ∀ H1, Ex H H1 → Q v H1) : te σ H Q := h H (Ex.refl H) _ fun H1 e => k H1 e
theorem top_in {Q : VK} (k : ta σ H fun x H1 => tb σ H1 fun y H2 => r x y H2 Q) : tOp r ta tb σ H Q := k
theorem q_in {te : TE} {i : Nat} (k : te σ H fun x H1 => tz D (σ.set i (some x)) H1) : tSeq (tAsg te (gName i)) tz D σ H := k
theorem r_in {te : TE} (k : te σ H D.rt) : tRet te D σ H := k
theorem ta_in {Q : List V → Hp → Prop} {te : TE} (k : te σ H fun x H1 => tr σ H1 fun vs H2 => Q (x :: vs) H2) : tCons te tr σ H Q := k
theorem tup_in {Q : VK} (k : tr σ H fun vs H1 => vs.length ≤ sizeLine ∧ ∀ p, H1 p = none → Q (.ref p) (upd H1 p (.tup vs))) : tTup tr σ H Q := k
theorem et_use {Q : Bool → Hp → Prop} {b : Bool} (h : EvT t σ H b) (k : ∀ H1, Ex H H1 → Q b H1) : t σ H Q := h H (Ex.refl H) _ fun H1 e => k H1 e
theorem tif_in {Q : VK} (k : t σ H fun c H1 => if c = true then ta σ H1 Q else tb σ H1 Q) : tIf t ta tb σ H Q := k
theorem tcall_in {sp : Sp} {dvs : List V} {E : XK} {Q : VK} (k : tr σ H fun vs H1 => sp (vs ++ dvs) H1 Q E) : tCall sp dvs E tr σ H Q := k
theorem tb_in {te : TE} {Q : Bool → Hp → Prop} (k : te σ H fun x H1 => ∃ c, x = .bl c ∧ Q c H1) : tB te σ H Q := k
theorem ta_nil {Q : List V → Hp → Prop} (k : Q [] H) : tNil σ H Q := k
theorem tl_lst {Q : VK} (k : tr σ H fun vs H1 => vs.length ≤ sizeLine ∧ ∀ p, H1 p = none → Q (.ref p) (upd H1 p (.lst vs))) : tLst tr σ H Q := k
end
section
variable {K : PySem.W.Frag} {σ : L2.St} {H H' : Hp} {ta tb te tx tl : TE} {tr : TA} {t u : TT} {x y z v : V} {r : R2} {D : Ends} {tu tw tz : TS} {g : TG}
/-- for i, x in enumerate(xs) -/
theorem s_forEnum {a : Addr} {xs : List V} (h : EvA tr σ H [.ref a]) (hx : SqL K H a xs) (Pv : Nat → L2.St → Hp → Prop) (h0 : ∀ H1, Ex H H1 → Pv 0 σ H1) (hl : ∀ i σ' H', i ≤ xs.length → Pv i σ' H' → SqL K H' a xs)
    (hs : ∀ i x σ' H', xs[i]? = some x → Pv i σ' H' → ∀ T, H' T = none → g (.ref T) σ' (upd H' T (.tup [.int (i : Nat), x])) fun σ2 H2 => tu { D with nx := Pv (i + 1), ct := Pv (i + 1), bk := D.nx } σ2 H2) (hd : ∀ σ' H', Pv xs.length σ' H' → D.nx σ' H') : tFor (iEnum K tr) g tu D σ H :=
  h H (Ex.refl H) _ fun H1 e => ⟨a, xs, rfl, ex_l e hx, fun i m σ H => m = xs.length - i ∧ i ≤ xs.length ∧ Pv i σ H, ⟨xs.length, by simp, Nat.zero_le _, h0 H1 e⟩, fun i m σ' H' hw => by
    obtain ⟨rfl, hi, p⟩ := hw
    have q := hl i σ' H' hi p
    by_cases hlt : i < xs.length
    · refine .inr ⟨⟨xs, xs[i], q, by simp [hlt]⟩, Pv (i + 1), fun σ2 H2 p' => ⟨xs.length - (i + 1), by omega, rfl, hlt, p'⟩, fun v H2 y => ?_⟩
      obtain ⟨T, x, rfl, hT, rfl, hy⟩ := y
      exact hs i x σ' H' (hy xs q) p T hT
    · have e : i = xs.length := by omega
      subst e
      exact .inl ⟨⟨xs, q, Nat.le_refl _⟩, hd σ' H' p⟩⟩
/-- o.f, o.m(), C's -/
theorem ev_fld {C a dx : Addr} {fs : List (Str × V)} {f : Str} (h : Ev te σ H (.ref a)) (ho : H a = some (.ins C dx fs)) (c : Cls K C) (n : NoAttr K C f) (l : fs.lookup f = some v) : Ev (tFld K te f) σ H v := fun H1 e Q q =>
  h H1 e _ fun H2 e2 => ⟨a, C, dx, fs, v, rfl, e2 _ _ (e _ _ ho), c, n, l, q H2 e2⟩
theorem ev_meth0 {C a dx : Addr} {fs : List (Str × V)} {m : Str} {sp : Sp} {E : XK} (h : Ev te σ H (.ref a)) (ho : H a = some (.ins C dx fs)) (l : fs.lookup m = none) (hs : SpV sp [.ref a] H v) : Ev (tMeth C m sp [] E te tNil) σ H v := fun H1 e Q q =>
  h H1 e _ fun H2 e2 => ⟨a, dx, fs, rfl, e2 _ _ (e _ _ ho), l, hs H2 (e.trans e2) Q (fun H3 e3 => q H3 (e2.trans e3)) E⟩
theorem el_meth0 {C a dx : Addr} {fs : List (Str × V)} {m : Str} {sp : Sp} {E : XK} {xs : List V} (h : Ev te σ H (.ref a)) (ho : H a = some (.ins C dx fs)) (l : fs.lookup m = none) (hs : ∀ H1, Ex H H1 → ∀ Q : VK, RetL xs H1 Q → ∀ E : XK, sp [.ref a] H1 Q E) : EvL (tMeth C m sp [] E te tNil) σ H xs := fun H1 e Q q =>
  h H1 e _ fun H2 e2 => ⟨a, dx, fs, rfl, e2 _ _ (e _ _ ho), l, hs H2 (e.trans e2) Q (fun p H3 hp e3 h3 => q p H3 (fresh_back e2 hp) (e2.trans e3) h3) E⟩
theorem el_callR {sp : Sp} {dvs vs xs : List V} {E : XK} {ta : TA} (h : EvA ta σ H vs) (hs : ∀ H1, Ex H H1 → ∀ Q : VK, RetL xs H1 Q → ∀ E : XK, sp (vs ++ dvs) H1 Q E) : EvL (tCall sp dvs E ta) σ H xs := el_call h fun H1 e Q q E => hs H1 e Q q E
/-- isinstance of an own class -/
theorem ev_isiC {C a dx : Addr} {fs : List (Str × V)} (h : Ev te σ H (.ref a)) (ho : H a = some (.ins C dx fs)) (c : Cls K C)
    (i : PySem.W.findIn K (.ref C) "__class__" = some (some (.builtin "object.__class__")) ∧ PySem.W.specialIn K (.builtin "object.__class__") "__get__" = some (some (.builtin "getset_descriptor.__get__")) ∧ PySem.W.takesIn K (.builtin "object.__class__") = some true ∧ PySem.W.mroIn K C (.type "object") = some true) :
    Ev (tCB (rIsi K) (tCons te (tCons (tC (.ref C)) tNil))) σ H (.bl true) := fun H1 e Q q =>
  h H1 e _ fun H2 e2 => ⟨.ref a, .ref C, .ref C, .ref C, true, rfl, ClsV.own C, TyX.base (TyOf.ins (e2 _ _ (e _ _ ho)) c i.1 i.2.1 i.2.2.1 i.2.2.2), by
    unfold PySem.W.kitOne
    rw [if_pos (beq_self_eq_true _)], q H2 e2⟩
/-- max of a new list -/
theorem ev_maxN {ns : List Int} {m : Int} (h : EvL te σ H (ns.map V.int)) (hm : m ∈ ns) (hle : ∀ y ∈ ns, y ≤ m) : Ev (tCB (rMax K) (tCons te tNil)) σ H (.int m) := fun H1 e Q q =>
  h H1 e _ fun p H2 _ e2 h2 => ⟨p, ns, rfl, sq_of h2, by cases ns with | nil => cases hm | cons a r => simp, fun k hk hkl => by
    have : k = m := Int.le_antisymm (hle k hk) (hkl m hm)
    rw [this]
    exact q H2 e2⟩
end
theorem ev_min2 {σ : L2.St} {H : Hp} {ta tb : TE} {i j : Int} (ha : Ev ta σ H (.int i)) (hb : Ev tb σ H (.int j)) : Ev (tCB (fun xs H Q => ∃ i j, xs = [.int i, .int j] ∧ Q (.int (if j < i then j else i)) H) (tCons ta (tCons tb tNil))) σ H (.int (if j < i then j else i)) := fun H1 e Q q =>
  ha H1 e _ fun H2 e2 => hb H2 (e.trans e2) _ fun H3 e3 => ⟨i, j, rfl, q H3 (e2.trans e3)⟩
theorem spv {sp : Sp} {vs : List V} {H : Hp} {z : V} (h : ∀ H1, Ex H H1 → ∀ Q : VK, RetV z H1 Q → ∀ E : XK, sp vs H1 Q E) : SpV sp vs H z := fun H1 e Q q E => h H1 e Q q E
/-- a call that hands back a new tuple -/
theorem eu_call {σ : L2.St} {H : Hp} {sp : Sp} {dvs vs xs : List V} {E : XK} {ta : TA} (h : EvA ta σ H vs) (hs : ∀ H1, Ex H H1 → ∀ Q : VK, RetU xs H1 Q → ∀ E : XK, sp (vs ++ dvs) H1 Q E) : EvU (tCall sp dvs E ta) σ H xs := fun H1 e Q q =>
  h H1 e _ fun H2 e2 => hs H2 (e.trans e2) Q (fun p H3 hp e3 h3 => q p H3 (fresh_back e2 hp) (e2.trans e3) h3) E
/-- a call of which an argument is a new list, that hands back a new tuple -/
theorem eu_callN {σ : L2.St} {H : Hp} {sp : Sp} {xs ys : List V} {E : XK} {te : TE} (h : EvL te σ H xs) (hs : ∀ p H1, H1 p = some (.lst xs) → Ex H H1 → ∀ Q : VK, RetU ys H1 Q → ∀ E : XK, sp [.ref p] H1 Q E) : EvU (tCall sp [] E (tCons te tNil)) σ H ys := fun H1 e Q q =>
  h H1 e _ fun p H2 hp e2 h2 => hs p H2 h2 (e.trans e2) Q (fun u H3 hu e3 h3 => q u H3 (fresh_back e2 hu) (e2.trans e3) h3) E
end WS

set_option Elab.async false
set_option linter.all false
set_option maxRecDepth 100000
set_option maxHeartbeats 2000000
/-! rules of my own: comb; max of ints with a default; max of alike data -/
namespace WS
open PySem PySem.Spec PyProof.Rows L2 Evl
theorem un65 {k : Nat} {A : Around} (r : Room k A) : A.units + 65 < cLine := by have := r.un; omega
section
variable {X : Cx}
/-- math.comb of two counts -/
def rComb : List V → Hp → VK → Prop := fun xs H Q => ∃ a b : Int, xs = [.int a, .int b] ∧ 0 ≤ a ∧ 0 ≤ b ∧ a < 2 ^ 64 ∧ (b ≤ 9000 ∨ a ≤ 18000) ∧ Q (.int (PySem.W.mcComb a b)) H
theorem cr_comb : CallR X (.builtin "math.comb") rComb := by
  intro pins s σ H xs us Q I r h
  obtain ⟨a, b, rfl, h0, h1, h2, h3, q⟩ := h
  obtain ⟨t, u, rfl⟩ := Vals.int2 r
  exact PySem.W.mc_comb h0 h1 h2 h3 fun _ => ⟨.int _, H, I.tok _, ⟨_, rfl⟩, q⟩
/-- max(xs, default=d) of ints -/
def rMaxDef (K : PySem.W.Frag) : List V → List V → Hp → VK → Prop := fun xs zs H Q => ∃ (a : Addr) (ns : List Int) (d : Int), xs = [.ref a] ∧ zs = [.int d] ∧ SqL K H a (ns.map V.int) ∧ (ns = [] → Q (.int d) H) ∧ ∀ m, m ∈ ns → (∀ y ∈ ns, y ≤ m) → Q (.int m) H
theorem cr_maxDef (hc : X.calm = true) (hu : X.A.units + 64 < cLine) : CallRK X (.builtin "max") [Str.ofString "default"] (rMaxDef X.K) := by
  intro pins s σ H xs zs us ws Q I r rz h
  obtain ⟨a, ns, d, rfl, rfl, hs, q0, q⟩ := h
  obtain ⟨its, rv, hl, _⟩ := I.list hs
  rw [Vals.ref1 r]
  obtain ⟨w1, rfl, e1⟩ := vals1 rz
  obtain ⟨td, rfl⟩ := (show ∃ t, w1 = Value.int d t from e1)
  have dp : DpAll X.K H (ns.map V.int) (ns.map PyData.int) := by
    rw [← ints_sD]
    exact dpAll_sc (ints_sc ns)
  obtain ⟨as, ra⟩ := Dp.readsAll I _ _ _ dp rv
  have dep : PyData.depthAll (ns.map PyData.int) = 0 := by
    rw [← ints_sD]
    exact depthAll_sc _
  show wpAny _ _ (call (.builtin "max") [.ref a] [(Str.ofString "default", .int d td)]) _ _ _
  refine PySem.W.max_list_default (xs := ns.map PyData.int) (I.ok.hd hc) hl.isList (by simpa using ra) (PySem.W.alikeAll_datum (α := Int) ns) (by rw [dep]; omega) (fun e h' tk hk => ?_) fun y ys i v h' tk bs e hi r' hk => ?_
  · exact ⟨.int d, H, I.kept hk, ⟨td, rfl⟩, q0 (List.map_eq_nil_iff.mp e)⟩
  · cases ns with
    | nil => cases e
    | cons n r2 =>
      rw [List.map_cons] at e
      injection e with ea eb
      subst ea
      subst eb
      rw [PySem.W.maxD_ints] at r'
      cases r'
      have mem : ∀ (l : List Int) (k : Int), l.foldl max k = k ∨ l.foldl max k ∈ l := fun l => by
        induction l with
        | nil => intro k; exact .inl rfl
        | cons b l ih =>
          intro k
          rw [List.foldl_cons]
          rcases ih (max k b) with z | z
          · rw [z]
            by_cases hkb : k ≤ b
            · rw [Int.max_eq_right hkb]; exact .inr List.mem_cons_self
            · rw [Int.max_eq_left (by omega)]; exact .inl rfl
          · exact .inr (List.mem_cons_of_mem _ z)
      have ge : ∀ (l : List Int) (k : Int), k ≤ l.foldl max k ∧ ∀ y ∈ l, y ≤ l.foldl max k := fun l => by
        induction l with
        | nil => intro k; exact ⟨Int.le_refl _, fun y hy => absurd hy List.not_mem_nil⟩
        | cons b l ih =>
          intro k
          rw [List.foldl_cons]
          obtain ⟨z1, z2⟩ := ih (max k b)
          refine ⟨by omega, fun y hy => ?_⟩
          rcases List.mem_cons.mp hy with h | h
          · omega
          · exact z2 y h
      refine ⟨.int _, H, I.kept hk, ⟨_, rfl⟩, q _ ?_ fun y hy => ?_⟩
      · rcases mem r2 n with z | z
        · rw [z]; exact List.mem_cons_self
        · exact List.mem_cons_of_mem _ z
      · rcases List.mem_cons.mp hy with h | h
        · rw [h]; exact (ge r2 n).1
        · exact (ge r2 n).2 y h
/-- max(xs) of alike data: one of the items, whose datum is the greatest -/
def rMaxData (K : PySem.W.Frag) : List V → Hp → VK → Prop := fun xs H Q => ∃ (a : Addr) (vs : List V) (d : PyData) (ds : List PyData), xs = [.ref a] ∧ SqL K H a vs ∧ DpAll K H vs (d :: ds) ∧ PySem.W.AlikeAll (d :: ds) ∧ PyData.canLayAll0 (d :: ds) = true ∧ PyData.depthAll (d :: ds) ≤ 32 ∧
  ∀ (i : Nat) y e, vs[i]? = some y → (d :: ds)[i]? = some e → e = PySem.W.maxD d ds → Q y H
theorem cr_maxData (hc : X.calm = true) (hu : X.A.units + 64 < cLine) : CallR X (.builtin "max") (rMaxData X.K) := by
  intro pins s σ H xs us Q I r h
  obtain ⟨a, vs, d, ds, rfl, hs, hd, hal, hcl, hde, q⟩ := h
  obtain ⟨its, rv, hl, _⟩ := I.list hs
  rw [Vals.ref1 r]
  obtain ⟨as, ra⟩ := Dp.readsAll I _ _ _ hd rv
  refine PySem.W.max_list_data (I.ok.hd hc) hl.isList (by simpa using ra) hal (by omega) fun i v h' tk bs hi r' hk => ?_
  rw [List.getElem?_toArray] at hi
  have hlt : i < vs.length := by rw [rv.length]; exact (List.getElem?_eq_some_iff.mp hi).1
  obtain ⟨u, hu', ru⟩ := rv.get (List.getElem?_eq_getElem hlt)
  rw [hi] at hu'
  cases hu'
  obtain ⟨bs2, r2, h2, h3, h4⟩ := PySem.W.readsAll_at ra i v hi
  have ge : (d :: ds)[i]? = some ((d :: ds).getD i .none) := by rw [List.getD_eq_getElem?_getD, List.getElem?_eq_getElem h2] <;> rfl
  exact ⟨_, H, I.kept hk, ru, q i _ _ (List.getElem?_eq_getElem hlt) ge ((PySem.Reads.unique (PySem.W.reads_keeps hk r2) _ _ r').1)⟩
end
end WS

set_option Elab.async false
set_option linter.all false
set_option maxRecDepth 100000
set_option maxHeartbeats 2000000
namespace WS
open PySem PySem.Spec PyProof.Rows L2 Evl
section
variable {X : Cx} {tg : Expr}
theorem cr_range1 : CallR X (.type "range") (fun vs H Q => ∃ j, vs = [V.int j] ∧ ∀ p, H p = none → Q (.ref p) (upd H p (.rng 0 j))) := by
  intro pins s σ H vs us Q I r h
  obtain ⟨j, rfl, q⟩ := h
  obtain ⟨u1, rfl, t, rfl⟩ := vals1 r
  refine call_range_1 ⟨.ref s.heap.objs.size, upd H s.heap.objs.size (.rng 0 j), I.laid (t' := s.toks + 1 + 1) (fun _ _ keep => Heap.get?_push_of_some _ keep) (Nat.le_refl _) ⟨_, t, _, Heap.get?_push_size _ rfl⟩, rfl, q _ (I.hok.fresh (Nat.le_refl _))⟩
/-- a range kept as a value, gone over -/
def iRngV (te : TE) : TI := fun σ H R => te σ H fun x H1 => ∃ a lo hi, x = V.ref a ∧ H1 a = some (.rng lo hi) ∧ (-(2 ^ 62) ≤ lo ∧ lo < 2 ^ 62 ∧ -(2 ^ 62) ≤ hi ∧ hi < 2 ^ 62) ∧ R (Itr lo (hi - lo).toNat) H1
theorem pi_rngV {l : Expr} {tl : TE} (hl : PE X l tl) : PI X tg l (iRngV tl) := by
  refine ⟨fun pins s σ H R I h => thn (hl.run pins s σ H _ I h) fun v z ⟨x, G, J, rel, told⟩ => ?_⟩
  obtain ⟨a, lo, hi, rfl, at_, ⟨b1, b2, b3, b4⟩, q⟩ := told
  cases rel
  obtain ⟨t, u, w, laid⟩ := (show ∃ t u w, z.heap.get? a = some { cls := .type "range", data := .fields #[.int lo t, .int hi u, .int 1 w] } from J.hok a _ at_)
  refine wpAny_pyIter_range laid (small_one b1 b2 b3 b4) ?_
  have size_ : (((hi - lo).toNat : Nat) : Int) - ((0 : Nat) : Int) = Builtin.Range.rangeSize lo hi 1 := by rw [rangeSize_one]; split <;> omega
  refine ⟨z.heap.objs.size, [z.heap.objs.size], _, _, G, rfl, J.kept (t' := z.toks) (fun _ _ keep => Heap.get?_push_of_some _ keep), turn_range _ lo (hi - lo).toNat, ?_, fun b hb => ?_, q⟩
  · show IsRangeIter _ _ (lo + ((0 : Nat) : Int) * 1) ((((hi - lo).toNat : Nat) : Int) - ((0 : Nat) : Int)) 1
    rw [size_, show lo + ((0 : Nat) : Int) * 1 = lo by simp]
    exact Heap.get?_push_size _ rfl
  · obtain rfl := List.mem_singleton.mp hb
    exact J.fpOk (Nat.le_refl _) (J.hok.fresh (Nat.le_refl _))
end
theorem given_all (n : Nat) (f : Nat → V) : given n (fun _ => true) f = (List.range n).map f := by
  unfold given
  rw [List.filter_eq_self.mpr (fun _ _ => rfl)]
section
variable {K : PySem.W.Frag} {σ : L2.St} {H H' : Hp} {te tl : TE} {v : V}
theorem et_yes : EvT tYes σ H true := fun H1 _ _ q => q H1 (Ex.refl H1)
/-- [f(i) for i in r], r a range kept as a value -/
theorem el_mapRV {a : Addr} {n j : Nat} {vs : List Nat} (f : Nat → V) (h : Ev tl σ H (.ref a)) (ha : H a = some (.rng 0 (n : Int))) (hn : n ≤ 40000) (hw : ∀ x, wipe ((wipe σ vs).set j (some x)) vs = wipe σ vs)
    (he : ∀ (i : Nat) H1, Ex H H1 → i < n → Ev te ((wipe σ vs).set j (some (.int (i : Int)))) H1 (f i)) : EvL (tLc (iRngV tl) (gName j) tYes te vs) σ H ((List.range n).map f) := by
  rw [← given_all]
  refine fun H0 e Q q => h H0 e _ fun H1 e1 => ⟨a, 0, (n : Int), rfl, e1 _ _ (e _ _ ha), by omega, fun Dl hD => ?_⟩
  have en : ((n : Int) - 0).toNat = n := by omega
  rw [en]
  exact lc_it walk_range (Cw H1 (fun _ => true) f Dl) ⟨hD, Ex.new hD, upd_same⟩ (fun _ _ _ _ => trivial) (fun i x G G' hi p y => by
    obtain ⟨rfl, rfl⟩ := y
    have e0 : (0 : Int) + (i : Int) = (i : Int) := Int.zero_add _
    show wipe ((wipe σ vs).set j (some (.int ((0 : Int) + (i : Int))))) vs = wipe σ vs ∧ _
    rw [e0]
    have hh := he i H1 (e.trans e1) hi
    rw [← e0] at hh
    exact ⟨hw _, cw_turn p (by omega) et_yes (fun _ => hh)⟩) (fun G p => q Dl G (fresh_back e1 p.1) (e1.trans p.2.1) p.2.2)
/-- [f(i, x) for i, x in enumerate(xs)] -/
theorem el_enum {tr : TA} {a : Addr} {xs : List V} {i j : Nat} {vs : List Nat} (f : Nat → V) (h : EvA tr σ H [.ref a]) (hx : SqL K H a xs) (hz : xs.length ≤ 40000)
    (hw : ∀ x y, wipe (((wipe σ vs).set i (some x)).set j (some y)) vs = wipe σ vs) (he : ∀ (k : Nat) (x : V) H1, Ex H H1 → xs[k]? = some x → Ev te (((wipe σ vs).set i (some (.int (k : Int)))).set j (some x)) H1 (f k)) :
    EvL (tLc (iEnum K tr) (gTup K 2 (gCons (gName i) (gCons (gName j) gNil))) tYes te vs) σ H ((List.range xs.length).map f) := by
  rw [← given_all]
  refine fun H0 e Q q => h H0 e _ fun H1 e1 => ⟨a, xs, rfl, ex_l (e.trans e1) hx, fun Dl hD => ?_⟩
  refine lc_it (walk_enum (K := K) (a := a) (xs := xs)) (Cw H1 (fun _ => true) f Dl) ⟨hD, Ex.new hD, upd_same⟩ (fun _ G _ p => ex_l ((e.trans e1).trans p.2.1) hx) (fun k x G G' hk p y => ?_) (fun G p => q Dl G (fresh_back e1 p.1) (e1.trans p.2.1) p.2.2)
  obtain ⟨T, z, x', rfl, hT, rfl, hz', hx'⟩ := y
  obtain rfl := Option.some.inj hz'
  refine ⟨T, _, rfl, st_of upd_same, rfl, _, _, rfl, _, _, rfl, rfl, hw _ _, ?_⟩
  have nD : Dl ≠ T := fun z => by rw [← z, p.2.2] at hT; cases hT
  have p' : Cw H1 (fun _ => true) f Dl k (upd G T (.tup [.int (k : Int), x'])) := ⟨p.1, p.2.1.trans (Ex.new hT), by rw [upd_ne nD]; exact p.2.2⟩
  exact cw_turn p' (by omega) et_yes (fun _ => he k x' H1 (e.trans e1) hx')
/-- .. over a new list -/
theorem el_enumN {xs : List V} {i j : Nat} {vs : List Nat} (f : Nat → V) (h : EvL tl σ H xs) (hz : xs.length ≤ 40000)
    (hw : ∀ x y, wipe (((wipe σ vs).set i (some x)).set j (some y)) vs = wipe σ vs) (he : ∀ (k : Nat) (x : V) H1, Ex H H1 → xs[k]? = some x → Ev te (((wipe σ vs).set i (some (.int (k : Int)))).set j (some x)) H1 (f k)) :
    EvL (tLc (iEnum K (tCons tl tNil)) (gTup K 2 (gCons (gName i) (gCons (gName j) gNil))) tYes te vs) σ H ((List.range xs.length).map f) := fun H0 e Q q =>
  h H0 e _ fun a H1 ha e1 hx => by
    have k := el_enum (K := K) (te := te) (i := i) (j := j) (vs := vs) (tr := fun _ H Q => Q [.ref a] H) f (σ := σ) (H := H1) (fun H2 _ Q2 q2 => q2 H2 (Ex.refl H2)) (sq_of hx) hz hw (fun k x H2 e2 hk => he k x H2 ((e.trans e1).trans e2) hk)
    exact k H1 (Ex.refl H1) Q fun p H2 hp e2 h2 => q p H2 (fresh_back e1 hp) (e1.trans e2) h2
end
end WS

set_option Elab.async false
set_option linter.all false
set_option maxRecDepth 100000
set_option maxHeartbeats 2000000
namespace WS
open PySem PySem.Spec PyProof.Rows L2 Evl
section
variable {X : Cx}
/-- x *= e, one of both small -/
def ipMulS : TIp := fun x y H Q => ∃ i j, x = .int i ∧ y = .int j ∧ CMul i j ∧ Q (.int (i * j)) H
theorem ip_mulS : PIp X .Mult ipMulS := fun pins s σ H x y v u Q I r1 r2 h => by
  obtain ⟨i, j, rfl, rfl, small, q⟩ := h
  obtain ⟨t, rfl⟩ := r1
  obtain ⟨t', rfl⟩ := r2
  exact imul_int ⟨.int _, H, I.tok _, ⟨_, rfl⟩, q⟩ small.ok
end
section
variable {K : PySem.W.Frag} {σ : L2.St} {H : Hp} {te : TE} {D : Ends} {tz : TS}
theorem s_augMul {i : Nat} {a b : Int} (hx : σ[i]? = some (some (.int a))) (h : Ev te σ H (.int b)) (hm : CMul a b) (k : ∀ H1, Ex H H1 → D.nx (σ.set i (some (.int (a * b)))) H1) : tAug i te ipMulS D σ H :=
  ⟨_, hx, h H (Ex.refl H) _ fun H1 e => ⟨a, b, rfl, rfl, hm, k H1 e⟩⟩
/-- max(xs, default=d), xs a new list -/
theorem ev_maxDef {ns : List Int} {d m : Int} (h : EvL te σ H (ns.map V.int)) (h0 : ns = [] → m = d) (h1 : ns ≠ [] → m ∈ ns ∧ ∀ y ∈ ns, y ≤ m) : Ev (tCKw (rMaxDef K) (tCons te tNil) (tCons (tC (.int d)) tNil)) σ H (.int m) := fun H1 e Q q =>
  h H1 e _ fun p H2 _ e2 h2 => ⟨p, ns, d, rfl, rfl, sq_of h2, fun z => by rw [← h0 z]; exact q H2 e2, fun k hk hkl => by
    have ne : ns ≠ [] := fun z => by rw [z] at hk; cases hk
    rw [show k = m from Int.le_antisymm ((h1 ne).2 k hk) (hkl m (h1 ne).1)]
    exact q H2 e2⟩
theorem ev_comb {ta tb : TE} {a b : Int} (ha : Ev ta σ H (.int a)) (hb : Ev tb σ H (.int b)) (h0 : 0 ≤ a) (h1 : 0 ≤ b) (h2 : a ≤ 18000) : Ev (tCB rComb (tCons ta (tCons tb tNil))) σ H (.int (PySem.W.mcComb a b)) := fun H1 e Q q =>
  ha H1 e _ fun H2 e2 => hb H2 (e.trans e2) _ fun H3 e3 => ⟨a, b, rfl, h0, h1, by omega, .inr h2, q H3 (e2.trans e3)⟩
theorem ev_anyN {bs : List Bool} (h : EvL te σ H (bs.map V.bl)) : Ev (tCB (rAny K) (tCons te tNil)) σ H (.bl (bs.any id)) := fun H1 e Q q =>
  h H1 e _ fun p H2 _ e2 h2 => ⟨p, bs, rfl, sq_of h2, q H2 e2⟩
theorem rv_odd {u : Int} (h : 0 ≤ u) : RV (fun x y H Q => ∃ n : Nat, x = .int (n : Int) ∧ y = .int 1 ∧ Q (.int ((n % 2 : Nat) : Int)) H) (.int u) (.int 1) H (.int (u % 2)) := fun H1 e Q q =>
  ⟨u.toNat, by rw [show ((u.toNat : Nat) : Int) = u by omega], rfl, by
    rw [show ((u.toNat % 2 : Nat) : Int) = u % 2 by omega]
    exact q H1 (Ex.refl H1)⟩
/-- [f(i, x) for i, x in enumerate(xs) if t(i, x)] -/
theorem el_enumT {tr : TA} {t : TT} {a : Addr} {xs : List V} {i j : Nat} {vs : List Nat} (b : Nat → Bool) (f : Nat → V) (h : EvA tr σ H [.ref a]) (hx : SqL K H a xs) (hz : xs.length ≤ 40000)
    (hw : ∀ x y, wipe (((wipe σ vs).set i (some x)).set j (some y)) vs = wipe σ vs) (ht : ∀ (k : Nat) (x : V) H1, Ex H H1 → xs[k]? = some x → EvT t (((wipe σ vs).set i (some (.int (k : Int)))).set j (some x)) H1 (b k))
    (he : ∀ (k : Nat) (x : V) H1, Ex H H1 → xs[k]? = some x → b k = true → Ev te (((wipe σ vs).set i (some (.int (k : Int)))).set j (some x)) H1 (f k)) :
    EvL (tLc (iEnum K tr) (gTup K 2 (gCons (gName i) (gCons (gName j) gNil))) t te vs) σ H (given xs.length b f) := by
  refine fun H0 e Q q => h H0 e _ fun H1 e1 => ⟨a, xs, rfl, ex_l (e.trans e1) hx, fun Dl hD => ?_⟩
  refine lc_it (walk_enum (K := K) (a := a) (xs := xs)) (Cw H1 b f Dl) ⟨hD, Ex.new hD, upd_same⟩ (fun _ G _ p => ex_l ((e.trans e1).trans p.2.1) hx) (fun k x G G' hk p y => ?_) (fun G p => q Dl G (fresh_back e1 p.1) (e1.trans p.2.1) p.2.2)
  obtain ⟨T, z, x', rfl, hT, rfl, hz', hx'⟩ := y
  obtain rfl := Option.some.inj hz'
  refine ⟨T, _, rfl, st_of upd_same, rfl, _, _, rfl, _, _, rfl, rfl, hw _ _, ?_⟩
  have nD : Dl ≠ T := fun z => by rw [← z, p.2.2] at hT; cases hT
  have p' : Cw H1 b f Dl k (upd G T (.tup [.int (k : Int), x'])) := ⟨p.1, p.2.1.trans (Ex.new hT), by rw [upd_ne nD]; exact p.2.2⟩
  exact cw_turn p' (by omega) (ht k x' H1 (e.trans e1) hx') (fun hb => he k x' H1 (e.trans e1) hx' hb)
theorem given_filt {α : Type} (d : α) (l : List α) (b : α → Bool) (f : α → V) : given l.length (fun i => b (l.getD i d)) (fun i => f (l.getD i d)) = (l.filter b).map f := by
  unfold given
  show List.map (f ∘ fun i => l.getD i d) _ = _
  rw [← List.map_map]
  congr 1
  have m : (List.range l.length).map (fun i => l.getD i d) = l := by
    apply List.ext_getElem?
    intro i
    rw [List.getElem?_map]
    by_cases c : i < l.length
    · rw [List.getElem?_range c, List.getElem?_eq_getElem c]
      simp [c]
    · rw [List.getElem?_eq_none (by rw [List.length_range]; omega), List.getElem?_eq_none (by omega)]
      rfl
  conv => rhs; rw [← m]
  rw [List.filter_map]
  rfl
/-- [f(x) for x in ns if t(x)] -/
theorem el_mapT {tl : TE} {t : TT} {a : Addr} {j : Nat} {vs : List Nat} {ns : List Int} (b : Int → Bool) (f : Int → V) (h : Ev tl σ H (.ref a)) (hx : SqL K H a (ns.map V.int)) (hz : ns.length ≤ 40000) (hw : ∀ x, wipe ((wipe σ vs).set j (some x)) vs = wipe σ vs)
    (ht : ∀ (u : Int) H1, Ex H H1 → u ∈ ns → EvT t ((wipe σ vs).set j (some (.int u))) H1 (b u)) (he : ∀ (u : Int) H1, Ex H H1 → u ∈ ns → b u = true → Ev te ((wipe σ vs).set j (some (.int u))) H1 (f u)) : EvL (tLc (iList K tl) (gName j) t te vs) σ H ((ns.filter b).map f) := by
  rw [← given_filt 0 ns b f]
  have hl : (ns.map V.int).length = ns.length := List.length_map _
  rw [← hl]
  refine el_lcL (fun i => b (ns.getD i 0)) (fun i => f (ns.getD i 0)) h hx (by rw [hl]; exact hz) hw (fun i x H1 e hi => ?_) (fun i x H1 e hi hb => ?_)
  · rw [List.getElem?_map] at hi
    cases hq : ns[i]? with
    | none => rw [hq] at hi; cases hi
    | some u =>
      rw [hq] at hi
      obtain rfl := Option.some.inj hi
      rw [List.getD_eq_getElem?_getD, hq]
      exact ht u H1 e (List.mem_of_getElem? hq)
  · rw [List.getElem?_map] at hi
    cases hq : ns[i]? with
    | none => rw [hq] at hi; cases hi
    | some u =>
      rw [hq] at hi
      obtain rfl := Option.some.inj hi
      rw [List.getD_eq_getElem?_getD, hq] at hb ⊢
      exact he u H1 e (List.mem_of_getElem? hq) hb
/-- what a comprehension asks behind its iterable -/
def LcB (J : It) (g : TG) (tt : TT) (te : TE) (vs : List Nat) (σ : L2.St) (H1 : Hp) (Q : VK) : Prop := ∀ D, H1 D = none → ∃ W : Nat → Nat → Hp → Prop, (∃ m, W 0 m (upd H1 D (.lst []))) ∧ ∀ i m H, W i m H →
  (J.stop i H ∧ Q (.ref D) H) ∨ (J.go i H ∧ ∃ Nx : Hp → Prop, (∀ H', Nx H' → ∃ m', m' < m ∧ W (i + 1) m' H') ∧ ∀ x H', J.yld i H x H' → g x (wipe σ vs) H' fun σ2 H2 => wipe σ2 vs = wipe σ vs ∧ tt σ2 H2 fun b H3 =>
    if b = true then te σ2 H3 fun y H4 => ∃ acc, H4 D = some (.lst acc) ∧ acc.length < sizeLine ∧ Nx (upd H4 D (.lst (acc ++ [y]))) else Nx H3)
theorem lcR1_in {ta : TA} {g : TG} {tt : TT} {vs : List Nat} {Q : VK} (k : ta σ H fun xs H1 => ∃ j : Int, xs = [.int j] ∧ -(2 ^ 62) ≤ j ∧ j < 2 ^ 62 ∧ LcB (Itr 0 j.toNat) g tt te vs σ H1 Q) : tLc (iRng1 ta) g tt te vs σ H Q := k
theorem forL_in {tl : TE} {g : TG} {tu : TS} (k : tl σ H fun x H1 => ∃ a, x = .ref a ∧ (∃ xs, SqL K H1 a xs) ∧ ∃ W : Nat → Nat → L2.St → Hp → Prop, (∃ m, W 0 m σ H1) ∧ ∀ i m σ H, W i m σ H →
  ((Itl K a).stop i H ∧ tz D σ H) ∨ ((Itl K a).go i H ∧ ∃ N : L2.St → Hp → Prop, (∀ σ' H', N σ' H' → ∃ m', m' < m ∧ W (i + 1) m' σ' H') ∧ ∀ x H', (Itl K a).yld i H x H' → g x σ H' fun σ2 H2 => tu { D with nx := N, ct := N, bk := tz D } σ2 H2)) : tSeq (tFor (iList K tl) g tu) tz D σ H := k
theorem forL_at {a : Addr} {g : TG} {tu : TS} (k : tSeq (tFor (iList K fun _ H Q => Q (.ref a) H) g tu) tz D σ H) : ∃ b, (V.ref a) = .ref b ∧ (∃ xs, SqL K H b xs) ∧ ∃ W : Nat → Nat → L2.St → Hp → Prop, (∃ m, W 0 m σ H) ∧ ∀ i m σ H, W i m σ H →
  ((Itl K b).stop i H ∧ tz D σ H) ∨ ((Itl K b).go i H ∧ ∃ N : L2.St → Hp → Prop, (∀ σ' H', N σ' H' → ∃ m', m' < m ∧ W (i + 1) m' σ' H') ∧ ∀ x H', (Itl K b).yld i H x H' → g x σ H' fun σ2 H2 => tu { D with nx := N, ct := N, bk := tz D } σ2 H2) := k
theorem ev_at {a : Addr} : Ev (fun _ H Q => Q (.ref a) H) σ H (.ref a) := fun H1 _ _ q => q H1 (Ex.refl H1)
theorem top_in2' {ta tb : TE} {r : R2} {Q : VK} (k : ta σ H fun x H1 => tb σ H1 fun y H2 => r x y H2 Q) : tOp r ta tb σ H Q := k
/-- [u] * k, k counted -/
theorem el_times {tb : TE} {u : Int} {k : Nat} (hk : k ≤ 1000) (hu : Ev te σ H (.int u)) (hi : ∀ H1, Ex H H1 → Ev tb σ H1 (.int (k : Int))) : EvL (tOp rRep (tLst (tCons te tNil)) tb) σ H ((List.replicate k u).map V.int) := fun H1 e Q q => by
  refine el_lst (ea_cons hu ea_nil) (by show 1 ≤ 100000; decide) H1 e _ fun l H2 hl e2 h2 => ?_
  refine hi H2 (e.trans e2) H2 (Ex.refl H2) _ fun H3 e3 => ⟨l, (k : Int), _, rfl, rfl, e3 _ _ h2, by omega, by omega, ?_, fun p hp => ?_⟩
  · show 1 * (k : Int).toNat ≤ sizeLine
    rw [Int.toNat_natCast, Nat.one_mul]
    exact sz_of (by omega)
  · refine q p _ (fresh_back (e2.trans e3) hp) ((e2.trans e3).trans (Ex.new hp)) ?_
    rw [upd_same, Int.toNat_natCast, List.map_replicate]
    congr 2
    simp
end
end WS

set_option Elab.async false
set_option linter.all false
set_option maxRecDepth 100000
set_option maxHeartbeats 2000000
namespace WS
open PySem PySem.Spec PyProof.Rows L2 Evl
def below : Nat → Nat → List (List Int)
  | 0, _ => [[]]
  | n + 1, top => (below n top).flatMap fun r => (List.range top).map fun i : Nat => r ++ [(i : Int)]
theorem below_len : ∀ n top, (below n top).length = top ^ n
  | 0, _ => rfl
  | n + 1, top => by
    have h : ∀ l : List (List Int), (l.flatMap fun r => (List.range top).map fun i : Nat => r ++ [(i : Int)]).length = l.length * top := by
      intro l
      induction l with
      | nil => simp
      | cons a r ih => rw [List.flatMap_cons, List.length_append, ih, List.length_map, List.length_range, List.length_cons, Nat.succ_mul]; omega
    unfold below
    rw [h, below_len n top, Nat.pow_succ]
theorem below_row : ∀ (n top : Nat) (r : List Int), r ∈ below n top → r.length = n ∧ ∀ x ∈ r, 0 ≤ x ∧ x < (top : Int)
  | 0, top, r, h => by
    rw [List.mem_singleton.mp h]
    exact ⟨rfl, fun x hx => absurd hx List.not_mem_nil⟩
  | n + 1, top, r, h => by
    obtain ⟨s, hs, h2⟩ := List.mem_flatMap.mp h
    obtain ⟨i, hi, rfl⟩ := List.mem_map.mp h2
    obtain ⟨k1, k2⟩ := below_row n top s hs
    refine ⟨by rw [List.length_append, k1]; rfl, fun x hx => ?_⟩
    rcases List.mem_append.mp hx with z | z
    · exact k2 x z
    · rw [List.mem_singleton.mp z]
      have := List.mem_range.mp hi
      omega
theorem snoc_rec {motive : List Int → Prop} (nil : motive []) (snoc : ∀ r x, motive r → motive (r ++ [x])) : ∀ r, motive r := by
  intro r
  have : ∀ s : List Int, motive s.reverse := by
    intro s
    induction s with
    | nil => exact nil
    | cons x t ih => rw [List.reverse_cons]; exact snoc _ _ ih
  have h := this r.reverse
  rwa [List.reverse_reverse] at h
theorem below_all : ∀ (r : List Int) (top : Nat), (∀ x ∈ r, 0 ≤ x ∧ x < (top : Int)) → r ∈ below r.length top := by
  intro r
  induction r using snoc_rec with
  | nil => exact fun top _ => List.mem_singleton.mpr rfl
  | snoc r x ih =>
    intro top h
    rw [List.length_append]
    show _ ∈ (below r.length top).flatMap _
    refine List.mem_flatMap.mpr ⟨r, ih top fun y hy => h y (List.mem_append_left _ hy), List.mem_map.mpr ⟨x.toNat, ?_, ?_⟩⟩
    · have := h x (List.mem_append_right _ List.mem_cons_self)
      exact List.mem_range.mpr (by omega)
    · have := h x (List.mem_append_right _ List.mem_cons_self)
      rw [show ((x.toNat : Nat) : Int) = x by omega]
/-- a list of lists of ints -/
def Lv (H : Hp) (vs : List V) (rs : List (List Int)) : Prop := vs.length = rs.length ∧ ∀ (i : Nat) (r : List Int), rs[i]? = some r → ∃ a : Addr, vs[i]? = some (V.ref a) ∧ H a = some (HO.lst (r.map V.int))
theorem Lv.ex {H H' : Hp} {vs : List V} {rs : List (List Int)} (h : Lv H vs rs) (e : Ex H H') : Lv H' vs rs := ⟨h.1, fun i r hr => by
  obtain ⟨a, h1, h2⟩ := h.2 i r hr
  exact ⟨a, h1, e _ _ h2⟩⟩
theorem Lv.get {H : Hp} {vs : List V} {rs : List (List Int)} (h : Lv H vs rs) {i : Nat} {x : V} (hx : vs[i]? = some x) : ∃ (a : Addr) (r : List Int), x = V.ref a ∧ rs[i]? = some r ∧ H a = some (.lst (r.map V.int)) := by
  have hi := (List.getElem?_eq_some_iff.mp hx).1
  have hr : rs[i]? = some (rs[i]'(by have := h.1; omega)) := List.getElem?_eq_getElem (by have := h.1; omega)
  obtain ⟨a, h1, h2⟩ := h.2 i _ hr
  rw [hx] at h1
  exact ⟨a, _, Option.some.inj h1, hr, h2⟩
theorem Lv.app {H : Hp} {vs ws : List V} {rs ss : List (List Int)} (h : Lv H vs rs) (k : Lv H ws ss) : Lv H (vs ++ ws) (rs ++ ss) := by
  refine ⟨by rw [List.length_append, List.length_append, h.1, k.1], fun i r hr => ?_⟩
  have hl := h.1
  by_cases c : i < rs.length
  · rw [List.getElem?_append_left c] at hr
    rw [List.getElem?_append_left (by omega)]
    exact h.2 i r hr
  · rw [List.getElem?_append_right (by omega)] at hr
    rw [List.getElem?_append_right (by omega), hl]
    exact k.2 _ r hr
def LL (H : Hp) (p : Addr) (rs : List (List Int)) : Prop := ∃ vs, H p = some (.lst vs) ∧ Lv H vs rs
theorem LL.ex {H H' : Hp} {p : Addr} {rs : List (List Int)} (h : LL H p rs) (e : Ex H H') : LL H' p rs := by
  obtain ⟨vs, h1, h2⟩ := h
  exact ⟨vs, e _ _ h1, h2.ex e⟩
section
variable {K : PySem.W.Frag} {σ : L2.St} {H : Hp} {ta tb te tl : TE} {D : Ends} {tr : TA}
theorem s_in {i : Nat} (k : te σ H fun x H1 => D.nx (σ.set i (some x)) H1) : tAsg te (gName i) D σ H := k
theorem el_catVL {a : Addr} {xs zs : List V} (ha : Ev ta σ H (.ref a)) (h2 : H a = some (.lst xs)) (hb : EvL tb σ H zs) (hz : xs.length + zs.length ≤ 100000) : EvL (tOp rCat ta tb) σ H (xs ++ zs) := fun H1 e Q q =>
  ha H1 e _ fun H2 e2 => hb H2 (e.trans e2) _ fun p H3 _ e3 hp => ⟨a, p, xs, zs, rfl, rfl, e3 _ _ (e2 _ _ (e _ _ h2)), hp, sz_of hz, fun u hu => q u _ (fresh_back (e2.trans e3) hu) ((e2.trans e3).trans (Ex.new hu)) upd_same⟩
theorem el_catLV {a : Addr} {xs zs : List V} (hb : EvL ta σ H zs) (ha : Ev tb σ H (.ref a)) (h2 : H a = some (.lst xs)) (hz : zs.length + xs.length ≤ 100000) : EvL (tOp rCat ta tb) σ H (zs ++ xs) := fun H1 e Q q =>
  hb H1 e _ fun p H2 _ e2 hp => ha H2 (e.trans e2) _ fun H3 e3 => ⟨p, a, zs, xs, rfl, rfl, e3 _ _ hp, e3 _ _ (e2 _ _ (e _ _ h2)), sz_of hz, fun u hu => q u _ (fresh_back (e2.trans e3) hu) ((e2.trans e3).trans (Ex.new hu)) upd_same⟩
/-- [row + [i] for i in range(n)] -/
theorem longer_use {r : List Int} {a : Addr} {i1 j : Nat} {ws : List Nat} {n : Nat} {Q : VK} (hn : n ≤ 10000) (hr : r.length ≤ 100) (h : EvA tr σ H [.int (n : Int)]) (ha : H a = some (.lst (r.map V.int)))
    (hw : ∀ y, wipe ((wipe σ ws).set j (some y)) ws = wipe σ ws) (hx : ∀ y, ((wipe σ ws).set j (some y))[i1]? = some (some (.ref a))) (hj : ∀ y, ((wipe σ ws).set j (some y))[j]? = some (some y))
    (k : ∀ D H', H D = none → Ex H H' → LL H' D ((List.range n).map fun i : Nat => r ++ [(i : Int)]) → Q (.ref D) H') : tLc (iRng1 tr) (gName j) tYes (tOp rCat (tVar i1) (tLst (tCons (tVar j) tNil))) ws σ H Q := by
  refine h H (Ex.refl H) _ fun H1 e1 => ⟨_, rfl, by omega, by omega, fun D hD => ?_⟩
  have hD0 := fresh_back e1 hD
  rw [Int.toNat_natCast]
  refine lc_range (lo := 0) (n := n) (fun i H' => Ex H1 H' ∧ ∃ acc : List V, H' D = some (.lst acc) ∧ acc.length = i ∧ ∀ (t : Nat) (v : V), acc[t]? = some v → ∃ u, v = V.ref u ∧ u ≠ D ∧ H' u = some (HO.lst ((r ++ [(t : Int)]).map V.int)))
    ⟨Ex.new hD, [], upd_same, rfl, fun n v hv => by simp at hv⟩ (fun i H' hi p' => ?_) (fun H' p' => ?_)
  · obtain ⟨e, acc, ha', hl, hacc⟩ := p'
    refine ⟨hw _, ?_⟩
    unfold tYes
    dsimp only
    rw [if_pos rfl]
    have ec : (0 : Int) + (i : Int) = (i : Int) := Int.zero_add _
    show tOp rCat (tVar i1) (tLst (tCons (tVar j) tNil)) ((wipe σ ws).set j (some (.int ((0 : Int) + (i : Int))))) H' _
    rw [ec]
    refine el_use (el_catVL (a := a) (xs := r.map V.int) (zs := [V.int (i : Int)]) (ev_var (hx _)) ((e1.trans e) _ _ ha) (el_lst (ea_cons (ev_var (hj _)) ea_nil) (by show 1 ≤ 100000; decide)) (by rw [List.length_map]; show r.length + 1 ≤ 100000; omega)) fun u H2 hu e2 ku => ?_
    have uD : u ≠ D := fun z => by rw [z, ha'] at hu; cases hu
    refine ⟨acc, e2 _ _ ha', sz_lt (by omega), Ex.mut (e.trans e2) hD, acc ++ [.ref u], upd_same, by rw [List.length_append, hl]; rfl, fun t v hv => ?_⟩
    by_cases hn : t < acc.length
    · rw [List.getElem?_append_left hn] at hv
      obtain ⟨z, rfl, hz1, hz3⟩ := hacc t v hv
      exact ⟨z, rfl, hz1, by rw [upd_ne hz1]; exact e2 _ _ hz3⟩
    · rw [List.getElem?_append_right (by omega)] at hv
      cases hd : t - acc.length with
      | zero =>
        rw [hd] at hv
        cases hv
        have : t = i := by omega
        subst this
        exact ⟨u, rfl, uD, by rw [upd_ne uD, List.map_append]; exact ku⟩
      | succ m => rw [hd] at hv; simp at hv
  · obtain ⟨e, acc, ha', hl, hacc⟩ := p'
    refine k D H' hD0 (e1.trans e) ⟨acc, ha', by rw [hl, List.length_map, List.length_range], fun t s hs => ?_⟩
    rw [List.getElem?_map] at hs
    have ht : t < n := by
      by_cases c : t < n
      · exact c
      · rw [List.getElem?_eq_none (by rw [List.length_range]; omega)] at hs; cases hs
    rw [List.getElem?_range ht] at hs
    cases hs
    have hv : acc[t]? = some (acc[t]'(by omega)) := List.getElem?_eq_getElem (by omega)
    obtain ⟨u, hu, _, h3⟩ := hacc t _ hv
    exact ⟨u, by rw [hv, hu], h3⟩
/-- a comprehension over range(n) that makes lists of ints -/
theorem lists_use {f : Nat → List Int} {j : Nat} {ws : List Nat} {n : Nat} {Q : VK} (hn : n ≤ 40000) (h : EvA tr σ H [.int (n : Int)])
    (hw : ∀ y, wipe ((wipe σ ws).set j (some y)) ws = wipe σ ws) (he : ∀ (i : Nat) H1, Ex H H1 → i < n → EvL te ((wipe σ ws).set j (some (.int (i : Int)))) H1 ((f i).map V.int))
    (k : ∀ D H', H D = none → Ex H H' → LL H' D ((List.range n).map f) → Q (.ref D) H') : tLc (iRng1 tr) (gName j) tYes te ws σ H Q := by
  refine h H (Ex.refl H) _ fun H1 e1 => ⟨_, rfl, by omega, by omega, fun D hD => ?_⟩
  have hD0 := fresh_back e1 hD
  rw [Int.toNat_natCast]
  refine lc_range (lo := 0) (n := n) (fun i H' => Ex H1 H' ∧ ∃ acc : List V, H' D = some (.lst acc) ∧ acc.length = i ∧ ∀ (t : Nat) (v : V), acc[t]? = some v → ∃ u, v = V.ref u ∧ u ≠ D ∧ H' u = some (HO.lst ((f t).map V.int)))
    ⟨Ex.new hD, [], upd_same, rfl, fun n v hv => by simp at hv⟩ (fun i H' hi p' => ?_) (fun H' p' => ?_)
  · obtain ⟨e, acc, ha', hl, hacc⟩ := p'
    refine ⟨hw _, ?_⟩
    unfold tYes
    dsimp only
    rw [if_pos rfl]
    have ec : (0 : Int) + (i : Int) = (i : Int) := Int.zero_add _
    show te ((wipe σ ws).set j (some (.int ((0 : Int) + (i : Int))))) H' _
    rw [ec]
    refine el_use (he i H' (e1.trans e) hi) fun u H2 hu e2 ku => ?_
    have uD : u ≠ D := fun z => by rw [z, ha'] at hu; cases hu
    refine ⟨acc, e2 _ _ ha', sz_lt (by omega), Ex.mut (e.trans e2) hD, acc ++ [.ref u], upd_same, by rw [List.length_append, hl]; rfl, fun t v hv => ?_⟩
    by_cases hn : t < acc.length
    · rw [List.getElem?_append_left hn] at hv
      obtain ⟨z, rfl, hz1, hz3⟩ := hacc t v hv
      exact ⟨z, rfl, hz1, by rw [upd_ne hz1]; exact e2 _ _ hz3⟩
    · rw [List.getElem?_append_right (by omega)] at hv
      cases hd : t - acc.length with
      | zero =>
        rw [hd] at hv
        cases hv
        have : t = i := by omega
        subst this
        exact ⟨u, rfl, uD, by rw [upd_ne uD]; exact ku⟩
      | succ m => rw [hd] at hv; simp at hv
  · obtain ⟨e, acc, ha', hl, hacc⟩ := p'
    refine k D H' hD0 (e1.trans e) ⟨acc, ha', by rw [hl, List.length_map, List.length_range], fun t s hs => ?_⟩
    rw [List.getElem?_map] at hs
    have ht : t < n := by
      by_cases c : t < n
      · exact c
      · rw [List.getElem?_eq_none (by rw [List.length_range]; omega)] at hs; cases hs
    rw [List.getElem?_range ht] at hs
    cases hs
    have hv : acc[t]? = some (acc[t]'(by omega)) := List.getElem?_eq_getElem (by omega)
    obtain ⟨u, hu, _, h3⟩ := hacc t _ hv
    exact ⟨u, by rw [hv, hu], h3⟩
/-- [f(r) for r in rows if t(r)] -/
theorem el_mapLLt {rs : List (List Int)} {p : Addr} {j : Nat} {vs : List Nat} {t : TT} (b : List Int → Bool) (f : List Int → V) (h : Ev tl σ H (.ref p)) (hp : LL H p rs) (hz : rs.length ≤ 40000) (hw : ∀ x, wipe ((wipe σ vs).set j (some x)) vs = wipe σ vs)
    (ht : ∀ (a : Addr) (r : List Int) H1, Ex H H1 → r ∈ rs → H1 a = some (.lst (r.map V.int)) → EvT t ((wipe σ vs).set j (some (.ref a))) H1 (b r))
    (he : ∀ (a : Addr) (r : List Int) H1, Ex H H1 → r ∈ rs → H1 a = some (.lst (r.map V.int)) → b r = true → Ev te ((wipe σ vs).set j (some (.ref a))) H1 (f r)) : EvL (tLc (iList K tl) (gName j) t te vs) σ H ((rs.filter b).map f) := by
  obtain ⟨as, h1, h2⟩ := hp
  have e : ∀ l : List (List Int), given l.length (fun i => b (l.getD i [])) (fun i => f (l.getD i [])) = (l.filter b).map f := by
    intro l
    unfold given
    show List.map (f ∘ fun i => l.getD i []) _ = _
    rw [← List.map_map]
    congr 1
    have m : (List.range l.length).map (fun i => l.getD i []) = l := by
      apply List.ext_getElem?
      intro i
      rw [List.getElem?_map]
      by_cases c : i < l.length
      · rw [List.getElem?_range c, List.getElem?_eq_getElem c]
        simp [c]
      · rw [List.getElem?_eq_none (by rw [List.length_range]; omega), List.getElem?_eq_none (by omega)]
        rfl
    conv => rhs; rw [← m]
    rw [List.filter_map]
    rfl
  rw [← e rs, ← h2.1]
  refine el_lcL (fun i => b (rs.getD i [])) (fun i => f (rs.getD i [])) h (sq_of h1) (by rw [h2.1]; exact hz) hw (fun i x H1 ex hx => ?_) (fun i x H1 ex hx hb => ?_)
  · obtain ⟨a, r, rfl, hr, ha⟩ := h2.get hx
    rw [List.getD_eq_getElem?_getD, hr]
    exact ht a r H1 ex (List.mem_of_getElem? hr) (ex _ _ ha)
  · obtain ⟨a, r, rfl, hr, ha⟩ := h2.get hx
    rw [List.getD_eq_getElem?_getD, hr] at hb ⊢
    exact he a r H1 ex (List.mem_of_getElem? hr) (ex _ _ ha) hb
theorem el_mapLL {rs : List (List Int)} {p : Addr} {j : Nat} {vs : List Nat} (f : List Int → V) (h : Ev tl σ H (.ref p)) (hp : LL H p rs) (hz : rs.length ≤ 40000) (hw : ∀ x, wipe ((wipe σ vs).set j (some x)) vs = wipe σ vs)
    (he : ∀ (a : Addr) (r : List Int) H1, Ex H H1 → r ∈ rs → H1 a = some (.lst (r.map V.int)) → Ev te ((wipe σ vs).set j (some (.ref a))) H1 (f r)) : EvL (tLc (iList K tl) (gName j) tYes te vs) σ H (rs.map f) := by
  have k := el_mapLLt (K := K) (t := tYes) (fun _ => true) f h hp hz hw (fun a r H1 _ _ _ => fun H2 _ Q q => q H2 (Ex.refl H2)) (fun a r H1 e hr ha _ => he a r H1 e hr ha)
  rw [List.filter_eq_self.mpr (fun _ _ => rfl)] at k
  exact k
theorem Lv.nil : Lv H [] [] := ⟨rfl, fun i r hr => by cases hr⟩
theorem top_in2 {r : R2} {Q : VK} (k : ta σ H fun x H1 => tb σ H1 fun y H2 => r x y H2 Q) : tOp r ta tb σ H Q := k
theorem cut_nat {xs : List Int} {lo hi : Nat} (h : hi ≤ xs.length) : cutV (xs.map V.int) (some (lo : Int)) (some (hi : Int)) = ((xs.drop lo).take (hi - lo)).map V.int := by
  unfold cutV
  rw [HT.sIx_nat, HT.sIx_nat, List.length_map, Nat.min_eq_left h, List.map_take, List.map_drop]
  by_cases c : lo ≤ xs.length
  · rw [Nat.min_eq_left c]
  · rw [Nat.min_eq_right (by omega), List.drop_of_length_le (by rw [List.length_map]; omega), List.drop_of_length_le (by rw [List.length_map]; omega), List.take_nil, List.take_nil]
end
end WS

namespace M40
open M41 M47 WS
open PySem.W (mcComb)
def key (r : List Int) : Int × Int × Int := (bc r 0, bc r 1, bc r 2)
theorem qs_bit : ∀ (fs : List Int) (k : Nat), qs fs k = bc fs k + 2 * qs fs (k + 1)
  | [], k => by simp [qs, bc]
  | u :: r, k => by
    have ih := qs_bit r k
    unfold qs bc bt at ih ⊢
    simp only [List.map_cons, List.sum_cons]
    rw [half_next u k]
    omega
def pr5 (r : List Int) : List Int := (List.range 5).map (cst r)
theorem pr5_iff {r s : List Int} {n : Nat} (hr : Bel 3 r) (hs : Bel 3 s) (lr : r.length = n) (ls : s.length = n) : pr5 r = pr5 s ↔ key r = key s := by
  have e : ∀ l : List Int, Bel 3 l → qs l 3 = 0 ∧ qs l 4 = 0 := fun l h => ⟨qs_far h (Nat.le_refl 3), qs_far h (by decide)⟩
  have er := e r hr
  have es := e s hs
  have r0 := qs_bit r 0
  have r1 := qs_bit r 1
  have r2 := qs_bit r 2
  have s0 := qs_bit s 0
  have s1 := qs_bit s 1
  have s2 := qs_bit s 2
  simp only [Nat.zero_add, Nat.reduceAdd] at r0 r1 r2 s0 s1 s2
  have p5 : ∀ l : List Int, pr5 l = [cst l 0, cst l 1, cst l 2, cst l 3, cst l 4] := fun l => rfl
  rw [p5, p5]
  unfold key cst
  rw [lr, ls, er.1, er.2, es.1, es.2]
  constructor
  · intro h
    simp only [List.cons.injEq] at h
    obtain ⟨h0, h1, h2, _⟩ := h
    have a0 : bc r 0 = bc s 0 := by omega
    have a1 : bc r 1 = bc s 1 := by omega
    have a2 : bc r 2 = bc s 2 := by omega
    rw [a0, a1, a2]
  · intro h
    simp only [Prod.mk.injEq] at h
    obtain ⟨h0, h1, h2⟩ := h
    have a2 : qs r 2 = qs s 2 := by omega
    have a1 : qs r 1 = qs s 1 := by omega
    have a0 : qs r 0 = qs s 0 := by omega
    rw [a0, a1, a2]
def cntK (n : Nat) (c : Int × Int × Int) : Nat := (below n 8).countP fun r => decide (key r = c)
def minus (c : Int × Int × Int) (i : Nat) : Int × Int × Int := (c.1 - bt i 0, c.2.1 - bt i 1, c.2.2 - bt i 2)
theorem bc_snoc (r : List Int) (x : Int) (i : Nat) : bc (r ++ [x]) i = bc r i + bt x i := by
  unfold bc
  rw [List.map_append, sum_app]
  simp
theorem key_snoc (r : List Int) (i : Nat) (c : Int × Int × Int) : key (r ++ [(i : Int)]) = c ↔ key r = minus c i := by
  obtain ⟨a, b, d⟩ := c
  unfold key minus
  rw [bc_snoc, bc_snoc, bc_snoc]
  simp only [Prod.mk.injEq]
  omega
theorem sum_nat_add {α : Type} (l : List α) (f g : α → Nat) : (l.map fun x => f x + g x).sum = (l.map f).sum + (l.map g).sum := by
  induction l with
  | nil => rfl
  | cons x t ih => simp only [List.map_cons, List.sum_cons, ih]; omega
theorem countP_flat (p : List Int → Bool) (q : Nat → List Int → Bool) (h : ∀ (r : List Int) (i : Nat), p (r ++ [(i : Int)]) = q i r) : ∀ l : List (List Int), (l.flatMap fun r => (List.range 8).map fun i : Nat => r ++ [(i : Int)]).countP p = ((List.range 8).map fun i => l.countP (q i)).sum
  | [] => rfl
  | r :: t => by
    have ih := countP_flat p q h t
    rw [List.flatMap_cons, List.countP_append, ih]
    have e : ((List.range 8).map fun i => (r :: t).countP (q i)) = (List.range 8).map fun i => (if q i r = true then 1 else 0) + t.countP (q i) := by
      apply List.map_congr_left
      intro i _
      rw [List.countP_cons]
      omega
    rw [e, sum_nat_add]
    congr 1
    rw [List.countP_map]
    have e2 : (p ∘ fun i : Nat => r ++ [(i : Int)]) = fun i => q i r := by
      funext i
      exact h r i
    rw [e2]
    generalize List.range 8 = L
    induction L with
    | nil => rfl
    | cons x t ih => rw [List.countP_cons, List.map_cons, List.sum_cons, ih]; omega
def tab : Nat → Int × Int × Int → Nat
  | 0, c => if c = (0, 0, 0) then 1 else 0
  | n + 1, c => ((List.range 8).map fun i => tab n (minus c i)).sum
theorem cnt_tab : ∀ (n : Nat) (c : Int × Int × Int), cntK n c = tab n c
  | 0, c => by
    unfold cntK tab below
    rw [List.countP_cons, List.countP_nil]
    have : key [] = (0, 0, 0) := rfl
    rw [this]
    by_cases h : c = (0, 0, 0)
    · rw [if_pos h, h]; rfl
    · rw [if_neg h, decide_eq_false (fun e => h e.symm)]; rfl
  | n + 1, c => by
    unfold cntK below tab
    rw [countP_flat _ (fun i r => decide (key r = minus c i)) (fun r i => decide_eq_decide.mpr (key_snoc r i c))]
    congr 1
    apply List.map_congr_left
    intro i _
    exact cnt_tab n (minus c i)
def L3 (n : Nat) (c : Int × Int × Int) : Int := mcComb n c.1 * mcComb n c.2.1 * mcComb n c.2.2
theorem tab_all : ([1, 2, 3].all fun n => (List.range (n + 1)).all fun a => (List.range (n + 1)).all fun b => (List.range (n + 1)).all fun d => decide (((tab n ((a : Int), (b : Int), (d : Int)) : Nat) : Int) = L3 n ((a : Int), (b : Int), (d : Int)))) = true := by decide +kernel
def likeV (fs : List Int) : Int := (bcs fs).foldl (fun m c => m * mcComb fs.length c) 1
theorem comb0 : ∀ n : Nat, n ∈ [1, 2, 3] → mcComb (n : Int) 0 = 1 := by decide +kernel
theorem like_L3 {fs : List Int} (h : Bel 3 fs) (hn : fs.length ∈ [1, 2, 3]) : likeV fs = L3 fs.length (key fs) := by
  have nn : Nn fs := fun u hu => (h u hu).1
  have L := (lg_bel nn).mpr h
  have b2 := (lg_bel (m := lg fs) nn).mp (Nat.le_refl _)
  have z : ∀ i, lg fs ≤ i → bc fs i = 0 := fun i hi => bel_bc b2 hi
  unfold likeV bcs L3 key
  have c0 := comb0 _ hn
  have : lg fs = 0 ∨ lg fs = 1 ∨ lg fs = 2 ∨ lg fs = 3 := by omega
  rcases this with e | e | e | e
  · rw [e, z 0 (by omega), z 1 (by omega), z 2 (by omega), c0]
    rfl
  · rw [e, z 1 (by omega), z 2 (by omega), c0]
    show 1 * mcComb fs.length (bc fs 0) = _
    rw [Int.one_mul, Int.mul_one, Int.mul_one]
  · rw [e, z 2 (by omega), c0]
    show 1 * mcComb fs.length (bc fs 0) * mcComb fs.length (bc fs 1) = _
    rw [Int.one_mul, Int.mul_one]
  · rw [e]
    show 1 * mcComb fs.length (bc fs 0) * mcComb fs.length (bc fs 1) * mcComb fs.length (bc fs 2) = _
    rw [Int.one_mul]
theorem below_bel {n : Nat} {r : List Int} (h : r ∈ below n 8) : Bel 3 r := fun u hu => by
  have := (below_row n 8 r h).2 u hu
  exact ⟨this.1, this.2⟩
theorem countP_congr' {α : Type} {p q : α → Bool} : ∀ {l : List α}, (∀ x ∈ l, p x = q x) → l.countP p = l.countP q
  | [], _ => rfl
  | x :: t, h => by
    rw [List.countP_cons, List.countP_cons, h x List.mem_cons_self, countP_congr' fun y hy => h y (List.mem_cons_of_mem _ hy)]
theorem like_ok {s : List Int} (h : Bel 3 s) (hn : s.length ∈ [1, 2, 3]) : (((below s.length 8).countP fun r => decide (pr5 r = pr5 s) : Nat) : Int) = likeV s := by
  rw [like_L3 h hn]
  have e : ((below s.length 8).countP fun r => decide (pr5 r = pr5 s)) = cntK s.length (key s) := by
    unfold cntK
    apply countP_congr'
    intro r hr
    exact decide_eq_decide.mpr (pr5_iff (below_bel hr) h (below_row _ 8 r hr).1 rfl)
  rw [e, cnt_tab]
  have b0 := bc_bounds s 0
  have b1 := bc_bounds s 1
  have b2 := bc_bounds s 2
  have T := List.all_eq_true.mp tab_all s.length hn
  have T := List.all_eq_true.mp T (bc s 0).toNat (List.mem_range.mpr (by omega))
  have T := List.all_eq_true.mp T (bc s 1).toNat (List.mem_range.mpr (by omega))
  have T := of_decide_eq_true (List.all_eq_true.mp T (bc s 2).toNat (List.mem_range.mpr (by omega)))
  rw [show (((bc s 0).toNat : Nat) : Int) = bc s 0 by omega, show (((bc s 1).toNat : Nat) : Int) = bc s 1 by omega, show (((bc s 2).toNat : Nat) : Int) = bc s 2 by omega] at T
  exact T
end M40

set_option Elab.async false
set_option linter.all false
set_option maxRecDepth 100000
set_option maxHeartbeats 2000000
namespace WS
open PySem PySem.Spec PyProof.Rows L2 Evl
theorem fmod_in (a b : Int) (h : 0 < b) : 0 ≤ a.fmod b ∧ a.fmod b < b := by
  rw [Int.fmod_eq_emod_of_nonneg a (by omega)]
  exact ⟨Int.emod_nonneg a (by omega), Int.emod_lt_of_pos a h⟩
/-- a generator at g, of which so many numbers at most were drawn by counting -/
def Gs (H : Hp) (g : Addr) (C : Nat) : Prop := ∃ A B c : Int, H g = some (.lst [.int A, .int B, .int c]) ∧ 0 ≤ A ∧ (0 ≤ B ∧ B < 2147483648) ∧ 0 ≤ c ∧ c ≤ C
theorem Gs.ex {H H' : Hp} {g : Addr} {C : Nat} (h : Gs H g C) (e : Ex H H') : Gs H' g C := by
  obtain ⟨A, B, c, h1, h2⟩ := h
  exact ⟨A, B, c, e _ _ h1, h2⟩
theorem Gs.mono {H : Hp} {g : Addr} {C C' : Nat} (h : Gs H g C) (e : C ≤ C') : Gs H g C' := by
  obtain ⟨A, B, c, h1, h2, h3, h4, h5⟩ := h
  exact ⟨A, B, c, h1, h2, h3, h4, by omega⟩
theorem Gs.some {H : Hp} {g : Addr} {C : Nat} (h : Gs H g C) : ∃ o, H g = some o := by
  obtain ⟨A, B, c, h1, _⟩ := h
  exact ⟨_, h1⟩
theorem Gs.upd {H : Hp} {g p : Addr} {C : Nat} {o : HO} (h : Gs H g C) (n : g ≠ p) : Gs (upd H p o) g C := by
  obtain ⟨A, B, c, h1, h2⟩ := h
  exact ⟨A, B, c, by rw [upd_ne n]; exact h1, h2⟩
theorem ints_use {σ : L2.St} {H : Hp} {ta : TA} {te : TE} {j : Nat} {ws : List Nat} {n : Nat} {g : Addr} {C d : Nat} {Q : VK} (P : Int → Prop) (h : EvA ta σ H [.int (n : Int)]) (hn : n ≤ 100) (hw : ∀ x, wipe ((wipe σ ws).set j (some x)) ws = wipe σ ws) (hg : Gs H g C)
    (step : ∀ (i : Nat) H' (R : VK), i < n → Gs H' g (C + d * i) → ExB g H H' → (∀ z H2, P z → Gs H2 g (C + d * i + d) → ExB g H' H2 → R (.int z) H2) → te ((wipe σ ws).set j (some (.int (i : Int)))) H' R)
    (k : ∀ (D : Addr) (H' : Hp) (zs : List Int), H D = none → zs.length = n → (∀ z ∈ zs, P z) → H' D = Option.some (HO.lst (zs.map V.int)) → Gs H' g (C + d * n) → ExB g H H' → Q (.ref D) H') : tLc (iRng1 ta) (gName j) tYes te ws σ H Q := by
  obtain ⟨og, hog⟩ := hg.some
  refine h H (Ex.refl H) _ fun H1 e1 => ⟨(n : Int), rfl, by omega, by omega, fun D hD => ?_⟩
  have hD0 := fresh_back e1 hD
  have gD : g ≠ D := fun z => by rw [z, hD0] at hog; cases hog
  rw [Int.toNat_natCast]
  refine lc_range (lo := 0) (n := n) (fun i H' => ∃ zs : List Int, zs.length = i ∧ (∀ z ∈ zs, P z) ∧ H' D = Option.some (HO.lst (zs.map V.int)) ∧ Gs H' g (C + d * i) ∧ ExB g H H') ⟨[], rfl, fun z hz => absurd hz List.not_mem_nil, upd_same, (hg.ex e1).upd gD, fun b o hb hh => by rw [upd_ne (ne_of_none hh hD0)]; exact e1 _ _ hh⟩ (fun i H' hi p => ?_) (fun H' p => ?_)
  · obtain ⟨zs, hl, hz, hL, hG, hE⟩ := p
    rw [Int.zero_add]
    refine ⟨hw _, step i H' _ hi hG hE fun z H2 pz hG2 hE2 => ⟨zs.map V.int, hE2 D _ (Ne.symm gD) hL, sz_lt (by rw [List.length_map]; omega), zs ++ [z], by rw [List.length_append, hl]; rfl, fun y hy => ?_, ?_, ?_, ?_⟩⟩
    · rcases List.mem_append.mp hy with h | h
      · exact hz y h
      · rw [List.mem_singleton] at h
        rw [h]
        exact pz
    · show _ = _
      rw [upd_same, List.map_append]
      rfl
    · rw [Nat.mul_add, Nat.mul_one, ← Nat.add_assoc]
      exact hG2.upd gD
    · exact fun b o hb hh => by rw [upd_ne (ne_of_none hh hD0)]; exact (hE.trans hE2) b o hb hh
  · obtain ⟨zs, hl, hz, hL, hG, hE⟩ := p
    exact k D H' zs hD0 hl hz hL hG hE
theorem ints_body {σ : L2.St} {H : Hp} {te : TE} {j : Nat} {ws : List Nat} {n : Nat} {g : Addr} {C d : Nat} {Q : VK} (P : Int → Prop) (hn : n ≤ 100) (hw : ∀ x, wipe ((wipe σ ws).set j (some x)) ws = wipe σ ws) (hg : Gs H g C)
    (step : ∀ (i : Nat) H' (R : VK), i < n → Gs H' g (C + d * i) → ExB g H H' → (∀ z H2, P z → Gs H2 g (C + d * i + d) → ExB g H' H2 → R (.int z) H2) → te ((wipe σ ws).set j (some (.int (i : Int)))) H' R)
    (k : ∀ (D : Addr) (H' : Hp) (zs : List Int), H D = none → zs.length = n → (∀ z ∈ zs, P z) → H' D = Option.some (HO.lst (zs.map V.int)) → Gs H' g (C + d * n) → ExB g H H' → Q (.ref D) H') : LcB (Itr 0 n) (gName j) tYes te ws σ H Q := by
  obtain ⟨og, hog⟩ := hg.some
  have e1 := Ex.refl H
  intro D hD
  have hD0 := fresh_back e1 hD
  have gD : g ≠ D := fun z => by rw [z, hD0] at hog; cases hog
  refine lc_range (lo := 0) (n := n) (fun i H' => ∃ zs : List Int, zs.length = i ∧ (∀ z ∈ zs, P z) ∧ H' D = Option.some (HO.lst (zs.map V.int)) ∧ Gs H' g (C + d * i) ∧ ExB g H H') ⟨[], rfl, fun z hz => absurd hz List.not_mem_nil, upd_same, (hg.ex e1).upd gD, fun b o hb hh => by rw [upd_ne (ne_of_none hh hD0)]; exact e1 _ _ hh⟩ (fun i H' hi p => ?_) (fun H' p => ?_)
  · obtain ⟨zs, hl, hz, hL, hG, hE⟩ := p
    rw [Int.zero_add]
    refine ⟨hw _, step i H' _ hi hG hE fun z H2 pz hG2 hE2 => ⟨zs.map V.int, hE2 D _ (Ne.symm gD) hL, sz_lt (by rw [List.length_map]; omega), zs ++ [z], by rw [List.length_append, hl]; rfl, fun y hy => ?_, ?_, ?_, ?_⟩⟩
    · rcases List.mem_append.mp hy with h | h
      · exact hz y h
      · rw [List.mem_singleton] at h
        rw [h]
        exact pz
    · show _ = _
      rw [upd_same, List.map_append]
      rfl
    · rw [Nat.mul_add, Nat.mul_one, ← Nat.add_assoc]
      exact hG2.upd gD
    · exact fun b o hb hh => by rw [upd_ne (ne_of_none hh hD0)]; exact (hE.trans hE2) b o hb hh
  · obtain ⟨zs, hl, hz, hL, hG, hE⟩ := p
    exact k D H' zs hD0 hl hz hL hG hE
end WS

set_option Elab.async false
set_option linter.all false
set_option maxRecDepth 100000
set_option maxHeartbeats 2000000
namespace WS
open PySem PySem.Spec PyProof.Rows L2 Evl
/-! ### defs that are called while no text of a list is being made: repr of data can be told there -/
abbrev Quiet (A : Around) : Prop := A.guards = some []
structure FnQ (P : Program) (w : World) (K : PySem.W.Frag) (mg : Str → Option Value) (base : Heap) (k : Nat) (f : Addr) (fd : FuncData) (ps : List Str) (sp : Sp) : Prop where
  many : ∀ vs H Q E, sp vs H Q E → vs.length = ps.length
  go : ∀ (A : Around) (below : List Env) (z : Shared) (G : Hp) (args : Args) (us : List Value) (vs : List V) (Q : VK) (E : XK), Quiet A → Room k A → Env0 P w K mg base A below z G →
    BindsTo z fd args (ps.zip us) → Vals vs us → sp vs G Q E → codeAny (model P w) A (.call (.ref f) args) (CR CX0 below P w G z Q E) z
section
variable {P : Program} {w : World} {K : PySem.W.Frag} {mg : Str → Option Value} {base : Heap}
/-- any def may be called so -/
theorem FnQ.of {k : Nat} {f : Addr} {fd : FuncData} {ps : List Str} {sp : Sp} (F : FnOk P w K mg base CX0 k f fd ps sp) : FnQ P w K mg base k f fd ps sp :=
  ⟨F.len, fun A below z G args us vs Q E _ room => F.run A below z G args us vs Q E room⟩
/-- a def by its body -/
theorem okQ {x qual : Str} {st : Stmt} {f : Addr} {fd : FuncData} {N ps : List Str} {k : Nat} {sp : Sp} (F : Fun K x qual st f fd) (S : FnScope N ps (defScope st)) (many : ∀ vs H Q E, sp vs H Q E → vs.length = ps.length)
    (body : ∀ (cdv : Value) (A : Around) (below : List Env) (z : Shared) (G : Hp) (vs : List V) (Q : VK) (E : XK), Quiet A → Room k (A.deeper (envOfC qual (defScope st) z.heap.objs.size f cdv)) → sp vs G Q E →
      ∃ t, PSs (cxOf CX0 P w K mg base N qual (defScope st) f cdv A below z G E).nox (defBody st) t ∧ t { nx := fun _ G' => Q .non G', rt := Q } (start N vs) G) : FnQ P w K mg base (k + 1) f fd ps sp := by
  obtain ⟨oc, od, kV, doc, pm, an, cdv, ct, osl, rfl, at_, code⟩ := F.ex
  refine ⟨many, fun A below z G args us vs Q E quiet room around bound rel told => ?_⟩
  have inK : K.In z.heap := around.mod.kin.keeps fun b o e => (around.bs b o e).1
  have kinds : ∀ y ∈ ps.zip us, (defScope st).names.lookup y.1 = some .local ∨ ((defScope st).names.lookup y.1 = some .cell ∧ ((cellsFrom (z.heap.objs.size + 1) (defScope st).names []).lookup y.1).isSome = true) := by
    rintro ⟨n, v⟩ hy
    cases S.par n (List.of_mem_zip hy).1 with
    | inl q => exact .inl q
    | inr q => exact .inr ⟨q, PySem.W.cellsFrom_some _ _ _ (.inl q)⟩
  refine codeAny_call_function room.depth (inK _ _ at_) rfl S.co S.gen rfl (PySem.W.codeRec_of inK code) (bound _ _ _ _ (wpAny_newFunctionEnv_cells S.kind kinds fun env he z1 laid => ?_))
  subst he
  refine ⟨(around.mod.nolimit.keeps fun b o e => (around.bs b o e).1).keeps laid.toInCall.keep, codeAny_func ?_⟩
  obtain ⟨t, run, q⟩ := body cdv A below z G vs Q E quiet (room.deeper _) told
  have I := inv_start (CX := CX0) (E := E) (cd := cdv) S room.hd around (many _ _ _ _ told) rel laid
  refine wpAny_mono (run.nox.run [] z1 (start N vs) G _ I q) (fun fl z' hs => ?_) fun e z' hs => hs
  cases fl with
  | ret u => exact let ⟨v, σ', G', J, rv, qq⟩ := hs; ⟨v, G', J.os, J.bare, J.base, J.hok, rv, qq⟩
  | next => exact let ⟨σ', G', J, qq⟩ := hs; ⟨V.non, G', J.os, J.bare, J.base, J.hok, rfl, qq⟩
  | brk => exact let ⟨_, _, _, qq⟩ := hs; qq.elim
  | cont => exact let ⟨_, _, _, qq⟩ := hs; qq.elim
end
section
variable {X : Cx} {k : Nat} {f : Addr} {fd : FuncData} {ps : List Str} {sp : Sp} {x : Str} {p pos : Pos} {e : Expr} {es : List Expr} {t : TA}
/-- the call of such a def -/
theorem pe_callQ (F : FnQ X.prog X.w X.K X.mg X.base k f fd ps sp) (quiet : Quiet X.A) (room : Room k X.A) (own : Gl X x) (at_ : X.mg x = some (.ref f)) (keep : PySem.W.keepIn X.K (.ref f) = true) (b : Binds X.K fd ps [])
    (args : PA X (e :: es) t) (plain : (x == ("__debug__" : Str)) = false := by decide) (st : starEach (e :: es) X.env = (false, eval e X.env) :: starEach es X.env := by rfl) (nost : (backTo pos (starEach es X.env)).any (·.1) = false := by rfl) :
    PE X (.Call (.Name x p) (e :: es) [] pos) (tCall sp [] E0 t) := ⟨fun pins z σ G Q I h => by
  refine wpAny_Call_Name_kw (ld_glob I own at_ (PySem.W.callWith_K (h₀ := X.base) I.ok.mod.kin keep (thn (args.run pos pins z σ G _ I h) fun us z1 told => ?_) st nost) plain)
  obtain ⟨vs, G1, I1, rel, q⟩ := told
  have q' : sp vs G1 Q E0 := by simpa using q
  have big : us.length = ps.length := by rw [← rel.length]; exact F.many _ _ _ _ q'
  have bb : BindsTo z1 fd ⟨us, []⟩ (ps.zip us) := by
    have := b z1 us I1.kIn (by simpa using big)
    simpa using this
  refine ⟨I1.kIn, wpAny_call (codeAny_mono (F.go X.A X.stack z1 G1 ⟨us, []⟩ us vs Q E0 quiet room I1.env0 bb rel q') fun r z' hq => ?_)⟩
  match r, hq with
  | .ok (.ret u), hq => exact I1.after hq⟩
/-- repr of data -/
def rRepr (K : PySem.W.Frag) : List V → Hp → VK → Prop := fun xs H Q => ∃ a d, xs = [.ref a] ∧ Dp K H (.ref a) d ∧ d.showable = true ∧ d.hasDict = false ∧ d.depth ≤ 50 ∧ d.shown.length ≤ sizeLine ∧ Q (.str d.shown) H
theorem cr_repr (quiet : Quiet X.A) (room : X.A.units + 64 < cLine) : CallR X (.builtin "repr") (rRepr X.K) := by
  intro pins s σ H xs us Q I r h
  obtain ⟨a, d, rfl, hd, show_, nod, deep, small, q⟩ := h
  obtain ⟨u, rfl, ru⟩ := vals1 r
  cases (show u = Value.ref a from ru)
  obtain ⟨as, rd⟩ := Dp.reads I d (.ref a) (.ref a) hd rfl
  exact repr_of_reads' rd show_ (fun z => by rw [nod] at z; cases z) quiet (by omega) (fun _ _ e => e) (fun h' u' tk keep => ⟨.str d.shown, H, I.kept keep, ⟨u', rfl⟩, q⟩) small
end
/-! ### the head for such a def -/
theorem law_callQ {P : Program} {w : World} {K : PySem.W.Frag} {mg mb : Str → Option Value} {k : Nat} {fa a : Addr} {fd : FuncData} {x : Str} {sp : Sp} {z : Shared} {vs : List Value} {ns : List Int}
    (inK : K.In z.heap) (top : z.heap.Ns mainGlobals mg) (bl : z.heap.Ns builtinsNs mb) (boot : ∀ y : Str, y ≠ "__name__" → mb y = bootBuiltins y) (free : z.heap.NoLimit) (nogen : z.gens = #[])
    (obj : z.heap.get? a = some { cls := .type "list", data := .seq vs.toArray }) (nums : IntsAre vs ns) (small : ns.length ≤ sizeLine) (room : Room k callerA)
    (F : ∀ base : Heap, K.In base → base.Ns mainGlobals mg → FnQ P w K mg base k fa fd [x] sp) (bound : ∀ (s : Shared) (u : Value), BindsTo s fd ⟨[u], []⟩ [(x, u)])
    (told : ∀ G : Hp, Only G → SqL K G a (ns.map V.int) → sp [.ref a] G (fun v _ => v = .bl true) E0) :
    codeAny (model P w) callerA (.call (.ref fa) ⟨[.ref a], []⟩) (fun r z' => r = .ok (.ret (.bool true)) ∧ OldK z.heap z'.heap ∧ z'.os = z.os ∧ AllBare z'.gens) z := by
  have many := nums.length
  have run : ∀ G : Hp, Only G → SqL K G a (ns.map V.int) → HOk P w G z.heap → (∀ b, G b ≠ none → b = a ∧ K.lookup a = none) →
      codeAny (model P w) callerA (.call (.ref fa) ⟨[.ref a], []⟩) (fun r z' => r = .ok (.ret (.bool true)) ∧ OldK z.heap z'.heap ∧ z'.os = z.os ∧ AllBare z'.gens) z := by
    intro G only sq hok hid
    have dictFree : ∀ {b : Addr} {o : Obj} {es : Array DictEntry} {ep : Nat}, z.heap.get? b = some o → o.data = .dict es ep → G b = none := by
      intro b o es ep e d
      refine Classical.byContradiction fun q => ?_
      obtain ⟨rfl, _⟩ := hid b q
      rw [obj] at e
      obtain rfl := Option.some.inj e
      exact Data.noConfusion d
    have ownFree : ∀ {b : Addr} {o : Obj}, K.lookup b = some o → G b = none := by
      intro b o e
      refine Classical.byContradiction fun q => ?_
      obtain ⟨rfl, no⟩ := hid b q
      rw [no] at e
      cases e
    have ns_ : ∀ {b : Addr} {m : Str → Option Value}, z.heap.Ns b m → (hidT z.heap G).Ns b m := by
      rintro b m ⟨o, es, ep, e, d, r⟩
      exact ⟨o, es, ep, hidT_get e (dictFree e d), d, r⟩
    have inB : K.In (hidT z.heap G) := fun b o e => hidT_get (inK b o e) (ownFree e)
    obtain ⟨mc, c1, c2⟩ := free
    have around : Env0 P w K mg (hidT z.heap G) callerA [] z G := by
      refine ⟨rfl, ⟨inB, ns_ top, ⟨mb, ns_ bl, boot⟩, ⟨mc, ns_ c1, c2⟩⟩, fun _ _ e => of_hidT e, Nat.le_of_eq (hidT_size _ _), trivial, ?_, hok, .of_eq nogen⟩
      intro b hb
      cases hb
    refine codeAny_mono ((F _ inB (ns_ top)).go callerA [] z G ⟨[.ref a], []⟩ [.ref a] [.ref a] _ _ rfl room around (bound z (.ref a)) (.cons rfl .nil) (told G only sq)) fun r z' h => ?_
    match r, h with
    | .ok (.ret u), h =>
      obtain ⟨v, G', os, bare, un, hok', rel, q⟩ := h
      obtain rfl : v = .bl true := q
      obtain rfl : u = Value.bool true := rel
      refine ⟨rfl, OldK.of_keep fun b o e => ?_, os, bare⟩
      rcases only b with no | ⟨ob, xs, fr⟩
      · exact un.keep b o e no (fun y => by cases y) (fun y => by cases y)
      · have now := (hok' b _ (un.frzs b ob _ fr)).1
        have old := (hok b _ fr).1
        rw [e] at old
        rw [Option.some.inj old]
        exact now
  cases found : K.lookup a with
  | some o =>
    have e := inK a o found
    rw [obj] at e
    obtain rfl := Option.some.inj e
    exact run (fun _ => none) (fun _ => .inl rfl) (.inr ⟨_, vs.toArray, _, found, rfl, rfl, rfl, by rw [List.size_toArray, many]; exact small, by simpa using vals_ints nums⟩) (fun b u y => by cases y) (fun b y => absurd rfl y)
  | none =>
    have at_ : ∀ b, (if b = a then some (HO.frz { cls := .type "list", data := .seq vs.toArray } (.lst (ns.map V.int))) else none) ≠ none → b = a := fun b y => Classical.byContradiction fun ne => y (if_neg ne)
    refine run (fun b => if b = a then some (.frz { cls := .type "list", data := .seq vs.toArray } (.lst (ns.map V.int))) else none) (fun b => ?_) (.inl (.inr ⟨_, if_pos rfl⟩)) (fun b u y => ?_) (fun b y => ⟨at_ b y, found⟩)
    · by_cases e : b = a
      · exact .inr ⟨_, _, if_pos e⟩
      · exact .inl (if_neg e)
    · obtain rfl := at_ b (fun no => by have := y.symm.trans no; cases this)
      obtain rfl := Option.some.inj ((if_pos rfl).symm.trans y)
      exact ⟨obj, by rw [List.length_map]; exact small, vs, _, vals_ints nums, obj⟩
theorem walk_ofQ {l : PySem.W.OpenLaw} {n k : Nat} {q : Program} {loose : List Str} {XP : (Str → Option Value) → Heap → Prop} {YP : World → Heap → Prop} {d : DefRec} {K : Params → PySem.W.Frag} {sp : World → Sp} {x : Str}
    (most : l.most = some n) (line : n ≤ sizeLine) (plain : d.params.defaults = []) (room : Room k callerA) (inY : ∀ (w : World) (h : Heap), YP w h → (K w.params).In h)
    (F : ∀ (w : World) (mg : Str → Option Value) (fa : Addr) (h : Heap), (K w.params).In h → h.Ns mainGlobals mg → mg d.name = some (.ref fa) →
      ∃ fd : FuncData, (∀ (s : Shared) (u : Value), BindsTo s fd ⟨[u], []⟩ [(x, u)]) ∧ ∀ base : Heap, (K w.params).In base → base.Ns mainGlobals mg → FnQ l.prog w (K w.params) mg base k fa fd [x] (sp w))
    (told : ∀ (w : World) (G : Hp) (a : Addr) (ns : List Int), ns.length ≤ n → Only G → SqL (K w.params) G a (ns.map V.int) → sp w [.ref a] G (fun v _ => v = .bl true) E0) :
    PySem.W.WalkO q loose XP YP l.row.toRowW d [] (fun f vs => PySem.call f vs) :=
  Att.attach_call most plain fun w _ z mg mb fa _ _ _ _ a vs ns ground Y _ _ _ named obj nums len nogen =>
    let ⟨_, bound, G⟩ := F w mg fa _ (inY w _ Y) ground.T.g named
    law_callQ (inY w _ Y) ground.T.g ground.T.b ground.T.builtins ground.T.nolimit nogen obj nums (Nat.le_trans len line) room G bound fun H only sq => told w H a ns len only sq
end WS

set_option Elab.async false
set_option linter.all false
set_option maxRecDepth 100000
set_option maxHeartbeats 2000000
namespace K40
open PySem PySem.Spec PyProof.Rows L2 Evl WS M41 M47 M40
def topS (i : Nat) : Stmt := PySem.Challenge.pw_wholesound_k40_prices_by_bits.main.body.getD i (.Pass ⟨0, 0, 0, 0⟩)
abbrev s_is_number : Stmt := topS 8
theorem sc_is_number : FnScope ["value"] ["value"] (defScope s_is_number) := ⟨rfl, rfl, rfl, by decide +kernel, rfl, by decide +kernel, by decide +kernel⟩
abbrev s_is_within : Stmt := topS 9
theorem sc_is_within : FnScope ["value", "low", "high"] ["value", "low", "high"] (defScope s_is_within) := ⟨rfl, rfl, rfl, by decide +kernel, rfl, by decide +kernel, by decide +kernel⟩
abbrev s_is_count : Stmt := topS 10
theorem sc_is_count : FnScope ["value"] ["value"] (defScope s_is_count) := ⟨rfl, rfl, rfl, by decide +kernel, rfl, by decide +kernel, by decide +kernel⟩
abbrev s_is_counts : Stmt := topS 11
theorem sc_is_counts : FnScope ["value", "item"] ["value"] (defScope s_is_counts) := ⟨rfl, rfl, rfl, by decide +kernel, rfl, by decide +kernel, by decide +kernel⟩
abbrev s_check_from : Stmt := topS 12
theorem sc_check_from : FnScope ["number", "low"] ["number", "low"] (defScope s_check_from) := ⟨rfl, rfl, rfl, by decide +kernel, rfl, by decide +kernel, by decide +kernel⟩
abbrev s_check_count : Stmt := topS 13
theorem sc_check_count : FnScope ["number"] ["number"] (defScope s_check_count) := ⟨rfl, rfl, rfl, by decide +kernel, rfl, by decide +kernel, by decide +kernel⟩
abbrev s_check_folds : Stmt := topS 16
theorem sc_check_folds : FnScope ["folds"] ["folds"] (defScope s_check_folds) := ⟨rfl, rfl, rfl, by decide +kernel, rfl, by decide +kernel, by decide +kernel⟩
abbrev s_check_width : Stmt := topS 17
theorem sc_check_width : FnScope ["width"] ["width"] (defScope s_check_width) := ⟨rfl, rfl, rfl, by decide +kernel, rfl, by decide +kernel, by decide +kernel⟩
abbrev s_cost_at : Stmt := topS 18
theorem sc_cost_at : FnScope ["folds", "width", "number"] ["folds", "width"] (defScope s_cost_at) := ⟨rfl, rfl, rfl, by decide +kernel, rfl, by decide +kernel, by decide +kernel⟩
abbrev s_longest_bits : Stmt := topS 19
theorem sc_longest_bits : FnScope ["folds", "number"] ["folds"] (defScope s_longest_bits) := ⟨rfl, rfl, rfl, by decide +kernel, rfl, by decide +kernel, by decide +kernel⟩
abbrev s_price : Stmt := topS 20
theorem sc_price : FnScope ["folds", "width"] ["folds", "width"] (defScope s_price) := ⟨rfl, rfl, rfl, by decide +kernel, rfl, by decide +kernel, by decide +kernel⟩
abbrev s_bit_counts : Stmt := topS 21
theorem sc_bit_counts : FnScope ["folds", "at", "number"] ["folds"] (defScope s_bit_counts) := ⟨rfl, rfl, rfl, by decide +kernel, rfl, by decide +kernel, by decide +kernel⟩
abbrev s_same_prices : Stmt := topS 22
theorem sc_same_prices : FnScope ["one", "other"] ["one", "other"] (defScope s_same_prices) := ⟨rfl, rfl, rfl, by decide +kernel, rfl, by decide +kernel, by decide +kernel⟩
abbrev s_parting_width : Stmt := topS 23
theorem sc_parting_width : FnScope ["one", "other", "width"] ["one", "other"] (defScope s_parting_width) := ⟨rfl, rfl, rfl, by decide +kernel, rfl, by decide +kernel, by decide +kernel⟩
abbrev s_row_of_counts : Stmt := topS 24
theorem sc_row_of_counts : FnScope ["many", "counts", "count", "place", "at"] ["many", "counts"] (defScope s_row_of_counts) := ⟨rfl, rfl, rfl, by decide +kernel, rfl, by decide +kernel, by decide +kernel⟩
abbrev s_how_many_like : Stmt := topS 25
theorem sc_how_many_like : FnScope ["folds", "many", "count"] ["folds"] (defScope s_how_many_like) := ⟨rfl, rfl, rfl, by decide +kernel, rfl, by decide +kernel, by decide +kernel⟩
abbrev s__law_cell : Stmt := topS 27
theorem sc__law_cell : FnScope ["_law_script", "_law_index"] ["_law_script", "_law_index"] (defScope s__law_cell) := ⟨rfl, rfl, rfl, by decide +kernel, rfl, by decide +kernel, by decide +kernel⟩
abbrev s__law_hash : Stmt := topS 28
theorem sc__law_hash : FnScope ["_law_seed", "_law_index", "_law_mixed"] ["_law_seed", "_law_index"] (defScope s__law_hash) := ⟨rfl, rfl, rfl, by decide +kernel, rfl, by decide +kernel, by decide +kernel⟩
abbrev s__law_generator : Stmt := topS 29
theorem sc__law_generator : FnScope ["_law_script", "_law_index", "_law_seed"] ["_law_script", "_law_index"] (defScope s__law_generator) := ⟨rfl, rfl, rfl, by decide +kernel, rfl, by decide +kernel, by decide +kernel⟩
abbrev s__law_random : Stmt := topS 30
theorem sc__law_random : FnScope ["_law_generator_here", "_law_bound", "_law_drawn", "_law_turn"] ["_law_generator_here", "_law_bound"] (defScope s__law_random) := ⟨rfl, rfl, rfl, by decide +kernel, rfl, by decide +kernel, by decide +kernel⟩
abbrev s__law_price : Stmt := topS 31
theorem sc__law_price : FnScope ["_law_folds_here", "_law_width", "_law_total", "_law_fold"] ["_law_folds_here", "_law_width"] (defScope s__law_price) := ⟨rfl, rfl, rfl, by decide +kernel, rfl, by decide +kernel, by decide +kernel⟩
abbrev s__law_folds : Stmt := topS 32
theorem sc__law_folds : FnScope ["_law_generator_here", "_law_most", "_law_found", "_law_kind", "_law_turn", "_law_small", "_law_deep", "_law_far"] ["_law_generator_here", "_law_most"] (defScope s__law_folds) := ⟨rfl, rfl, rfl, by decide +kernel, rfl, by decide +kernel, by decide +kernel⟩
abbrev s__law_below : Stmt := topS 33
theorem sc__law_below : FnScope ["_law_many", "_law_top", "_law_found", "_law_turn", "_law_longer", "_law_row", "_law_one"] ["_law_many", "_law_top"] (defScope s__law_below) := ⟨rfl, rfl, rfl, by decide +kernel, rfl, by decide +kernel, by decide +kernel⟩
abbrev s__law_bits : Stmt := topS 34
theorem sc__law_bits : FnScope ["_law_folds_here", "_law_found", "_law_left", "_law_one"] ["_law_folds_here"] (defScope s__law_bits) := ⟨rfl, rfl, rfl, by decide +kernel, rfl, by decide +kernel, by decide +kernel⟩
abbrev s__law_prices : Stmt := topS 35
theorem sc__law_prices : FnScope ["_law_folds_here", "_law_width"] ["_law_folds_here"] (defScope s__law_prices) := ⟨rfl, rfl, rfl, by decide +kernel, rfl, by decide +kernel, by decide +kernel⟩
abbrev s__law_other : Stmt := topS 36
theorem sc__law_other : FnScope ["_law_generator_here", "_law_folds_here", "_law_other_here", "_law_way", "_law_at", "_law_far", "_law_bit"] ["_law_generator_here", "_law_folds_here"] (defScope s__law_other) := ⟨rfl, rfl, rfl, by decide +kernel, rfl, by decide +kernel, by decide +kernel⟩
abbrev s__law_pair_right : Stmt := topS 37
theorem sc__law_pair_right : FnScope ["_law_one", "_law_other_here", "_law_mine", "_law_yours", "_law_unlike", "_law_same", "_law_due", "_law_width"] ["_law_one", "_law_other_here"] (defScope s__law_pair_right) := ⟨rfl, rfl, rfl, by decide +kernel, rfl, by decide +kernel, by decide +kernel⟩
abbrev s__law_counts_right : Stmt := topS 38
theorem sc__law_counts_right : FnScope ["_law_generator_here", "_law_many", "_law_counts", "_law_due", "_law_place", "_law_one", "_law_at", "_law_told", "_law_turn"] ["_law_generator_here"] (defScope s__law_counts_right) := ⟨rfl, rfl, rfl, by decide +kernel, rfl, by decide +kernel, by decide +kernel⟩
abbrev s__law_like_right : Stmt := topS 39
theorem sc__law_like_right : FnScope ["_law_generator_here", "_law_small", "_law_mine", "_law_found", "_law_row", "_law_turn", "_law_width"] ["_law_generator_here"] (defScope s__law_like_right) := ⟨rfl, rfl, rfl, by decide +kernel, rfl, by decide +kernel, by decide +kernel⟩
abbrev s_law : Stmt := topS 40
theorem sc_law : FnScope ["_law_script", "_law_generator_here", "_law_folds_here", "_law_kept", "_law_width", "_law_told", "_law_turn", "_law_one", "_law_other_here"] ["_law_script"] (defScope s_law) := ⟨rfl, rfl, rfl, by decide +kernel, rfl, by decide +kernel, by decide +kernel⟩
structure Tx (K : PySem.W.Frag) (mg : Str → Option Value) where
  a_is_number : Addr
  d_is_number : FuncData
  f_is_number : Fun K "is_number" "is_number" s_is_number a_is_number d_is_number
  b_is_number : Binds K d_is_number ["value"] []
  g_is_number : mg "is_number" = some (.ref a_is_number)
  a_is_within : Addr
  d_is_within : FuncData
  f_is_within : Fun K "is_within" "is_within" s_is_within a_is_within d_is_within
  b_is_within : Binds K d_is_within ["value", "low", "high"] []
  g_is_within : mg "is_within" = some (.ref a_is_within)
  a_is_count : Addr
  d_is_count : FuncData
  f_is_count : Fun K "is_count" "is_count" s_is_count a_is_count d_is_count
  b_is_count : Binds K d_is_count ["value"] []
  g_is_count : mg "is_count" = some (.ref a_is_count)
  a_is_counts : Addr
  d_is_counts : FuncData
  f_is_counts : Fun K "is_counts" "is_counts" s_is_counts a_is_counts d_is_counts
  b_is_counts : Binds K d_is_counts ["value"] []
  g_is_counts : mg "is_counts" = some (.ref a_is_counts)
  a_check_from : Addr
  d_check_from : FuncData
  f_check_from : Fun K "check_from" "check_from" s_check_from a_check_from d_check_from
  b_check_from : Binds K d_check_from ["number", "low"] []
  g_check_from : mg "check_from" = some (.ref a_check_from)
  a_check_count : Addr
  d_check_count : FuncData
  f_check_count : Fun K "check_count" "check_count" s_check_count a_check_count d_check_count
  b_check_count : Binds K d_check_count ["number"] []
  g_check_count : mg "check_count" = some (.ref a_check_count)
  a_check_folds : Addr
  d_check_folds : FuncData
  f_check_folds : Fun K "check_folds" "check_folds" s_check_folds a_check_folds d_check_folds
  b_check_folds : Binds K d_check_folds ["folds"] []
  g_check_folds : mg "check_folds" = some (.ref a_check_folds)
  a_check_width : Addr
  d_check_width : FuncData
  f_check_width : Fun K "check_width" "check_width" s_check_width a_check_width d_check_width
  b_check_width : Binds K d_check_width ["width"] []
  g_check_width : mg "check_width" = some (.ref a_check_width)
  a_cost_at : Addr
  d_cost_at : FuncData
  f_cost_at : Fun K "cost_at" "cost_at" s_cost_at a_cost_at d_cost_at
  b_cost_at : Binds K d_cost_at ["folds", "width"] []
  g_cost_at : mg "cost_at" = some (.ref a_cost_at)
  a_longest_bits : Addr
  d_longest_bits : FuncData
  f_longest_bits : Fun K "longest_bits" "longest_bits" s_longest_bits a_longest_bits d_longest_bits
  b_longest_bits : Binds K d_longest_bits ["folds"] []
  g_longest_bits : mg "longest_bits" = some (.ref a_longest_bits)
  a_price : Addr
  d_price : FuncData
  f_price : Fun K "price" "price" s_price a_price d_price
  b_price : Binds K d_price ["folds", "width"] []
  g_price : mg "price" = some (.ref a_price)
  a_bit_counts : Addr
  d_bit_counts : FuncData
  f_bit_counts : Fun K "bit_counts" "bit_counts" s_bit_counts a_bit_counts d_bit_counts
  b_bit_counts : Binds K d_bit_counts ["folds"] []
  g_bit_counts : mg "bit_counts" = some (.ref a_bit_counts)
  a_same_prices : Addr
  d_same_prices : FuncData
  f_same_prices : Fun K "same_prices" "same_prices" s_same_prices a_same_prices d_same_prices
  b_same_prices : Binds K d_same_prices ["one", "other"] []
  g_same_prices : mg "same_prices" = some (.ref a_same_prices)
  a_parting_width : Addr
  d_parting_width : FuncData
  f_parting_width : Fun K "parting_width" "parting_width" s_parting_width a_parting_width d_parting_width
  b_parting_width : Binds K d_parting_width ["one", "other"] []
  g_parting_width : mg "parting_width" = some (.ref a_parting_width)
  a_row_of_counts : Addr
  d_row_of_counts : FuncData
  f_row_of_counts : Fun K "row_of_counts" "row_of_counts" s_row_of_counts a_row_of_counts d_row_of_counts
  b_row_of_counts : Binds K d_row_of_counts ["many", "counts"] []
  g_row_of_counts : mg "row_of_counts" = some (.ref a_row_of_counts)
  a_how_many_like : Addr
  d_how_many_like : FuncData
  f_how_many_like : Fun K "how_many_like" "how_many_like" s_how_many_like a_how_many_like d_how_many_like
  b_how_many_like : Binds K d_how_many_like ["folds"] []
  g_how_many_like : mg "how_many_like" = some (.ref a_how_many_like)
  a__law_cell : Addr
  d__law_cell : FuncData
  f__law_cell : Fun K "_law_cell" "_law_cell" s__law_cell a__law_cell d__law_cell
  b__law_cell : Binds K d__law_cell ["_law_script", "_law_index"] []
  g__law_cell : mg "_law_cell" = some (.ref a__law_cell)
  a__law_hash : Addr
  d__law_hash : FuncData
  f__law_hash : Fun K "_law_hash" "_law_hash" s__law_hash a__law_hash d__law_hash
  b__law_hash : Binds K d__law_hash ["_law_seed", "_law_index"] []
  g__law_hash : mg "_law_hash" = some (.ref a__law_hash)
  a__law_generator : Addr
  d__law_generator : FuncData
  f__law_generator : Fun K "_law_generator" "_law_generator" s__law_generator a__law_generator d__law_generator
  b__law_generator : Binds K d__law_generator ["_law_script", "_law_index"] []
  g__law_generator : mg "_law_generator" = some (.ref a__law_generator)
  a__law_random : Addr
  d__law_random : FuncData
  f__law_random : Fun K "_law_random" "_law_random" s__law_random a__law_random d__law_random
  b__law_random : Binds K d__law_random ["_law_generator_here", "_law_bound"] []
  g__law_random : mg "_law_random" = some (.ref a__law_random)
  a__law_price : Addr
  d__law_price : FuncData
  f__law_price : Fun K "_law_price" "_law_price" s__law_price a__law_price d__law_price
  b__law_price : Binds K d__law_price ["_law_folds_here", "_law_width"] []
  g__law_price : mg "_law_price" = some (.ref a__law_price)
  a__law_folds : Addr
  d__law_folds : FuncData
  f__law_folds : Fun K "_law_folds" "_law_folds" s__law_folds a__law_folds d__law_folds
  b__law_folds : Binds K d__law_folds ["_law_generator_here", "_law_most"] []
  g__law_folds : mg "_law_folds" = some (.ref a__law_folds)
  a__law_below : Addr
  d__law_below : FuncData
  f__law_below : Fun K "_law_below" "_law_below" s__law_below a__law_below d__law_below
  b__law_below : Binds K d__law_below ["_law_many", "_law_top"] []
  g__law_below : mg "_law_below" = some (.ref a__law_below)
  a__law_bits : Addr
  d__law_bits : FuncData
  f__law_bits : Fun K "_law_bits" "_law_bits" s__law_bits a__law_bits d__law_bits
  b__law_bits : Binds K d__law_bits ["_law_folds_here"] []
  g__law_bits : mg "_law_bits" = some (.ref a__law_bits)
  a__law_prices : Addr
  d__law_prices : FuncData
  f__law_prices : Fun K "_law_prices" "_law_prices" s__law_prices a__law_prices d__law_prices
  b__law_prices : Binds K d__law_prices ["_law_folds_here"] []
  g__law_prices : mg "_law_prices" = some (.ref a__law_prices)
  a__law_other : Addr
  d__law_other : FuncData
  f__law_other : Fun K "_law_other" "_law_other" s__law_other a__law_other d__law_other
  b__law_other : Binds K d__law_other ["_law_generator_here", "_law_folds_here"] []
  g__law_other : mg "_law_other" = some (.ref a__law_other)
  a__law_pair_right : Addr
  d__law_pair_right : FuncData
  f__law_pair_right : Fun K "_law_pair_right" "_law_pair_right" s__law_pair_right a__law_pair_right d__law_pair_right
  b__law_pair_right : Binds K d__law_pair_right ["_law_one", "_law_other_here"] []
  g__law_pair_right : mg "_law_pair_right" = some (.ref a__law_pair_right)
  a__law_counts_right : Addr
  d__law_counts_right : FuncData
  f__law_counts_right : Fun K "_law_counts_right" "_law_counts_right" s__law_counts_right a__law_counts_right d__law_counts_right
  b__law_counts_right : Binds K d__law_counts_right ["_law_generator_here"] []
  g__law_counts_right : mg "_law_counts_right" = some (.ref a__law_counts_right)
  a__law_like_right : Addr
  d__law_like_right : FuncData
  f__law_like_right : Fun K "_law_like_right" "_law_like_right" s__law_like_right a__law_like_right d__law_like_right
  b__law_like_right : Binds K d__law_like_right ["_law_generator_here"] []
  g__law_like_right : mg "_law_like_right" = some (.ref a__law_like_right)
  a_law : Addr
  d_law : FuncData
  f_law : Fun K "law" "law" s_law a_law d_law
  b_law : Binds K d_law ["_law_script"] []
  g_law : mg "law" = some (.ref a_law)
  t_GREATEST_WIDTH : Tok
  c_GREATEST_WIDTH : mg "GREATEST_WIDTH" = some (.int 120 t_GREATEST_WIDTH)
  m_all : mg "all" = none
  m_any : mg "any" = none
  m_bool : mg "bool" = none
  m_enumerate : mg "enumerate" = none
  m_int : mg "int" = none
  m_isinstance : mg "isinstance" = none
  m_len : mg "len" = none
  m_list : mg "list" = none
  m_max : mg "max" = none
  m_range : mg "range" = none
  m_repr : mg "repr" = none
  m_sum : mg "sum" = none
  mt_comb : mg "comb" = some (.builtin "math.comb")
end K40

set_option Elab.async false
set_option linter.all false
set_option maxRecDepth 100000
set_option maxHeartbeats 4000000
namespace K40
open PySem PySem.Spec PyProof.Rows L2 Evl WS M41 M47 M40
/-- folds at a: a tracked list of good numbers -/
structure Fo (H : Hp) (a : Addr) (fs : List Int) : Prop where
  at_ : H a = some (.lst (fs.map V.int))
  good : Good fs
  len : fs.length ≤ 1000
theorem Fo.ex {H H' : Hp} {a : Addr} {fs : List Int} (h : Fo H a fs) (e : Ex H H') : Fo H' a fs := ⟨e _ _ h.at_, h.good, h.len⟩
theorem Fo.sq {K : PySem.W.Frag} {H : Hp} {a : Addr} {fs : List Int} (h : Fo H a fs) : SqL K H a (fs.map V.int) := sq_of h.at_
def sp_is_number (K : PySem.W.Frag) : Sp := fun vs H Q _ => ∃ i, vs = [.int i] ∧ RetV (.bl true) H Q
def sp_is_within (K : PySem.W.Frag) : Sp := fun vs H Q _ => ∃ i j k, vs = [.int i, .int j, .int k] ∧ j ≤ i ∧ i ≤ k ∧ RetV (.bl true) H Q
def sp_is_count (K : PySem.W.Frag) : Sp := fun vs H Q _ => ∃ i, vs = [.int i] ∧ 0 ≤ i ∧ RetV (.bl true) H Q
def sp_is_counts (K : PySem.W.Frag) : Sp := fun vs H Q _ => ∃ a fs, vs = [.ref a] ∧ Fo H a fs ∧ RetV (.bl true) H Q
def sp_check_folds (K : PySem.W.Frag) : Sp := fun vs H Q _ => ∃ a fs, vs = [.ref a] ∧ Fo H a fs ∧ RetV .non H Q
def sp_check_width (K : PySem.W.Frag) : Sp := fun vs H Q _ => ∃ w : Int, vs = [.int w] ∧ 0 ≤ w ∧ w ≤ 120 ∧ RetV .non H Q
def sp_check_from (K : PySem.W.Frag) : Sp := fun vs H Q _ => ∃ i j, vs = [.int i, .int j] ∧ j ≤ i ∧ RetV .non H Q
def sp_check_count (K : PySem.W.Frag) : Sp := fun vs H Q _ => ∃ i, vs = [.int i] ∧ 0 ≤ i ∧ RetV .non H Q
def sp_cost_at (K : PySem.W.Frag) : Sp := fun vs H Q _ => ∃ a fs, ∃ k : Nat, vs = [.ref a, .int (k : Int)] ∧ Fo H a fs ∧ k ≤ 1000 ∧ RetV (.int (cst fs k)) H Q
def sp_price (K : PySem.W.Frag) : Sp := fun vs H Q _ => ∃ a fs, ∃ k : Nat, vs = [.ref a, .int (k : Int)] ∧ Fo H a fs ∧ k ≤ 120 ∧ RetV (.int (cst fs k)) H Q
section
variable {P : Program} {w : World} {K : PySem.W.Frag} {mg : Str → Option Value} {base : Heap}
theorem ok_is_number (T : Tx K mg) : FnOk P w K mg base CX0 1 T.a_is_number T.d_is_number ["value"] (sp_is_number K) := by
  refine T.f_is_number.ok (k := 0) sc_is_number (fun vs H Q E h => ?_) (fun cdv A outer s H vs Q E hr h => ?_)
  · obtain ⟨i, rfl, _⟩ := h
    rfl
  · obtain ⟨i, rfl, q⟩ := h
    refine ⟨_,       (pss_one (ps_ret (pe_and (pe_callB (id := "isinstance") (r := rIsi K) call_isi (by rfl) T.m_isinstance (by decide +kernel) (pa_cons (pv 0) (pa_cons (pe_bltn (by rfl) T.m_int (v := .ty "int") (by decide +kernel) rfl) pa_nil))) (pe_one (pe_not (pe_callB (id := "isinstance") (r := rIsi K) call_isi (by rfl) T.m_isinstance (by decide +kernel) (pa_cons (pv 0) (pa_cons (pe_bltn (by rfl) T.m_bool (v := .ty "bool") (by decide +kernel) rfl) pa_nil)))))))), ?_⟩
    exact s_ret (ev_andV (ev_isiI (b := true) (ev_var rfl) (by decide +kernel)) fun _ => ev_notV (ev_isiI (b := false) (ev_var rfl) (by decide +kernel))) q
theorem ok_is_within (T : Tx K mg) : FnOk P w K mg base CX0 2 T.a_is_within T.d_is_within ["value", "low", "high"] (sp_is_within K) := by
  refine T.f_is_within.ok (k := 1) sc_is_within (fun vs H Q E h => ?_) (fun cdv A outer s H vs Q E hr h => ?_)
  · obtain ⟨i, j, k, rfl, _⟩ := h
    rfl
  · obtain ⟨i, j, k, rfl, h1, h2, q⟩ := h
    refine ⟨_,       (pss_one (ps_ret (pe_and (pe_call (ok_is_number T) hr (by rfl) T.g_is_number T.f_is_number.kp T.b_is_number .nil pass0 (pa_cons (pv 0) pa_nil)) (pe_one (pe_chain op_le op_le (pv 1) (pv 0) (pv 2)))))), ?_⟩
    refine s_ret (ev_is (ev_andV (ev_call (ea_cons (ev_var rfl) ea_nil) (spv fun H1 e Q q E => ⟨i, rfl, q⟩)) fun _ => ev_chain (ev_var rfl) (ev_var rfl) rv_I0 (ev_var rfl) rv_I0) ?_) q
    rw [decide_eq_true h1, decide_eq_true h2]
    rfl
theorem ok_is_count (T : Tx K mg) : FnOk P w K mg base CX0 2 T.a_is_count T.d_is_count ["value"] (sp_is_count K) := by
  refine T.f_is_count.ok (k := 1) sc_is_count (fun vs H Q E h => ?_) (fun cdv A outer s H vs Q E hr h => ?_)
  · obtain ⟨i, rfl, _⟩ := h
    rfl
  · obtain ⟨i, rfl, h1, q⟩ := h
    refine ⟨_,       (pss_one (ps_ret (pe_and (pe_call (ok_is_number T) hr (by rfl) T.g_is_number T.f_is_number.kp T.b_is_number .nil pass0 (pa_cons (pv 0) pa_nil)) (pe_one (pe_cmpR op_ge (pv 0) pe_int (nomark _)))))), ?_⟩
    refine s_ret (ev_is (ev_andV (ev_call (ea_cons (ev_var rfl) ea_nil) (spv fun H1 e Q q E => ⟨i, rfl, q⟩)) fun _ => ev_op (ev_var rfl) ev_c rv_I0) ?_) q
    rw [decide_eq_true h1]
    rfl
theorem ok_is_counts (T : Tx K mg) : FnOk P w K mg base CX0 3 T.a_is_counts T.d_is_counts ["value"] (sp_is_counts K) := by
  refine T.f_is_counts.ok (k := 2) sc_is_counts (fun vs H Q E h => ?_) (fun cdv A outer s H vs Q E hr h => ?_)
  · obtain ⟨a, fs, rfl, _⟩ := h
    rfl
  · obtain ⟨a, fs, rfl, hf, q⟩ := h
    refine ⟨_,       (pss_one (ps_ret (pe_and (pe_callB (id := "isinstance") (r := rIsi K) call_isi (by rfl) T.m_isinstance (by decide +kernel) (pa_cons (pv 0) (pa_cons (pe_bltn (by rfl) T.m_list (v := .ty "list") (by decide +kernel) rfl) pa_nil))) (pe_one (pe_callB (id := "all") (r := rAll K) (cr_all rfl) (by rfl) T.m_all (by decide +kernel) (pa_cons (pe_lc (own := [("item", 1)]) (g := gName 1) (tt := tYes) rfl sc_is_counts.nd (pi_list (pv 0)) (blkOk_by (own := [("item", 1)]) (N := ["value", "item"]) (sc := defScope s_is_counts) (by decide +kernel)) (fun _ _ _ _ _ => (pg_name (i := 1) sc_is_counts.nd rfl (by first | exact Or.inl rfl | exact Or.inr rfl))) (fun _ _ _ _ _ => pts_nil) (fun _ _ _ _ _ => (pe_call (ok_is_count T) hr (by rfl) T.g_is_count T.f_is_count.kp T.b_is_count .nil pass0 (pa_cons (pv 1) pa_nil)))) pa_nil)))))), ?_⟩
    refine s_ret (ev_is (ev_andV (ev_isiL (b := true) (ev_var rfl) hf.at_ (by decide +kernel)) fun _ => ev_allN (bs := fs.map fun _ => true) ?_) ?_) q
    · rw [List.map_map]
      exact el_map (0 : Int) (V.bl ∘ fun _ => true) (ev_var rfl) hf.sq (by have := hf.len; omega) (fun _ => rfl) (fun x H1 e hx => ev_call (ea_cons (ev_var rfl) ea_nil) (spv fun H1 e Q q E => ⟨x, rfl, (hf.good x hx).1, q⟩))
    · have : (fs.map fun _ => true).all id = true := by simp
      rw [this]
      rfl
theorem ok_check_folds (T : Tx K mg) : FnOk P w K mg base CX0 4 T.a_check_folds T.d_check_folds ["folds"] (sp_check_folds K) := by
  refine T.f_check_folds.ok (k := 3) sc_check_folds (fun vs H Q E h => ?_) (fun cdv A outer s H vs Q E hr h => ?_)
  · obtain ⟨a, fs, rfl, _⟩ := h
    rfl
  · obtain ⟨a, fs, rfl, hf, q⟩ := h
    refine ⟨_,       (pss_one (ps_if (pt_not (pt_val (pe_call (ok_is_counts T) hr (by rfl) T.g_is_counts T.f_is_counts.kp T.b_is_counts .nil pass0 (pa_cons (pv 0) pa_nil)))) 
        (pss_one ps_never) pss_nil)), ?_⟩
    exact s_when (et_not (et_B (ev_call (ea_cons (ev_var rfl) ea_nil) (spv fun H1 e Q q E => ⟨a, fs, rfl, hf.ex e, q⟩)))) (fun z => by cases z) (fun _ => q)
theorem ok_check_width (T : Tx K mg) : FnOk P w K mg base CX0 3 T.a_check_width T.d_check_width ["width"] (sp_check_width K) := by
  refine T.f_check_width.ok (k := 2) sc_check_width (fun vs H Q E h => ?_) (fun cdv A outer s H vs Q E hr h => ?_)
  · obtain ⟨i, rfl, _⟩ := h
    rfl
  · obtain ⟨i, rfl, h1, h2, q⟩ := h
    refine ⟨_,       (pss_one (ps_if (pt_not (pt_val (pe_call (ok_is_within T) hr (by rfl) T.g_is_within T.f_is_within.kp T.b_is_within .nil pass0 (pa_cons (pv 0) (pa_cons pe_int (pa_cons (pe_glob (v := .int 120) rfl T.c_GREATEST_WIDTH ⟨_, rfl⟩) pa_nil)))))) 
        (pss_one ps_never) pss_nil)), ?_⟩
    exact s_when (et_not (et_B (ev_call (ea_cons (ev_var rfl) (ea_cons ev_c (ea_cons ev_c ea_nil))) (spv fun H1 e Q q E => ⟨i, 0, 120, rfl, h1, h2, q⟩)))) (fun z => by cases z) (fun _ => q)
theorem ok_check_from (T : Tx K mg) : FnOk P w K mg base CX0 2 T.a_check_from T.d_check_from ["number", "low"] (sp_check_from K) := by
  refine T.f_check_from.ok (k := 1) sc_check_from (fun vs H Q E h => ?_) (fun cdv A outer s H vs Q E hr h => ?_)
  · obtain ⟨i, j, rfl, _⟩ := h
    rfl
  · obtain ⟨i, j, rfl, h1, q⟩ := h
    refine ⟨_,       (pss_one (ps_if (PW.pt (pw_or (pt_not (pt_val (pe_call (ok_is_number T) hr (by rfl) T.g_is_number T.f_is_number.kp T.b_is_number .nil pass0 (pa_cons (pv 0) pa_nil)))) (pw_or1 (pt_cmpR op_lt (pv 0) (pv 1) (nomark _))))) 
        (pss_one ps_never) pss_nil)), ?_⟩
    refine s_when (b := false) (et_is (et_or (et_not (et_B (ev_call (ea_cons (ev_var rfl) ea_nil) (spv fun H1 e Q q E => ⟨i, rfl, q⟩)))) (fun _ => et_test (ev_op (ev_var rfl) (ev_var rfl) rv_I0))) ?_) (fun z => by cases z) (fun _ => q)
    show (!true || decide (i < j)) = false
    rw [decide_eq_false (by omega)]
    rfl
theorem ok_check_count (T : Tx K mg) : FnOk P w K mg base CX0 3 T.a_check_count T.d_check_count ["number"] (sp_check_count K) := by
  refine T.f_check_count.ok (k := 2) sc_check_count (fun vs H Q E h => ?_) (fun cdv A outer s H vs Q E hr h => ?_)
  · obtain ⟨i, rfl, _⟩ := h
    rfl
  · obtain ⟨i, rfl, h1, q⟩ := h
    refine ⟨_,       (pss_one (ps_expr (pe_call (ok_check_from T) hr (by rfl) T.g_check_from T.f_check_from.kp T.b_check_from .nil pass0 (pa_cons (pv 0) (pa_cons pe_int pa_nil))))), ?_⟩
    exact s_drop (ev_call (ea_cons (ev_var rfl) (ea_cons ev_c ea_nil)) (spv fun H1 e Q q E => ⟨i, 0, rfl, h1, q⟩)) fun H1 e => q H1 e
theorem ok_cost_at (T : Tx K mg) : FnOk P w K mg base CX0 1 T.a_cost_at T.d_cost_at ["folds", "width"] (sp_cost_at K) := by
  refine T.f_cost_at.ok (k := 0) sc_cost_at (fun vs H Q E h => ?_) (fun cdv A outer s H vs Q E hr h => ?_)
  · obtain ⟨a, fs, k, rfl, _⟩ := h
    rfl
  · obtain ⟨a, fs, k, rfl, hf, hk, q⟩ := h
    refine ⟨_,       (pss_one (ps_ret (pe_op op_add (pe_callB (id := "sum") (r := rSum K) (cr_sum rfl) (by rfl) T.m_sum (by decide +kernel) (pa_cons (pe_lc (own := [("number", 2)]) (g := gName 2) (tt := tYes) rfl sc_cost_at.nd (pi_list (pv 0)) (blkOk_by (own := [("number", 2)]) (N := ["folds", "width", "number"]) (sc := defScope s_cost_at) (by decide +kernel)) (fun _ _ _ _ _ => (pg_name (i := 2) sc_cost_at.nd rfl (by first | exact Or.inl rfl | exact Or.inr rfl))) (fun _ _ _ _ _ => pts_nil) (fun _ _ _ _ _ => (pe_op op_shr (pv 2) (pv 1)))) pa_nil)) (pe_op op_mul (pe_callB (id := "len") (r := rLenS K) call_len_seq (by rfl) T.m_len PySem.boot_len (pa_cons (pv 0) pa_nil)) (pe_op op_add pe_int (pv 1)))))), ?_⟩
    refine s_ret (ev_op (ev_sumN (ns := fs.map fun u => u / 2 ^ k) ?_) (ev_op (ev_len (K := K) (ev_var rfl) hf.sq) (ev_op ev_c (ev_var rfl) rv_I0) (rv_I ?_)) rv_I0) ?_
    · rw [List.map_map]
      refine el_map (0 : Int) (V.int ∘ fun u => u / 2 ^ k) (ev_var rfl) hf.sq (by have := hf.len; omega) (fun _ => rfl) (fun x H1 e hx => ev_is (ev_op (ev_var rfl) (ev_var rfl) (rv_I (Int.natCast_nonneg k))) ?_)
      show V.int (x / 2 ^ (k : Int).toNat) = V.int (x / 2 ^ k)
      rw [Int.toNat_natCast]
    · have := hf.len
      rw [List.length_map]
      exact Or.inl ⟨by omega, by omega⟩
    · rw [List.length_map]
      exact q
theorem ok_price (T : Tx K mg) : FnOk P w K mg base CX0 5 T.a_price T.d_price ["folds", "width"] (sp_price K) := by
  refine T.f_price.ok (k := 4) sc_price (fun vs H Q E h => ?_) (fun cdv A outer s H vs Q E hr h => ?_)
  · obtain ⟨a, fs, k, rfl, _⟩ := h
    rfl
  · obtain ⟨a, fs, k, rfl, hf, hk, q⟩ := h
    refine ⟨_,       (pss_cons (ps_expr (pe_call (ok_check_folds T) hr (by rfl) T.g_check_folds T.f_check_folds.kp T.b_check_folds .nil pass0 (pa_cons (pv 0) pa_nil))) 
      (pss_cons (ps_expr (pe_call (ok_check_width T) (hr.mono (by decide)) (by rfl) T.g_check_width T.f_check_width.kp T.b_check_width .nil pass0 (pa_cons (pv 1) pa_nil))) 
      (pss_one (ps_ret (pe_call (ok_cost_at T) (hr.mono (by decide)) (by rfl) T.g_cost_at T.f_cost_at.kp T.b_cost_at .nil pass0 (pa_cons (pv 0) (pa_cons (pv 1) pa_nil))))))), ?_⟩
    refine q_drop (ev_call (ea_cons (ev_var rfl) ea_nil) (spv fun H1 e Q q E => ⟨a, fs, rfl, hf.ex e, q⟩)) fun H1 e1 => ?_
    refine q_drop (ev_call (ea_cons (ev_var rfl) ea_nil) (spv fun H1 e Q q E => ⟨(k : Int), rfl, Int.natCast_nonneg k, by omega, q⟩)) fun H2 e2 => ?_
    refine s_ret (ev_call (ea_cons (ev_var rfl) (ea_cons (ev_var rfl) ea_nil)) (spv fun H3 e Q q E => ⟨a, fs, k, rfl, hf.ex ((e1.trans e2).trans e), by omega, q⟩)) fun H3 e3 => q H3 ((e1.trans e2).trans e3)
end
end K40

set_option Elab.async false
set_option linter.all false
set_option maxRecDepth 100000
set_option maxHeartbeats 4000000
namespace K40
open PySem PySem.Spec PyProof.Rows L2 Evl WS M41 M47 M40
open PySem.W (mcComb)
theorem one_p (k : Nat) : (1 : Int) * 2 ^ (k : Int).toNat = 2 ^ k := by rw [Int.toNat_natCast, Int.one_mul]
theorem shl1 {k : Nat} (hk : k ≤ 1000) : CShl 1 (k : Int) := shl_ok (n := 1) (j := k) (by decide) (by omega)
theorem Fo.nn {H : Hp} {a : Addr} {fs : List Int} (h : Fo H a fs) : Nn fs := fun u hu => (h.good u hu).1
theorem Fo.lg40 {H : Hp} {a : Addr} {fs : List Int} (h : Fo H a fs) : lg fs ≤ 40 := (lg_bel h.nn).mpr h.good
def pwV (A B : List Int) : V := match pw A B with
  | none => .non
  | some k => .int (k : Int)
def sp_longest_bits (K : PySem.W.Frag) : Sp := fun vs H Q _ => ∃ a fs, vs = [.ref a] ∧ Fo H a fs ∧ RetV (.int (lg fs : Int)) H Q
def sp_bit_counts (K : PySem.W.Frag) : Sp := fun vs H Q _ => ∃ a fs, vs = [.ref a] ∧ Fo H a fs ∧ RetL ((bcs fs).map V.int) H Q
def sp_parting_width (K : PySem.W.Frag) : Sp := fun vs H Q _ => ∃ a b A B, vs = [.ref a, .ref b] ∧ Fo H a A ∧ Fo H b B ∧ A.length ≤ 500 ∧ B.length ≤ 500 ∧ RetV (pwV A B) H Q
def sp_same_prices (K : PySem.W.Frag) : Sp := fun vs H Q _ => ∃ a b A B, vs = [.ref a, .ref b] ∧ Fo H a A ∧ Fo H b B ∧ A.length ≤ 500 ∧ B.length ≤ 500 ∧ RetV (.bl (decide (pw A B = none))) H Q
def sp_row_of_counts (K : PySem.W.Frag) : Sp := fun vs H Q _ => ∃ a cs, ∃ m : Nat, vs = [.int (m : Int), .ref a] ∧ Fo H a cs ∧ (∀ c ∈ cs, 0 ≤ c ∧ c ≤ (m : Int)) ∧ cs.length ≤ 40 ∧ m ≤ 1000 ∧ RetL ((rowC m cs).map V.int) H Q
def sp_how_many_like (K : PySem.W.Frag) : Sp := fun vs H Q _ => ∃ a fs, vs = [.ref a] ∧ Fo H a fs ∧ fs.length ≤ 3 ∧ RetV (.int (likeV fs)) H Q
theorem comb_small : ([0, 1, 2, 3].all fun n : Nat => (List.range 4).all fun c : Nat => decide (0 ≤ mcComb (n : Int) (c : Int)) && decide (mcComb (n : Int) (c : Int) ≤ 3)) = true := by decide +kernel
theorem comb_le {n : Nat} {c : Int} (hn : n ≤ 3) (h0 : 0 ≤ c) (h1 : c ≤ n) : 0 ≤ mcComb (n : Int) c ∧ mcComb (n : Int) c ≤ 3 := by
  have hm : n ∈ [0, 1, 2, 3] := by
    match n, hn with
    | 0, _ => decide
    | 1, _ => decide
    | 2, _ => decide
    | 3, _ => decide
  have T := List.all_eq_true.mp (List.all_eq_true.mp comb_small n hm) c.toNat (List.mem_range.mpr (by omega))
  rw [show ((c.toNat : Nat) : Int) = c by omega, Bool.and_eq_true] at T
  exact ⟨of_decide_eq_true T.1, of_decide_eq_true T.2⟩
theorem row_sum (p : Nat) (cs : List Int) : (((List.range cs.length).filter fun i => decide ((p : Int) < cs.getD i 0)).map fun i => (2 : Int) ^ i).sum = val (p : Int) cs := by
  have h := val_sum (p : Int) cs 0
  rw [Int.pow_zero, Int.one_mul] at h
  rw [← h]
  congr 2
  funext i
  rw [Nat.zero_add]
section
variable {P : Program} {w : World} {K : PySem.W.Frag} {mg : Str → Option Value} {base : Heap}
theorem ok_longest_bits (T : Tx K mg) : FnOk P w K mg base CX0 1 T.a_longest_bits T.d_longest_bits ["folds"] (sp_longest_bits K) := by
  refine T.f_longest_bits.ok (k := 0) sc_longest_bits (fun vs H Q E h => ?_) (fun cdv A outer s H vs Q E hr h => ?_)
  · obtain ⟨a, fs, rfl, _⟩ := h
    rfl
  · obtain ⟨a, fs, rfl, hf, q⟩ := h
    refine ⟨_,       (pss_one (ps_ret (pe_callBK (id := "max") (ks := [Str.ofString "default"]) (r := rMaxDef K) (cr_maxDef rfl hr.units) (by rfl) T.m_max (by decide +kernel) (pa_cons (pe_lc (own := [("number", 1)]) (g := gName 1) (tt := tYes) rfl sc_longest_bits.nd (pi_list (pv 0)) (blkOk_by (own := [("number", 1)]) (N := ["folds", "number"]) (sc := defScope s_longest_bits) (by decide +kernel)) (fun _ _ _ _ _ => (pg_name (i := 1) sc_longest_bits.nd rfl (by first | exact Or.inl rfl | exact Or.inr rfl))) (fun _ _ _ _ _ => pts_nil) (fun _ _ _ _ _ => (pe_bits (pv 1)))) pa_nil) (pk_cons pe_int pk_nil)))), ?_⟩
    refine s_ret (ev_maxDef (K := K) (ns := fs.map fun u => ((ib u : Nat) : Int)) (m := ((lg fs : Nat) : Int)) ?_ (fun z => ?_) (fun z => ?_)) q
    · rw [List.map_map]
      exact el_map (0 : Int) (V.int ∘ fun u => ((ib u : Nat) : Int)) (ev_var rfl) hf.sq (by have := hf.len; omega) (fun _ => rfl) (fun x H1 e hx => ev_bits (ev_var rfl))
    · rw [List.map_eq_nil_iff.mp z]
      rfl
    · have ne : fs ≠ [] := fun h => z (by rw [h]; rfl)
      obtain ⟨u, hu, e⟩ := lg_mem ne
      refine ⟨List.mem_map.mpr ⟨u, hu, by rw [e]⟩, fun y hy => ?_⟩
      obtain ⟨v, hv, rfl⟩ := List.mem_map.mp hy
      have := lg_le.mp (Nat.le_refl (lg fs)) v hv
      omega
theorem ok_bit_counts (T : Tx K mg) : FnOk P w K mg base CX0 5 T.a_bit_counts T.d_bit_counts ["folds"] (sp_bit_counts K) := by
  refine T.f_bit_counts.ok (k := 4) sc_bit_counts (fun vs H Q E h => ?_) (fun cdv A outer s H vs Q E hr h => ?_)
  · obtain ⟨a, fs, rfl, _⟩ := h
    rfl
  · obtain ⟨a, fs, rfl, hf, q⟩ := h
    refine ⟨_,       (pss_cons (ps_expr (pe_call (ok_check_folds T) hr (by rfl) T.g_check_folds T.f_check_folds.kp T.b_check_folds .nil pass0 (pa_cons (pv 0) pa_nil))) 
      (pss_one (ps_ret (pe_lc (own := [("at", 1)]) (g := gName 1) (tt := tYes) rfl sc_bit_counts.nd (pi_range1 rfl T.m_range (pa_cons (pe_call (ok_longest_bits T) (hr.mono (by decide)) (by rfl) T.g_longest_bits T.f_longest_bits.kp T.b_longest_bits .nil pass0 (pa_cons (pv 0) pa_nil)) pa_nil)) (blkOk_by (own := [("at", 1)]) (N := ["folds", "at", "number"]) (sc := defScope s_bit_counts) (by decide +kernel)) (fun _ _ _ _ _ => (pg_name (i := 1) sc_bit_counts.nd rfl (by first | exact Or.inl rfl | exact Or.inr rfl))) (fun _ _ _ _ _ => pts_nil) (fun _ _ _ _ _ => (pe_callB (id := "sum") (r := rSum K) (cr_sum rfl) (by rfl) T.m_sum (by decide +kernel) (pa_cons (by (refine' pe_lc (own := [("number", 2)]) (g := gName 2) (tt := tYes) (wi := iList K (tVar 0)) ?hcz12 ?hNz12 ?hiz12 ?okz12 ?hgz12 ?htz12 ?hez12); (case hcz12 => exact rfl); (case hNz12 => exact sc_bit_counts.nd); (case hiz12 => exact (pi_list (pv 0))); (case okz12 => exact (by exact blkOk_by (own := [("number", 2)]) (by rfl))); (case hgz12 => exact (fun _ _ _ _ _ => (pg_name (i := 2) sc_bit_counts.nd rfl (by first | exact Or.inl rfl | exact Or.inr rfl)))); (case htz12 => exact (fun _ _ _ _ _ => pts_nil)); (case hez12 => exact (fun _ _ _ _ _ => (pe_op op_odd (pe_op op_shr (pv 2) (pv 1)) pe_int)))) pa_nil))))))), ?_⟩
    have l40 := hf.lg40
    refine q_drop (ev_call (ea_cons (ev_var rfl) ea_nil) (spv fun H1 e Q q E => ⟨a, fs, rfl, hf.ex e, q⟩)) fun H1 e1 => ?_
    refine s_retL (xs := (bcs fs).map V.int) ?_ fun p H2 hp e2 h2 => q.go e1 hp e2 h2
    unfold bcs
    rw [List.map_map]
    refine el_mapR (n := lg fs) (V.int ∘ bc fs) (ea_cons (ev_call (ea_cons (ev_var rfl) ea_nil) (spv fun H2 e Q q E => ⟨a, fs, rfl, (hf.ex e1).ex e, q⟩)) ea_nil) (by omega) (fun _ => rfl) (fun i H2 e2 hi => ?_)
    refine ev_sumN (K := K) (ns := fs.map fun u => bt u i) ?_
    rw [List.map_map]
    refine el_map (0 : Int) (V.int ∘ fun u => bt u i) (ev_var rfl) ((hf.ex e1).ex e2).sq (by have := hf.len; omega) (fun _ => rfl) (fun x H3 e3 hx => ev_is (ev_op (ev_op (ev_var rfl) (ev_var rfl) (rv_I (Int.natCast_nonneg i))) ev_c (rv_odd (Int.ediv_nonneg (hf.nn x hx) (Int.le_of_lt (two_pos _))))) ?_)
    rw [Int.toNat_natCast]
    rfl
theorem ok_parting_width (T : Tx K mg) : FnOk P w K mg base CX0 5 T.a_parting_width T.d_parting_width ["one", "other"] (sp_parting_width K) := by
  refine T.f_parting_width.ok (k := 4) sc_parting_width (fun vs H Q E h => ?_) (fun cdv A outer s H vs Q E hr h => ?_)
  · obtain ⟨a, b, A, B, rfl, _⟩ := h
    rfl
  · obtain ⟨a, b, A, B, rfl, ha, hb, la, lb, q⟩ := h
    refine ⟨_,       (pss_cons (ps_expr (pe_call (ok_check_folds T) hr (by rfl) T.g_check_folds T.f_check_folds.kp T.b_check_folds .nil pass0 (pa_cons (pv 0) pa_nil))) 
      (pss_cons (ps_expr (pe_call (ok_check_folds T) hr (by rfl) T.g_check_folds T.f_check_folds.kp T.b_check_folds .nil pass0 (pa_cons (pv 1) pa_nil))) 
      (pss_cons (ps_for PassesOwn.never rfl (pi_range1 rfl T.m_range (pa_cons (pe_op op_add (pe_call (ok_longest_bits T) (hr.mono (by decide)) (by rfl) T.g_longest_bits T.f_longest_bits.kp T.b_longest_bits .nil pass0 (pa_cons (pe_op op_cat (pv 0) (pv 1)) pa_nil)) pe_int) pa_nil)) (pg_name (i := 2) sc_parting_width.nd rfl (by first | exact Or.inl rfl | exact Or.inr rfl)) 
        (pss_one (ps_if (pt_cmpR op_ne (pe_call (ok_cost_at T) (hr.mono (by decide)) (by rfl) T.g_cost_at T.f_cost_at.kp T.b_cost_at .nil pass0 (pa_cons (pv 0) (pa_cons (pv 2) pa_nil))) (pe_call (ok_cost_at T) (hr.mono (by decide)) (by rfl) T.g_cost_at T.f_cost_at.kp T.b_cost_at .nil pass0 (pa_cons (pv 1) (pa_cons (pv 2) pa_nil))) (nomark _)) 
          (pss_one (ps_ret (pv 2))) pss_nil))) 
      (pss_one (ps_ret pe_non))))), ?_⟩
    refine q_drop (ev_call (ea_cons (ev_var rfl) ea_nil) (spv fun H1 e Q q E => ⟨a, A, rfl, ha.ex e, q⟩)) fun H1 e1 => ?_
    refine q_drop (ev_call (ea_cons (ev_var rfl) ea_nil) (spv fun H1 e Q q E => ⟨b, B, rfl, (hb.ex e1).ex e, q⟩)) fun H2 e2 => ?_
    have e12 := e1.trans e2
    have ha2 := ha.ex e12
    have hb2 := hb.ex e12
    have nab : Nn (A ++ B) := fun u hu => by
      rcases List.mem_append.mp hu with h | h
      · exact ha.nn u h
      · exact hb.nn u h
    have l40 : lg (A ++ B) ≤ 40 := (lg_bel nab).mpr (good_app ha.good hb.good)
    have bel := (lg_bel nab).mp (Nat.le_refl _)
    have bA : Bel (lg (A ++ B)) A := fun u hu => bel u (List.mem_append_left _ hu)
    have bB : Bel (lg (A ++ B)) B := fun u hu => bel u (List.mem_append_right _ hu)
    refine q_forR1 (n := ((lg (A ++ B) : Nat) : Int) + 1) (ea_cons (ev_op (ev_callN (el_cat (ev_var rfl) (ev_var rfl) ha2.at_ hb2.at_ (by rw [List.length_map, List.length_map]; omega)) fun u H3 hu e3 => spv fun H4 e4 Q q E => ⟨u, A ++ B, rfl, ⟨by rw [e4 _ _ hu, List.map_append], good_app ha.good hb.good, by rw [List.length_append]; omega⟩, q⟩) ev_c rv_I0) ea_nil) (by omega)
      (fun i σ' H' => ∃ y, σ' = [some (.ref a), some (.ref b), y] ∧ Ex H H' ∧ ∀ j, j < i → unl A B j = false) (fun H3 e3 => ⟨none, rfl, e12.trans e3, fun j hj => absurd hj (Nat.not_lt_zero j)⟩) (fun i σ' H' hi hP => ?_) (fun σ' H' hP => ?_)
    · obtain ⟨y, rfl, e, no⟩ := hP
      refine s_when (b := unl A B i) (et_is (et_test (ev_op (ev_call (ea_cons (ev_var rfl) (ea_cons (ev_var rfl) ea_nil)) (spv fun H3 e3 Q q E => ⟨a, A, i, rfl, (ha.ex e).ex e3, by omega, q⟩)) (ev_call (ea_cons (ev_var rfl) (ea_cons (ev_var rfl) ea_nil)) (spv fun H3 e3 Q q E => ⟨b, B, i, rfl, (hb.ex e).ex e3, by omega, q⟩)) (rv_ne rfl))) ?_) (fun z H3 e3 => ?_) (fun z H3 e3 => ?_)
      · unfold unl
        by_cases c : cst A i = cst B i
        · rw [c]; simp
        · simp [c]
      · refine s_ret (ev_var rfl) fun H4 e4 => ?_
        have : pwV A B = .int (i : Int) := by
          unfold pwV
          rw [pw_some (by omega) z no]
        rw [← this]
        exact q H4 ((e.trans e3).trans e4)
      · refine ⟨_, rfl, e.trans e3, fun j hj => ?_⟩
        rcases Nat.lt_or_ge j i with c | c
        · exact no j c
        · rw [show j = i by omega]
          exact z
    · obtain ⟨y, rfl, e, no⟩ := hP
      have this : pwV A B = .non := by
        unfold pwV
        rw [pw_none fun j _ => none_all bA bB (fun k hk => no k (by omega)) j]
      refine s_ret ev_c fun H4 e4 => ?_
      rw [← this]
      exact q H4 (e.trans e4)
theorem ok_same_prices (T : Tx K mg) : FnOk P w K mg base CX0 6 T.a_same_prices T.d_same_prices ["one", "other"] (sp_same_prices K) := by
  refine T.f_same_prices.ok (k := 5) sc_same_prices (fun vs H Q E h => ?_) (fun cdv A outer s H vs Q E hr h => ?_)
  · obtain ⟨a, b, A, B, rfl, _⟩ := h
    rfl
  · obtain ⟨a, b, A, B, rfl, ha, hb, la, lb, q⟩ := h
    refine ⟨_,       (pss_one (ps_ret (pe_cmpR op_isN (pe_call (ok_parting_width T) hr (by rfl) T.g_parting_width T.f_parting_width.kp T.b_parting_width .nil pass0 (pa_cons (pv 0) (pa_cons (pv 1) pa_nil))) pe_non (nomark _)))), ?_⟩
    refine s_ret (ev_is (ev_op (ev_call (ea_cons (ev_var rfl) (ea_cons (ev_var rfl) ea_nil)) (spv fun H1 e Q q E => ⟨a, b, A, B, rfl, ha.ex e, hb.ex e, la, lb, q⟩)) ev_c rv_isN) ?_) q
    congr 1
    refine decide_eq_decide.mpr ?_
    unfold pwV
    cases pw A B <;> simp
theorem ok_row_of_counts (T : Tx K mg) : FnOk P w K mg base CX0 4 T.a_row_of_counts T.d_row_of_counts ["many", "counts"] (sp_row_of_counts K) := by
  refine T.f_row_of_counts.ok (k := 3) sc_row_of_counts (fun vs H Q E h => ?_) (fun cdv A outer s H vs Q E hr h => ?_)
  · obtain ⟨a, cs, m, rfl, _⟩ := h
    rfl
  · obtain ⟨a, cs, m, rfl, hf, hc, hl, hm, q⟩ := h
    refine ⟨_,       (pss_cons (ps_expr (pe_call (ok_check_count T) hr (by rfl) T.g_check_count T.f_check_count.kp T.b_check_count .nil pass0 (pa_cons (pv 0) pa_nil))) 
      (pss_cons (ps_if (PW.pt (pw_or (pt_not (pt_val (pe_call (ok_is_counts T) hr (by rfl) T.g_is_counts T.f_is_counts.kp T.b_is_counts .nil pass0 (pa_cons (pv 1) pa_nil)))) (pw_or1 (pt_val (pe_callB (id := "any") (r := rAny K) (cr_any rfl) (by rfl) T.m_any (by decide +kernel) (pa_cons (pe_lc (own := [("count", 2)]) (g := gName 2) (tt := tYes) rfl sc_row_of_counts.nd (pi_list (pv 1)) (blkOk_by (own := [("count", 2)]) (N := ["many", "counts", "count", "place", "at"]) (sc := defScope s_row_of_counts) (by decide +kernel)) (fun _ _ _ _ _ => (pg_name (i := 2) sc_row_of_counts.nd rfl (by first | exact Or.inl rfl | exact Or.inr rfl))) (fun _ _ _ _ _ => pts_nil) (fun _ _ _ _ _ => (pe_cmpR op_gt (pv 2) (pv 0) (nomark _)))) pa_nil)))))) 
        (pss_one ps_never) pss_nil) 
      (pss_one (ps_ret (pe_lc (own := [("place", 3)]) (g := gName 3) (tt := tYes) rfl sc_row_of_counts.nd (pi_range1 rfl T.m_range (pa_cons (pv 0) pa_nil)) (blkOk_by (own := [("place", 3)]) (N := ["many", "counts", "count", "place", "at"]) (sc := defScope s_row_of_counts) (by decide +kernel)) (fun _ _ _ _ _ => (pg_name (i := 3) sc_row_of_counts.nd rfl (by first | exact Or.inl rfl | exact Or.inr rfl))) (fun _ _ _ _ _ => pts_nil) (fun _ _ _ _ _ => (pe_callB (id := "sum") (r := rSum K) (cr_sum rfl) (by rfl) T.m_sum (by decide +kernel) (pa_cons (by (refine' pe_lc (own := [("at", 4), ("count", 2)]) (g := gTup K 2 (gCons (gName 4) (gCons (gName 2) gNil))) (wi := iEnum K (tCons (tVar 1) tNil)) ?hcz14 ?hNz14 ?hiz14 ?okz14 ?hgz14 ?htz14 ?hez14); (case hcz14 => exact rfl); (case hNz14 => exact sc_row_of_counts.nd); (case hiz14 => exact (pi_enum (by rfl) T.m_enumerate (pa_cons (pv 1) pa_nil))); (case okz14 => exact (by exact blkOk_by (own := [("at", 4), ("count", 2)]) (by rfl))); (case hgz14 => exact (fun _ _ _ _ _ => by exact (pg_tup rfl (pgs_cons (pg_name (i := 4) sc_row_of_counts.nd rfl (by first | exact Or.inl rfl | exact Or.inr rfl)) (pgs_cons (pg_name (i := 2) sc_row_of_counts.nd rfl (by first | exact Or.inl rfl | exact Or.inr rfl)) pgs_nil))))); (case htz14 => exact (fun _ _ _ _ _ => (pts_one (pt_cmpR op_lt (pv 3) (pv 2) (nomark _))))); (case hez14 => exact (fun _ _ _ _ _ => (pe_op op_shlW pe_int (pv 4))))) pa_nil)))))))), ?_⟩
    refine q_drop (ev_call (ea_cons (ev_var rfl) ea_nil) (spv fun H1 e Q q E => ⟨_, rfl, Int.natCast_nonneg _, q⟩)) fun H1 e1 => ?_
    have hf1 := hf.ex e1
    refine q_when (b := false) (et_is (et_or (b := false) (et_not (et_B (ev_call (ea_cons (ev_var rfl) ea_nil) (spv fun H1 e Q q E => ⟨a, cs, rfl, hf1.ex e, q⟩)))) fun _ => et_is (et_B (ev_anyN (K := K) (bs := cs.map fun _ => false) ?_)) ?_) rfl) (fun z => by cases z) fun _ H2 e2 => ?_
    · rw [List.map_map]
      refine el_map (0 : Int) (V.bl ∘ fun _ => false) (ev_var rfl) hf1.sq (by omega) (fun _ => rfl) (fun x H3 e3 hx => ev_is (ev_op (ev_var rfl) (ev_var rfl) rv_I0) ?_)
      show V.bl (decide ((m : Int) < x)) = V.bl false
      rw [decide_eq_false (by have := (hc x hx).2; omega)]
    · simp
    have hf2 := hf1.ex e2
    refine s_retL (xs := (rowC m cs).map V.int) ?_ fun p H3 hp e3 h3 => q.go (e1.trans e2) hp e3 h3
    unfold rowC
    rw [List.map_map]
    refine el_mapR (n := m) (V.int ∘ fun p : Nat => val (p : Int) cs) (ea_cons (ev_var rfl) ea_nil) (by omega) (fun _ => rfl) (fun p H3 e3 hp => ?_)
    refine ev_is (ev_sumN (K := K) (ns := ((List.range cs.length).filter fun i => decide ((p : Int) < cs.getD i 0)).map fun i => (2 : Int) ^ i) ?_) (by rw [row_sum]; rfl)
    have k := el_enumT (K := K) (H := H3) (σ := [some (V.int (m : Int)), some (.ref a), none, some (.int (p : Int)), none]) (tr := tCons (tVar 1) tNil) (t := tTest (tOp (rI0 fun i j => .bl (decide (i < j))) (tVar 3) (tVar 2))) (te := tOp (rI CShl fun i j => .int (i * 2 ^ j.toNat)) (tC (.int 1)) (tVar 4)) (i := 4) (j := 2) (vs := [4, 2]) (a := a) (xs := cs.map V.int) (fun i => decide ((p : Int) < cs.getD i 0)) (fun i => V.int ((2 : Int) ^ i)) (ea_cons (ev_var rfl) ea_nil) (hf2.ex e3).sq (by rw [List.length_map]; omega) (fun _ _ => rfl) (fun i x H4 e4 hx => ?_) (fun i x H4 e4 hx _ => ?_)
    · rw [List.length_map] at k
      unfold given at k
      rw [show ((fun i => V.int ((2 : Int) ^ i))) = V.int ∘ fun i : Nat => (2 : Int) ^ i from rfl, ← List.map_map] at k
      exact k
    · rw [List.getElem?_map] at hx
      cases hq : cs[i]? with
      | none => rw [hq] at hx; cases hx
      | some c =>
        rw [hq] at hx
        obtain rfl := Option.some.inj hx
        rw [List.getD_eq_getElem?_getD, hq]
        exact et_test (ev_op (ev_var rfl) (ev_var rfl) rv_I0)
    · have hi : i < cs.length := by
        have := (List.getElem?_eq_some_iff.mp hx).1
        rwa [List.length_map] at this
      exact ev_is (ev_op ev_c (ev_var rfl) (rv_I (shl1 (by omega)))) (by rw [one_p])
theorem ok_how_many_like (T : Tx K mg) : FnOk P w K mg base CX0 6 T.a_how_many_like T.d_how_many_like ["folds"] (sp_how_many_like K) := by
  refine T.f_how_many_like.ok (k := 5) sc_how_many_like (fun vs H Q E h => ?_) (fun cdv A outer s H vs Q E hr h => ?_)
  · obtain ⟨a, fs, rfl, _⟩ := h
    rfl
  · obtain ⟨a, fs, rfl, hf, hl, q⟩ := h
    refine ⟨_,       (pss_cons (ps_set (i := 1) sc_how_many_like.nd rfl (by first | exact Or.inl rfl | exact Or.inr rfl) pe_int) 
      (pss_cons (ps_for PassesOwn.never rfl (pi_list (pe_call (ok_bit_counts T) hr (by rfl) T.g_bit_counts T.f_bit_counts.kp T.b_bit_counts .nil pass0 (pa_cons (pv 0) pa_nil))) (pg_name (i := 2) sc_how_many_like.nd rfl (by first | exact Or.inl rfl | exact Or.inr rfl)) 
        (pss_one (ps_aug (i := 1) sc_how_many_like.nd rfl (by first | exact Or.inl rfl | exact Or.inr rfl) (pe_callBfun cr_comb (by rfl) T.mt_comb (pa_cons (pe_callB (id := "len") (r := rLenS K) call_len_seq (by rfl) T.m_len PySem.boot_len (pa_cons (pv 0) pa_nil)) (pa_cons (pv 2) pa_nil))) ip_mulS))) 
      (pss_one (ps_ret (pv 1))))), ?_⟩
    refine q_asg ev_c fun H1 e1 => ?_
    refine q_forNLn (K := K) (xs := (bcs fs).map V.int) (el_callR (ea_cons (ev_var rfl) ea_nil) fun H2 e2 Q k E => ⟨a, fs, rfl, (hf.ex e1).ex e2, k⟩) (fun p i σ' H' => ∃ y, σ' = [some (.ref a), some (.int (((bcs fs).take i).foldl (fun m c => m * mcComb fs.length c) 1)), y] ∧ Ex H H' ∧ H' p = some (.lst ((bcs fs).map V.int)))
      (fun p H2 hp e2 h2 => ⟨none, rfl, e1.trans e2, h2⟩) (fun p i σ' H' _ h => by obtain ⟨_, _, _, h2⟩ := h; exact sq_of h2) (fun p i x σ' H' hx h => ?_) (fun p σ' H' h => ?_)
    · obtain ⟨y, rfl, e, h2⟩ := h
      rw [List.getElem?_map] at hx
      cases hq : (bcs fs)[i]? with
      | none => rw [hq] at hx; cases hx
      | some c =>
        rw [hq] at hx
        obtain rfl := Option.some.inj hx
        have hc : 0 ≤ c ∧ c ≤ fs.length := by
          have hm := List.mem_of_getElem? hq
          unfold bcs at hm
          obtain ⟨j, _, rfl⟩ := List.mem_map.mp hm
          exact bc_bounds fs j
        have hcb := comb_le hl hc.1 hc.2
        refine s_augMul rfl (ev_comb (ev_is (ev_len (K := K) (ev_var rfl) (hf.ex e).sq) (by rw [List.length_map])) (ev_var rfl) (by omega) hc.1 (by omega)) (Or.inr ⟨by omega, by omega⟩) fun H3 e3 => ⟨some (V.int c), ?_, e.trans e3, e3 _ _ h2⟩
        rw [List.take_succ, hq, List.foldl_append]
        rfl
    · obtain ⟨y, rfl, e, h2⟩ := h
      rw [List.length_map, List.take_length]
      exact s_ret (ev_var rfl) fun H3 e3 => q H3 (e.trans e3)
end
end K40

set_option Elab.async false
set_option linter.all false
set_option maxRecDepth 100000
set_option maxHeartbeats 4000000
namespace K40
open PySem PySem.Spec PyProof.Rows L2 Evl WS M41 M47 M40
/-! ### the draws -/
def cellV (ns : List Int) (k : Nat) : Int := if k < ns.length then ns.getD k 0 else (ns.take 1).sum.fmod 1000003
def mixA (s i : Int) : Int := (s * 1299709 + 104729 * i * i + 31 * i + 7).fmod 2147483629
def mixB (s i : Int) : Int := (mixA s i * mixA s i + 48271 * i + 15485863).fmod 2147483587
def hashV (s i : Int) : Int := (mixB s i * 69621).fmod 2147483647
def sp__law_cell (K : PySem.W.Frag) : Sp := fun vs H Q _ => ∃ a, ∃ ns : List Int, ∃ k : Nat, vs = [.ref a, .int (k : Int)] ∧ SqL K H a (ns.map V.int) ∧ ns.length ≤ 63 ∧ RetV (.int (cellV ns k)) H Q
def sp__law_hash (K : PySem.W.Frag) : Sp := fun vs H Q _ => ∃ s i : Int, vs = [.int s, .int i] ∧ (0 ≤ s ∧ s < 2147483648) ∧ (0 ≤ i ∧ i ≤ 1000000000000) ∧ RetV (.int (hashV s i)) H Q
def sp__law_generator (K : PySem.W.Frag) : Sp := fun vs H Q _ => ∃ a, ∃ ns : List Int, ∃ k : Nat, vs = [.ref a, .int (k : Int)] ∧ SqL K H a (ns.map V.int) ∧ ns.length ≤ 63 ∧ k ≤ 1000 ∧ ∀ p H2, H p = none → Ex H H2 → Gs H2 p (1000 * k) → Q (.ref p) H2
def sp__law_random (K : PySem.W.Frag) : Sp := fun vs H Q _ => ∃ g, ∃ n : Int, ∃ C : Nat, vs = [.ref g, .int n] ∧ Gs H g C ∧ C ≤ 1000000000 ∧ 1 ≤ n ∧ n ≤ 1000000000000 ∧
  ∀ z H2, 0 ≤ z → z < n → Gs H2 g (C + 4) → ExB g H H2 → Q (.int z) H2
section
variable {P : Program} {w : World} {K : PySem.W.Frag} {mg : Str → Option Value} {base : Heap}
theorem ok__law_cell (T : Tx K mg) : FnOk P w K mg base CX0 1 T.a__law_cell T.d__law_cell ["_law_script", "_law_index"] (sp__law_cell K) := by
  refine T.f__law_cell.ok (k := 0) sc__law_cell (fun vs H Q E h => ?_) (fun cdv A outer s H vs Q E hr h => ?_)
  · obtain ⟨a, ns, k, rfl, _⟩ := h
    rfl
  · obtain ⟨a, ns, k, rfl, hs, hl, q⟩ := h
    refine ⟨_,       (pss_cons (ps_if (pt_cmpR op_lt (pv 1) (pe_callB (id := "len") (r := rLenS K) call_len_seq (by rfl) T.m_len PySem.boot_len (pa_cons (pv 0) pa_nil)) (nomark _)) 
        (pss_one (ps_ret (pe_ix (r := rIxL K) ix_list (pv 0) (pv 1) (fun _ _ => rfl)))) pss_nil) 
      (pss_one (ps_ret (pe_op op_modN (pe_callB (id := "sum") (r := rSum K) (cr_sum rfl) (by rfl) T.m_sum (by decide +kernel) (pa_cons (pe_slice (r := rSlL K) sl_list (pv 0) po_none (po_some pe_int)) pa_nil)) pe_int)))), ?_⟩
    refine q_when (et_test (ev_op (ev_var rfl) (ev_len (K := K) (ev_var rfl) hs) rv_I0)) (fun z H1 e1 => ?_) (fun z H1 e1 => ?_)
    · have hz : (k : Int) < ((ns.map V.int).length : Int) := of_decide_eq_true z
      rw [List.length_map] at hz
      have hk : k < ns.length := by omega
      refine s_ret (ev_op (ev_var rfl) (ev_var rfl) (rv_ixL (K := K) (v := .int (cellV ns k)) (ex_l e1 hs) ?_)) fun H2 e2 => q H2 (e1.trans e2)
      refine atI_nat ?_
      rw [List.getElem?_map, List.getElem?_eq_getElem hk]
      unfold cellV
      rw [if_pos hk, List.getD_eq_getElem?_getD, List.getElem?_eq_getElem hk] <;> rfl
    · have hz : ¬ (k : Int) < ((ns.map V.int).length : Int) := of_decide_eq_false z
      rw [List.length_map] at hz
      have hk : ¬ k < ns.length := by omega
      refine s_ret (ev_is (ev_op (ev_sumN (K := K) (ns := ns.take 1) ?_) ev_c (rv_I (by decide))) ?_) fun H2 e2 => q H2 (e1.trans e2)
      · have k1 := el_sl (σ := start ["_law_script", "_law_index"] [V.ref a, V.int (k : Int)]) (K := K) (te := tVar 0) (ev_var rfl) eo_none (eo_some (te := tC (.int 1)) ev_c) (ex_l e1 hs)
        have ec : cutV (ns.map V.int) none (some 1) = (ns.take 1).map V.int := by
          unfold cutV
          rw [HT.sIx_none, show HT.sIx (ns.map V.int).length (ns.map V.int).length (some 1) = min 1 (ns.map V.int).length from HT.sIx_nat _ _ 1]
          cases ns with
          | nil => rfl
          | cons x r => simp
        rw [ec] at k1
        exact k1
      · unfold cellV
        rw [if_neg hk]
theorem ok__law_hash (T : Tx K mg) : FnOk P w K mg base CX0 1 T.a__law_hash T.d__law_hash ["_law_seed", "_law_index"] (sp__law_hash K) := by
  refine T.f__law_hash.ok (k := 0) sc__law_hash (fun vs H Q E h => ?_) (fun cdv A outer s H vs Q E hr h => ?_)
  · obtain ⟨s, i, rfl, _⟩ := h
    rfl
  · obtain ⟨s, i, rfl, ⟨s0, s1⟩, ⟨i0, i1⟩, q⟩ := h
    refine ⟨_,       (pss_cons (ps_set (i := 2) sc__law_hash.nd rfl (by first | exact Or.inl rfl | exact Or.inr rfl) (pe_op op_modN (pe_callTy call_int1 (by rfl) T.m_int (by decide +kernel) (pa_cons (pe_op op_add (pe_op op_add (pe_op op_add (pe_op op_mul (pv 0) pe_int) (pe_op op_mul (pe_op op_mul pe_int (pv 1)) (pv 1))) (pe_op op_mul pe_int (pv 1))) pe_int) pa_nil)) pe_int)) 
      (pss_cons (ps_set (i := 2) sc__law_hash.nd rfl (by first | exact Or.inl rfl | exact Or.inr rfl) (pe_op op_modN (pe_callTy call_int1 (by rfl) T.m_int (by decide +kernel) (pa_cons (pe_op op_add (pe_op op_add (pe_op op_mul (pv 2) (pv 2)) (pe_op op_mul pe_int (pv 1))) pe_int) pa_nil)) pe_int)) 
      (pss_one (ps_ret (pe_op op_modN (pe_callTy call_int1 (by rfl) T.m_int (by decide +kernel) (pa_cons (pe_op op_mul (pv 2) pe_int) pa_nil)) pe_int))))), ?_⟩
    have hA := fmod_in (s * 1299709 + 104729 * i * i + 31 * i + 7) 2147483629 (by decide)
    have hB := fmod_in (mixA s i * mixA s i + 48271 * i + 15485863) 2147483587 (by decide)
    refine q_asg (v := .int (mixA s i)) (ev_op (ev_int (ev_op (ev_op (ev_op (ev_op (ev_var rfl) ev_c (rv_I (Or.inr ⟨by decide, by decide⟩))) (ev_op (ev_op ev_c (ev_var rfl) (rv_I (Or.inl ⟨by decide, by decide⟩))) (ev_var rfl) (rv_I (Or.inr ⟨by omega, by omega⟩))) rv_I0) (ev_op ev_c (ev_var rfl) (rv_I (Or.inl ⟨by decide, by decide⟩))) rv_I0) ev_c rv_I0)) ev_c (rv_I (by decide))) fun H1 e1 => ?_
    have hA' : 0 ≤ mixA s i ∧ mixA s i < 2147483629 := hA
    refine q_asg (v := .int (mixB s i)) (ev_op (ev_int (ev_op (ev_op (ev_op (ev_var rfl) (ev_var rfl) (rv_I (Or.inl ⟨by omega, by omega⟩))) (ev_op ev_c (ev_var rfl) (rv_I (Or.inl ⟨by decide, by decide⟩))) rv_I0) ev_c rv_I0)) ev_c (rv_I (by decide))) fun H2 e2 => ?_
    refine s_ret (v := .int (hashV s i)) (ev_op (ev_int (ev_op (ev_var rfl) ev_c (rv_I (Or.inr ⟨by decide, by decide⟩)))) ev_c (rv_I (by decide))) fun H3 e3 => q H3 ((e1.trans e2).trans e3)
theorem ok__law_generator (T : Tx K mg) : FnOk P w K mg base CX0 2 T.a__law_generator T.d__law_generator ["_law_script", "_law_index"] (sp__law_generator K) := by
  refine T.f__law_generator.ok (k := 1) sc__law_generator (fun vs H Q E h => ?_) (fun cdv A outer s H vs Q E hr h => ?_)
  · obtain ⟨a, ns, k, rfl, _⟩ := h
    rfl
  · obtain ⟨a, ns, k, rfl, hs, hl, hk, q⟩ := h
    refine ⟨_,       (pss_cons (ps_set (i := 2) sc__law_generator.nd rfl (by first | exact Or.inl rfl | exact Or.inr rfl) (pe_call (ok__law_cell T) hr (by rfl) T.g__law_cell T.f__law_cell.kp T.b__law_cell .nil pass0 (pa_cons (pv 0) (pa_cons (pv 1) pa_nil)))) 
      (pss_one (ps_ret (pe_lst (pa_cons (pe_op op_modN (pe_callTy call_int1 (by rfl) T.m_int (by decide +kernel) (pa_cons (pe_callB (id := "max") (call_max2 rfl) (by rfl) T.m_max (by decide +kernel) (pa_cons (pe_op op_sub (pv 2) (pe_op op_powW pe_int pe_int)) (pa_cons pe_int pa_nil))) pa_nil)) (pe_op op_powW (pe_op op_powW pe_int pe_int) pe_int)) (pa_cons (pe_op op_modN (pe_callTy call_int1 (by rfl) T.m_int (by decide +kernel) (pa_cons (pv 2) pa_nil)) pe_int) (pa_cons (pe_op op_mul pe_int (pv 1)) pa_nil))))))), ?_⟩
    refine q_asg (ev_call (ea_cons (ev_var rfl) (ea_cons (ev_var rfl) ea_nil)) (spv fun H1 e Q q E => ⟨a, ns, k, rfl, ex_l e hs, hl, q⟩)) fun H1 e1 => ?_
    generalize cellV ns k = seed
    refine s_retL (el_lst (ea_cons (ev_op (ev_int (ev_max2 (ev_op (ev_var rfl) (ev_op ev_c ev_c (rv_I ⟨by decide, by decide +kernel⟩)) rv_I0) ev_c)) (ev_op (ev_op ev_c ev_c (rv_I ⟨by decide, by decide +kernel⟩)) ev_c (rv_I ⟨by decide, by decide +kernel⟩)) (rv_I (by decide +kernel))) (ea_cons (ev_op (ev_int (ev_var rfl)) ev_c (rv_I (by decide))) (ea_cons (ev_op ev_c (ev_var rfl) (rv_I (Or.inl ⟨by decide, by decide⟩))) ea_nil))) (by show 3 ≤ 100000; decide)) fun p H2 hp e2 h2 => ?_
    refine q p H2 (fresh_back e1 hp) (e1.trans e2) ⟨_, _, _, h2, (fmod_in _ _ (by decide +kernel)).1, ?_, ?_, ?_⟩
    · have := fmod_in seed 2147483647 (by decide)
      omega
    · omega
    · omega
theorem ok__law_random (T : Tx K mg) : FnOk P w K mg base CX0 2 T.a__law_random T.d__law_random ["_law_generator_here", "_law_bound"] (sp__law_random K) := by
  refine T.f__law_random.ok (k := 1) sc__law_random (fun vs H Q E h => ?_) (fun cdv A outer s H vs Q E hr h => ?_)
  · obtain ⟨g, n, C, rfl, _⟩ := h
    rfl
  · obtain ⟨g, n, C, rfl, hg, hC, hn1, hn2, q⟩ := h
    obtain ⟨A0, B, c, hg, hA, hB, hc0, hc1⟩ := hg
    refine ⟨_,       (pss_cons (ps_if (pt_cmpR op_gt (pe_ix (r := rIxL K) ix_list (pv 0) pe_int (fun _ _ => rfl)) pe_int (nomark _)) 
        (pss_cons (ps_set (i := 2) sc__law_random.nd rfl (by first | exact Or.inl rfl | exact Or.inr rfl) (pe_op op_modN (pe_callTy call_int1 (by rfl) T.m_int (by decide +kernel) (pa_cons (pe_ix (r := rIxL K) ix_list (pv 0) pe_int (fun _ _ => rfl)) pa_nil)) (pv 1))) 
        (pss_cons (ps_asg (pe_op op_fdivW (pe_ix (r := rIxL K) ix_list (pv 0) pe_int (fun _ _ => rfl)) (pv 1)) (pg_sub (pv 0) pe_int set_list)) 
        (pss_one (ps_ret (pv 2))))) pss_nil) 
      (pss_cons (ps_set (i := 2) sc__law_random.nd rfl (by first | exact Or.inl rfl | exact Or.inr rfl) pe_int) 
      (pss_cons (ps_for PassesOwn.never rfl (pi_range1 rfl T.m_range (pa_cons (pe_op op_add pe_int (pe_op op_fdiv (pe_bits (pv 1)) pe_int)) pa_nil)) (pg_name (i := 3) sc__law_random.nd rfl (by first | exact Or.inl rfl | exact Or.inr rfl)) 
        (pss_cons (ps_asg (pe_op op_add (pe_ix (r := rIxL K) ix_list (pv 0) pe_int (fun _ _ => rfl)) pe_int) (pg_sub (pv 0) pe_int set_list)) 
        (pss_one (ps_set (i := 2) sc__law_random.nd rfl (by first | exact Or.inl rfl | exact Or.inr rfl) (pe_op op_add (pe_op op_mul (pv 2) pe_int) (pe_call (ok__law_hash T) hr (by rfl) T.g__law_hash T.f__law_hash.kp T.b__law_hash .nil pass0 (pa_cons (pe_ix (r := rIxL K) ix_list (pv 0) pe_int (fun _ _ => rfl)) (pa_cons (pe_ix (r := rIxL K) ix_list (pv 0) pe_int (fun _ _ => rfl)) pa_nil)))))))) 
      (pss_one (ps_ret (pe_op op_modN (pe_callTy call_int1 (by rfl) T.m_int (by decide +kernel) (pa_cons (pv 2) pa_nil)) (pv 1))))))), ?_⟩
    refine q_when (b := decide (0 < A0)) (et_test (ev_op (ev_op (ev_var rfl) ev_c (rv_ixL (K := K) (sq_of hg) (atI_nat (j := 0) rfl))) ev_c rv_I0)) (fun z H1 e1 => ?_) (fun z H1 e1 => ?_)
    · have g1 := e1 _ _ hg
      refine q_asg (ev_op (ev_int (ev_op (ev_var rfl) ev_c (rv_ixL (K := K) (sq_of g1) (atI_nat (j := 0) rfl)))) (ev_var rfl) (rv_I (show n ≠ 0 by omega))) fun H2 e2 => ?_
      have g2 := e2 _ _ g1
      refine q_setL (j := 0) (v := .int (A0 / n)) g2 (ev_op (ev_op (ev_var rfl) ev_c (rv_ixL (K := K) (sq_of g2) (atI_nat (j := 0) rfl))) (ev_var rfl) (rv_I (wide_div (b := 64) (by omega) (by omega) (by decide) (by decide)))) (ev_var rfl) ev_c (by show 0 < 3; decide) fun H3 e3 => ?_
      have hm := fmod_in A0 n (by omega)
      refine s_ret (ev_var rfl) fun H4 e4 => q _ H4 hm.1 hm.2 ⟨A0 / n, B, c, e4 _ _ upd_same, Int.ediv_nonneg hA (by omega), hB, hc0, by omega⟩ ?_
      exact ((ExB.of ((e1.trans e2).trans e3)).upd).trans (ExB.of e4)
    · refine q_asg ev_c fun H2 e2 => ?_
      have hbits : Builtin.Int.intBits n ≤ 40 := PyProof.Rows.intBits_le (k := 40) (show n.natAbs < 2 ^ 40 by omega)
      refine q_forR1 (n := 1 + ((Builtin.Int.intBits n : Nat) : Int) / 30) (ea_cons (ev_op ev_c (ev_op (ev_bits (ev_var rfl)) ev_c (rv_I ⟨by decide, by decide⟩)) rv_I0) ea_nil) (by omega)
        (fun i σ' H' => ∃ d y3, σ' = [some (.ref g), some (.int n), some (.int d), y3] ∧ ExB g H H' ∧ H' g = some (.lst [.int A0, .int B, .int (c + (i : Int))])) (fun H3 e3 => ⟨0, none, rfl, ExB.of ((e1.trans e2).trans e3), by
          rw [((e1.trans e2).trans e3) _ _ hg, show c + ((0 : Nat) : Int) = c by omega]⟩) (fun i σ' H' hi hP => ?_) (fun σ' H' hP => ?_)
      · obtain ⟨d, y3, rfl, hE, hg'⟩ := hP
        refine q_setL (j := 2) (v := .int (c + (i : Int) + 1)) hg' (ev_op (ev_op (ev_var rfl) ev_c (rv_ixL (K := K) (sq_of hg') (atI_nat (j := 2) rfl))) ev_c rv_I0) (ev_var rfl) ev_c (by show 2 < 3; decide) fun H3 e3 => ?_
        have g3 : (upd H3 g (.lst [.int A0, .int B, .int (c + (i : Int) + 1)])) g = some (.lst [.int A0, .int B, .int (c + (i : Int) + 1)]) := upd_same
        refine s_asg (ev_op (ev_op (ev_var rfl) ev_c (rv_I (Or.inr ⟨by decide, by decide⟩))) (ev_call (ea_cons (ev_op (ev_var rfl) ev_c (rv_ixL (K := K) (sq_of g3) (atI_nat (j := 1) rfl))) (ea_cons (ev_op (ev_var rfl) ev_c (rv_ixL (K := K) (sq_of g3) (atI_nat (j := 2) rfl))) ea_nil)) (spv fun H1 e Q q E => ⟨B, c + (i : Int) + 1, rfl, hB, by omega, q⟩)) rv_I0) fun H4 e4 => ?_
        refine ⟨_, _, rfl, (hE.trans (ExB.of e3)).upd.trans (ExB.of e4), ?_⟩
        rw [e4 _ _ g3, show c + (i : Int) + 1 = c + ((i + 1 : Nat) : Int) by omega]
      · obtain ⟨d, y3, rfl, hE, hg'⟩ := hP
        have hm := fmod_in d n (by omega)
        refine s_ret (ev_op (ev_int (ev_var rfl)) (ev_var rfl) (rv_I (show n ≠ 0 by omega))) fun H4 e4 => q _ H4 hm.1 hm.2 ⟨A0, B, _, e4 _ _ hg', hA, hB, by omega, by omega⟩ (hE.trans (ExB.of e4))
end
end K40

set_option Elab.async false
set_option linter.all false
set_option maxRecDepth 100000
set_option maxHeartbeats 4000000
namespace K40
open PySem PySem.Spec PyProof.Rows L2 Evl WS M41 M47 M40
theorem two_le {a b : Nat} (h : a ≤ b) : (2 : Int) ^ a ≤ 2 ^ b := by
  induction h with
  | refl => exact Int.le_refl _
  | @step m _ ih =>
    have : (0 : Int) < 2 ^ m := Int.pow_pos (by decide)
    rw [Int.pow_succ]
    omega
theorem cst_one (x : Int) (k : Nat) : cst [x] k = x / 2 ^ k + 1 + (k : Int) := by
  unfold cst qs
  simp
  omega
theorem cst_take {fs : List Int} {i : Nat} {x : Int} (h : fs[i]? = some x) (k : Nat) : cst (fs.take (i + 1)) k = cst (fs.take i) k + x / 2 ^ k + 1 + (k : Int) := by
  rw [List.take_add_one, h]
  show cst (fs.take i ++ [x]) k = _
  rw [cst_app, cst_one]
  omega
def sp__law_price (K : PySem.W.Frag) : Sp := fun vs H Q _ => ∃ a fs, ∃ k : Nat, vs = [.ref a, .int (k : Int)] ∧ Fo H a fs ∧ k ≤ 120 ∧ RetV (.int (cst fs k)) H Q
def sp__law_below (K : PySem.W.Frag) : Sp := fun vs H Q _ => ∃ m t : Nat, vs = [.int (m : Int), .int (t : Int)] ∧ 1 ≤ t ∧ m ≤ 50 ∧ t ≤ 10000 ∧ t ^ m ≤ 10000 ∧ ∀ p H2, H p = none → Ex H H2 → LL H2 p (below m t) → Q (.ref p) H2
def sp__law_folds (K : PySem.W.Frag) : Sp := fun vs H Q _ => ∃ g, ∃ n C : Nat, vs = [.ref g, .int (n : Int)] ∧ Gs H g C ∧ n ≤ 100 ∧ C ≤ 100000000 ∧
  ∀ p fs H2, H p = none → Fo H2 p fs → Bel 38 fs → fs.length ≤ n → Gs H2 g (C + 10000) → ExB g H H2 → Q (.ref p) H2
def sp__law_bits (K : PySem.W.Frag) : Sp := fun vs H Q _ => ∃ a fs, vs = [.ref a] ∧ Fo H a fs ∧ RetL ((bcs fs).map V.int) H Q
def sp__law_prices (K : PySem.W.Frag) : Sp := fun vs H Q _ => ∃ a fs, vs = [.ref a] ∧ Fo H a fs ∧ RetL ((List.range 45).map fun k => V.int (cst fs k)) H Q
section
variable {K : PySem.W.Frag} {σ : L2.St} {H : Hp} {ta tb te tl : TE}
theorem draw_use {g : Addr} {n : Int} {C : Nat} {E : XK} {Q : VK} (ha : Ev ta σ H (.ref g)) (hb : Ev tb σ H (.int n)) (hg : Gs H g C) (hC : C ≤ 1000000000) (h1 : 1 ≤ n) (h2 : n ≤ 1000000000000)
    (k : ∀ z H2, 0 ≤ z → z < n → Gs H2 g (C + 4) → ExB g H H2 → Q (.int z) H2) : tCall (sp__law_random K) [] E (tCons ta (tCons tb tNil)) σ H Q :=
  ha H (Ex.refl H) _ fun H1 e1 => hb H1 e1 _ fun H2 e2 => ⟨g, n, C, rfl, hg.ex (e1.trans e2), hC, h1, h2, fun z H3 a b c d => k z H3 a b c ((ExB.of (e1.trans e2)).trans d)⟩
end
theorem pos_bits {fs : List Int} (h : Nn fs) (i : Nat) : (!decide (((fs.map fun u => u / 2 ^ i).filter fun u => decide (0 < u)) = [])) = decide (i < lg fs) := by
  by_cases c : lg fs ≤ i
  · rw [decide_eq_false (show ¬ i < lg fs by omega)]
    have b := (lg_bel h).mp c
    have : ((fs.map fun u => u / 2 ^ i).filter fun u => decide (0 < u)) = [] := by
      rw [List.filter_eq_nil_iff]
      intro x hx
      obtain ⟨u, hu, rfl⟩ := List.mem_map.mp hx
      rw [Int.ediv_eq_zero_of_lt (b u hu).1 (b u hu).2]
      decide
    rw [this]
    rfl
  · rw [decide_eq_true (show i < lg fs by omega)]
    have nb : ¬ Bel i fs := fun b => c ((lg_bel h).mpr b)
    have : ((fs.map fun u => u / 2 ^ i).filter fun u => decide (0 < u)) ≠ [] := fun z => by
      apply nb
      intro u hu
      refine ⟨h u hu, ?_⟩
      rw [List.filter_eq_nil_iff] at z
      have := z (u / 2 ^ i) (List.mem_map.mpr ⟨u, hu, rfl⟩)
      have hz : u / 2 ^ i ≤ 0 := by simpa using this
      have hp := two_pos i
      refine Classical.byContradiction fun hc => ?_
      have : 1 ≤ u / 2 ^ i := Int.le_ediv_of_mul_le hp (by omega)
      omega
    rw [decide_eq_false this]
    rfl
theorem odd_bits (fs : List Int) (i : Nat) : ((((fs.map fun u => u / 2 ^ i).filter fun u => decide (u % 2 = 1)).map V.int).length : Int) = bc fs i := by
  rw [List.length_map, odd_count, List.map_map]
  rfl
section
variable {P : Program} {w : World} {K : PySem.W.Frag} {mg : Str → Option Value} {base : Heap}
theorem ok__law_price (T : Tx K mg) : FnOk P w K mg base CX0 1 T.a__law_price T.d__law_price ["_law_folds_here", "_law_width"] (sp__law_price K) := by
  refine T.f__law_price.ok (k := 0) sc__law_price (fun vs H Q E h => ?_) (fun cdv A outer s H vs Q E hr h => ?_)
  · obtain ⟨a, fs, k, rfl, _⟩ := h
    rfl
  · obtain ⟨a, fs, k, rfl, hf, hk, q⟩ := h
    refine ⟨_,       (pss_cons (ps_set (i := 2) sc__law_price.nd rfl (by first | exact Or.inl rfl | exact Or.inr rfl) pe_int) 
      (pss_cons (ps_for PassesOwn.never rfl (pi_list (pv 0)) (pg_name (i := 3) sc__law_price.nd rfl (by first | exact Or.inl rfl | exact Or.inr rfl)) 
        (pss_one (ps_set (i := 2) sc__law_price.nd rfl (by first | exact Or.inl rfl | exact Or.inr rfl) (pe_op op_add (pe_op op_add (pe_op op_add (pv 2) (pe_op op_fdivW (pv 3) (pe_op op_shlW pe_int (pv 1)))) pe_int) (pv 1))))) 
      (pss_one (ps_ret (pv 2))))), ?_⟩
    refine q_asg ev_c fun H1 e1 => ?_
    refine q_forLn (xs := fs.map V.int) (K := K) (ev_var rfl) (hf.ex e1).sq (fun i σ' H' => ∃ y, σ' = [some (.ref a), some (.int (k : Int)), some (.int (cst (fs.take i) k)), y] ∧ Ex H H') (fun H2 e2 => ⟨none, ?_, e1.trans e2⟩) (fun i σ' H' _ hP => ?_) (fun i x σ' H' hx hP => ?_) (fun σ' H' hP => ?_)
    · show _ = [some (V.ref a), some (V.int (k : Int)), some (V.int (cst (fs.take 0) k)), none]
      rw [List.take_zero]
      unfold cst qs
      simp
      rfl
    · obtain ⟨y, _, e⟩ := hP
      exact (hf.ex e).sq
    · obtain ⟨y, rfl, e⟩ := hP
      rw [List.getElem?_map] at hx
      cases hq : fs[i]? with
      | none => rw [hq] at hx; cases hx
      | some z =>
        rw [hq] at hx
        have ez : V.int z = x := Option.some.inj hx
        subst ez
        have h2 := show (0 : Int) < 2 ^ k from Int.pow_pos (by decide)
        have hlt : ((1 : Int) * 2 ^ (k : Int).toNat).natAbs < 2 ^ 130 := by
          rw [Int.one_mul, Int.toNat_natCast, Int.natAbs_pow]
          exact Nat.lt_of_le_of_lt (Nat.pow_le_pow_right (by decide) hk) (by decide)
        refine s_asg (ev_op (ev_op (ev_op (ev_var rfl) (ev_op (ev_var rfl) (ev_op ev_c (ev_var rfl) (rv_I (shl_ok (n := 1) (j := k) (by decide) (by omega)))) (rv_I (wide_div (b := 130) ?_ hlt (by decide) (by decide)))) rv_I0) ev_c rv_I0) (ev_var rfl) rv_I0) fun H2 e2 => ?_
        · rw [Int.one_mul, Int.toNat_natCast]
          exact h2
        · refine ⟨some (V.int z), ?_, e.trans e2⟩
          rw [cst_take hq k, Int.one_mul, Int.toNat_natCast]
          rfl
    · obtain ⟨y, rfl, e⟩ := hP
      refine s_ret (ev_var rfl) fun H3 e3 => ?_
      rw [List.length_map, List.take_length]
      exact q H3 (e.trans e3)
theorem ok__law_below (T : Tx K mg) : FnOk P w K mg base CX0 1 T.a__law_below T.d__law_below ["_law_many", "_law_top"] (sp__law_below K) := by
  refine T.f__law_below.ok (k := 0) sc__law_below (fun vs H Q E h => ?_) (fun cdv A outer s H vs Q E hr h => ?_)
  · obtain ⟨m, t, rfl, _⟩ := h
    rfl
  · obtain ⟨m, t, rfl, t1, m2, t2, hpow, q⟩ := h
    refine ⟨_,       (pss_cons (ps_set (i := 2) sc__law_below.nd rfl (by first | exact Or.inl rfl | exact Or.inr rfl) (pe_lst (pa_cons (pe_lst pa_nil) pa_nil))) 
      (pss_cons (ps_for PassesOwn.never rfl (pi_range1 rfl T.m_range (pa_cons (pv 0) pa_nil)) (pg_name (i := 3) sc__law_below.nd rfl (by first | exact Or.inl rfl | exact Or.inr rfl)) 
        (pss_cons (ps_set (i := 4) sc__law_below.nd rfl (by first | exact Or.inl rfl | exact Or.inr rfl) (pe_lst pa_nil)) 
        (pss_cons (ps_for PassesOwn.never rfl (pi_list (pv 2)) (pg_name (i := 5) sc__law_below.nd rfl (by first | exact Or.inl rfl | exact Or.inr rfl)) 
          (pss_one (ps_set (i := 4) sc__law_below.nd rfl (by first | exact Or.inl rfl | exact Or.inr rfl) (pe_op op_cat (pv 4) (pe_lc (own := [("_law_one", 6)]) (g := gName 6) (tt := tYes) rfl sc__law_below.nd (pi_range1 rfl T.m_range (pa_cons (pv 1) pa_nil)) (blkOk_by (own := [("_law_one", 6)]) (N := ["_law_many", "_law_top", "_law_found", "_law_turn", "_law_longer", "_law_row", "_law_one"]) (sc := defScope s__law_below) (by decide +kernel)) (fun _ _ _ _ _ => (pg_name (i := 6) sc__law_below.nd rfl (by first | exact Or.inl rfl | exact Or.inr rfl))) (fun _ _ _ _ _ => pts_nil) (fun _ _ _ _ _ => (pe_op op_cat (pv 5) (pe_lst (pa_cons (pv 6) pa_nil))))))))) 
        (pss_one (ps_set (i := 2) sc__law_below.nd rfl (by first | exact Or.inl rfl | exact Or.inr rfl) (pv 4)))))) 
      (pss_one (ps_ret (pv 2))))), ?_⟩
    refine q_in (ta_consL (el_lst ea_nil (by decide)) fun p1 H1 hp1 e1 k1 => ta_nil ⟨sz_of (by show 1 ≤ 100000; decide), fun p hp => ?_⟩)
    have hp0 := fresh_back e1 hp
    refine q_forR1 (n := (m : Int)) (ea_cons (ev_var rfl) ea_nil) (by omega)
      (fun i σ' H' => ∃ u y3 y4 y5 y6, σ' = [some (.int (m : Int)), some (.int (t : Int)), some (.ref u), y3, y4, y5, y6] ∧ Ex H H' ∧ H u = none ∧ LL H' u (below i t)) (fun H3 e3 => ⟨p, none, none, none, none, rfl, (e1.trans (Ex.new hp)).trans e3, hp0, [.ref p1], e3 _ _ upd_same, rfl, fun i r hr => ?_⟩) (fun i σ' H' hi hP => ?_) (fun σ' H' hP => ?_)
    · cases i with
      | zero =>
        cases hr
        exact ⟨p1, rfl, e3 _ _ (Ex.new hp _ _ k1)⟩
      | succ i => cases hr
    · obtain ⟨u, y3, y4, y5, y6, rfl, e, hu, hL⟩ := hP
      refine q_asgL (xs := []) (el_lst ea_nil (by decide)) fun p2 H4 hp2 e4 k4 => ?_
      obtain ⟨vs, hv1, hv2⟩ := hL.ex e4
      have hbl := below_len i t
      have hbi : t ^ i ≤ 10000 := Nat.le_trans (Nat.pow_le_pow_right t1 (by omega)) hpow
      refine q_forLn (K := K) (xs := vs) (ev_var rfl) (sq_of hv1) (fun j σ2 H2 => ∃ l y5 y6, σ2 = [some (.int (m : Int)), some (.int (t : Int)), some (.ref u), some (.int (i : Int)), some (.ref l), y5, y6] ∧ Ex H4 H2 ∧ H l = none ∧ LL H2 l (((below i t).take j).flatMap fun r => (List.range t).map fun i : Nat => r ++ [(i : Int)]))
        (fun H5 e5 => ⟨p2, y5, y6, rfl, e5, fresh_back e hp2, [], e5 _ _ k4, Lv.nil⟩) (fun j σ2 H2 _ h => by obtain ⟨_, _, _, _, e, _⟩ := h; exact sq_of (e _ _ hv1)) (fun j x σ2 H2 hx h => ?_) (fun σ2 H2 h => ?_)
      · obtain ⟨l, y5, y6, rfl, e5, hl, zs, hz1, hz2⟩ := h
        obtain ⟨a, r, rfl, hri, har⟩ := hv2.get hx
        have hrm : r ∈ below i t := List.mem_of_getElem? hri
        obtain ⟨hr1, hr2⟩ := below_row i t r hrm
        refine s_in (top_in2 (ev_use (v := .ref l) (ev_var rfl) fun Ha ea => longer_use (r := r) (a := a) (n := t) t2 (by omega) (ea_cons (ev_var rfl) ea_nil) (ea _ _ (e5 _ _ har)) (fun _ => rfl) (fun _ => rfl) (fun _ => rfl) fun Dd Hd hD eD hLL => ?_))
        obtain ⟨ws, hw1, hw2⟩ := hLL
        have hsum : zs.length + ws.length ≤ 10000 := by
          have h1 : (((below i t).take (j + 1)).flatMap fun r => (List.range t).map fun i : Nat => r ++ [(i : Int)]).length ≤ (below (i + 1) t).length := by
            have e7 : below (i + 1) t = ((below i t).take (j + 1)).flatMap (fun r => (List.range t).map fun i : Nat => r ++ [(i : Int)]) ++ ((below i t).drop (j + 1)).flatMap (fun r => (List.range t).map fun i : Nat => r ++ [(i : Int)]) := by
              rw [← List.flatMap_append, List.take_append_drop]
              rfl
            rw [e7, List.length_append]
            omega
          have h2 : (below (i + 1) t).length ≤ 10000 := by
            rw [below_len]
            exact Nat.le_trans (Nat.pow_le_pow_right t1 (by omega)) hpow
          rw [List.take_succ, hri, List.flatMap_append, List.length_append] at h1
          have h3 : ((some r).toList.flatMap fun r => (List.range t).map fun i : Nat => r ++ [(i : Int)]).length = ws.length := by
            rw [hw2.1]
            simp
          rw [h3, ← hz2.1] at h1
          omega
        refine ⟨l, Dd, zs, ws, rfl, rfl, (ea.trans eD) _ _ hz1, hw1, sz_of (by omega), fun p3 hp3 => ?_⟩
        have e6 := Ex.new (o := .lst (zs ++ ws)) hp3
        have e46 := ((e5.trans ea).trans eD).trans e6
        refine ⟨p3, _, _, rfl, e46, fresh_back (((e.trans e4).trans e5).trans (ea.trans eD)) hp3, zs ++ ws, upd_same, ?_⟩
        rw [List.take_succ, hri, List.flatMap_append]
        have h3 : ((some r).toList.flatMap fun r => (List.range t).map fun i : Nat => r ++ [(i : Int)]) = (List.range t).map fun i : Nat => r ++ [(i : Int)] := by simp
        rw [h3]
        exact (hz2.ex ((ea.trans eD).trans e6)).app (hw2.ex e6)
      · obtain ⟨l, y5, y6, rfl, e5, hl, hLL⟩ := h
        rw [hv2.1, List.take_length] at hLL
        exact s_asg (ev_var rfl) fun H6 e6 => ⟨l, _, _, _, _, rfl, ((e.trans e4).trans e5).trans e6, hl, hLL.ex e6⟩
    · obtain ⟨u, y3, y4, y5, y6, rfl, e, hu, hL⟩ := hP
      rw [Int.toNat_natCast] at hL
      exact s_ret (ev_var rfl) fun H4 e4 => q u H4 hu (e.trans e4) (hL.ex e4)
theorem ok__law_folds (T : Tx K mg) : FnOk P w K mg base CX0 3 T.a__law_folds T.d__law_folds ["_law_generator_here", "_law_most"] (sp__law_folds K) := by
  refine T.f__law_folds.ok (k := 2) sc__law_folds (fun vs H Q E h => ?_) (fun cdv A outer s H vs Q E hr h => ?_)
  · obtain ⟨g, n, C, rfl, _⟩ := h
    rfl
  · obtain ⟨g, n, C, rfl, hg, hn, hC, q⟩ := h
    refine ⟨_,       (pss_cons (ps_par (i := 2) (j := 3) (by rfl) sc__law_folds.nd rfl rfl (by decide) rfl rfl (pa_cons (pe_lst pa_nil) (pa_cons (pe_call (ok__law_random T) hr (by rfl) T.g__law_random T.f__law_random.kp T.b__law_random .nil pass0 (pa_cons (pv 0) (pa_cons pe_int pa_nil))) pa_nil)) (by rfl)) 
      (pss_cons (ps_for PassesOwn.never rfl (pi_range1 rfl T.m_range (pa_cons (pe_call (ok__law_random T) hr (by rfl) T.g__law_random T.f__law_random.kp T.b__law_random .nil pass0 (pa_cons (pv 0) (pa_cons (pe_op op_add (pv 1) pe_int) pa_nil))) pa_nil)) (pg_name (i := 4) sc__law_folds.nd rfl (by first | exact Or.inl rfl | exact Or.inr rfl)) 
        (pss_cons (ps_par (i := 5) (j := 6) (by rfl) sc__law_folds.nd rfl rfl (by decide) rfl rfl (pa_cons (pe_call (ok__law_random T) hr (by rfl) T.g__law_random T.f__law_random.kp T.b__law_random .nil pass0 (pa_cons (pv 0) (pa_cons pe_int pa_nil))) (pa_cons (pe_call (ok__law_random T) hr (by rfl) T.g__law_random T.f__law_random.kp T.b__law_random .nil pass0 (pa_cons (pv 0) (pa_cons pe_int pa_nil))) pa_nil)) (by rfl)) 
        (pss_cons (ps_set (i := 7) sc__law_folds.nd rfl (by first | exact Or.inl rfl | exact Or.inr rfl) (pe_op op_sub (pe_op op_add (pe_op op_shlW pe_int (pe_call (ok__law_random T) hr (by rfl) T.g__law_random T.f__law_random.kp T.b__law_random .nil pass0 (pa_cons (pv 0) (pa_cons pe_int pa_nil)))) (pe_call (ok__law_random T) hr (by rfl) T.g__law_random T.f__law_random.kp T.b__law_random .nil pass0 (pa_cons (pv 0) (pa_cons pe_int pa_nil)))) pe_int)) 
        (pss_one (ps_expr (pe_bm PySem.F.plainAttrs_list PySem.F.slot_list_append PySem.F.type_list_append mt_append (pv 2) (pa_cons (pe_ix (r := rIxL K) ix_list (pe_lst (pa_cons (pv 5) (pa_cons (pv 5) (pa_cons (pe_call (ok__law_random T) hr (by rfl) T.g__law_random T.f__law_random.kp T.b__law_random .nil pass0 (pa_cons (pv 0) (pa_cons (pe_op op_shlW pe_int (pv 6)) pa_nil))) (pa_cons (pv 7) (pa_cons (pe_op op_mul (pv 5) (pe_callTy call_int1 (by rfl) T.m_int (by decide +kernel) (pa_cons (pe_cmpR op_lt (pv 6) pe_int (nomark _)) pa_nil))) pa_nil)))))) (pv 3) (fun _ _ => rfl)) pa_nil))))))) 
      (pss_one (ps_ret (pv 2))))), ?_⟩
    -- found, kind
    refine ⟨Nat.zero_le _, fun l hl => ?_⟩
    have e0 : Ex H (upd H l (.lst [])) := Ex.new hl
    refine ⟨.ref g, rfl, g, 5, C, rfl, hg.ex e0, by omega, by decide, by decide, fun kind H1 k0 k5 hg1 hE1 => ?_⟩
    obtain ⟨og, hog⟩ := hg.some
    have lg : l ≠ g := fun h => by rw [h, hog] at hl; cases hl
    have hl1 : H1 l = some (.lst ((([] : List Int)).map V.int)) := hE1 l _ lg upd_same
    have hE01 : ExB g H H1 := (ExB.of e0).trans hE1
    refine ⟨_, _, rfl, ?_⟩
    -- range(random(g, most + 1))
    refine ⟨.ref g, rfl, .int (n : Int), rfl, (n : Int), 1, rfl, rfl, g, (n : Int) + 1, C + 4, rfl, hg1, by omega, by omega, by omega, fun turns H2 t0 t1 hg2 hE2 => ?_⟩
    have hl2 : H2 l = some (.lst ((([] : List Int)).map V.int)) := hE2 l _ lg hl1
    refine ⟨turns, rfl, by omega, by omega, for_range (lo := 0) (n := turns.toNat) (fun i σ' H' => ∃ (fs : List Int) (y4 y5 y6 y7 : Option V), σ' = [some (.ref g), some (.int (n : Int)), some (.ref l), some (.int kind), y4, y5, y6, y7] ∧ ExB g H H' ∧ H' l = some (.lst (fs.map V.int)) ∧ Bel 38 fs ∧ fs.length = i ∧ Gs H' g (C + 8 + 20 * i))
      ⟨[], none, none, none, none, rfl, hE01.trans hE2, hl2, fun u hu => absurd hu (List.not_mem_nil), rfl, hg2⟩ (fun i σ' H' hi hP => ?_) (fun σ' H' hP => ?_)⟩
    · obtain ⟨fs, y4, y5, y6, y7, rfl, hE, hL, hG, hlen, hg'⟩ := hP
      have hi' : i < 100 := by omega
      -- small, deep
      refine ⟨.ref g, rfl, g, 9, _, rfl, hg', by omega, by decide, by decide, fun small H3 s0 s1 hg3 hE3 => ?_⟩
      refine ⟨.ref g, rfl, g, 12, _, rfl, hg3, by omega, by decide, by decide, fun deep H4 d0 d1 hg4 hE4 => ?_⟩
      refine ⟨_, _, rfl, ?_⟩
      -- far
      refine ⟨.ref g, rfl, g, 38, _, rfl, hg4, by omega, by decide, by decide, fun sh H5 sh0 sh1 hg5 hE5 => ?_⟩
      refine ⟨1, sh, rfl, rfl, ⟨sh0, ?_⟩, ?_⟩
      · have : Builtin.Int.intBits 1 ≤ 1 := PyProof.Rows.intBits_le (k := 1) (by decide)
        have e27 : (2 : Int) ^ 27 = 134217728 := by decide
        omega
      refine ⟨.ref g, rfl, g, 3, _, rfl, hg5, by omega, by decide, by decide, fun th H6 th0 th1 hg6 hE6 => ?_⟩
      refine ⟨_, _, rfl, rfl, _, 1, rfl, rfl, ?_⟩
      have hfar : 0 ≤ 1 * 2 ^ sh.toNat + th - 1 ∧ 1 * 2 ^ sh.toNat + th - 1 < 2 ^ 38 := by
        have a1 : (1 : Int) ≤ 2 ^ sh.toNat := by
          have : (0 : Int) < 2 ^ sh.toNat := Int.pow_pos (by decide)
          omega
        have a2 : (2 : Int) ^ sh.toNat ≤ 2 ^ 37 := two_le (by omega)
        have e37 : (2 : Int) ^ 37 = 137438953472 := by decide
        have e38x : (2 : Int) ^ 38 = 274877906944 := by decide
        omega
      -- append([..][kind])
      have hE36 : ExB g H H6 := (((hE.trans hE3).trans hE4).trans hE5).trans hE6
      have hL6 : H6 l = some (.lst (fs.map V.int)) := hE6 l _ lg (hE5 l _ lg (hE4 l _ lg (hE3 l _ lg hL)))
      refine ⟨.ref l, rfl, Or.inl ⟨rfl, _, Or.inl (Or.inl hL6)⟩, ?_⟩
      refine ⟨.int small, rfl, .int small, rfl, ?_⟩
      refine ⟨.ref g, rfl, .int deep, rfl, 1, deep, rfl, rfl, ⟨d0, ?_⟩, g, 1 * 2 ^ deep.toNat, _, rfl, hg6, by omega, ?_, ?_, fun rn H7 r0 r1 hg7 hE7 => ?_⟩
      · have : Builtin.Int.intBits 1 ≤ 1 := PyProof.Rows.intBits_le (k := 1) (by decide)
        have e27 : (2 : Int) ^ 27 = 134217728 := by decide
        omega
      · have : (0 : Int) < 2 ^ deep.toNat := Int.pow_pos (by decide)
        omega
      · have a2 : (2 : Int) ^ deep.toNat ≤ 2 ^ 11 := two_le (by omega)
        have e11 : (2 : Int) ^ 11 = 2048 := by decide
        omega
      have hrn : rn < 2048 := by
        have a2 : (2 : Int) ^ deep.toNat ≤ 2 ^ 11 := two_le (by omega)
        have e11 : (2 : Int) ^ 11 = 2048 := by decide
        omega
      refine ⟨_, rfl, .int small, rfl, .int deep, rfl, deep, 3, rfl, rfl, Or.inr ⟨_, rfl, small, _, rfl, rfl, Or.inl ⟨by omega, by omega⟩, ?_⟩⟩
      have hmul : 0 ≤ small * (if decide (deep < 3) = true then 1 else 0) ∧ small * (if decide (deep < 3) = true then 1 else 0) < 9 := by
        split <;> omega
      refine ⟨by show 5 ≤ sizeLine; decide, fun lp hlp => ?_⟩
      have hL7 : H7 l = some (.lst (fs.map V.int)) := hE7 l _ lg hL6
      have lpl : l ≠ lp := fun h => by rw [← h, hL7] at hlp; cases hlp
      have e7 : Ex H7 (upd H7 lp (.lst [.int small, .int small, .int rn, .int (1 * 2 ^ sh.toNat + th - 1), .int (small * (if decide (deep < 3) = true then 1 else 0))])) := Ex.new hlp
      obtain ⟨x, hx, hxg⟩ : ∃ x : Int, atI [V.int small, V.int small, V.int rn, V.int (1 * 2 ^ sh.toNat + th - 1), V.int (small * (if decide (deep < 3) = true then 1 else 0))] kind = some (.int x) ∧ 0 ≤ x ∧ x < 2 ^ 38 := by
        have e38x : (2 : Int) ^ 38 = 274877906944 := by decide
        have hk : kind = 0 ∨ kind = 1 ∨ kind = 2 ∨ kind = 3 ∨ kind = 4 := by omega
        rcases hk with rfl | rfl | rfl | rfl | rfl
        · exact ⟨small, rfl, by omega, by omega⟩
        · exact ⟨small, rfl, by omega, by omega⟩
        · exact ⟨rn, rfl, by omega, by omega⟩
        · exact ⟨_, rfl, hfar⟩
        · exact ⟨_, rfl, hmul.1, by omega⟩
      refine ⟨.int kind, rfl, lp, _, kind, .int x, rfl, rfl, Or.inl (Or.inl upd_same), hx, ?_⟩
      refine ⟨l, fs.map V.int, .int x, rfl, rfl, e7 _ _ hL7, ?_, ?_⟩
      · rw [List.length_map]
        exact small1000 (by omega)
      · refine ⟨fs ++ [x], _, _, _, _, rfl, ?_, ?_, ?_, ?_, ?_⟩
        · refine fun a o n h => ?_
          have hal : a ≠ l := fun e => by rw [e, hl] at h; cases h
          rw [upd_ne hal]
          exact e7 a o (hE7 a o n (hE36 a o n h))
        · rw [upd_same, List.map_append]
          rfl
        · intro u hu
          rcases List.mem_append.mp hu with h | h
          · exact hG u h
          · rw [List.mem_singleton] at h
            rw [h]
            exact hxg
        · rw [List.length_append, hlen]
          rfl
        · obtain ⟨A0, B0, c0, w1, w2, w3, w4, w5⟩ := hg7
          refine ⟨A0, B0, c0, ?_, w2, w3, w4, by omega⟩
          rw [upd_ne (Ne.symm lg)]
          exact e7 _ _ w1
    · obtain ⟨fs, y4, y5, y6, y7, rfl, hE, hL, hG, hlen, hg'⟩ := hP
      exact ⟨.ref l, rfl, q l fs H' hl ⟨hL, hG.good (by decide), by omega⟩ hG (by omega) (hg'.mono (by omega)) hE⟩
theorem ok__law_prices (T : Tx K mg) : FnOk P w K mg base CX0 2 T.a__law_prices T.d__law_prices ["_law_folds_here"] (sp__law_prices K) := by
  refine T.f__law_prices.ok (k := 1) sc__law_prices (fun vs H Q E h => ?_) (fun cdv A outer s H vs Q E hr h => ?_)
  · obtain ⟨a, fs, rfl, _⟩ := h
    rfl
  · obtain ⟨a, fs, rfl, hf, q⟩ := h
    refine ⟨_,       (pss_one (ps_ret (pe_lc (own := [("_law_width", 1)]) (g := gName 1) (tt := tYes) rfl sc__law_prices.nd (pi_range1 rfl T.m_range (pa_cons pe_int pa_nil)) (blkOk_by (own := [("_law_width", 1)]) (N := ["_law_folds_here", "_law_width"]) (sc := defScope s__law_prices) (by decide +kernel)) (fun _ _ _ _ _ => (pg_name (i := 1) sc__law_prices.nd rfl (by first | exact Or.inl rfl | exact Or.inr rfl))) (fun _ _ _ _ _ => pts_nil) (fun _ _ _ _ _ => (pe_call (ok__law_price T) hr (by rfl) T.g__law_price T.f__law_price.kp T.b__law_price .nil pass0 (pa_cons (pv 0) (pa_cons (pv 1) pa_nil))))))), ?_⟩
    exact s_retL (el_mapR (n := 45) (fun k => V.int (cst fs k)) (ea_cons ev_c ea_nil) (by decide) (fun _ => rfl) (fun i H1 e hi => ev_call (ea_cons (ev_var rfl) (ea_cons (ev_var rfl) ea_nil)) (spv fun H2 e2 Q q E => ⟨a, fs, i, rfl, hf.ex (e.trans e2), by omega, q⟩))) fun p H1 hp e h1 => q.go (Ex.refl H) hp e h1
theorem ok__law_bits (T : Tx K mg) : FnOk P w K mg base CX0 1 T.a__law_bits T.d__law_bits ["_law_folds_here"] (sp__law_bits K) := by
  refine T.f__law_bits.ok (k := 0) sc__law_bits (fun vs H Q E h => ?_) (fun cdv A outer s H vs Q E hr h => ?_)
  · obtain ⟨a, fs, rfl, _⟩ := h
    rfl
  · obtain ⟨a, fs, rfl, hf, q⟩ := h
    refine ⟨_,       (pss_cons (ps_par (i := 1) (j := 2) (by rfl) sc__law_bits.nd rfl rfl (by decide) rfl rfl (pa_cons (pe_lst pa_nil) (pa_cons (pe_callTy (T := "list") (r := rListS K) call_list_of (by rfl) T.m_list (by decide +kernel) (pa_cons (pv 0) pa_nil)) pa_nil)) (by rfl)) 
      (pss_cons (ps_while PassesOwn.never (pt_cmpR (op_neD hr.units) (pe_lc (own := [("_law_one", 3)]) (g := gName 3) rfl sc__law_bits.nd (pi_list (pv 2)) (blkOk_by (own := [("_law_one", 3)]) (N := ["_law_folds_here", "_law_found", "_law_left", "_law_one"]) (sc := defScope s__law_bits) (by decide +kernel)) (fun _ _ _ _ _ => (pg_name (i := 3) sc__law_bits.nd rfl (by first | exact Or.inl rfl | exact Or.inr rfl))) (fun _ _ _ _ _ => (pts_one (pt_cmpR op_gt (pv 3) pe_int (nomark _)))) (fun _ _ _ _ _ => (pv 3))) (pe_lst pa_nil) (nomark _)) 
        (pss_cons (ps_expr (pe_bm PySem.F.plainAttrs_list PySem.F.slot_list_append PySem.F.type_list_append mt_append (pv 1) (pa_cons (pe_callB (id := "len") (r := rLenS K) call_len_seq (by rfl) T.m_len PySem.boot_len (pa_cons (pe_lc (own := [("_law_one", 3)]) (g := gName 3) rfl sc__law_bits.nd (pi_list (pv 2)) (blkOk_by (own := [("_law_one", 3)]) (N := ["_law_folds_here", "_law_found", "_law_left", "_law_one"]) (sc := defScope s__law_bits) (by decide +kernel)) (fun _ _ _ _ _ => (pg_name (i := 3) sc__law_bits.nd rfl (by first | exact Or.inl rfl | exact Or.inr rfl))) (fun _ _ _ _ _ => (pts_one (pt_cmpR op_eq (pe_op op_modN (pv 3) pe_int) pe_int (nomark _)))) (fun _ _ _ _ _ => (pv 3))) pa_nil)) pa_nil))) 
        (pss_one (ps_setLc (i := 2) (own := [("_law_one", 3)]) (g := gName 3) (tt := tYes) rfl sc__law_bits.nd rfl rfl (sw_true rfl rfl rfl (by decide +kernel)) (pi_list (pv 2)) (blkOk_by (own := [("_law_one", 3)]) (N := ["_law_folds_here", "_law_found", "_law_left", "_law_one"]) (sc := defScope s__law_bits) (by decide +kernel)) (fun _ _ _ _ _ => (pg_name (i := 3) sc__law_bits.nd rfl (by first | exact Or.inl rfl | exact Or.inr rfl))) (fun _ _ _ _ _ => pts_nil) (fun _ _ _ _ _ => (pe_op op_fdiv (pv 3) pe_int)))))) 
      (pss_one (ps_ret (pv 1))))), ?_⟩
    have l40 := hf.lg40
    have hl := hf.len
    refine q_par (ta_consL (xs := []) (el_lst ea_nil (by decide)) fun pf H1 hpf e1 k1 => ta_consL (xs := fs.map V.int) (el_list (K := K) (ev_var rfl) (hf.ex e1).sq) fun pl H2 hpl e2 k2 => ta_nil ⟨_, _, rfl, ?_⟩)
    have e12 := e1.trans e2
    have hpl0 := fresh_back e1 hpl
    have d12 : pf ≠ pl := fun z => by rw [← z, k1] at hpl; cases hpl
    refine q_while (fun m σ' H' => ∃ i pl, σ' = [some (.ref a), some (.ref pf), some (.ref pl), none] ∧ Ex H H' ∧ H pl = none ∧ pf ≠ pl ∧ H' pf = some (.lst (((List.range i).map (bc fs)).map V.int)) ∧ H' pl = some (.lst ((fs.map fun u => u / 2 ^ i).map V.int)) ∧ i ≤ lg fs ∧ m = 50 - i) 50 ⟨0, pl, rfl, e12, hpl0, d12, e2 _ _ k1, ?_, Nat.zero_le _, rfl⟩ (fun m σ' H' hW => ?_)
    · rw [k2]
      congr 3
      conv => lhs; rw [← List.map_id fs]
      apply List.map_congr_left
      intro u _
      show u = u / 2 ^ 0
      rw [Int.pow_zero, Int.ediv_one]
    obtain ⟨i, pl, rfl, e, hpl0, d, kf, kl, hi, rfl⟩ := hW
    refine ⟨decide (i < lg fs), et_is (et_test (ev_opLL (xs := ((fs.map fun u => u / 2 ^ i).filter fun u => decide (0 < u)).map V.int) (ys := []) (el_mapT (K := K) (fun u => decide (0 < u)) V.int (ev_var rfl) (sq_of kl) (by rw [List.length_map]; omega) (fun _ => rfl) (fun u H3 e3 hu => et_test (ev_op (ev_var rfl) ev_c rv_I0)) (fun u H3 e3 hu _ => ev_var rfl)) (el_lst ea_nil (by decide)) fun p q H3 hp hq e3 => rv_neI (K := K) (ns := (fs.map fun u => u / 2 ^ i).filter fun u => decide (0 < u)) (ms := []) (sq_of hp) (sq_of hq))) (pos_bits hf.nn i), fun z H3 e3 => ?_, fun z H3 e3 => ?_⟩
    · have hlt := of_decide_eq_true z
      refine ⟨fun σ2 H4 => ∃ pl, σ2 = [some (.ref a), some (.ref pf), some (.ref pl), none] ∧ Ex H H4 ∧ H pl = none ∧ pf ≠ pl ∧ H4 pf = some (.lst (((List.range (i + 1)).map (bc fs)).map V.int)) ∧ H4 pl = some (.lst ((fs.map fun u => u / 2 ^ (i + 1)).map V.int)), fun σ2 H4 hN => ?_, ?_⟩
      · obtain ⟨pl, rfl, e', h0, d', kf', kl'⟩ := hN
        exact ⟨50 - (i + 1), by omega, i + 1, pl, rfl, e', h0, d', kf', kl', by omega, rfl⟩
      · refine q_app (v := .int (bc fs i)) (e3 _ _ kf) (ev_var rfl) (ev_is (ev_lenN (K := K) (el_mapT (K := K) (fun u => decide (u % 2 = 1)) V.int (ev_var rfl) (sq_of (e3 _ _ kl)) (by rw [List.length_map]; omega) (fun _ => rfl) (fun u H4 e4 hu => et_is (et_test (ev_op (ev_op (ev_var rfl) ev_c (rv_I (by decide))) ev_c (rv_eq rfl))) ?_) (fun u H4 e4 hu _ => ev_var rfl))) (by rw [odd_bits])) (by rw [List.length_map, List.length_map, List.length_range]; omega) fun H4 e4 => ?_
        · rw [Int.fmod_eq_emod_of_nonneg _ (by decide)]
          exact decide_eq_decide.mpr ⟨fun h => V.int.inj h, fun h => by rw [h]⟩
        · have e4' : Ex H (upd H4 pf (.lst (((List.range i).map (bc fs)).map V.int ++ [V.int (bc fs i)]))) := Ex.mut ((e.trans e3).trans e4) hpf
          have kl4 : (upd H4 pf (.lst (((List.range i).map (bc fs)).map V.int ++ [V.int (bc fs i)]))) pl = some (.lst ((fs.map fun u => u / 2 ^ i).map V.int)) := by
            rw [upd_ne (Ne.symm d)]
            exact e4 _ _ (e3 _ _ kl)
          refine s_asgL (xs := (fs.map fun u => u / 2 ^ (i + 1)).map V.int) ?_ fun p5 H5 hp5 e5 k5 => ?_
          · have em : (fs.map fun u => u / 2 ^ (i + 1)).map V.int = (fs.map fun u => u / 2 ^ i).map (V.int ∘ fun u => u / 2) := by
              rw [List.map_map, List.map_map]
              apply List.map_congr_left
              intro u _
              show V.int (u / 2 ^ (i + 1)) = V.int (u / 2 ^ i / 2)
              rw [half_next]
            rw [em]
            exact el_map (0 : Int) (V.int ∘ fun u => u / 2) (ev_var rfl) (sq_of kl4) (by rw [List.length_map]; omega) (fun _ => rfl) (fun u H6 e6 hu => ev_op (ev_var rfl) ev_c (rv_I ⟨by decide, by decide⟩))
          · have dp : pf ≠ p5 := fun z => by rw [← z, upd_same] at hp5; cases hp5
            refine ⟨p5, rfl, e4'.trans e5, fresh_back e4' hp5, dp, ?_, k5⟩
            rw [e5 _ _ upd_same, List.range_succ, List.map_append, List.map_append]
            rfl
    · have hz := of_decide_eq_false z
      have ei : i = lg fs := by omega
      subst ei
      exact s_ret (ev_var rfl) fun H4 e4 => q pf H4 hpf ((e.trans e3).trans e4) ((e3.trans e4) _ _ kf)
end
end K40

set_option Elab.async false
set_option linter.all false
set_option maxRecDepth 100000
set_option maxHeartbeats 4000000
namespace K40
open PySem PySem.Spec PyProof.Rows L2 Evl WS M41 M47 M40
def sp__law_other (K : PySem.W.Frag) : Sp := fun vs H Q _ => ∃ g a fs, ∃ C : Nat, vs = [.ref g, .ref a] ∧ Gs H g C ∧ a ≠ g ∧ Fo H a fs ∧ Bel 38 fs ∧ fs.length ≤ 50 ∧ C ≤ 100000000 ∧
  ∀ p gs H2, H p = none → H2 p = some (.lst (gs.map V.int)) → Bel 39 gs → gs.length ≤ 51 → Gs H2 g (C + 100) → ExB g H H2 → Q (.ref p) H2
def sp__law_pair_right (K : PySem.W.Frag) : Sp := fun vs H Q _ => ∃ a b A B, vs = [.ref a, .ref b] ∧ Fo H a A ∧ Fo H b B ∧ A.length ≤ 100 ∧ B.length ≤ 100 ∧ RetV (.bl true) H Q
theorem Bel.mono {m n : Nat} {fs : List Int} (h : Bel m fs) (hm : m ≤ n) : Bel n fs := fun u hu => ⟨(h u hu).1, Int.lt_of_lt_of_le (h u hu).2 (two_mono hm)⟩
theorem Bel.set {m : Nat} {fs : List Int} {i : Nat} {x : Int} (h : Bel m fs) (h0 : 0 ≤ x) (h1 : x < 2 ^ m) : Bel m (fs.set i x) := fun u hu => by
  rcases List.mem_or_eq_of_mem_set hu with k | k
  · exact h u k
  · rw [k]; exact ⟨h0, h1⟩
section
variable {K : PySem.W.Frag} {σ : L2.St} {H : Hp} {ta tb te tl : TE} {D : Ends} {tz tu : TS} {tr : TA} {g : TG}
theorem s_in {i : Nat} (k : te σ H fun x H1 => D.nx (σ.set i (some x)) H1) : tAsg te (gName i) D σ H := k
theorem q_gin (k : te σ H fun x H1 => g x σ H1 fun σ2 H2 => tz D σ2 H2) : tSeq (tAsg te g) tz D σ H := k
theorem s_gin (k : te σ H fun x H1 => g x σ H1 fun σ2 H2 => D.nx σ2 H2) : tAsg te g D σ H := k
theorem ev_reprL {xs : List V} (h : EvL te σ H xs) (hs : xs.all isSc = true) (sh : (PyData.list (xs.map sD)).showable = true) (nd : (PyData.list (xs.map sD)).hasDict = false) (dp : (PyData.list (xs.map sD)).depth ≤ 50) (sz : (PyData.list (xs.map sD)).shown.length ≤ sizeLine) :
    Ev (tCB (rRepr K) (tCons te tNil)) σ H (.str (PyData.list (xs.map sD)).shown) := fun H1 e Q q =>
  h H1 e _ fun p H2 _ e2 h2 => ⟨p, _, rfl, .lst (sq_of h2) (dpAll_sc hs), sh, nd, dp, sz, q H2 e2⟩
end
theorem told2 (b : Bool) : (PyData.list ([V.bl b, V.bl b].map sD)).showable = true ∧ (PyData.list ([V.bl b, V.bl b].map sD)).hasDict = false ∧ (PyData.list ([V.bl b, V.bl b].map sD)).depth ≤ 50 ∧ (PyData.list ([V.bl b, V.bl b].map sD)).shown.length ≤ 100 := by
  cases b <;> exact ⟨by decide +kernel, by decide +kernel, by decide +kernel, by decide +kernel⟩
theorem pw_head (A B : List Int) : pw A B = ((List.range 45).filter (unl A B)).head? := by
  unfold pw
  rw [List.head?_filter]
theorem getI {fs : List Int} {at_ : Int} (h0 : 0 ≤ at_) (h1 : at_ < fs.length) : ∃ (j : Nat) (u : Int), at_ = (j : Int) ∧ j < fs.length ∧ fs[j]? = some u ∧ u ∈ fs := by
  obtain ⟨j, rfl⟩ := Int.eq_ofNat_of_zero_le h0
  have hj : j < fs.length := by omega
  exact ⟨j, fs[j], rfl, hj, List.getElem?_eq_getElem hj, List.getElem_mem hj⟩
theorem at_map {fs : List Int} {j : Nat} {u : Int} (h : fs[j]? = some u) : (fs.map V.int)[j]? = some (V.int u) := by rw [List.getElem?_map, h]; rfl
section
variable {P : Program} {w : World} {K : PySem.W.Frag} {mg : Str → Option Value} {base : Heap}
theorem ok__law_other (T : Tx K mg) : FnOk P w K mg base CX0 3 T.a__law_other T.d__law_other ["_law_generator_here", "_law_folds_here"] (sp__law_other K) := by
  refine T.f__law_other.ok (k := 2) sc__law_other (fun vs H Q E h => ?_) (fun cdv A outer s H vs Q E hr h => ?_)
  · obtain ⟨g, a, fs, C, rfl, _⟩ := h
    rfl
  · obtain ⟨g, a, fs, C, rfl, hg, ag, hf, hB, hl, hC, q⟩ := h
    refine ⟨_,       (pss_cons (ps_par (i := 2) (j := 3) (by rfl) sc__law_other.nd rfl rfl (by decide) rfl rfl (pa_cons (pe_callTy (T := "list") (r := rListS K) call_list_of (by rfl) T.m_list (by decide +kernel) (pa_cons (pv 1) pa_nil)) (pa_cons (pe_call (ok__law_random T) hr (by rfl) T.g__law_random T.f__law_random.kp T.b__law_random .nil pass0 (pa_cons (pv 0) (pa_cons pe_int pa_nil))) pa_nil)) (by rfl)) 
      (pss_cons (ps_if (PW.pt (pw_or (pt_cmpR op_eq (pv 3) pe_int (nomark _)) (pw_or1 (pt_cmpR (op_eqD hr.units) (pv 1) (pe_lst pa_nil) (nomark _))))) 
        (pss_one (ps_ret (pe_op op_cat (pe_revL (pv 2)) (pe_op op_rep (pe_lst (pa_cons (pe_call (ok__law_random T) hr (by rfl) T.g__law_random T.f__law_random.kp T.b__law_random .nil pass0 (pa_cons (pv 0) (pa_cons pe_int pa_nil))) pa_nil)) (pe_callTy call_int1 (by rfl) T.m_int (by decide +kernel) (pa_cons (pe_cmpR (op_eqD hr.units) (pv 1) (pe_lst pa_nil) (nomark _)) pa_nil)))))) pss_nil) 
      (pss_cons (ps_par (i := 4) (j := 5) (by rfl) sc__law_other.nd rfl rfl (by decide) rfl rfl (pa_cons (pe_call (ok__law_random T) hr (by rfl) T.g__law_random T.f__law_random.kp T.b__law_random .nil pass0 (pa_cons (pv 0) (pa_cons (pe_callB (id := "len") (r := rLenS K) call_len_seq (by rfl) T.m_len PySem.boot_len (pa_cons (pv 1) pa_nil)) pa_nil))) (pa_cons (pe_call (ok__law_random T) hr (by rfl) T.g__law_random T.f__law_random.kp T.b__law_random .nil pass0 (pa_cons (pv 0) (pa_cons (pe_callB (id := "len") (r := rLenS K) call_len_seq (by rfl) T.m_len PySem.boot_len (pa_cons (pv 1) pa_nil)) pa_nil))) pa_nil)) (by rfl)) 
      (pss_cons (ps_set (i := 6) sc__law_other.nd rfl (by first | exact Or.inl rfl | exact Or.inr rfl) (pe_op op_shlW pe_int (pe_call (ok__law_random T) hr (by rfl) T.g__law_random T.f__law_random.kp T.b__law_random .nil pass0 (pa_cons (pv 0) (pa_cons pe_int pa_nil))))) 
      (pss_cons (ps_if (pt_cmpR op_eq (pv 3) pe_int (nomark _)) 
        (pss_one (ps_asg (pe_op op_add (pe_ix (r := rIxL K) ix_list (pv 2) (pv 4) (fun _ _ => rfl)) (pv 6)) (pg_sub (pv 2) (pv 4) set_list))) 
        (pss_one (ps_if (pt_cmpR op_eq (pv 3) pe_int (nomark _)) 
          (pss_one (ps_set (i := 2) sc__law_other.nd rfl (by first | exact Or.inl rfl | exact Or.inr rfl) (pe_op op_cat (pe_op op_cat (pe_slice (r := rSlL K) sl_list (pv 2) po_none (po_some (pv 4))) (pe_lst (pa_cons (pe_op op_sub (pv 6) pe_int) pa_nil))) (pe_slice (r := rSlL K) sl_list (pv 2) (po_some (pv 4)) po_none)))) 
          (pss_one (ps_if (PW.pt (pw_and (pt_cmpR op_eq (pe_op op_modN (pe_op op_fdivW (pe_ix (r := rIxL K) ix_list (pv 2) (pv 4) (fun _ _ => rfl)) (pv 6)) pe_int) pe_int (nomark _)) (pw_and1 (pt_cmpR op_eq (pe_op op_modN (pe_op op_fdivW (pe_ix (r := rIxL K) ix_list (pv 2) (pv 5) (fun _ _ => rfl)) (pv 6)) pe_int) pe_int (nomark _))))) 
            (pss_one (ps_asg (pe_tup (pa_cons (pe_op op_sub (pe_ix (r := rIxL K) ix_list (pv 2) (pv 4) (fun _ _ => rfl)) (pv 6)) (pa_cons (pe_op op_add (pe_ix (r := rIxL K) ix_list (pv 2) (pv 5) (fun _ _ => rfl)) (pv 6)) pa_nil))) (pg_tup rfl (pgs_cons (pg_sub (pv 2) (pv 4) set_list) (pgs_cons (pg_sub (pv 2) (pv 5) set_list) pgs_nil))))) pss_nil))))) 
      (pss_one (ps_ret (pv 2)))))))), ?_⟩
    have e38 : (2 : Int) ^ 38 = 274877906944 := by decide
    have e39 : (2 : Int) ^ 39 = 549755813888 := by decide
    obtain ⟨og, hog⟩ := hg.some
    refine q_par (ta_consL (xs := fs.map V.int) (el_list (K := K) (ev_var rfl) hf.sq) fun pl H1 hpl e1 k1 => ta_in (draw_use (n := 5) (ev_var rfl) ev_c (hg.ex e1) (by omega) (by decide) (by decide) fun way H2 w0 w1 hg2 E2 => ta_nil ⟨_, _, rfl, ?_⟩))
    have pg : pl ≠ g := fun z => by rw [z, hog] at hpl; cases hpl
    have ap : a ≠ pl := fun z => by rw [← z, hf.at_] at hpl; cases hpl
    have hE : ExB g H H2 := (ExB.of e1).trans E2
    have hfa : Fo H2 a fs := ⟨hE a _ ag hf.at_, hf.good, hf.len⟩
    have kp : H2 pl = some (.lst (fs.map V.int)) := E2 _ _ pg k1
    -- the end, whatever was done
    have fin : ∀ (p : Addr) (gs : List Int) (H' : Hp) (y4 y5 y6 : Option V) (D : Ends), D.rt = Q → H p = none → H' p = some (.lst (gs.map V.int)) → Bel 39 gs → gs.length ≤ 51 → Gs H' g (C + 100) → ExB g H H' → tRet (tVar 2) D ([some (.ref g), some (.ref a), some (.ref p), some (.int way), y4, y5, y6] : L2.St) H' := fun p gs H' y4 y5 y6 D hD hp hk hb hn hG hEE => by
      refine s_ret (ev_var rfl) fun H'' e'' => ?_
      rw [hD]
      exact q p gs H'' hp (e'' _ _ hk) hb hn (hG.ex e'') (hEE.trans (ExB.of e''))
    refine q_when (b := decide (V.int way = V.int 0) || decide (fs = [])) (et_or (et_test (ev_op (ev_var rfl) ev_c (rv_eq rfl))) fun _ => et_test (ev_opL (xs := []) (ev_var rfl) (el_lst ea_nil (by decide)) fun p H3 hp e3 => rv_eqI (K := K) (ns := fs) (ms := []) (hfa.ex e3).sq (sq_of hp))) (fun z H3 e3 => ?_) (fun z H3 e3 => ?_)
    · refine r_in (top_in2 (el_use (el_rev (K := K) (ev_var rfl) (sq_of (e3 _ _ kp))) fun pr H4 hpr e4 k4 => top_in2 (tl_lst (ta_in (draw_use (n := 3) (ev_var rfl) ev_c ((hg2.ex e3).ex e4) (by omega) (by decide) (by decide) fun z3 H5 z30 z31 hg5 E5 => ta_nil ⟨by show 1 ≤ sizeLine; decide, fun pz hpz => ?_⟩)))))
      have e34 := e3.trans e4
      obtain ⟨og4, hog4⟩ := (((hg2.ex e3).ex e4)).some
      have prg : pr ≠ g := fun z => by
        obtain ⟨o3, ho3⟩ := (hg2.ex e3).some
        rw [z, ho3] at hpr
        cases hpr
      have k5 : H5 pr = some (.lst ((fs.map V.int).reverse)) := E5 _ _ prg k4
      have x6 := Ex.new (o := .lst [V.int z3]) hpz
      have hE5 : ExB g H H5 := (hE.trans (ExB.of e34)).trans E5
      have hfa5 : Fo H5 a fs := ⟨hE5 a _ ag hf.at_, hf.good, hf.len⟩
      have cnt : ∀ b : Bool, (if b = true then (1 : Int) else 0) = ((if b = true then 1 else 0 : Nat) : Int) := fun b => by cases b <;> rfl
      refine ev_use (ev_intB (ev_opL (xs := []) (ev_var rfl) (el_lst ea_nil (by decide)) fun p H7 hp e7 => rv_eqI (K := K) (ns := fs) (ms := []) ((hfa5.ex x6).ex e7).sq (sq_of hp))) fun H7 e7 => ?_
      rw [cnt]
      refine ⟨pz, _, [V.int z3], rfl, rfl, e7 _ _ upd_same, by split <;> omega, by split <;> omega, ?_, fun pw_ hpw => ?_⟩
      · show 1 * _ ≤ sizeLine
        rw [Int.toNat_natCast, Nat.one_mul]
        exact sz_of (by split <;> omega)
      have x8 := Ex.new (o := .lst (List.replicate ((((if decide (fs = []) = true then 1 else 0 : Nat) : Int)).toNat) [V.int z3]).flatten) hpw
      refine ⟨pr, pw_, _, _, rfl, rfl, x8 _ _ (e7 _ _ (x6 _ _ k5)), upd_same, ?_, fun p hp => ?_⟩
      · rw [List.length_reverse, List.length_map]
        exact sz_of (by rw [Int.toNat_natCast]; split <;> simp <;> omega)
      have x9 := Ex.new (o := .lst ((fs.map V.int).reverse ++ (List.replicate ((((if decide (fs = []) = true then 1 else 0 : Nat) : Int)).toNat) [V.int z3]).flatten)) hp
      have hEE : ExB g H (upd (upd H7 pw_ (.lst (List.replicate ((((if decide (fs = []) = true then 1 else 0 : Nat) : Int)).toNat) [V.int z3]).flatten)) p (.lst ((fs.map V.int).reverse ++ (List.replicate ((((if decide (fs = []) = true then 1 else 0 : Nat) : Int)).toNat) [V.int z3]).flatten))) := hE5.trans (ExB.of (((x6.trans e7).trans x8).trans x9))
      have hog5 := hg5.some
      have hp0 : H p = none := by
        obtain ⟨o5, ho5⟩ := hog5
        exact hE5.back ho5 (fresh_back ((x6.trans e7).trans x8) hp)
      refine q p (fs.reverse ++ List.replicate (if decide (fs = []) = true then 1 else 0) z3) _ hp0 ?_ ?_ ?_ ((((hg5.ex x6).ex e7).ex x8).ex x9 |>.mono (by omega)) hEE
      · rw [upd_same, List.map_append, List.map_reverse, List.map_replicate, Int.toNat_natCast]
        congr 3
        split <;> rfl
      · intro u hu
        rcases List.mem_append.mp hu with h | h
        · exact Bel.mono hB (by decide) u (List.mem_reverse.mp h)
        · rw [List.eq_of_mem_replicate h]
          omega
      · rw [List.length_append, List.length_reverse, List.length_replicate]
        split <;> omega
    · rw [Bool.or_eq_false_iff] at z
      have ne : fs ≠ [] := of_decide_eq_false z.2
      have lpos : 0 < fs.length := List.length_pos_iff.mpr ne
      have lf : ((fs.map V.int).length : Int) = ((fs.length : Nat) : Int) := by rw [List.length_map]
      have evl : ∀ {H' : Hp} {σ : L2.St}, Fo H' a fs → σ[1]? = some (some (.ref a)) → Ev (tCB (rLenS K) (tCons (tVar 1) tNil)) σ H' (.int ((fs.length : Nat) : Int)) := fun {H' σ} hF h1 => by
        rw [← lf]
        exact ev_len (K := K) (ev_var h1) hF.sq
      refine q_par (ta_in (draw_use (n := ((fs.length : Nat) : Int)) (ev_var rfl) (evl (hfa.ex e3) rfl) (hg2.ex e3) (by omega) (by omega) (by omega) fun z4 H4 z40 z41 hg4 E4 => ta_in (draw_use (n := ((fs.length : Nat) : Int)) (ev_var rfl) (evl ⟨E4 a _ ag (e3 _ _ hfa.at_), hf.good, hf.len⟩ rfl) hg4 (by omega) (by omega) (by omega) fun z5 H5 z50 z51 hg5 E5 => ta_nil ⟨_, _, rfl, ?_⟩)))
      obtain ⟨j, u, rfl, hj, hju, hum⟩ := getI z40 z41
      obtain ⟨k, v, rfl, hk, hkv, hvm⟩ := getI z50 z51
      have hE5 : ExB g H2 H5 := ((ExB.of e3).trans E4).trans E5
      refine q_in (top_in2 (ev_use ev_c fun H6 e6 => draw_use (n := 5) (ev_var rfl) ev_c (hg5.ex e6) (by omega) (by decide) (by decide) fun z6 H7 z60 z61 hg7 E7 => ⟨1, z6, rfl, rfl, ?_, ?_⟩))
      · obtain ⟨r', rfl⟩ : ∃ r' : Nat, z6 = (r' : Int) := ⟨z6.toNat, by omega⟩
        exact shl1 (by omega)
      have hb1 : (1 : Int) ≤ 1 * 2 ^ z6.toNat ∧ (1 : Int) * 2 ^ z6.toNat ≤ 16 := by
        have h1 := two_pos z6.toNat
        have h2 : (2 : Int) ^ z6.toNat ≤ 2 ^ 4 := two_mono (by omega)
        have e4 : (2 : Int) ^ 4 = 16 := by decide
        omega
      dsimp only
      generalize (1 : Int) * 2 ^ z6.toNat = bit at hb1
      have hE7 : ExB g H2 H7 := (hE5.trans (ExB.of e6)).trans E7
      have kp7 : H7 pl = some (.lst (fs.map V.int)) := hE7 _ _ pg kp
      have hEH : ExB g H H7 := hE.trans hE7
      have hu := hB u hum
      have hv := hB v hvm
      have ix : ∀ {H' : Hp} {σ : L2.St} {i2 : Nat} {jj : Nat} {uu : Int}, H' pl = some (.lst (fs.map V.int)) → fs[jj]? = some uu → σ[2]? = some (some (.ref pl)) → σ[i2]? = some (some (.int (jj : Int))) → Ev (tOp (rIxL K) (tVar 2) (tVar i2)) σ H' (.int uu) := fun {H' σ i2 jj uu} hk hjj h2 hi => ev_op (ev_var h2) (ev_var hi) (rv_ixL (K := K) (sq_of hk) (atI_nat (at_map hjj)))
      refine q_if (b := decide (V.int way = V.int 1)) (et_test (ev_op (ev_var rfl) ev_c (rv_eq rfl))) (fun _ H8 e8 => ?_) (fun _ H8 e8 => ?_)
      · refine s_setL (j := j) (v := .int (u + bit)) (e8 _ _ kp7) (ev_op (ix (e8 _ _ kp7) hju rfl rfl) (ev_var rfl) rv_I0) (ev_var rfl) (ev_var rfl) (by rw [List.length_map]; exact hj) fun H9 e9 => ?_
        refine fin pl (fs.set j (u + bit)) _ _ _ _ _ rfl hpl (by rw [upd_same, List.map_set]) (Bel.set (m := 39) (Bel.mono hB (by decide)) (by omega) (by omega)) (by rw [List.length_set]; omega) ?_ ?_
        · exact (((hg7.ex e8).ex e9).upd (Ne.symm pg)).mono (by omega)
        · intro b o nb hb
          have bp : b ≠ pl := fun z => by rw [z, hpl] at hb; cases hb
          rw [upd_ne bp]
          exact e9 _ _ (e8 _ _ (hEH b o nb hb))
      · refine s_if (b := decide (V.int way = V.int 2)) (et_test (ev_op (ev_var rfl) ev_c (rv_eq rfl))) (fun _ H9 e9 => ?_) (fun _ H9 e9 => ?_)
        · have kp9 := e9 _ _ (e8 _ _ kp7)
          have cut1 : cutV (fs.map V.int) none (some (j : Int)) = (fs.take j).map V.int := by
            have := cut_nat (xs := fs) (lo := 0) (hi := j) (by omega)
            rw [List.drop_zero, Nat.sub_zero] at this
            exact this
          have cut2 : cutV (fs.map V.int) (some (j : Int)) none = (fs.drop j).map V.int := by
            have := cut_nat (xs := fs) (lo := j) (hi := fs.length) (Nat.le_refl _)
            rw [List.take_of_length_le (by rw [List.length_drop]; omega)] at this
            rw [← this]
            unfold cutV
            rw [HT.sIx_none, HT.sIx_nat, HT.sIx_nat, List.length_map, Nat.min_self]
          refine s_in (top_in2 (top_in2 (el_use (el_sl (K := K) (te := tVar 2) (ev_var rfl) eo_none (eo_some (te := tVar 4) (ev_var rfl)) (sq_of kp9)) fun p1 H10 hp1 e10 k10 => el_use (el_lst (ea_cons (ev_op (ev_var rfl) ev_c rv_I0) ea_nil) (by show 1 ≤ 100000; decide)) fun p2 H11 hp2 e11 k11 => ⟨p1, p2, _, _, rfl, rfl, e11 _ _ k10, k11, ?_, fun p3 hp3 => ?_⟩)))
          · rw [cut1, List.length_map, List.length_take]
            exact sz_of (by show min j fs.length + 1 ≤ 100000; omega)
          have x12 := Ex.new (o := .lst (cutV (fs.map V.int) none (some (j : Int)) ++ [V.int (bit - 1)])) hp3
          refine el_use (el_sl (K := K) (te := tVar 2) (ev_var rfl) (eo_some (te := tVar 4) (ev_var rfl)) eo_none (sq_of (x12 _ _ (e11 _ _ (e10 _ _ kp9))))) fun p4 H13 hp4 e13 k13 => ⟨p3, p4, _, _, rfl, rfl, e13 _ _ upd_same, k13, ?_, fun p5 hp5 => ?_⟩
          · rw [cut1, cut2, List.length_append, List.length_map, List.length_map, List.length_take, List.length_drop]
            exact sz_of (by show min j fs.length + 1 + _ ≤ 100000; omega)
          have x14 := Ex.new (o := .lst (cutV (fs.map V.int) none (some (j : Int)) ++ [V.int (bit - 1)] ++ cutV (fs.map V.int) (some (j : Int)) none)) hp5
          have eA := (((((e8.trans e9).trans e10).trans e11).trans x12).trans e13).trans x14
          have hp50 : H p5 = none := by
            obtain ⟨o7, ho7⟩ := hg7.some
            exact hEH.back ho7 (fresh_back (((((e8.trans e9).trans e10).trans e11).trans x12).trans e13) hp5)
          refine fin p5 (fs.take j ++ [bit - 1] ++ fs.drop j) _ _ _ _ _ rfl hp50 (by rw [upd_same, cut1, cut2, List.map_append, List.map_append]; rfl) ?_ ?_ ((hg7.ex eA).mono (by omega)) (hEH.trans (ExB.of eA))
          · intro x hx
            rcases List.mem_append.mp hx with h | h
            · rcases List.mem_append.mp h with h | h
              · exact Bel.mono hB (by decide) x (List.mem_of_mem_take h)
              · rw [List.mem_singleton.mp h]
                omega
            · exact Bel.mono hB (by decide) x (List.mem_of_mem_drop h)
          · rw [List.length_append, List.length_append, List.length_take, List.length_drop]
            show min j fs.length + 1 + _ ≤ 51
            omega
        · have kp9 := e9 _ _ (e8 _ _ kp7)
          have wd : ∀ x : Int, CDivW x bit := fun x => wide_div (b := 40) (by omega) (by omega) (by decide) (by decide)
          refine s_when (b := decide (V.int ((u / bit).fmod 2) = V.int 1) && decide (V.int ((v / bit).fmod 2) = V.int 0)) (et_and (et_test (ev_op (ev_op (ev_op (ix kp9 hju rfl rfl) (ev_var rfl) (rv_I (wd _))) ev_c (rv_I (by decide))) ev_c (rv_eq rfl))) fun _ => et_test (ev_op (ev_op (ev_op (ix kp9 hkv rfl rfl) (ev_var rfl) (rv_I (wd _))) ev_c (rv_I (by decide))) ev_c (rv_eq rfl))) (fun z H10 e10 => ?_) (fun z H10 e10 => ?_)
          · have kp10 := e10 _ _ kp9
            have hub : bit ≤ u := by
              rw [Bool.and_eq_true] at z
              have z1 := V.int.inj (of_decide_eq_true z.1)
              rw [Int.fmod_eq_emod_of_nonneg _ (by decide)] at z1
              refine Classical.byContradiction fun hc => ?_
              rw [Int.ediv_eq_zero_of_lt hu.1 (by omega)] at z1
              cases z1
            refine s_gin (tup_in (ta_consV (ev_op (ix kp10 hju rfl rfl) (ev_var rfl) rv_I0) fun H11 e11 => ta_consV (ev_op (ix (e11 _ _ kp10) hkv rfl rfl) (ev_var rfl) rv_I0) fun H12 e12 => ta_nil ⟨by show 2 ≤ sizeLine; decide, fun pt hpt => ?_⟩))
            have x13 := Ex.new (o := .tup [V.int (u - bit), V.int (v + bit)]) hpt
            have kp13 := x13 _ _ (e12 _ _ (e11 _ _ kp10))
            refine ⟨pt, _, rfl, st_of upd_same, rfl, _, _, rfl, ?_⟩
            refine ⟨_, rfl, _, rfl, pl, fs.map V.int, (j : Int), j, rfl, rfl, kp13, ixN_nat (by rw [List.length_map]; exact hj), ?_⟩
            refine ⟨_, _, rfl, ?_⟩
            refine ⟨_, rfl, _, rfl, pl, (fs.map V.int).set j (V.int (u - bit)), (k : Int), k, rfl, rfl, upd_same, ixN_nat (by rw [List.length_set, List.length_map]; exact hk), ?_⟩
            refine ⟨rfl, ?_⟩
            refine fin pl ((fs.set j (u - bit)).set k (v + bit)) _ _ _ _ _ rfl hpl (by rw [upd_same, List.map_set, List.map_set]) (Bel.set (m := 39) (Bel.set (m := 39) (Bel.mono hB (by decide)) (by omega) (by omega)) (by omega) (by omega)) (by rw [List.length_set, List.length_set]; omega) ?_ ?_
            · exact ((((((((hg7.ex e8).ex e9).ex e10).ex e11).ex e12).ex x13).upd (Ne.symm pg)).upd (Ne.symm pg)).mono (by omega)
            · intro b o nb hb
              have bp : b ≠ pl := fun z => by rw [z, hpl] at hb; cases hb
              rw [upd_ne bp, upd_ne bp]
              exact (((((e8.trans e9).trans e10).trans e11).trans e12).trans x13) _ _ (hEH b o nb hb)
          · exact fin pl fs _ _ _ _ _ rfl hpl (e10 _ _ kp9) (Bel.mono hB (by decide)) (by omega) ((((hg7.ex e8).ex e9).ex e10).mono (by omega)) (hEH.trans (ExB.of ((e8.trans e9).trans e10)))
theorem ok__law_pair_right (T : Tx K mg) : FnQ P w K mg base 7 T.a__law_pair_right T.d__law_pair_right ["_law_one", "_law_other_here"] (sp__law_pair_right K) := by
  refine okQ T.f__law_pair_right (k := 6) sc__law_pair_right (fun vs H Q E h => ?_) (fun cdv A outer s H vs Q E hq hr h => ?_)
  · obtain ⟨a, b, A, B, rfl, _⟩ := h
    rfl
  · obtain ⟨a, b, A, B, rfl, ha, hb, la, lb, q⟩ := h
    refine ⟨_,       (pss_cons (ps_asg (pe_tup (pa_cons (pe_call (ok__law_prices T) (hr.mono (by decide)) (by rfl) T.g__law_prices T.f__law_prices.kp T.b__law_prices .nil pass0 (pa_cons (pv 0) pa_nil)) (pa_cons (pe_call (ok__law_prices T) (hr.mono (by decide)) (by rfl) T.g__law_prices T.f__law_prices.kp T.b__law_prices .nil pass0 (pa_cons (pv 1) pa_nil)) pa_nil))) (pg_tup rfl (pgs_cons (pg_name (i := 2) sc__law_pair_right.nd rfl (by first | exact Or.inl rfl | exact Or.inr rfl)) (pgs_cons (pg_name (i := 3) sc__law_pair_right.nd rfl (by first | exact Or.inl rfl | exact Or.inr rfl)) pgs_nil)))) 
      (pss_cons (ps_setLc (i := 4) (own := [("_law_width", 7)]) (g := gName 7) rfl sc__law_pair_right.nd rfl rfl (sw_true rfl rfl rfl (by decide +kernel)) (pi_range1 rfl T.m_range (pa_cons pe_int pa_nil)) (blkOk_by (own := [("_law_width", 7)]) (N := ["_law_one", "_law_other_here", "_law_mine", "_law_yours", "_law_unlike", "_law_same", "_law_due", "_law_width"]) (sc := defScope s__law_pair_right) (by decide +kernel)) (fun _ _ _ _ _ => (pg_name (i := 7) sc__law_pair_right.nd rfl (by first | exact Or.inl rfl | exact Or.inr rfl))) (fun _ _ _ _ _ => (pts_one (pt_cmpR op_ne (pe_ix (r := rIxL K) ix_list (pv 2) (pv 7) (fun _ _ => rfl)) (pe_ix (r := rIxL K) ix_list (pv 3) (pv 7) (fun _ _ => rfl)) (nomark _)))) (fun _ _ _ _ _ => (pv 7))) 
      (pss_cons (ps_set (i := 5) sc__law_pair_right.nd rfl (by first | exact Or.inl rfl | exact Or.inr rfl) (pe_cmpR (op_eqD hr.units) (pv 4) (pe_lst pa_nil) (nomark _))) 
      (pss_cons (ps_if (pt_cmpR op_ne (pe_callB (id := "repr") (r := rRepr K) (cr_repr hq hr.units) (by rfl) T.m_repr (by decide +kernel) (pa_cons (pe_lst (pa_cons (pe_call (ok_same_prices T) hr (by rfl) T.g_same_prices T.f_same_prices.kp T.b_same_prices .nil pass0 (pa_cons (pv 0) (pa_cons (pv 1) pa_nil))) (pa_cons (pe_call (ok_same_prices T) hr (by rfl) T.g_same_prices T.f_same_prices.kp T.b_same_prices .nil pass0 (pa_cons (pv 1) (pa_cons (pv 0) pa_nil))) pa_nil))) pa_nil)) (pe_callB (id := "repr") (r := rRepr K) (cr_repr hq hr.units) (by rfl) T.m_repr (by decide +kernel) (pa_cons (pe_lst (pa_cons (pv 5) (pa_cons (pv 5) pa_nil))) pa_nil)) (nomark _)) 
        (pss_one (ps_ret pe_bl)) pss_nil) 
      (pss_cons (ps_set (i := 6) sc__law_pair_right.nd rfl (by first | exact Or.inl rfl | exact Or.inr rfl) (pe_ifExp (pt_val (pv 5)) pe_non (pe_ix (r := rIxL K) ix_list (pv 4) pe_int (fun _ _ => rfl)))) 
      (pss_one (ps_ret (pe_and (pe_cmpR op_eq (pe_call (ok_parting_width T) (hr.mono (by decide)) (by rfl) T.g_parting_width T.f_parting_width.kp T.b_parting_width .nil pass0 (pa_cons (pv 0) (pa_cons (pv 1) pa_nil))) (pv 6) (nomark _)) (pe_one (pe_cmpR op_eq (pe_call (ok_parting_width T) (hr.mono (by decide)) (by rfl) T.g_parting_width T.f_parting_width.kp T.b_parting_width .nil pass0 (pa_cons (pv 1) (pa_cons (pv 0) pa_nil))) (pv 6) (nomark _))))))))))), ?_⟩
    refine q_gin (tup_in (ta_consL (el_callR (ea_cons (ev_var rfl) ea_nil) fun H1 e1 Q k E => ⟨a, A, rfl, ha.ex e1, k⟩) fun p1 H1 hp1 e1 k1 => ta_consL (el_callR (ea_cons (ev_var rfl) ea_nil) fun H2 e2 Q k E => ⟨b, B, rfl, (hb.ex e1).ex e2, k⟩) fun p2 H2 hp2 e2 k2 => ta_nil ⟨by show 2 ≤ sizeLine; decide, fun pt hpt => ?_⟩))
    have x3 := Ex.new (o := .tup [V.ref p1, V.ref p2]) hpt
    refine ⟨pt, _, rfl, st_of upd_same, rfl, _, _, rfl, _, _, rfl, rfl, ?_⟩
    have k1 := x3 _ _ (e2 _ _ k1)
    have k2 := x3 _ _ k2
    have e03 := (e1.trans e2).trans x3
    have at45 : ∀ (F : List Int) (i : Nat), i < 45 → ((List.range 45).map fun k => V.int (cst F k))[i]? = some (V.int (cst F i)) := fun F i hi => by
      rw [List.getElem?_map, List.getElem?_range hi]
      rfl
    refine q_asgL (xs := given 45 (unl A B) fun i => V.int (i : Int)) (el_lcR1 (n := 45) _ _ (ea_cons ev_c ea_nil) (by decide) (fun _ => rfl) (fun i H4 e4 hi => et_is (et_test (ev_op (ev_op (ev_var rfl) (ev_var rfl) (rv_ixL (K := K) (sq_of (e4 _ _ k1)) (atI_nat (at45 A i (by omega))))) (ev_op (ev_var rfl) (ev_var rfl) (rv_ixL (K := K) (sq_of (e4 _ _ k2)) (atI_nat (at45 B i (by omega))))) (rv_ne rfl))) ?_) (fun i H4 e4 hi _ => ev_var rfl)) fun pu H4 hpu e4 k4 => ?_
    · unfold unl
      by_cases c : cst A i = cst B i
      · rw [c]; simp
      · simp [c]
    have eg : given 45 (unl A B) (fun i => V.int (i : Int)) = (((List.range 45).filter (unl A B)).map fun i : Nat => (i : Int)).map V.int := by
      unfold given
      rw [List.map_map]
      rfl
    rw [eg] at k4
    have sm : decide ((((List.range 45).filter (unl A B)).map fun i : Nat => (i : Int)) = []) = decide (pw A B = none) := by
      refine decide_eq_decide.mpr ?_
      rw [List.map_eq_nil_iff, pw_head, List.head?_eq_none_iff]
    refine q_asg (v := .bl (decide (pw A B = none))) (ev_is (ev_opL (xs := []) (ev_var rfl) (el_lst ea_nil (by decide)) fun p H5 hp e5 => rv_eqI (K := K) (ns := ((List.range 45).filter (unl A B)).map fun i : Nat => (i : Int)) (ms := []) (sq_of (e5 _ _ k4)) (sq_of hp)) (by rw [sm])) fun H5 e5 => ?_
    have e05 := (e03.trans e4).trans e5
    have T2 := told2 (decide (pw A B = none))
    have sp1 : ∀ {H' : Hp}, Ex H5 H' → SpV (sp_same_prices K) [.ref a, .ref b] H' (.bl (decide (pw A B = none))) := fun {H'} e => spv fun H6 e6 Q q E => ⟨a, b, A, B, rfl, ha.ex ((e05.trans e).trans e6), hb.ex ((e05.trans e).trans e6), by omega, by omega, q⟩
    have sp2 : ∀ {H' : Hp}, Ex H5 H' → SpV (sp_same_prices K) [.ref b, .ref a] H' (.bl (decide (pw A B = none))) := fun {H'} e => spv fun H6 e6 Q q E => ⟨b, a, B, A, rfl, hb.ex ((e05.trans e).trans e6), ha.ex ((e05.trans e).trans e6), by omega, by omega, by rw [pw_swap]; exact q⟩
    refine q_when (b := false) (et_is (et_test (ev_op (ev_reprL (K := K) (xs := [V.bl (decide (pw A B = none)), V.bl (decide (pw A B = none))]) (el_lst (ea_cons (ev_call (ea_cons (ev_var rfl) (ea_cons (ev_var rfl) ea_nil)) (sp1 (Ex.refl _))) (ea_cons (ev_call (ea_cons (ev_var rfl) (ea_cons (ev_var rfl) ea_nil)) (sp2 (Ex.refl _))) ea_nil)) (by show 2 ≤ 100000; decide)) rfl T2.1 T2.2.1 T2.2.2.1 (sz_of (by have := T2.2.2.2; omega)))
      (ev_reprL (K := K) (xs := [V.bl (decide (pw A B = none)), V.bl (decide (pw A B = none))]) (el_lst (ea_cons (ev_var rfl) (ea_cons (ev_var rfl) ea_nil)) (by show 2 ≤ 100000; decide)) rfl T2.1 T2.2.1 T2.2.2.1 (sz_of (by have := T2.2.2.2; omega))) (rv_ne rfl))) (by simp)) (fun z => by cases z) fun _ H6 e6 => ?_
    refine q_asg (v := pwV A B) (ev_if (b := decide (pw A B = none)) (et_B (ev_var rfl)) (fun z => ?_) (fun z => ?_)) fun H7 e7 => ?_
    · have hz := of_decide_eq_true z
      refine ev_is ev_c ?_
      unfold pwV
      rw [hz]
    · have hz := of_decide_eq_false z
      cases hp : pw A B with
      | none => exact absurd hp hz
      | some k =>
        have hv : pwV A B = .int (k : Int) := by
          unfold pwV
          rw [hp]
        rw [hv]
        rw [pw_head] at hp
        refine ev_op (ev_var rfl) ev_c (rv_ixL (K := K) (sq_of (e6 _ _ (e5 _ _ k4))) (atI_nat (j := 0) ?_))
        rw [List.getElem?_map, List.getElem?_map, ← List.head?_eq_getElem?, hp]
        rfl
    have sc : scal (pwV A B) (pwV A B) = true := by
      unfold pwV
      cases pw A B <;> rfl
    have e07 := (e05.trans e6).trans e7
    refine s_ret (ev_is (ev_andV (b := true) (ev_op (ev_call (ea_cons (ev_var rfl) (ea_cons (ev_var rfl) ea_nil)) (spv fun H8 e8 Q q E => ⟨a, b, A, B, rfl, ha.ex (e07.trans e8), hb.ex (e07.trans e8), by omega, by omega, q⟩)) (ev_var rfl) (rv_eq sc)) fun _ => ev_is (ev_op (ev_call (ea_cons (ev_var rfl) (ea_cons (ev_var rfl) ea_nil)) (spv fun H8 e8 Q q E => ⟨b, a, B, A, rfl, hb.ex (e07.trans e8), ha.ex (e07.trans e8), by omega, by omega, by rw [show pwV B A = pwV A B by unfold pwV; rw [pw_swap]]; exact q⟩)) (ev_var rfl) (rv_eq sc)) (by simp)) (by simp)) fun H8 e8 => q H8 (e07.trans e8)
end
end K40

set_option Elab.async false
set_option linter.all false
set_option maxRecDepth 100000
set_option maxHeartbeats 4000000
namespace K40
open PySem PySem.Spec PyProof.Rows L2 Evl WS M41 M47 M40
theorem val_snoc (p c : Int) : ∀ cs : List Int, val p (cs ++ [c]) = val p cs + if p < c then 2 ^ cs.length else 0
  | [] => by
    show (if p < c then (1 : Int) else 0) + 2 * 0 = 0 + if p < c then 2 ^ 0 else 0
    split <;> simp
  | x :: cs => by
    rw [List.cons_append, val_cons, val_cons, val_snoc p c cs, List.length_cons, Int.pow_succ]
    split <;> split <;> omega
theorem val_zeros {p : Int} (h : 0 ≤ p) : ∀ zs : List Int, (∀ z ∈ zs, z = 0) → val p zs = 0
  | [], _ => rfl
  | z :: r, hz => by
    rw [val_cons, val_zeros h r fun y hy => hz y (List.mem_cons_of_mem _ hy), hz z List.mem_cons_self, if_neg (by omega)]
    rfl
theorem val_app {p : Int} : ∀ (a zs : List Int), val p zs = 0 → val p (a ++ zs) = val p a
  | [], zs, h => h
  | x :: r, zs, h => by rw [List.cons_append, val_cons, val_cons, val_app r zs h]
theorem row_strip (m : Nat) (cs : List Int) (k : Nat) (h : ∀ z ∈ cs.drop k, z = 0) : rowC m cs = rowC m (cs.take k) := by
  unfold rowC
  apply List.map_congr_left
  intro p _
  conv => lhs; rw [← List.take_append_drop k cs]
  exact val_app _ _ (val_zeros (by omega) _ h)
theorem cut_last1 (xs : List Int) : cutV (xs.map V.int) (some (-1)) none = (xs.drop (xs.length - 1)).map V.int := by
  unfold cutV
  rw [HT.sIx_none, List.length_map]
  have e : HT.sIx xs.length 0 (some (-1)) = xs.length - 1 := by
    unfold HT.sIx
    cases h : xs.length with
    | zero => rfl
    | succ n => simp; omega
  rw [e, List.take_of_length_le (by rw [List.length_drop, List.length_map]; omega), List.map_drop]
theorem set_map {α : Type} (f f' : Nat → α) (n t : Nat) (ht : t < n) (h : ∀ p, p ≠ t → f p = f' p) : ((List.range n).map f).set t (f' t) = (List.range n).map f' := by
  apply List.ext_getElem?
  intro i
  rw [List.getElem?_set]
  by_cases c : t = i
  · subst c
    simp [ht]
  · rw [if_neg c, List.getElem?_map, List.getElem?_map]
    by_cases d : i < n
    · rw [List.getElem?_range d]
      show some (f i) = some (f' i)
      rw [h i (fun e => c e.symm)]
    · rw [List.getElem?_eq_none (by rw [List.length_range]; omega)]
      rfl
def sp__law_counts_right (K : PySem.W.Frag) : Sp := fun vs H Q _ => ∃ g, ∃ C : Nat, vs = [.ref g] ∧ Gs H g C ∧ C ≤ 100000000 ∧ ∀ H2, Gs H2 g (C + 1000) → ExB g H H2 → Q (.bl true) H2
def sp__law_like_right (K : PySem.W.Frag) : Sp := fun vs H Q _ => ∃ g, ∃ C : Nat, vs = [.ref g] ∧ Gs H g C ∧ C ≤ 100000000 ∧ ∀ H2, ExB g H H2 → Q (.bl true) H2
section
variable {K : PySem.W.Frag} {σ : L2.St} {H : Hp} {ta tb te tl : TE} {D : Ends} {tz tu : TS} {tr : TA} {g : TG}
theorem q_forEnum {a : Addr} {xs : List V} (h : EvA tr σ H [.ref a]) (hx : SqL K H a xs) (Pv : Nat → L2.St → Hp → Prop) (h0 : ∀ H1, Ex H H1 → Pv 0 σ H1) (hl : ∀ i σ' H', i ≤ xs.length → Pv i σ' H' → SqL K H' a xs)
    (hs : ∀ i x σ' H', xs[i]? = some x → Pv i σ' H' → ∀ T, H' T = none → g (.ref T) σ' (upd H' T (.tup [.int (i : Nat), x])) fun σ2 H2 => tu { D with nx := Pv (i + 1), ct := Pv (i + 1), bk := tz D } σ2 H2) (hd : ∀ σ' H', Pv xs.length σ' H' → tz D σ' H') : tSeq (tFor (iEnum K tr) g tu) tz D σ H :=
  s_forEnum (D := { D with nx := tz D }) h hx Pv h0 hl hs hd
theorem q_drop0 (k : te σ H fun _ H1 => tz D σ H1) : tSeq (tDrop te) tz D σ H := k
theorem bm0_in {T : String} {r : V → List V → Hp → VK → Prop} {Q : VK} (k : te σ H fun x H1 => tyV K T x H1 ∧ r x [] H1 Q) : tBM0 K T r te σ H Q := k
theorem s_drop0 (k : te σ H fun _ H1 => D.nx σ H1) : tDrop te D σ H := k
end
theorem fresh_after {H H' : Hp} {g p : Addr} (e : ExB g H H') {o : HO} (hg : H' g = some o) (h : H' p = none) : H p = none := e.back hg h
section
variable {P : Program} {w : World} {K : PySem.W.Frag} {mg : Str → Option Value} {base : Heap}
theorem ok__law_counts_right (T : Tx K mg) : FnOk P w K mg base CX0 6 T.a__law_counts_right T.d__law_counts_right ["_law_generator_here"] (sp__law_counts_right K) := by
  refine T.f__law_counts_right.ok (k := 5) sc__law_counts_right (fun vs H Q E h => ?_) (fun cdv A outer s H vs Q E hr h => ?_)
  · obtain ⟨g, C, rfl, _⟩ := h
    rfl
  · obtain ⟨g, C, rfl, hg, hC, q⟩ := h
    refine ⟨_,       (pss_cons (ps_set (i := 1) sc__law_counts_right.nd rfl (by first | exact Or.inl rfl | exact Or.inr rfl) (pe_call (ok__law_random T) (hr.mono (by decide)) (by rfl) T.g__law_random T.f__law_random.kp T.b__law_random .nil pass0 (pa_cons (pv 0) (pa_cons pe_int pa_nil)))) 
      (pss_cons (ps_setLc (i := 2) (own := [("_law_turn", 8)]) (g := gName 8) (tt := tYes) rfl sc__law_counts_right.nd rfl rfl (sw_true rfl rfl rfl (by decide +kernel)) (pi_range1 rfl T.m_range (pa_cons (pe_call (ok__law_random T) (hr.mono (by decide)) (by rfl) T.g__law_random T.f__law_random.kp T.b__law_random .nil pass0 (pa_cons (pv 0) (pa_cons pe_int pa_nil))) pa_nil)) (blkOk_by (own := [("_law_turn", 8)]) (N := ["_law_generator_here", "_law_many", "_law_counts", "_law_due", "_law_place", "_law_one", "_law_at", "_law_told", "_law_turn"]) (sc := defScope s__law_counts_right) (by decide +kernel)) (fun _ _ _ _ _ => (pg_name (i := 8) sc__law_counts_right.nd rfl (by first | exact Or.inl rfl | exact Or.inr rfl))) (fun _ _ _ _ _ => pts_nil) (fun _ _ _ _ _ => (pe_call (ok__law_random T) (hr.mono (by decide)) (by rfl) T.g__law_random T.f__law_random.kp T.b__law_random .nil pass0 (pa_cons (pv 0) (pa_cons (pe_op op_add (pv 1) pe_int) pa_nil))))) 
      (pss_cons (ps_set (i := 3) sc__law_counts_right.nd rfl (by first | exact Or.inl rfl | exact Or.inr rfl) (pe_op op_rep (pe_lst (pa_cons pe_int pa_nil)) (pv 1))) 
      (pss_cons (ps_for PassesOwn.never rfl (pi_enum (by rfl) T.m_enumerate (pa_cons (pv 2) pa_nil)) (pg_tup rfl (pgs_cons (pg_name (i := 4) sc__law_counts_right.nd rfl (by first | exact Or.inl rfl | exact Or.inr rfl)) (pgs_cons (pg_name (i := 5) sc__law_counts_right.nd rfl (by first | exact Or.inl rfl | exact Or.inr rfl)) pgs_nil))) 
        (pss_one (ps_for PassesOwn.never rfl (pi_range1 rfl T.m_range (pa_cons (pv 5) pa_nil)) (pg_name (i := 6) sc__law_counts_right.nd rfl (by first | exact Or.inl rfl | exact Or.inr rfl)) 
          (pss_one (ps_asg (pe_op op_add (pe_ix (r := rIxL K) ix_list (pv 3) (pv 6) (fun _ _ => rfl)) (pe_op op_shlW pe_int (pv 4))) (pg_sub (pv 3) (pv 6) set_list)))))) 
      (pss_cons (ps_set (i := 7) sc__law_counts_right.nd rfl (by first | exact Or.inl rfl | exact Or.inr rfl) (pe_call (ok_row_of_counts T) (hr.mono (by decide)) (by rfl) T.g_row_of_counts T.f_row_of_counts.kp T.b_row_of_counts .nil pass0 (pa_cons (pv 1) (pa_cons (pv 2) pa_nil)))) 
      (pss_cons (ps_if (PW.pt (pw_or (pt_cmpR (op_neD hr.units) (pv 7) (pv 3) (nomark _)) (pw_or1 (pt_cmpR (op_neD hr.units) (pe_call (ok__law_bits T) (hr.mono (by decide)) (by rfl) T.g__law_bits T.f__law_bits.kp T.b__law_bits .nil pass0 (pa_cons (pv 7) pa_nil)) (pe_call (ok_bit_counts T) hr (by rfl) T.g_bit_counts T.f_bit_counts.kp T.b_bit_counts .nil pass0 (pa_cons (pv 7) pa_nil)) (nomark _))))) 
        (pss_one (ps_ret pe_bl)) pss_nil) 
      (pss_cons (ps_while PassesOwn.never (pt_cmpR (op_eqD hr.units) (pe_slice (r := rSlL K) sl_list (pv 2) (po_some (pe_un un_neg pe_int)) po_none) (pe_lst (pa_cons pe_int pa_nil)) (nomark _)) 
        (pss_one (ps_expr (pe_bm0 PySem.F.plainAttrs_list PySem.F.slot_list_pop PySem.F.type_list_pop mt_pop (pv 2))))) 
      (pss_one (ps_ret (pe_cmpR (op_eqD hr.units) (pe_call (ok_bit_counts T) hr (by rfl) T.g_bit_counts T.f_bit_counts.kp T.b_bit_counts .nil pass0 (pa_cons (pv 7) pa_nil)) (pv 2) (nomark _))))))))))), ?_⟩
    refine q_in (draw_use (n := 7) (ev_var rfl) ev_c hg (by omega) (by decide) (by decide) fun zm H1 m0 m1 hg1 E1 => ?_)
    obtain ⟨m, rfl⟩ := Int.eq_ofNat_of_zero_le m0
    refine q_in (lcR1_in (ta_in (draw_use (n := 6) (ev_var rfl) ev_c hg1 (by omega) (by decide) (by decide) fun zn H2 n0 n1 hg2 E2 => ta_nil ⟨zn, rfl, by omega, by omega, ?_⟩)))
    refine ints_body (fun z => 0 ≤ z ∧ z ≤ (m : Int)) (n := zn.toNat) (d := 4) (by omega) (fun _ => rfl) hg2 (fun i H' R hi hG hE k => ?_) fun pc H3 cs hpc hlen hz kc hg3 E3 => ?_
    · exact draw_use (n := (m : Int) + 1) (ev_var rfl) (ev_op (ev_var rfl) ev_c rv_I0) hG (by omega) (by omega) (by omega) fun z H4 z0 z1 hG4 E4 => k z H4 ⟨z0, by omega⟩ hG4 E4
    have l5 : cs.length ≤ 5 := by omega
    have hg3 : Gs H3 g (C + 100) := hg3.mono (by omega)
    have EH : ExB g H H3 := (E1.trans E2).trans E3
    have Fc : ∀ {H' : Hp}, H' pc = some (.lst (cs.map V.int)) → Fo H' pc cs := by
      intro H' hk
      have e40 : (2 : Int) ^ 40 = 1099511627776 := by decide
      refine ⟨hk, fun u hu => ?_, by omega⟩
      have := hz u hu
      omega
    refine q_asgL (el_times (k := m) (u := 0) (by omega) ev_c (fun H1 _ => ev_var rfl)) fun pd H4 hpd e4 kd => ?_
    have dpc : pd ≠ pc := fun z => by rw [z, kc] at hpd; cases hpd
    refine q_forEnum (K := K) (a := pc) (xs := cs.map V.int) (ea_cons (ev_var rfl) ea_nil) (sq_of (e4 _ _ kc)) (fun i σ' H' => ∃ y4 y5 y6, σ' = [some (.ref g), some (.int (m : Int)), some (.ref pc), some (.ref pd), y4, y5, y6, none, none] ∧ Ex H3 H' ∧ H' pd = some (.lst (((List.range m).map fun p : Nat => val (p : Int) (cs.take i)).map V.int)))
      (fun H5 e5 => ⟨none, none, none, rfl, e4.trans e5, ?_⟩) (fun i σ' H' _ h => by obtain ⟨_, _, _, _, e, _⟩ := h; exact sq_of (e _ _ kc)) (fun i x σ' H' hx h T hT => ?_) (fun σ' H' h => ?_)
    · rw [e5 _ _ kd, List.take_zero]
      congr 3
      apply List.ext_getElem?
      intro i
      rw [List.getElem?_replicate, List.getElem?_map]
      by_cases c : i < m
      · rw [if_pos c, List.getElem?_range c]; rfl
      · rw [if_neg c, List.getElem?_eq_none (by rw [List.length_range]; omega)]; rfl
    · obtain ⟨y4, y5, y6, rfl, e, hD⟩ := h
      rw [List.getElem?_map] at hx
      cases hq : cs[i]? with
      | none => rw [hq] at hx; cases hx
      | some c =>
        rw [hq] at hx
        obtain rfl := Option.some.inj hx
        have hi := (List.getElem?_eq_some_iff.mp hq).1
        have hc := hz c (List.mem_of_getElem? hq)
        have xT := Ex.new (o := .tup [V.int (i : Int), V.int c]) hT
        refine ⟨T, _, rfl, st_of upd_same, rfl, _, _, rfl, _, _, rfl, rfl, ?_⟩
        refine s_forR1 (n := c) (ea_cons (ev_var rfl) ea_nil) (by omega) (fun t σ2 H2 => ∃ y6, σ2 = [some (.ref g), some (.int (m : Int)), some (.ref pc), some (.ref pd), some (.int (i : Int)), some (.int c), y6, none, none] ∧ Ex H3 H2 ∧ H2 pd = some (.lst (((List.range m).map fun p : Nat => if p < t then val (p : Int) (cs.take i) + 2 ^ i else val (p : Int) (cs.take i)).map V.int)))
          (fun H5 e5 => ⟨y6, rfl, (e.trans xT).trans e5, ?_⟩) (fun t σ2 H2 ht hP => ?_) (fun σ2 H2 hP => ?_)
        · rw [e5 _ _ (xT _ _ hD)]
          rfl
        · obtain ⟨y6, rfl, e2, hD2⟩ := hP
          have htm : t < m := by omega
          have hat : (((List.range m).map fun p : Nat => if p < t then val (p : Int) (cs.take i) + 2 ^ i else val (p : Int) (cs.take i)).map V.int)[t]? = some (V.int (val (t : Int) (cs.take i))) := by
            rw [List.getElem?_map, List.getElem?_map, List.getElem?_range htm]
            show some (V.int (if t < t then _ else _)) = _
            rw [if_neg (Nat.lt_irrefl t)]
          refine s_setL (j := t) (v := .int (val (t : Int) (cs.take i) + 2 ^ i)) hD2 (ev_is (ev_op (ev_op (ev_var rfl) (ev_var rfl) (rv_ixL (K := K) (sq_of hD2) (atI_nat hat))) (ev_op ev_c (ev_var rfl) (rv_I (shl1 (by omega)))) rv_I0) (by rw [one_p])) (ev_var rfl) (ev_var rfl) (by rw [List.length_map, List.length_map, List.length_range]; exact htm) fun H5 e5 => ?_
          refine ⟨some (.int (t : Int)), rfl, Ex.mut (e2.trans e5) hpd, ?_⟩
          rw [upd_same]
          congr 2
          rw [List.map_map, List.map_map]
          have := set_map (V.int ∘ fun p : Nat => if p < t then val (p : Int) (cs.take i) + 2 ^ i else val (p : Int) (cs.take i)) (V.int ∘ fun p : Nat => if p < t + 1 then val (p : Int) (cs.take i) + 2 ^ i else val (p : Int) (cs.take i)) m t htm (fun p hp => by
            dsimp only [Function.comp]
            by_cases c1 : p < t
            · rw [if_pos c1, if_pos (by omega)]
            · rw [if_neg c1, if_neg (by omega)])
          rw [← this]
          congr 1
          dsimp only [Function.comp]
          rw [if_pos (by omega)]
        · obtain ⟨y6, rfl, e2, hD2⟩ := hP
          refine ⟨_, _, _, rfl, e2, ?_⟩
          rw [hD2]
          congr 3
          apply List.map_congr_left
          intro p hp
          rw [List.take_succ, hq]
          show _ = val (p : Int) (cs.take i ++ [c])
          rw [val_snoc, List.length_take, Nat.min_eq_left (by omega)]
          by_cases c1 : (p : Int) < c
          · rw [if_pos c1, if_pos (by omega)]
          · rw [if_neg c1, if_neg (by omega), Int.add_zero]
    · obtain ⟨y4, y5, y6, rfl, e, hD⟩ := h
      rw [List.length_map, List.take_length] at hD
      have kc' := e _ _ kc
      refine q_asgL (el_callR (ea_cons (ev_var rfl) (ea_cons (ev_var rfl) ea_nil)) fun H5 e5 Q k E => ⟨pc, cs, m, rfl, Fc (e5 _ _ kc'), hz, by omega, by omega, k⟩) fun p7 H5 hp7 e5 k7 => ?_
      have hD5 := e5 _ _ hD
      have e35 := e.trans e5
      have F7 : Fo H5 p7 (rowC m cs) := ⟨k7, fun u hu => by
        obtain ⟨p, _, rfl⟩ := List.mem_map.mp hu
        refine ⟨val_nonneg _ _, Int.lt_of_lt_of_le (val_lt _ _) (two_mono (by omega))⟩, by unfold rowC; rw [List.length_map, List.length_range]; omega⟩
      refine q_when (b := false) (et_is (et_or (b := false) (et_test (ev_op (ev_var rfl) (ev_var rfl) (rv_neI (K := K) (ns := rowC m cs) (ms := rowC m cs) F7.sq (sq_of hD5)))) fun _ => et_is (et_test (ev_opLL (el_callR (ea_cons (ev_var rfl) ea_nil) fun H6 e6 Q k E => ⟨p7, _, rfl, F7.ex e6, k⟩) (el_callR (ea_cons (ev_var rfl) ea_nil) fun H6 e6 Q k E => ⟨p7, _, rfl, F7.ex e6, k⟩) fun p q H6 hp hq e6 => rv_neI (K := K) (ns := bcs (rowC m cs)) (ms := bcs (rowC m cs)) (sq_of hp) (sq_of hq))) (by simp)) (by simp)) (fun z => by cases z) fun _ H6 e6 => ?_
      have kc6 := e6 _ _ (e5 _ _ kc')
      have k76 := e6 _ _ k7
      have p7c : p7 ≠ pc := fun z => by rw [z, e _ _ kc] at hp7; cases hp7
      obtain ⟨og3, hog3⟩ := hg3.some
      have gpc : g ≠ pc := fun z => by
        obtain ⟨o2, ho2⟩ := hg2.some
        rw [← z, ho2] at hpc
        cases hpc
      refine q_while (fun mm σ' H' => ∃ k, σ' = [some (.ref g), some (.int (m : Int)), some (.ref pc), some (.ref pd), y4, y5, y6, some (.ref p7), none] ∧ ExB pc H6 H' ∧ H' pc = some (.lst ((cs.take k).map V.int)) ∧ k ≤ cs.length ∧ (∀ z ∈ cs.drop k, z = 0) ∧ mm = k) cs.length ⟨cs.length, rfl, ExB.refl _ _, by rw [List.take_length]; exact kc6, Nat.le_refl _, (fun z hz => by rw [List.drop_length] at hz; cases hz), rfl⟩ (fun mm σ' H' hW => ?_)
      obtain ⟨k, rfl, EW, kW, hk, hz0, hmk⟩ := hW
      subst mm
      have lk : (cs.take k).length = k := by rw [List.length_take]; omega
      refine ⟨decide ((cs.take k).drop (k - 1) = [0]), et_test (ev_opLL (xs := ((cs.take k).drop (k - 1)).map V.int) (ys := [V.int 0]) ?_ (el_lst (ea_cons ev_c ea_nil) (by show 1 ≤ 100000; decide)) fun p q H7 hp hq e7 => rv_eqI (K := K) (ns := (cs.take k).drop (k - 1)) (ms := [0]) (sq_of hp) (sq_of hq)), fun z H7 e7 => ?_, fun z H7 e7 => ?_⟩
      · have h5 := el_sl (K := K) (te := tVar 2) (σ := [some (.ref g), some (.int (m : Int)), some (.ref pc), some (.ref pd), y4, y5, y6, some (.ref p7), none]) (ev_var rfl) (lo := some (-1)) (hi := none) (eo_some (ev_un ev_c ru_neg)) eo_none (sq_of kW)
        rw [cut_last1, lk] at h5
        exact h5
      · have hz := of_decide_eq_true z
        have kpos : 0 < k := by
          refine Nat.pos_of_ne_zero fun h => ?_
          subst h
          rw [List.take_zero] at hz
          cases hz
        have hlast : cs[k - 1]? = some 0 := by
          have := congrArg (fun l => l[0]?) hz
          rw [List.getElem?_drop, List.getElem?_take] at this
          rw [if_pos (by omega), Nat.add_zero] at this
          exact this
        refine ⟨fun σ2 H2 => σ2 = [some (.ref g), some (.int (m : Int)), some (.ref pc), some (.ref pd), y4, y5, y6, some (.ref p7), none] ∧ ExB pc H6 H2 ∧ H2 pc = some (.lst ((cs.take (k - 1)).map V.int)), fun σ2 H2 hN => ?_, ?_⟩
        · obtain ⟨rfl, E', k'⟩ := hN
          refine ⟨k - 1, by omega, k - 1, rfl, E', k', by omega, fun z hz => ?_, rfl⟩
          rw [List.drop_eq_getElem?_toList_append, hlast] at hz
          rw [show k - 1 + 1 = k by omega] at hz
          rcases List.mem_append.mp hz with h | h
          · exact List.mem_singleton.mp h
          · exact hz0 z h
        · have kW7 := e7 _ _ kW
          refine s_drop0 (bm0_in (ev_use (ev_var rfl) fun H8 e8 => ⟨Or.inl ⟨rfl, _, sq_of (e8 _ _ kW7)⟩, pc, (cs.take k).map V.int, V.int 0, rfl, rfl, e8 _ _ kW7, ?_, rfl, ((EW.trans (ExB.of e7)).trans (ExB.of e8)).upd, ?_⟩))
          · rw [List.length_map, lk, List.getElem?_map, List.getElem?_take, if_pos (by omega), hlast]
            rfl
          · rw [upd_same, ← List.map_dropLast, List.dropLast_eq_take, lk, List.take_take, Nat.min_eq_left (by omega)]
      · have hzf := of_decide_eq_false z
        have k77 := e7 _ _ (EW _ _ p7c k76)
        have kW7 := e7 _ _ kW
        have hb : bcs (rowC m cs) = cs.take k := by
          rw [row_strip m cs k hz0]
          refine bcs_row (fun c hc => hz c (List.mem_of_mem_take hc)) fun hl => hzf ?_
          rw [List.getLast?_eq_getElem?, lk] at hl
          have kpos : 0 < k := by
            refine Nat.pos_of_ne_zero fun h => ?_
            subst h
            rw [List.take_zero] at hl
            cases hl
          apply List.ext_getElem?
          intro i
          rw [List.getElem?_drop]
          cases i with
          | zero => rw [Nat.add_zero, hl]; rfl
          | succ i => rw [List.getElem?_eq_none (by rw [lk]; omega)]; rfl
        refine s_ret (v := .bl true) (ev_is (ev_opL1 (xs := (bcs (rowC m cs)).map V.int) (el_callR (ea_cons (ev_var rfl) ea_nil) fun H8 e8 Q kk E => ⟨p7, _, rfl, ⟨e8 _ _ k77, F7.good, F7.len⟩, kk⟩) (fun _ _ => ev_var rfl) fun p H8 hp e8 => rv_eqI (K := K) (ns := bcs (rowC m cs)) (ms := cs.take k) (sq_of hp) (sq_of (e8 _ _ kW7))) (by rw [hb]; simp)) fun H8 e8 => ?_
        have hg6 : Gs H6 g (C + 100) := (hg3.ex e35).ex e6
        have hgW : Gs H' g (C + 100) := by
          obtain ⟨a1, a2, a3, h1, h2⟩ := hg6
          exact ⟨a1, a2, a3, EW _ _ gpc h1, h2⟩
        refine q H8 (((hgW.ex e7).ex e8).mono (by omega)) ?_
        intro b o nb hb
        have bpc : b ≠ pc := fun z => by
          obtain ⟨o2, ho2⟩ := hg2.some
          have := (E1.trans E2) b o nb hb
          rw [z, hpc] at this
          cases this
        exact e8 _ _ (e7 _ _ (EW b o bpc (e6 _ _ (e35 _ _ (EH b o nb hb)))))
end
end K40

set_option Elab.async false
set_option linter.all false
set_option maxRecDepth 100000
set_option maxHeartbeats 4000000
namespace K40
open PySem PySem.Spec PyProof.Rows L2 Evl WS M41 M47 M40
section
variable {P : Program} {w : World} {K : PySem.W.Frag} {mg : Str → Option Value} {base : Heap}
theorem ok__law_like_right (T : Tx K mg) : FnOk P w K mg base CX0 7 T.a__law_like_right T.d__law_like_right ["_law_generator_here"] (sp__law_like_right K) := by
  refine T.f__law_like_right.ok (k := 6) sc__law_like_right (fun vs H Q E h => ?_) (fun cdv A outer s H vs Q E hr h => ?_)
  · obtain ⟨g, C, rfl, _⟩ := h
    rfl
  · obtain ⟨g, C, rfl, hg, hC, q⟩ := h
    refine ⟨_,       (pss_cons (ps_set (i := 1) sc__law_like_right.nd rfl (by first | exact Or.inl rfl | exact Or.inr rfl) (pe_lc (own := [("_law_turn", 5)]) (g := gName 5) (tt := tYes) rfl sc__law_like_right.nd (pi_range1 rfl T.m_range (pa_cons (pe_op op_add pe_int (pe_call (ok__law_random T) (hr.mono (by decide)) (by rfl) T.g__law_random T.f__law_random.kp T.b__law_random .nil pass0 (pa_cons (pv 0) (pa_cons pe_int pa_nil)))) pa_nil)) (blkOk_by (own := [("_law_turn", 5)]) (N := ["_law_generator_here", "_law_small", "_law_mine", "_law_found", "_law_row", "_law_turn", "_law_width"]) (sc := defScope s__law_like_right) (by decide +kernel)) (fun _ _ _ _ _ => (pg_name (i := 5) sc__law_like_right.nd rfl (by first | exact Or.inl rfl | exact Or.inr rfl))) (fun _ _ _ _ _ => pts_nil) (fun _ _ _ _ _ => (pe_call (ok__law_random T) (hr.mono (by decide)) (by rfl) T.g__law_random T.f__law_random.kp T.b__law_random .nil pass0 (pa_cons (pv 0) (pa_cons pe_int pa_nil)))))) 
      (pss_cons (ps_setLc (i := 2) (own := [("_law_width", 6)]) (g := gName 6) (tt := tYes) rfl sc__law_like_right.nd rfl rfl (sw_true rfl rfl rfl (by decide +kernel)) (pi_range1 rfl T.m_range (pa_cons pe_int pa_nil)) (blkOk_by (own := [("_law_width", 6)]) (N := ["_law_generator_here", "_law_small", "_law_mine", "_law_found", "_law_row", "_law_turn", "_law_width"]) (sc := defScope s__law_like_right) (by decide +kernel)) (fun _ _ _ _ _ => (pg_name (i := 6) sc__law_like_right.nd rfl (by first | exact Or.inl rfl | exact Or.inr rfl))) (fun _ _ _ _ _ => pts_nil) (fun _ _ _ _ _ => (pe_call (ok__law_price T) (hr.mono (by decide)) (by rfl) T.g__law_price T.f__law_price.kp T.b__law_price .nil pass0 (pa_cons (pv 1) (pa_cons (pv 6) pa_nil))))) 
      (pss_cons (ps_set (i := 3) sc__law_like_right.nd rfl (by first | exact Or.inl rfl | exact Or.inr rfl) pe_int) 
      (pss_cons (ps_for PassesOwn.never rfl (pi_list (pe_call (ok__law_below T) (hr.mono (by decide)) (by rfl) T.g__law_below T.f__law_below.kp T.b__law_below .nil pass0 (pa_cons (pe_callB (id := "len") (r := rLenS K) call_len_seq (by rfl) T.m_len PySem.boot_len (pa_cons (pv 1) pa_nil)) (pa_cons pe_int pa_nil)))) (pg_name (i := 4) sc__law_like_right.nd rfl (by first | exact Or.inl rfl | exact Or.inr rfl)) 
        (pss_one (ps_set (i := 3) sc__law_like_right.nd rfl (by first | exact Or.inl rfl | exact Or.inr rfl) (pe_op op_add (pv 3) (pe_callTy call_int1 (by rfl) T.m_int (by decide +kernel) (pa_cons (pe_cmpR (op_eqD hr.units) (pe_lc (own := [("_law_width", 6)]) (g := gName 6) (tt := tYes) rfl sc__law_like_right.nd (pi_range1 rfl T.m_range (pa_cons pe_int pa_nil)) (blkOk_by (own := [("_law_width", 6)]) (N := ["_law_generator_here", "_law_small", "_law_mine", "_law_found", "_law_row", "_law_turn", "_law_width"]) (sc := defScope s__law_like_right) (by decide +kernel)) (fun _ _ _ _ _ => (pg_name (i := 6) sc__law_like_right.nd rfl (by first | exact Or.inl rfl | exact Or.inr rfl))) (fun _ _ _ _ _ => pts_nil) (fun _ _ _ _ _ => (pe_call (ok__law_price T) (hr.mono (by decide)) (by rfl) T.g__law_price T.f__law_price.kp T.b__law_price .nil pass0 (pa_cons (pv 4) (pa_cons (pv 6) pa_nil))))) (pv 2) (nomark _)) pa_nil)))))) 
      (pss_one (ps_ret (pe_cmpR op_eq (pe_call (ok_how_many_like T) hr (by rfl) T.g_how_many_like T.f_how_many_like.kp T.b_how_many_like .nil pass0 (pa_cons (pv 1) pa_nil)) (pv 3) (nomark _)))))))), ?_⟩
    refine q_in (lcR1_in (ta_in (top_in2 (ev_use ev_c fun H1 e1 => draw_use (n := 3) (ev_var rfl) ev_c (hg.ex e1) (by omega) (by decide) (by decide) fun z H2 z0 z1 hg2 E2 => ⟨1, z, rfl, rfl, ta_nil ⟨1 + z, rfl, by omega, by omega, ?_⟩⟩))))
    obtain ⟨n, rfl⟩ := Int.eq_ofNat_of_zero_le z0
    rw [show (1 + (n : Int)).toNat = n + 1 by omega]
    refine ints_body (fun z => 0 ≤ z ∧ z < 8) (n := n + 1) (d := 4) (by omega) (fun _ => rfl) hg2 (fun i H' R hi hG hE k => ?_) fun ps H3 ss hps hlen hz kc hg3 E3 => ?_
    · exact draw_use (n := 8) (ev_var rfl) ev_c hG (by omega) (by decide) (by decide) fun z H4 z0 z1 hG4 E4 => k z H4 ⟨z0, z1⟩ hG4 E4
    have EH : ExB g H H3 := ((ExB.of e1).trans E2).trans E3
    have B3 : Bel 3 ss := fun u hu => hz u hu
    have Fs : Fo H3 ps ss := ⟨kc, B3.good (by decide), by omega⟩
    refine q_asgL (xs := (pr5 ss).map V.int) ?_ fun pm H4 hpm e4 k4 => ?_
    · unfold pr5
      rw [List.map_map]
      exact el_mapR (n := 5) (V.int ∘ cst ss) (ea_cons ev_c ea_nil) (by decide) (fun _ => rfl) (fun i H1 e hi => ev_call (ea_cons (ev_var rfl) (ea_cons (ev_var rfl) ea_nil)) (spv fun H2 e2 Q q E => ⟨ps, ss, i, rfl, Fs.ex (e.trans e2), by omega, q⟩))
    refine q_asg ev_c fun H5 e5 => ?_
    have e45 := e4.trans e5
    have hp8 : 8 ^ ss.length ≤ 10000 := by
      have : 8 ^ ss.length ≤ 8 ^ 3 := Nat.pow_le_pow_right (by decide) (by omega)
      omega
    refine forL_in (tcall_in (ta_consV (v := .int ((ss.length : Nat) : Int)) (ev_is (ev_len (K := K) (ev_var rfl) (Fs.ex e45).sq) (by rw [List.length_map])) fun H6 e6 => ta_consV ev_c fun H7 e7 => ta_nil ⟨ss.length, 8, rfl, by decide, by omega, by decide, hp8, fun pl H8 hpl e8 hLL => forL_at ?_⟩))
    obtain ⟨vs, hv1, hv2⟩ := hLL
    have e48 := ((e45.trans e6).trans e7).trans e8
    have k48 := (((e5.trans e6).trans e7).trans e8) _ _ k4
    refine q_forLn (K := K) (xs := vs) ev_at (sq_of hv1) (fun i σ' H' => ∃ y4, σ' = [some (.ref g), some (.ref ps), some (.ref pm), some (.int ((((below ss.length 8).take i).countP fun r => decide (pr5 r = pr5 ss) : Nat) : Int)), y4, none, none] ∧ Ex H8 H')
      (fun H9 e9 => ⟨none, by rw [List.take_zero]; rfl, e9⟩) (fun i σ' H' _ h => by obtain ⟨_, _, e⟩ := h; exact sq_of (e _ _ hv1)) (fun i x σ' H' hx h => ?_) (fun σ' H' h => ?_)
    · obtain ⟨y4, rfl, e⟩ := h
      obtain ⟨a, r, rfl, hr, har⟩ := hv2.get hx
      have hmem := List.mem_of_getElem? hr
      have Fr : Fo H' a r := ⟨e _ _ har, (below_bel hmem).good (by decide), by have := (below_row _ 8 r hmem).1; omega⟩
      refine s_asg (v := .int ((((below ss.length 8).take (i + 1)).countP fun r => decide (pr5 r = pr5 ss) : Nat) : Int)) (ev_is (ev_op (ev_var rfl) (ev_intB (ev_opL1 (xs := (pr5 r).map V.int) ?_ (fun _ _ => ev_var rfl) fun p H10 hp e10 => rv_eqI (K := K) (ns := pr5 r) (ms := pr5 ss) (sq_of hp) (sq_of (e10 _ _ (e _ _ k48))))) rv_I0) ?_) fun H9 e9 => ⟨some (.ref a), rfl, e.trans e9⟩
      · unfold pr5
        rw [List.map_map]
        exact el_mapR (n := 5) (V.int ∘ cst r) (ea_cons ev_c ea_nil) (by decide) (fun _ => rfl) (fun i H1 e hi => ev_call (ea_cons (ev_var rfl) (ea_cons (ev_var rfl) ea_nil)) (spv fun H2 e2 Q q E => ⟨a, r, i, rfl, Fr.ex (e.trans e2), by omega, q⟩))
      · rw [List.take_succ, hr]
        show _ = V.int ((((((below ss.length 8).take i) ++ [r]).countP fun r => decide (pr5 r = pr5 ss) : Nat)) : Int)
        rw [List.countP_append, List.countP_singleton]
        split <;> rfl
    · obtain ⟨y4, rfl, e⟩ := h
      rw [hv2.1, List.take_length]
      have hmm : ss.length ∈ [1, 2, 3] := by
        have : ss.length = 1 ∨ ss.length = 2 ∨ ss.length = 3 := by omega
        rcases this with h | h | h <;> rw [h] <;> decide
      rw [like_ok B3 hmm]
      refine s_ret (v := .bl true) (ev_is (ev_op (ev_call (ea_cons (ev_var rfl) ea_nil) (spv fun H9 e9 Q q E => ⟨ps, ss, rfl, Fs.ex ((e48.trans e).trans e9), by omega, q⟩)) (ev_var rfl) (rv_eq rfl)) (by simp)) fun H9 e9 => q H9 (EH.trans (ExB.of ((e48.trans e).trans e9)))
end
end K40

set_option Elab.async false
set_option linter.all false
set_option maxRecDepth 100000
set_option maxHeartbeats 4000000
namespace K40
open PySem PySem.Spec PyProof.Rows L2 Evl WS M41 M47 M40
def lsTA : List Int → TA
  | [] => tNil
  | x :: r => tCons (tC (.int x)) (lsTA r)
theorem lsEA {σ : L2.St} {H : Hp} : ∀ l : List Int, EvA (lsTA l) σ H (l.map V.int)
  | [] => ea_nil
  | x :: r => ea_cons ev_c (lsEA r)
abbrev Pr := List Int × List Int
def prTA : List Pr → TA
  | [] => tNil
  | p :: r => tCons (tTup (tCons (tLst (lsTA p.1)) (tCons (tLst (lsTA p.2)) tNil))) (prTA r)
def Pvs (H : Hp) (vs : List V) (ps : List Pr) : Prop := vs.length = ps.length ∧ ∀ (i : Nat) (p : Pr), ps[i]? = some p → ∃ t a b : Addr, vs[i]? = some (V.ref t) ∧ H t = some (.tup [.ref a, .ref b]) ∧ H a = some (.lst (p.1.map V.int)) ∧ H b = some (.lst (p.2.map V.int))
theorem prs_use : ∀ (ps : List Pr) {σ : L2.St} {H : Hp} {Q : List V → Hp → Prop}, (∀ p ∈ ps, p.1.length ≤ 100 ∧ p.2.length ≤ 100) → (∀ vs H1, Ex H H1 → Pvs H1 vs ps → Q vs H1) → prTA ps σ H Q
  | [], σ, H, Q, _, k => ta_nil (k [] H (Ex.refl H) ⟨rfl, fun i p h => by cases h⟩)
  | p :: r, σ, H, Q, hl, k => by
    have hp := hl p List.mem_cons_self
    refine ta_in (tup_in (ta_consL (el_lst (lsEA p.1) (by rw [List.length_map]; omega)) fun a H1 ha e1 k1 => ta_consL (el_lst (lsEA p.2) (by rw [List.length_map]; omega)) fun b H2 hb e2 k2 => ta_nil ⟨by show 2 ≤ sizeLine; decide, fun pt hpt => ?_⟩))
    have x3 := Ex.new (o := .tup [V.ref a, V.ref b]) hpt
    refine prs_use r (fun p hp => hl p (List.mem_cons_of_mem _ hp)) fun vs H3 e3 hv => k (.ref pt :: vs) H3 (((e1.trans e2).trans x3).trans e3) ⟨by rw [List.length_cons, List.length_cons, hv.1], fun i q h => ?_⟩
    cases i with
    | zero =>
      cases h
      exact ⟨pt, a, b, rfl, e3 _ _ upd_same, e3 _ _ (x3 _ _ (e2 _ _ k1)), e3 _ _ (x3 _ _ k2)⟩
    | succ i => exact hv.2 i q h
def P6 : List Pr := [([0, 3], [1, 2]), ([0, 3], [0, 4]), ([], [0]), ([], []), ([6, 1, 0], [4, 3, 0]), ([2], [1, 0])]
def okPr (p : Pr) : Bool := decide (p.1.length ≤ 100) && decide (p.2.length ≤ 100) && p.1.all (fun u => decide (0 ≤ u) && decide (u < 1000)) && p.2.all (fun u => decide (0 ≤ u) && decide (u < 1000))
theorem okP6 : P6.all okPr = true := by decide +kernel
theorem good_of {l : List Int} (h : l.all (fun u => decide (0 ≤ u) && decide (u < 1000)) = true) : Good l := fun u hu => by
  have e40 : (2 : Int) ^ 40 = 1099511627776 := by decide
  have := List.all_eq_true.mp h u hu
  rw [Bool.and_eq_true] at this
  have h1 := of_decide_eq_true this.1
  have h2 := of_decide_eq_true this.2
  omega
theorem ok_pr {p : Pr} (h : p ∈ P6) : p.1.length ≤ 100 ∧ p.2.length ≤ 100 ∧ Good p.1 ∧ Good p.2 := by
  have := List.all_eq_true.mp okP6 p h
  unfold okPr at this
  rw [Bool.and_eq_true, Bool.and_eq_true, Bool.and_eq_true] at this
  obtain ⟨⟨⟨h1, h2⟩, h3⟩, h4⟩ := this
  exact ⟨of_decide_eq_true h1, of_decide_eq_true h2, good_of h3, good_of h4⟩
section
variable {σ : L2.St} {H : Hp} {ta tb te tl : TE} {D : Ends} {tz tu : TS} {tr : TA} {K : PySem.W.Frag} {g : TG}
theorem s_unless (k : te σ H fun x H1 => ∃ c, x = .bl c ∧ (if (!c) = true then tu D σ H1 else tNext D σ H1)) : tIfS (tNot (tB te)) tu tNext D σ H := k
theorem unless_in {p : Prop} (h : D.nx σ H) : ∃ c, V.bl true = .bl c ∧ (if (!c) = true then p else tNext D σ H) := ⟨true, rfl, by rw [if_neg (by decide)]; exact h⟩
theorem q_unless2 {te2 : TE} (k : te σ H fun x H1 => ∃ c, x = .bl c ∧ (if (!c) = true then (if true = true then tu { D with nx := tz D } σ H1 else tNext { D with nx := tz D } σ H1) else te2 σ H1 fun y H2 => ∃ c', y = .bl c' ∧ (if (!c') = true then tu { D with nx := tz D } σ H2 else tNext { D with nx := tz D } σ H2))) :
    tSeq (tIfS (tOr (tNot (tB te)) (tNot (tB te2))) tu tNext) tz D σ H := k
end
def sp_law (K : PySem.W.Frag) : Sp := fun vs H Q _ => ∃ a, ∃ ns : List Int, vs = [.ref a] ∧ SqL K H a (ns.map V.int) ∧ ns.length ≤ 63 ∧ ∀ H', Q (.bl true) H'
theorem pick7 {z : Int} (h0 : 0 ≤ z) (h1 : z < 30) {i : Nat} {x : V} (h : [V.int 0, V.int 1, V.int 2, V.int z, V.int 39, V.int 60, V.int 120][i]? = some x) : ∃ k : Nat, k ≤ 120 ∧ x = V.int (k : Int) := by
  obtain ⟨n, rfl⟩ := Int.eq_ofNat_of_zero_le h0
  match i, h with
  | 0, h => exact ⟨0, by decide, (Option.some.inj h).symm⟩
  | 1, h => exact ⟨1, by decide, (Option.some.inj h).symm⟩
  | 2, h => exact ⟨2, by decide, (Option.some.inj h).symm⟩
  | 3, h => exact ⟨n, by omega, (Option.some.inj h).symm⟩
  | 4, h => exact ⟨39, by decide, (Option.some.inj h).symm⟩
  | 5, h => exact ⟨60, by decide, (Option.some.inj h).symm⟩
  | 6, h => exact ⟨120, by decide, (Option.some.inj h).symm⟩
  | n + 7, h => cases h
theorem gs_old {H : Hp} {g a : Addr} {C : Nat} (h : Gs H g C) (ha : H a = none) : a ≠ g := fun c => by
  obtain ⟨o, ho⟩ := h.some
  rw [c, ho] at ha
  cases ha
section
variable {P : Program} {w : World} {K : PySem.W.Frag} {mg : Str → Option Value} {base : Heap}
theorem ok_law (T : Tx K mg) : FnQ P w K mg base 8 T.a_law T.d_law ["_law_script"] (sp_law K) := by
  refine okQ T.f_law (k := 7) sc_law (fun vs H Q E h => ?_) (fun cdv A outer s H vs Q E hq hr h => ?_)
  · obtain ⟨a, ns, rfl, _⟩ := h
    rfl
  · obtain ⟨a, ns, rfl, hS, hl, q⟩ := h
    refine ⟨_,       (pss_cons (ps_set (i := 1) sc_law.nd rfl (by first | exact Or.inl rfl | exact Or.inr rfl) (pe_call (ok__law_generator T) (hr.mono (by decide)) (by rfl) T.g__law_generator T.f__law_generator.kp T.b__law_generator .nil pass0 (pa_cons (pv 0) (pa_cons pe_int pa_nil)))) 
      (pss_cons (ps_set (i := 2) sc_law.nd rfl (by first | exact Or.inl rfl | exact Or.inr rfl) (pe_call (ok__law_folds T) (hr.mono (by decide)) (by rfl) T.g__law_folds T.f__law_folds.kp T.b__law_folds .nil pass0 (pa_cons (pv 1) (pa_cons pe_int pa_nil)))) 
      (pss_cons (ps_set (i := 3) sc_law.nd rfl (by first | exact Or.inl rfl | exact Or.inr rfl) (pe_callTy (T := "list") (r := rListS K) call_list_of (by rfl) T.m_list (by decide +kernel) (pa_cons (pv 2) pa_nil))) 
      (pss_cons (ps_for PassesOwn.never rfl (pi_list (pe_lst (pa_cons pe_int (pa_cons pe_int (pa_cons pe_int (pa_cons (pe_call (ok__law_random T) (hr.mono (by decide)) (by rfl) T.g__law_random T.f__law_random.kp T.b__law_random .nil pass0 (pa_cons (pv 1) (pa_cons pe_int pa_nil))) (pa_cons pe_int (pa_cons pe_int (pa_cons pe_int pa_nil))))))))) (pg_name (i := 4) sc_law.nd rfl (by first | exact Or.inl rfl | exact Or.inr rfl)) 
        (pss_one (ps_if (pt_cmpR op_ne (pe_call (ok_price T) (hr.mono (by decide)) (by rfl) T.g_price T.f_price.kp T.b_price .nil pass0 (pa_cons (pv 2) (pa_cons (pv 4) pa_nil))) (pe_call (ok__law_price T) (hr.mono (by decide)) (by rfl) T.g__law_price T.f__law_price.kp T.b__law_price .nil pass0 (pa_cons (pv 2) (pa_cons (pv 4) pa_nil))) (nomark _)) 
          (pss_one (ps_ret pe_bl)) pss_nil))) 
      (pss_cons (ps_set (i := 5) sc_law.nd rfl (by first | exact Or.inl rfl | exact Or.inr rfl) (pe_call (ok_bit_counts T) (hr.mono (by decide)) (by rfl) T.g_bit_counts T.f_bit_counts.kp T.b_bit_counts .nil pass0 (pa_cons (pv 2) pa_nil))) 
      (pss_cons (ps_if (pt_cmpR (op_neD hr.units) (pv 5) (pe_call (ok__law_bits T) (hr.mono (by decide)) (by rfl) T.g__law_bits T.f__law_bits.kp T.b__law_bits .nil pass0 (pa_cons (pv 2) pa_nil)) (nomark _)) 
        (pss_one (ps_ret pe_bl)) pss_nil) 
      (pss_cons (ps_expr (pe_bm PySem.F.plainAttrs_list PySem.F.slot_list_append PySem.F.type_list_append mt_append (pv 5) (pa_cons pe_int pa_nil))) 
      (pss_cons (ps_if (pt_cmpR (op_neD hr.units) (pe_call (ok_bit_counts T) (hr.mono (by decide)) (by rfl) T.g_bit_counts T.f_bit_counts.kp T.b_bit_counts .nil pass0 (pa_cons (pv 2) pa_nil)) (pe_call (ok__law_bits T) (hr.mono (by decide)) (by rfl) T.g__law_bits T.f__law_bits.kp T.b__law_bits .nil pass0 (pa_cons (pv 2) pa_nil)) (nomark _)) 
        (pss_one (ps_ret pe_bl)) pss_nil) 
      (pss_cons (ps_for PassesOwn.never rfl (pi_range1 rfl T.m_range (pa_cons pe_int pa_nil)) (pg_name (i := 6) sc_law.nd rfl (by first | exact Or.inl rfl | exact Or.inr rfl)) 
        (pss_one (ps_if (pt_not (pt_val (pe_callQ (ok__law_pair_right T) hq hr (by rfl) T.g__law_pair_right T.f__law_pair_right.kp T.b__law_pair_right (pa_cons (pv 2) (pa_cons (pe_call (ok__law_other T) (hr.mono (by decide)) (by rfl) T.g__law_other T.f__law_other.kp T.b__law_other .nil pass0 (pa_cons (pv 1) (pa_cons (pv 2) pa_nil))) pa_nil))))) 
          (pss_one (ps_ret pe_bl)) pss_nil))) 
      (pss_cons (ps_for PassesOwn.never rfl (pi_list (pe_lst (pa_cons (pe_tup (pa_cons (pe_lst (pa_cons pe_int (pa_cons pe_int pa_nil))) (pa_cons (pe_lst (pa_cons pe_int (pa_cons pe_int pa_nil))) pa_nil))) (pa_cons (pe_tup (pa_cons (pe_lst (pa_cons pe_int (pa_cons pe_int pa_nil))) (pa_cons (pe_lst (pa_cons pe_int (pa_cons pe_int pa_nil))) pa_nil))) (pa_cons (pe_tup (pa_cons (pe_lst pa_nil) (pa_cons (pe_lst (pa_cons pe_int pa_nil)) pa_nil))) (pa_cons (pe_tup (pa_cons (pe_lst pa_nil) (pa_cons (pe_lst pa_nil) pa_nil))) (pa_cons (pe_tup (pa_cons (pe_lst (pa_cons pe_int (pa_cons pe_int (pa_cons pe_int pa_nil)))) (pa_cons (pe_lst (pa_cons pe_int (pa_cons pe_int (pa_cons pe_int pa_nil)))) pa_nil))) (pa_cons (pe_tup (pa_cons (pe_lst (pa_cons pe_int pa_nil)) (pa_cons (pe_lst (pa_cons pe_int (pa_cons pe_int pa_nil))) pa_nil))) pa_nil)))))))) (pg_tup rfl (pgs_cons (pg_name (i := 7) sc_law.nd rfl (by first | exact Or.inl rfl | exact Or.inr rfl)) (pgs_cons (pg_name (i := 8) sc_law.nd rfl (by first | exact Or.inl rfl | exact Or.inr rfl)) pgs_nil))) 
        (pss_one (ps_if (pt_not (pt_val (pe_callQ (ok__law_pair_right T) hq hr (by rfl) T.g__law_pair_right T.f__law_pair_right.kp T.b__law_pair_right (pa_cons (pv 7) (pa_cons (pv 8) pa_nil))))) 
          (pss_one (ps_ret pe_bl)) pss_nil))) 
      (pss_cons (ps_if (PW.pt (pw_or (pt_not (pt_val (pe_call (ok__law_counts_right T) (hr.mono (by decide)) (by rfl) T.g__law_counts_right T.f__law_counts_right.kp T.b__law_counts_right .nil pass0 (pa_cons (pv 1) pa_nil)))) (pw_or1 (pt_not (pt_val (pe_call (ok__law_like_right T) hr (by rfl) T.g__law_like_right T.f__law_like_right.kp T.b__law_like_right .nil pass0 (pa_cons (pv 1) pa_nil))))))) 
        (pss_one (ps_ret pe_bl)) pss_nil) 
      (pss_one (ps_ret (pe_and (pe_cmpR (op_eqD hr.units) (pv 2) (pv 3) (nomark _)) (pe_and (pe_cmpR op_eq (pe_call (ok_how_many_like T) (hr.mono (by decide)) (by rfl) T.g_how_many_like T.f_how_many_like.kp T.b_how_many_like .nil pass0 (pa_cons (pe_lst pa_nil) pa_nil)) pe_int (nomark _)) (pe_one (pe_cmpR (op_eqD hr.units) (pe_call (ok_row_of_counts T) (hr.mono (by decide)) (by rfl) T.g_row_of_counts T.f_row_of_counts.kp T.b_row_of_counts .nil pass0 (pa_cons pe_int (pa_cons (pe_lst pa_nil) pa_nil))) (pe_lst pa_nil) (nomark _)))))))))))))))))), ?_⟩
    refine q_in (tcall_in (ta_consV (ev_var rfl) fun Ha ea => ta_consV ev_c fun Hb eb => ta_nil ⟨a, ns, 0, rfl, ex_l (ea.trans eb) hS, hl, by decide, fun g H1 hg0 e1 hg1 => ?_⟩))
    refine q_in (tcall_in (ta_consV (ev_var rfl) fun Hc ec => ta_consV ev_c fun Hd ed => ta_nil ⟨g, 7, _, rfl, (hg1.ex ec).ex ed, by decide, by decide, fun pf fs H2 hpf Ff B38 l7 hg2 E2 => ?_⟩))
    have fg : pf ≠ g := gs_old ((hg1.ex ec).ex ed) hpf
    refine q_asgL (el_list (K := K) (ev_var rfl) Ff.sq) fun pk H3 hpk e3 k3 => ?_
    have kg : pk ≠ g := gs_old hg2 hpk
    refine forL_in (tl_lst (ta_consV ev_c fun H4 e4 => ta_consV ev_c fun H5 e5 => ta_consV ev_c fun H6 e6 => ta_in (draw_use (n := 30) (ev_var rfl) ev_c ((((hg2.ex e3).ex e4).ex e5).ex e6) (by omega) (by decide) (by decide) fun z H7 z0 z1 hg7 E7 => ta_consV ev_c fun H8 e8 => ta_consV ev_c fun H9 e9 => ta_consV ev_c fun H10 e10 => ta_nil ⟨by show 7 ≤ sizeLine; decide, fun pl hpl => forL_at ?_⟩)))
    have x11 := Ex.new (o := .lst [V.int 0, V.int 1, V.int 2, V.int z, V.int 39, V.int 60, V.int 120]) hpl
    have E36 : ExB g H3 (upd H10 pl (.lst [V.int 0, V.int 1, V.int 2, V.int z, V.int 39, V.int 60, V.int 120])) := ((ExB.of ((e4.trans e5).trans e6)).trans E7).trans (ExB.of (((e8.trans e9).trans e10).trans x11))
    have hg11 := (((hg7.ex e8).ex e9).ex e10).ex x11
    have F11 : Fo (upd H10 pl (.lst [V.int 0, V.int 1, V.int 2, V.int z, V.int 39, V.int 60, V.int 120])) pf fs := ⟨E36 _ _ fg (e3 _ _ Ff.at_), Ff.good, Ff.len⟩
    have k11 := E36 _ _ kg k3
    have kl11 : (upd H10 pl (.lst [V.int 0, V.int 1, V.int 2, V.int z, V.int 39, V.int 60, V.int 120])) pl = some (.lst [V.int 0, V.int 1, V.int 2, V.int z, V.int 39, V.int 60, V.int 120]) := upd_same
    generalize (upd H10 pl (.lst [V.int 0, V.int 1, V.int 2, V.int z, V.int 39, V.int 60, V.int 120])) = H11 at hg11 F11 k11 kl11 ⊢
    refine q_forLn (K := K) (xs := [V.int 0, V.int 1, V.int 2, V.int z, V.int 39, V.int 60, V.int 120]) ev_at (sq_of kl11) (fun i σ' H' => ∃ y4, σ' = [some (.ref a), some (.ref g), some (.ref pf), some (.ref pk), y4, none, none, none, none] ∧ Ex H11 H')
      (fun H9 e9 => ⟨none, rfl, e9⟩) (fun i σ' H' _ h => by obtain ⟨_, _, e⟩ := h; exact sq_of (e _ _ kl11)) (fun i x σ' H' hx h => ?_) (fun σ' H' h => ?_)
    · obtain ⟨y4, rfl, e⟩ := h
      obtain ⟨k, hk, rfl⟩ := pick7 z0 z1 hx
      refine s_when (b := false) (et_is (et_test (ev_op (ev_call (ea_cons (ev_var rfl) (ea_cons (ev_var rfl) ea_nil)) (spv fun H12 e12 Q q E => ⟨pf, fs, k, rfl, F11.ex (e.trans e12), by omega, q⟩)) (ev_call (ea_cons (ev_var rfl) (ea_cons (ev_var rfl) ea_nil)) (spv fun H12 e12 Q q E => ⟨pf, fs, k, rfl, F11.ex (e.trans e12), by omega, q⟩)) (rv_ne rfl))) (by simp)) (fun z => by cases z) fun _ H12 e12 => ⟨_, rfl, e.trans e12⟩
    obtain ⟨y4, rfl, e⟩ := h
    have hg12 := hg11.ex e
    have F12 := F11.ex e
    have k12 := e _ _ k11
    refine q_asgL (el_callR (ea_cons (ev_var rfl) ea_nil) fun H13 e13 Q k E => ⟨pf, fs, rfl, F12.ex e13, k⟩) fun pt H13 hpt e13 k13 => ?_
    refine q_when (b := false) (et_is (et_test (ev_opL (xs := (bcs fs).map V.int) (ev_var rfl) (el_callR (ea_cons (ev_var rfl) ea_nil) fun H14 e14 Q k E => ⟨pf, fs, rfl, (F12.ex e13).ex e14, k⟩) fun p H14 hp e14 => rv_neI (K := K) (ns := bcs fs) (ms := bcs fs) (sq_of (e14 _ _ k13)) (sq_of hp))) (by simp)) (fun z => by cases z) fun _ H14 e14 => ?_
    have lb : (bcs fs).length ≤ 40 := by
      have := Ff.lg40
      unfold bcs
      rw [List.length_map, List.length_range]
      exact this
    refine q_app (e14 _ _ k13) (ev_var rfl) ev_c (by rw [List.length_map]; omega) fun H15 e15 => ?_
    have m15 := Ex.mut (o := .lst ((bcs fs).map V.int ++ [V.int 7])) ((e13.trans e14).trans e15) hpt
    have F15 := F12.ex m15
    have hg15 := hg12.ex m15
    have k15 := m15 _ _ k12
    generalize (upd H15 pt (.lst ((bcs fs).map V.int ++ [V.int 7]))) = H16 at m15 F15 hg15 k15 ⊢
    refine q_when (b := false) (et_is (et_test (ev_opLL (xs := (bcs fs).map V.int) (ys := (bcs fs).map V.int) (el_callR (ea_cons (ev_var rfl) ea_nil) fun H14 e14 Q k E => ⟨pf, fs, rfl, F15.ex e14, k⟩) (el_callR (ea_cons (ev_var rfl) ea_nil) fun H14 e14 Q k E => ⟨pf, fs, rfl, F15.ex e14, k⟩) fun p p' H14 hp hp' e14 => rv_neI (K := K) (ns := bcs fs) (ms := bcs fs) (sq_of hp) (sq_of hp'))) (by simp)) (fun z => by cases z) fun _ H17 e17 => ?_
    have F17 := F15.ex e17
    have hg17 := hg15.ex e17
    have k17 := e17 _ _ k15
    refine q_forR1 (n := 3) (ea_cons ev_c ea_nil) (by decide)
      (fun i σ' H' => ∃ y6, σ' = [some (.ref a), some (.ref g), some (.ref pf), some (.ref pk), y4, some (.ref pt), y6, none, none] ∧ Gs H' g (20000 + 1000 * i) ∧ ExB g H17 H')
      (fun H18 e18 => ⟨none, rfl, (hg17.ex e18).mono (by omega), ExB.of e18⟩) (fun i σ' H' hi hP => ?_) (fun σ' H' hP => ?_)
    · obtain ⟨y6, rfl, hg, E⟩ := hP
      have Fi : Fo H' pf fs := ⟨E _ _ fg F17.at_, F17.good, F17.len⟩
      refine s_unless (tcall_in (ta_consV (ev_var rfl) fun H18 e18 => ta_in (tcall_in (ta_consV (ev_var rfl) fun H19 e19 => ta_consV (ev_var rfl) fun H20 e20 => ta_nil ⟨g, pf, fs, _, rfl, ((hg.ex e18).ex e19).ex e20, fg, ((Fi.ex e18).ex e19).ex e20, B38, by omega, by omega, fun p gs H21 hp hk hB hL hg21 E21 => ?_⟩))))
      refine ta_nil ⟨pf, p, fs, gs, rfl, ⟨E21 _ _ fg (((Fi.ex e18).ex e19).ex e20).at_, F17.good, F17.len⟩, ⟨hk, hB.good (by decide), by omega⟩, by omega, by omega, fun H22 e22 => unless_in ?_⟩
      exact ⟨_, rfl, (hg21.ex e22).mono (by omega), ((E.trans (ExB.of ((e18.trans e19).trans e20))).trans E21).trans (ExB.of e22)⟩
    obtain ⟨y6, rfl, hg18, E18⟩ := hP
    have F18 : Fo H' pf fs := ⟨E18 _ _ fg F17.at_, F17.good, F17.len⟩
    have k18 := E18 _ _ kg k17
    refine forL_in (tl_lst ?_)
    show prTA P6 _ _ _
    refine prs_use P6 (fun p hp => ⟨(ok_pr hp).1, (ok_pr hp).2.1⟩) fun vs H19 e19 hv => ⟨by rw [hv.1]; show 6 ≤ sizeLine; decide, fun pl hpl => forL_at ?_⟩
    have x20 := Ex.new (o := .lst vs) hpl
    refine q_forL (K := K) (xs := vs) ev_at (sq_of upd_same) (fun i σ' H' => ∃ y7 y8, σ' = [some (.ref a), some (.ref g), some (.ref pf), some (.ref pk), y4, some (.ref pt), y6, y7, y8] ∧ Ex (upd H19 pl (.lst vs)) H')
      (fun H9 e9 => ⟨none, none, rfl, e9⟩) (fun i σ' H' _ h => by obtain ⟨_, _, _, e⟩ := h; exact sq_of (e _ _ upd_same)) (fun i x σ' H' hx h => ?_) (fun σ' H' h => ?_)
    · obtain ⟨y7, y8, rfl, e⟩ := h
      have hi := (List.getElem?_eq_some_iff.mp hx).1
      rw [hv.1] at hi
      obtain ⟨t, b, c, ht, h1, h2, h3⟩ := hv.2 i P6[i] (List.getElem?_eq_getElem hi)
      have okp := ok_pr (List.getElem_mem hi)
      rw [ht] at hx
      obtain rfl := Option.some.inj hx
      have ex := x20.trans e
      refine ⟨t, _, rfl, st_of (ex _ _ h1), rfl, _, _, rfl, _, _, rfl, rfl, ?_⟩
      refine s_unless (tcall_in (ta_consV (ev_var rfl) fun H21 e21 => ta_consV (ev_var rfl) fun H22 e22 => ta_nil ⟨b, c, _, _, rfl, ⟨e22 _ _ (e21 _ _ (ex _ _ h2)), okp.2.2.1, by omega⟩, ⟨e22 _ _ (e21 _ _ (ex _ _ h3)), okp.2.2.2, by omega⟩, okp.1, okp.2.1, fun H23 e23 => unless_in ?_⟩))
      exact ⟨_, _, rfl, ((e.trans e21).trans e22).trans e23⟩
    obtain ⟨y7, y8, rfl, e20⟩ := h
    have e1820 := (e19.trans x20).trans e20
    have hg20 := hg18.ex e1820
    have F20 := F18.ex e1820
    have k20 := e1820 _ _ k18
    refine q_unless2 (tcall_in (ta_consV (ev_var rfl) fun H21 e21 => ta_nil ⟨g, _, rfl, hg20.ex e21, by decide, fun H22 hg22 E22 => ⟨true, rfl, ?_⟩⟩))
    rw [if_neg (by decide)]
    refine tcall_in (ta_consV (ev_var rfl) fun H23 e23 => ta_nil ⟨g, _, rfl, hg22.ex e23, by decide, fun H24 E24 => ⟨true, rfl, ?_⟩⟩)
    rw [if_neg (by decide)]
    have E2024 : ExB g _ H24 := (((ExB.of e21).trans E22).trans (ExB.of e23)).trans E24
    have k24 := E2024 _ _ kg k20
    have F24 : Fo H24 pf fs := ⟨E2024 _ _ fg F20.at_, F20.good, F20.len⟩
    unfold tNext
    dsimp only
    have g0 : Good [] := fun u hu => absurd hu List.not_mem_nil
    refine s_ret (v := .bl true) (ev_andV (a := true) (b := true) (ev_is (ev_op (ev_var rfl) (ev_var rfl) (rv_eqI (K := K) (ns := fs) (ms := fs) F24.sq (sq_of k24))) (by simp)) fun _ => ev_andV (a := true) (b := true) (ev_is (ev_op (x := .int (likeV [])) (fun H25 e25 Q' k => tcall_in (ta_consL (el_lst ea_nil (by decide)) fun p H26 hp e26 k26 => ta_nil ⟨p, [], rfl, ⟨k26, g0, by decide⟩, by decide, fun H27 e27 => k H27 (e26.trans e27)⟩)) ev_c (rv_eq rfl)) rfl) fun _ => ev_is (ev_opLL (xs := ([] : List Int).map V.int) (ys := ([] : List Int).map V.int) (fun H25 e25 Q' k => tcall_in (ta_consV ev_c fun H0 e0 => ta_consL (el_lst ea_nil (by decide)) fun p H26 hp e26 k26 => ta_nil ⟨p, [], 0, rfl, ⟨k26, g0, by decide⟩, fun u hu => absurd hu List.not_mem_nil, by decide, by decide, fun p2 H27 hp2 e27 k27 => k p2 H27 (fresh_back (e0.trans e26) hp2) ((e0.trans e26).trans e27) k27⟩)) (el_lst ea_nil (by decide)) fun p p' H14 hp hp' e14 => rv_eqI (K := K) (ns := []) (ms := []) (sq_of hp) (sq_of hp')) rfl) fun H25 e25 => q H25
end
end K40

set_option Elab.async false
set_option linter.all false
set_option maxRecDepth 100000
set_option maxHeartbeats 4000000
namespace K40
open PySem PySem.Spec PyProof.Rows L2 Evl WS M41 M47 M40
theorem all_mk {l : PySem.W.OpenLaw} {w : World} {K : PySem.W.Frag} {h : Heap} {mg : Str → Option Value} {fa f1 f2 f3 f4 f5 f6 f7 f8 f9 f10 f11 f12 f13 f14 f15 f16 f17 f18 f19 f20 f21 f22 f23 f24 f25 f26 f27 f28 f29 f30 : Addr} (X : K.In h) (G : h.Ns mainGlobals mg) (hfa : mg "law" = some (.ref fa))
    {od1 an1 od2 an2 od3 an3 od4 an4 od5 an5 od6 an6 od7 an7 od8 an8 od9 an9 od10 an10 od11 an11 od12 an12 od13 an13 od14 an14 od15 an15 od16 an16 od17 an17 od18 an18 od19 an19 od20 an20 od21 an21 od22 an22 od23 an23 od24 an24 od25 an25 od26 an26 od27 an27 od28 an28 od29 an29 od30 an30 : Option Addr} {sl1 sl2 sl3 sl4 sl5 sl6 sl7 sl8 sl9 sl10 sl11 sl12 sl13 sl14 sl15 sl16 sl17 sl18 sl19 sl20 sl21 sl22 sl23 sl24 sl25 sl26 sl27 sl28 sl29 sl30 : Array (Option Value)} {oc1 kV1 dc1 pm1 cd1 ct1 oc2 kV2 dc2 pm2 cd2 ct2 oc3 kV3 dc3 pm3 cd3 ct3 oc4 kV4 dc4 pm4 cd4 ct4 oc5 kV5 dc5 pm5 cd5 ct5 oc6 kV6 dc6 pm6 cd6 ct6 oc7 kV7 dc7 pm7 cd7 ct7 oc8 kV8 dc8 pm8 cd8 ct8 oc9 kV9 dc9 pm9 cd9 ct9 oc10 kV10 dc10 pm10 cd10 ct10 oc11 kV11 dc11 pm11 cd11 ct11 oc12 kV12 dc12 pm12 cd12 ct12 oc13 kV13 dc13 pm13 cd13 ct13 oc14 kV14 dc14 pm14 cd14 ct14 oc15 kV15 dc15 pm15 cd15 ct15 oc16 kV16 dc16 pm16 cd16 ct16 oc17 kV17 dc17 pm17 cd17 ct17 oc18 kV18 dc18 pm18 cd18 ct18 oc19 kV19 dc19 pm19 cd19 ct19 oc20 kV20 dc20 pm20 cd20 ct20 oc21 kV21 dc21 pm21 cd21 ct21 oc22 kV22 dc22 pm22 cd22 ct22 oc23 kV23 dc23 pm23 cd23 ct23 oc24 kV24 dc24 pm24 cd24 ct24 oc25 kV25 dc25 pm25 cd25 ct25 oc26 kV26 dc26 pm26 cd26 ct26 oc27 kV27 dc27 pm27 cd27 ct27 oc28 kV28 dc28 pm28 cd28 ct28 oc29 kV29 dc29 pm29 cd29 ct29 oc30 kV30 dc30 pm30 cd30 ct30 : Value}
    {t_GREATEST_WIDTH : Tok}
    (a1 : PySem.W.nsIn K mainGlobals "is_number" = some (some (.ref f1)))
    (l1 : K.lookup f1 = some ⟨oc1, od1, .func (PySem.W.fnOf "is_number" "is_number" (defArgs s_is_number) (defBody s_is_number) (defScope s_is_number) .none kV1 dc1 pm1 an1 cd1 ct1), sl1⟩)
    (e1 : PySem.W.codeIn K cd1 "is_number" = true)
    (k1 : PySem.W.keepIn K (.ref f1) = true)
    (a2 : PySem.W.nsIn K mainGlobals "is_within" = some (some (.ref f2)))
    (l2 : K.lookup f2 = some ⟨oc2, od2, .func (PySem.W.fnOf "is_within" "is_within" (defArgs s_is_within) (defBody s_is_within) (defScope s_is_within) .none kV2 dc2 pm2 an2 cd2 ct2), sl2⟩)
    (e2 : PySem.W.codeIn K cd2 "is_within" = true)
    (k2 : PySem.W.keepIn K (.ref f2) = true)
    (a3 : PySem.W.nsIn K mainGlobals "is_count" = some (some (.ref f3)))
    (l3 : K.lookup f3 = some ⟨oc3, od3, .func (PySem.W.fnOf "is_count" "is_count" (defArgs s_is_count) (defBody s_is_count) (defScope s_is_count) .none kV3 dc3 pm3 an3 cd3 ct3), sl3⟩)
    (e3 : PySem.W.codeIn K cd3 "is_count" = true)
    (k3 : PySem.W.keepIn K (.ref f3) = true)
    (a4 : PySem.W.nsIn K mainGlobals "is_counts" = some (some (.ref f4)))
    (l4 : K.lookup f4 = some ⟨oc4, od4, .func (PySem.W.fnOf "is_counts" "is_counts" (defArgs s_is_counts) (defBody s_is_counts) (defScope s_is_counts) .none kV4 dc4 pm4 an4 cd4 ct4), sl4⟩)
    (e4 : PySem.W.codeIn K cd4 "is_counts" = true)
    (k4 : PySem.W.keepIn K (.ref f4) = true)
    (a5 : PySem.W.nsIn K mainGlobals "check_from" = some (some (.ref f5)))
    (l5 : K.lookup f5 = some ⟨oc5, od5, .func (PySem.W.fnOf "check_from" "check_from" (defArgs s_check_from) (defBody s_check_from) (defScope s_check_from) .none kV5 dc5 pm5 an5 cd5 ct5), sl5⟩)
    (e5 : PySem.W.codeIn K cd5 "check_from" = true)
    (k5 : PySem.W.keepIn K (.ref f5) = true)
    (a6 : PySem.W.nsIn K mainGlobals "check_count" = some (some (.ref f6)))
    (l6 : K.lookup f6 = some ⟨oc6, od6, .func (PySem.W.fnOf "check_count" "check_count" (defArgs s_check_count) (defBody s_check_count) (defScope s_check_count) .none kV6 dc6 pm6 an6 cd6 ct6), sl6⟩)
    (e6 : PySem.W.codeIn K cd6 "check_count" = true)
    (k6 : PySem.W.keepIn K (.ref f6) = true)
    (a7 : PySem.W.nsIn K mainGlobals "check_folds" = some (some (.ref f7)))
    (l7 : K.lookup f7 = some ⟨oc7, od7, .func (PySem.W.fnOf "check_folds" "check_folds" (defArgs s_check_folds) (defBody s_check_folds) (defScope s_check_folds) .none kV7 dc7 pm7 an7 cd7 ct7), sl7⟩)
    (e7 : PySem.W.codeIn K cd7 "check_folds" = true)
    (k7 : PySem.W.keepIn K (.ref f7) = true)
    (a8 : PySem.W.nsIn K mainGlobals "check_width" = some (some (.ref f8)))
    (l8 : K.lookup f8 = some ⟨oc8, od8, .func (PySem.W.fnOf "check_width" "check_width" (defArgs s_check_width) (defBody s_check_width) (defScope s_check_width) .none kV8 dc8 pm8 an8 cd8 ct8), sl8⟩)
    (e8 : PySem.W.codeIn K cd8 "check_width" = true)
    (k8 : PySem.W.keepIn K (.ref f8) = true)
    (a9 : PySem.W.nsIn K mainGlobals "cost_at" = some (some (.ref f9)))
    (l9 : K.lookup f9 = some ⟨oc9, od9, .func (PySem.W.fnOf "cost_at" "cost_at" (defArgs s_cost_at) (defBody s_cost_at) (defScope s_cost_at) .none kV9 dc9 pm9 an9 cd9 ct9), sl9⟩)
    (e9 : PySem.W.codeIn K cd9 "cost_at" = true)
    (k9 : PySem.W.keepIn K (.ref f9) = true)
    (a10 : PySem.W.nsIn K mainGlobals "longest_bits" = some (some (.ref f10)))
    (l10 : K.lookup f10 = some ⟨oc10, od10, .func (PySem.W.fnOf "longest_bits" "longest_bits" (defArgs s_longest_bits) (defBody s_longest_bits) (defScope s_longest_bits) .none kV10 dc10 pm10 an10 cd10 ct10), sl10⟩)
    (e10 : PySem.W.codeIn K cd10 "longest_bits" = true)
    (k10 : PySem.W.keepIn K (.ref f10) = true)
    (a11 : PySem.W.nsIn K mainGlobals "price" = some (some (.ref f11)))
    (l11 : K.lookup f11 = some ⟨oc11, od11, .func (PySem.W.fnOf "price" "price" (defArgs s_price) (defBody s_price) (defScope s_price) .none kV11 dc11 pm11 an11 cd11 ct11), sl11⟩)
    (e11 : PySem.W.codeIn K cd11 "price" = true)
    (k11 : PySem.W.keepIn K (.ref f11) = true)
    (a12 : PySem.W.nsIn K mainGlobals "bit_counts" = some (some (.ref f12)))
    (l12 : K.lookup f12 = some ⟨oc12, od12, .func (PySem.W.fnOf "bit_counts" "bit_counts" (defArgs s_bit_counts) (defBody s_bit_counts) (defScope s_bit_counts) .none kV12 dc12 pm12 an12 cd12 ct12), sl12⟩)
    (e12 : PySem.W.codeIn K cd12 "bit_counts" = true)
    (k12 : PySem.W.keepIn K (.ref f12) = true)
    (a13 : PySem.W.nsIn K mainGlobals "same_prices" = some (some (.ref f13)))
    (l13 : K.lookup f13 = some ⟨oc13, od13, .func (PySem.W.fnOf "same_prices" "same_prices" (defArgs s_same_prices) (defBody s_same_prices) (defScope s_same_prices) .none kV13 dc13 pm13 an13 cd13 ct13), sl13⟩)
    (e13 : PySem.W.codeIn K cd13 "same_prices" = true)
    (k13 : PySem.W.keepIn K (.ref f13) = true)
    (a14 : PySem.W.nsIn K mainGlobals "parting_width" = some (some (.ref f14)))
    (l14 : K.lookup f14 = some ⟨oc14, od14, .func (PySem.W.fnOf "parting_width" "parting_width" (defArgs s_parting_width) (defBody s_parting_width) (defScope s_parting_width) .none kV14 dc14 pm14 an14 cd14 ct14), sl14⟩)
    (e14 : PySem.W.codeIn K cd14 "parting_width" = true)
    (k14 : PySem.W.keepIn K (.ref f14) = true)
    (a15 : PySem.W.nsIn K mainGlobals "row_of_counts" = some (some (.ref f15)))
    (l15 : K.lookup f15 = some ⟨oc15, od15, .func (PySem.W.fnOf "row_of_counts" "row_of_counts" (defArgs s_row_of_counts) (defBody s_row_of_counts) (defScope s_row_of_counts) .none kV15 dc15 pm15 an15 cd15 ct15), sl15⟩)
    (e15 : PySem.W.codeIn K cd15 "row_of_counts" = true)
    (k15 : PySem.W.keepIn K (.ref f15) = true)
    (a16 : PySem.W.nsIn K mainGlobals "how_many_like" = some (some (.ref f16)))
    (l16 : K.lookup f16 = some ⟨oc16, od16, .func (PySem.W.fnOf "how_many_like" "how_many_like" (defArgs s_how_many_like) (defBody s_how_many_like) (defScope s_how_many_like) .none kV16 dc16 pm16 an16 cd16 ct16), sl16⟩)
    (e16 : PySem.W.codeIn K cd16 "how_many_like" = true)
    (k16 : PySem.W.keepIn K (.ref f16) = true)
    (a17 : PySem.W.nsIn K mainGlobals "_law_cell" = some (some (.ref f17)))
    (l17 : K.lookup f17 = some ⟨oc17, od17, .func (PySem.W.fnOf "_law_cell" "_law_cell" (defArgs s__law_cell) (defBody s__law_cell) (defScope s__law_cell) .none kV17 dc17 pm17 an17 cd17 ct17), sl17⟩)
    (e17 : PySem.W.codeIn K cd17 "_law_cell" = true)
    (k17 : PySem.W.keepIn K (.ref f17) = true)
    (a18 : PySem.W.nsIn K mainGlobals "_law_hash" = some (some (.ref f18)))
    (l18 : K.lookup f18 = some ⟨oc18, od18, .func (PySem.W.fnOf "_law_hash" "_law_hash" (defArgs s__law_hash) (defBody s__law_hash) (defScope s__law_hash) .none kV18 dc18 pm18 an18 cd18 ct18), sl18⟩)
    (e18 : PySem.W.codeIn K cd18 "_law_hash" = true)
    (k18 : PySem.W.keepIn K (.ref f18) = true)
    (a19 : PySem.W.nsIn K mainGlobals "_law_generator" = some (some (.ref f19)))
    (l19 : K.lookup f19 = some ⟨oc19, od19, .func (PySem.W.fnOf "_law_generator" "_law_generator" (defArgs s__law_generator) (defBody s__law_generator) (defScope s__law_generator) .none kV19 dc19 pm19 an19 cd19 ct19), sl19⟩)
    (e19 : PySem.W.codeIn K cd19 "_law_generator" = true)
    (k19 : PySem.W.keepIn K (.ref f19) = true)
    (a20 : PySem.W.nsIn K mainGlobals "_law_random" = some (some (.ref f20)))
    (l20 : K.lookup f20 = some ⟨oc20, od20, .func (PySem.W.fnOf "_law_random" "_law_random" (defArgs s__law_random) (defBody s__law_random) (defScope s__law_random) .none kV20 dc20 pm20 an20 cd20 ct20), sl20⟩)
    (e20 : PySem.W.codeIn K cd20 "_law_random" = true)
    (k20 : PySem.W.keepIn K (.ref f20) = true)
    (a21 : PySem.W.nsIn K mainGlobals "_law_price" = some (some (.ref f21)))
    (l21 : K.lookup f21 = some ⟨oc21, od21, .func (PySem.W.fnOf "_law_price" "_law_price" (defArgs s__law_price) (defBody s__law_price) (defScope s__law_price) .none kV21 dc21 pm21 an21 cd21 ct21), sl21⟩)
    (e21 : PySem.W.codeIn K cd21 "_law_price" = true)
    (k21 : PySem.W.keepIn K (.ref f21) = true)
    (a22 : PySem.W.nsIn K mainGlobals "_law_folds" = some (some (.ref f22)))
    (l22 : K.lookup f22 = some ⟨oc22, od22, .func (PySem.W.fnOf "_law_folds" "_law_folds" (defArgs s__law_folds) (defBody s__law_folds) (defScope s__law_folds) .none kV22 dc22 pm22 an22 cd22 ct22), sl22⟩)
    (e22 : PySem.W.codeIn K cd22 "_law_folds" = true)
    (k22 : PySem.W.keepIn K (.ref f22) = true)
    (a23 : PySem.W.nsIn K mainGlobals "_law_below" = some (some (.ref f23)))
    (l23 : K.lookup f23 = some ⟨oc23, od23, .func (PySem.W.fnOf "_law_below" "_law_below" (defArgs s__law_below) (defBody s__law_below) (defScope s__law_below) .none kV23 dc23 pm23 an23 cd23 ct23), sl23⟩)
    (e23 : PySem.W.codeIn K cd23 "_law_below" = true)
    (k23 : PySem.W.keepIn K (.ref f23) = true)
    (a24 : PySem.W.nsIn K mainGlobals "_law_bits" = some (some (.ref f24)))
    (l24 : K.lookup f24 = some ⟨oc24, od24, .func (PySem.W.fnOf "_law_bits" "_law_bits" (defArgs s__law_bits) (defBody s__law_bits) (defScope s__law_bits) .none kV24 dc24 pm24 an24 cd24 ct24), sl24⟩)
    (e24 : PySem.W.codeIn K cd24 "_law_bits" = true)
    (k24 : PySem.W.keepIn K (.ref f24) = true)
    (a25 : PySem.W.nsIn K mainGlobals "_law_prices" = some (some (.ref f25)))
    (l25 : K.lookup f25 = some ⟨oc25, od25, .func (PySem.W.fnOf "_law_prices" "_law_prices" (defArgs s__law_prices) (defBody s__law_prices) (defScope s__law_prices) .none kV25 dc25 pm25 an25 cd25 ct25), sl25⟩)
    (e25 : PySem.W.codeIn K cd25 "_law_prices" = true)
    (k25 : PySem.W.keepIn K (.ref f25) = true)
    (a26 : PySem.W.nsIn K mainGlobals "_law_other" = some (some (.ref f26)))
    (l26 : K.lookup f26 = some ⟨oc26, od26, .func (PySem.W.fnOf "_law_other" "_law_other" (defArgs s__law_other) (defBody s__law_other) (defScope s__law_other) .none kV26 dc26 pm26 an26 cd26 ct26), sl26⟩)
    (e26 : PySem.W.codeIn K cd26 "_law_other" = true)
    (k26 : PySem.W.keepIn K (.ref f26) = true)
    (a27 : PySem.W.nsIn K mainGlobals "_law_pair_right" = some (some (.ref f27)))
    (l27 : K.lookup f27 = some ⟨oc27, od27, .func (PySem.W.fnOf "_law_pair_right" "_law_pair_right" (defArgs s__law_pair_right) (defBody s__law_pair_right) (defScope s__law_pair_right) .none kV27 dc27 pm27 an27 cd27 ct27), sl27⟩)
    (e27 : PySem.W.codeIn K cd27 "_law_pair_right" = true)
    (k27 : PySem.W.keepIn K (.ref f27) = true)
    (a28 : PySem.W.nsIn K mainGlobals "_law_counts_right" = some (some (.ref f28)))
    (l28 : K.lookup f28 = some ⟨oc28, od28, .func (PySem.W.fnOf "_law_counts_right" "_law_counts_right" (defArgs s__law_counts_right) (defBody s__law_counts_right) (defScope s__law_counts_right) .none kV28 dc28 pm28 an28 cd28 ct28), sl28⟩)
    (e28 : PySem.W.codeIn K cd28 "_law_counts_right" = true)
    (k28 : PySem.W.keepIn K (.ref f28) = true)
    (a29 : PySem.W.nsIn K mainGlobals "_law_like_right" = some (some (.ref f29)))
    (l29 : K.lookup f29 = some ⟨oc29, od29, .func (PySem.W.fnOf "_law_like_right" "_law_like_right" (defArgs s__law_like_right) (defBody s__law_like_right) (defScope s__law_like_right) .none kV29 dc29 pm29 an29 cd29 ct29), sl29⟩)
    (e29 : PySem.W.codeIn K cd29 "_law_like_right" = true)
    (k29 : PySem.W.keepIn K (.ref f29) = true)
    (a30 : PySem.W.nsIn K mainGlobals "law" = some (some (.ref f30)))
    (l30 : K.lookup f30 = some ⟨oc30, od30, .func (PySem.W.fnOf "law" "law" (defArgs s_law) (defBody s_law) (defScope s_law) .none kV30 dc30 pm30 an30 cd30 ct30), sl30⟩)
    (e30 : PySem.W.codeIn K cd30 "law" = true)
    (k30 : PySem.W.keepIn K (.ref f30) = true)
    (c_GREATEST_WIDTH : PySem.W.nsIn K mainGlobals "GREATEST_WIDTH" = some (some (.int 120 t_GREATEST_WIDTH)))
    (z_all : PySem.W.nsIn K mainGlobals "all" = some none)
    (z_any : PySem.W.nsIn K mainGlobals "any" = some none)
    (z_bool : PySem.W.nsIn K mainGlobals "bool" = some none)
    (z_enumerate : PySem.W.nsIn K mainGlobals "enumerate" = some none)
    (z_int : PySem.W.nsIn K mainGlobals "int" = some none)
    (z_isinstance : PySem.W.nsIn K mainGlobals "isinstance" = some none)
    (z_len : PySem.W.nsIn K mainGlobals "len" = some none)
    (z_list : PySem.W.nsIn K mainGlobals "list" = some none)
    (z_max : PySem.W.nsIn K mainGlobals "max" = some none)
    (z_range : PySem.W.nsIn K mainGlobals "range" = some none)
    (z_repr : PySem.W.nsIn K mainGlobals "repr" = some none)
    (z_sum : PySem.W.nsIn K mainGlobals "sum" = some none)
    (y_comb : PySem.W.nsIn K mainGlobals "comb" = some (some (.builtin "math.comb"))) :
    ∃ fd : FuncData, (∀ (s : Shared) (v : Value), BindsTo s fd ⟨[v], []⟩ [("_law_script", v)]) ∧ ∀ base : Heap, K.In base → base.Ns mainGlobals mg → FnQ l.prog w K mg base 8 fa fd ["_law_script"] (sp_law K) := by
  have e := hfa.symm.trans (PySem.W.mg_of X G a30)
  cases e
  have F1 := fun_mk (st := s_is_number) l1 e1 k1
  have b1 := F1.binds (ps := ["value"]) fun _ _ _ _ _ _ us hl => match us, hl with | [_], _ => rfl
  have F2 := fun_mk (st := s_is_within) l2 e2 k2
  have b2 := F2.binds (ps := ["value", "low", "high"]) fun _ _ _ _ _ _ us hl => match us, hl with | [_, _, _], _ => rfl
  have F3 := fun_mk (st := s_is_count) l3 e3 k3
  have b3 := F3.binds (ps := ["value"]) fun _ _ _ _ _ _ us hl => match us, hl with | [_], _ => rfl
  have F4 := fun_mk (st := s_is_counts) l4 e4 k4
  have b4 := F4.binds (ps := ["value"]) fun _ _ _ _ _ _ us hl => match us, hl with | [_], _ => rfl
  have F5 := fun_mk (st := s_check_from) l5 e5 k5
  have b5 := F5.binds (ps := ["number", "low"]) fun _ _ _ _ _ _ us hl => match us, hl with | [_, _], _ => rfl
  have F6 := fun_mk (st := s_check_count) l6 e6 k6
  have b6 := F6.binds (ps := ["number"]) fun _ _ _ _ _ _ us hl => match us, hl with | [_], _ => rfl
  have F7 := fun_mk (st := s_check_folds) l7 e7 k7
  have b7 := F7.binds (ps := ["folds"]) fun _ _ _ _ _ _ us hl => match us, hl with | [_], _ => rfl
  have F8 := fun_mk (st := s_check_width) l8 e8 k8
  have b8 := F8.binds (ps := ["width"]) fun _ _ _ _ _ _ us hl => match us, hl with | [_], _ => rfl
  have F9 := fun_mk (st := s_cost_at) l9 e9 k9
  have b9 := F9.binds (ps := ["folds", "width"]) fun _ _ _ _ _ _ us hl => match us, hl with | [_, _], _ => rfl
  have F10 := fun_mk (st := s_longest_bits) l10 e10 k10
  have b10 := F10.binds (ps := ["folds"]) fun _ _ _ _ _ _ us hl => match us, hl with | [_], _ => rfl
  have F11 := fun_mk (st := s_price) l11 e11 k11
  have b11 := F11.binds (ps := ["folds", "width"]) fun _ _ _ _ _ _ us hl => match us, hl with | [_, _], _ => rfl
  have F12 := fun_mk (st := s_bit_counts) l12 e12 k12
  have b12 := F12.binds (ps := ["folds"]) fun _ _ _ _ _ _ us hl => match us, hl with | [_], _ => rfl
  have F13 := fun_mk (st := s_same_prices) l13 e13 k13
  have b13 := F13.binds (ps := ["one", "other"]) fun _ _ _ _ _ _ us hl => match us, hl with | [_, _], _ => rfl
  have F14 := fun_mk (st := s_parting_width) l14 e14 k14
  have b14 := F14.binds (ps := ["one", "other"]) fun _ _ _ _ _ _ us hl => match us, hl with | [_, _], _ => rfl
  have F15 := fun_mk (st := s_row_of_counts) l15 e15 k15
  have b15 := F15.binds (ps := ["many", "counts"]) fun _ _ _ _ _ _ us hl => match us, hl with | [_, _], _ => rfl
  have F16 := fun_mk (st := s_how_many_like) l16 e16 k16
  have b16 := F16.binds (ps := ["folds"]) fun _ _ _ _ _ _ us hl => match us, hl with | [_], _ => rfl
  have F17 := fun_mk (st := s__law_cell) l17 e17 k17
  have b17 := F17.binds (ps := ["_law_script", "_law_index"]) fun _ _ _ _ _ _ us hl => match us, hl with | [_, _], _ => rfl
  have F18 := fun_mk (st := s__law_hash) l18 e18 k18
  have b18 := F18.binds (ps := ["_law_seed", "_law_index"]) fun _ _ _ _ _ _ us hl => match us, hl with | [_, _], _ => rfl
  have F19 := fun_mk (st := s__law_generator) l19 e19 k19
  have b19 := F19.binds (ps := ["_law_script", "_law_index"]) fun _ _ _ _ _ _ us hl => match us, hl with | [_, _], _ => rfl
  have F20 := fun_mk (st := s__law_random) l20 e20 k20
  have b20 := F20.binds (ps := ["_law_generator_here", "_law_bound"]) fun _ _ _ _ _ _ us hl => match us, hl with | [_, _], _ => rfl
  have F21 := fun_mk (st := s__law_price) l21 e21 k21
  have b21 := F21.binds (ps := ["_law_folds_here", "_law_width"]) fun _ _ _ _ _ _ us hl => match us, hl with | [_, _], _ => rfl
  have F22 := fun_mk (st := s__law_folds) l22 e22 k22
  have b22 := F22.binds (ps := ["_law_generator_here", "_law_most"]) fun _ _ _ _ _ _ us hl => match us, hl with | [_, _], _ => rfl
  have F23 := fun_mk (st := s__law_below) l23 e23 k23
  have b23 := F23.binds (ps := ["_law_many", "_law_top"]) fun _ _ _ _ _ _ us hl => match us, hl with | [_, _], _ => rfl
  have F24 := fun_mk (st := s__law_bits) l24 e24 k24
  have b24 := F24.binds (ps := ["_law_folds_here"]) fun _ _ _ _ _ _ us hl => match us, hl with | [_], _ => rfl
  have F25 := fun_mk (st := s__law_prices) l25 e25 k25
  have b25 := F25.binds (ps := ["_law_folds_here"]) fun _ _ _ _ _ _ us hl => match us, hl with | [_], _ => rfl
  have F26 := fun_mk (st := s__law_other) l26 e26 k26
  have b26 := F26.binds (ps := ["_law_generator_here", "_law_folds_here"]) fun _ _ _ _ _ _ us hl => match us, hl with | [_, _], _ => rfl
  have F27 := fun_mk (st := s__law_pair_right) l27 e27 k27
  have b27 := F27.binds (ps := ["_law_one", "_law_other_here"]) fun _ _ _ _ _ _ us hl => match us, hl with | [_, _], _ => rfl
  have F28 := fun_mk (st := s__law_counts_right) l28 e28 k28
  have b28 := F28.binds (ps := ["_law_generator_here"]) fun _ _ _ _ _ _ us hl => match us, hl with | [_], _ => rfl
  have F29 := fun_mk (st := s__law_like_right) l29 e29 k29
  have b29 := F29.binds (ps := ["_law_generator_here"]) fun _ _ _ _ _ _ us hl => match us, hl with | [_], _ => rfl
  have F30 := fun_mk (st := s_law) l30 e30 k30
  have b30 := F30.binds (ps := ["_law_script"]) fun _ _ _ _ _ _ us hl => match us, hl with | [_], _ => rfl
  exact ⟨_, fun s v => .of_eq rfl, fun base _ _ => ok_law { a_is_number := f1, d_is_number := _, f_is_number := F1, b_is_number := b1, g_is_number := PySem.W.mg_of X G a1, a_is_within := f2, d_is_within := _, f_is_within := F2, b_is_within := b2, g_is_within := PySem.W.mg_of X G a2, a_is_count := f3, d_is_count := _, f_is_count := F3, b_is_count := b3, g_is_count := PySem.W.mg_of X G a3, a_is_counts := f4, d_is_counts := _, f_is_counts := F4, b_is_counts := b4, g_is_counts := PySem.W.mg_of X G a4, a_check_from := f5, d_check_from := _, f_check_from := F5, b_check_from := b5, g_check_from := PySem.W.mg_of X G a5, a_check_count := f6, d_check_count := _, f_check_count := F6, b_check_count := b6, g_check_count := PySem.W.mg_of X G a6, a_check_folds := f7, d_check_folds := _, f_check_folds := F7, b_check_folds := b7, g_check_folds := PySem.W.mg_of X G a7, a_check_width := f8, d_check_width := _, f_check_width := F8, b_check_width := b8, g_check_width := PySem.W.mg_of X G a8, a_cost_at := f9, d_cost_at := _, f_cost_at := F9, b_cost_at := b9, g_cost_at := PySem.W.mg_of X G a9, a_longest_bits := f10, d_longest_bits := _, f_longest_bits := F10, b_longest_bits := b10, g_longest_bits := PySem.W.mg_of X G a10, a_price := f11, d_price := _, f_price := F11, b_price := b11, g_price := PySem.W.mg_of X G a11, a_bit_counts := f12, d_bit_counts := _, f_bit_counts := F12, b_bit_counts := b12, g_bit_counts := PySem.W.mg_of X G a12, a_same_prices := f13, d_same_prices := _, f_same_prices := F13, b_same_prices := b13, g_same_prices := PySem.W.mg_of X G a13, a_parting_width := f14, d_parting_width := _, f_parting_width := F14, b_parting_width := b14, g_parting_width := PySem.W.mg_of X G a14, a_row_of_counts := f15, d_row_of_counts := _, f_row_of_counts := F15, b_row_of_counts := b15, g_row_of_counts := PySem.W.mg_of X G a15, a_how_many_like := f16, d_how_many_like := _, f_how_many_like := F16, b_how_many_like := b16, g_how_many_like := PySem.W.mg_of X G a16, a__law_cell := f17, d__law_cell := _, f__law_cell := F17, b__law_cell := b17, g__law_cell := PySem.W.mg_of X G a17, a__law_hash := f18, d__law_hash := _, f__law_hash := F18, b__law_hash := b18, g__law_hash := PySem.W.mg_of X G a18, a__law_generator := f19, d__law_generator := _, f__law_generator := F19, b__law_generator := b19, g__law_generator := PySem.W.mg_of X G a19, a__law_random := f20, d__law_random := _, f__law_random := F20, b__law_random := b20, g__law_random := PySem.W.mg_of X G a20, a__law_price := f21, d__law_price := _, f__law_price := F21, b__law_price := b21, g__law_price := PySem.W.mg_of X G a21, a__law_folds := f22, d__law_folds := _, f__law_folds := F22, b__law_folds := b22, g__law_folds := PySem.W.mg_of X G a22, a__law_below := f23, d__law_below := _, f__law_below := F23, b__law_below := b23, g__law_below := PySem.W.mg_of X G a23, a__law_bits := f24, d__law_bits := _, f__law_bits := F24, b__law_bits := b24, g__law_bits := PySem.W.mg_of X G a24, a__law_prices := f25, d__law_prices := _, f__law_prices := F25, b__law_prices := b25, g__law_prices := PySem.W.mg_of X G a25, a__law_other := f26, d__law_other := _, f__law_other := F26, b__law_other := b26, g__law_other := PySem.W.mg_of X G a26, a__law_pair_right := f27, d__law_pair_right := _, f__law_pair_right := F27, b__law_pair_right := b27, g__law_pair_right := PySem.W.mg_of X G a27, a__law_counts_right := f28, d__law_counts_right := _, f__law_counts_right := F28, b__law_counts_right := b28, g__law_counts_right := PySem.W.mg_of X G a28, a__law_like_right := f29, d__law_like_right := _, f__law_like_right := F29, b__law_like_right := b29, g__law_like_right := PySem.W.mg_of X G a29, a_law := fa, d_law := _, f_law := F30, b_law := b30, g_law := PySem.W.mg_of X G a30, t_GREATEST_WIDTH := t_GREATEST_WIDTH, c_GREATEST_WIDTH := PySem.W.mg_of X G c_GREATEST_WIDTH, m_all := PySem.W.mg_none_of X G z_all, m_any := PySem.W.mg_none_of X G z_any, m_bool := PySem.W.mg_none_of X G z_bool, m_enumerate := PySem.W.mg_none_of X G z_enumerate, m_int := PySem.W.mg_none_of X G z_int, m_isinstance := PySem.W.mg_none_of X G z_isinstance, m_len := PySem.W.mg_none_of X G z_len, m_list := PySem.W.mg_none_of X G z_list, m_max := PySem.W.mg_none_of X G z_max, m_range := PySem.W.mg_none_of X G z_range, m_repr := PySem.W.mg_none_of X G z_repr, m_sum := PySem.W.mg_none_of X G z_sum, mt_comb := PySem.W.mg_of X G y_comb }⟩
end K40
open PySem PySem.W PyProof.Rows
set_option maxHeartbeats 0 in
theorem PySem.Challenge.cw_wholesound_k40_prices_by_bits_holds : PySem.Challenge.rw_wholesound_k40_prices_by_bits.Holds := by
  w_on; o_law; k_head; (case hw => w_witness2)
  k_fill
  refine WS.walk_ofQ (l := PySem.Challenge.rw_wholesound_k40_prices_by_bits) (n := 63) (k := 8) (x := "_law_script") (sp := fun w => K40.sp_law _) rfl (by decide) rfl ⟨rfl, by decide, by decide⟩ (fun w h Y => PySem.W.kIn_of Y) ?F (fun _ _ a ns hl _ hS => ⟨a, ns, rfl, hS, hl, fun _ => rfl⟩)
  case F =>
    intro w mg fa h KX G hmg
    refine' K40.all_mk KX G hmg ?a1 ?l1 ?e1 ?k1 ?a2 ?l2 ?e2 ?k2 ?a3 ?l3 ?e3 ?k3 ?a4 ?l4 ?e4 ?k4 ?a5 ?l5 ?e5 ?k5 ?a6 ?l6 ?e6 ?k6 ?a7 ?l7 ?e7 ?k7 ?a8 ?l8 ?e8 ?k8 ?a9 ?l9 ?e9 ?k9 ?a10 ?l10 ?e10 ?k10 ?a11 ?l11 ?e11 ?k11 ?a12 ?l12 ?e12 ?k12 ?a13 ?l13 ?e13 ?k13 ?a14 ?l14 ?e14 ?k14 ?a15 ?l15 ?e15 ?k15 ?a16 ?l16 ?e16 ?k16 ?a17 ?l17 ?e17 ?k17 ?a18 ?l18 ?e18 ?k18 ?a19 ?l19 ?e19 ?k19 ?a20 ?l20 ?e20 ?k20 ?a21 ?l21 ?e21 ?k21 ?a22 ?l22 ?e22 ?k22 ?a23 ?l23 ?e23 ?k23 ?a24 ?l24 ?e24 ?k24 ?a25 ?l25 ?e25 ?k25 ?a26 ?l26 ?e26 ?k26 ?a27 ?l27 ?e27 ?k27 ?a28 ?l28 ?e28 ?k28 ?a29 ?l29 ?e29 ?k29 ?a30 ?l30 ?e30 ?k30 ?c_GREATEST_WIDTH ?z_all ?z_any ?z_bool ?z_enumerate ?z_int ?z_isinstance ?z_len ?z_list ?z_max ?z_range ?z_repr ?z_sum ?y_comb
    (case a1 => k_is); (case l1 => k_is); (case e1 => k_is); (case k1 => k_is); (case a2 => k_is); (case l2 => k_is)
    (case e2 => k_is); (case k2 => k_is); (case a3 => k_is); (case l3 => k_is); (case e3 => k_is); (case k3 => k_is)
    (case a4 => k_is); (case l4 => k_is); (case e4 => k_is); (case k4 => k_is); (case a5 => k_is); (case l5 => k_is)
    (case e5 => k_is); (case k5 => k_is); (case a6 => k_is); (case l6 => k_is); (case e6 => k_is); (case k6 => k_is)
    (case a7 => k_is); (case l7 => k_is); (case e7 => k_is); (case k7 => k_is); (case a8 => k_is); (case l8 => k_is)
    (case e8 => k_is); (case k8 => k_is); (case a9 => k_is); (case l9 => k_is); (case e9 => k_is); (case k9 => k_is)
    (case a10 => k_is); (case l10 => k_is); (case e10 => k_is); (case k10 => k_is); (case a11 => k_is); (case l11 => k_is)
    (case e11 => k_is); (case k11 => k_is); (case a12 => k_is); (case l12 => k_is); (case e12 => k_is); (case k12 => k_is)
    (case a13 => k_is); (case l13 => k_is); (case e13 => k_is); (case k13 => k_is); (case a14 => k_is); (case l14 => k_is)
    (case e14 => k_is); (case k14 => k_is); (case a15 => k_is); (case l15 => k_is); (case e15 => k_is); (case k15 => k_is)
    (case a16 => k_is); (case l16 => k_is); (case e16 => k_is); (case k16 => k_is); (case a17 => k_is); (case l17 => k_is)
    (case e17 => k_is); (case k17 => k_is); (case a18 => k_is); (case l18 => k_is); (case e18 => k_is); (case k18 => k_is)
    (case a19 => k_is); (case l19 => k_is); (case e19 => k_is); (case k19 => k_is); (case a20 => k_is); (case l20 => k_is)
    (case e20 => k_is); (case k20 => k_is); (case a21 => k_is); (case l21 => k_is); (case e21 => k_is); (case k21 => k_is)
    (case a22 => k_is); (case l22 => k_is); (case e22 => k_is); (case k22 => k_is); (case a23 => k_is); (case l23 => k_is)
    (case e23 => k_is); (case k23 => k_is); (case a24 => k_is); (case l24 => k_is); (case e24 => k_is); (case k24 => k_is)
    (case a25 => k_is); (case l25 => k_is); (case e25 => k_is); (case k25 => k_is); (case a26 => k_is); (case l26 => k_is)
    (case e26 => k_is); (case k26 => k_is); (case a27 => k_is); (case l27 => k_is); (case e27 => k_is); (case k27 => k_is)
    (case a28 => k_is); (case l28 => k_is); (case e28 => k_is); (case k28 => k_is); (case a29 => k_is); (case l29 => k_is)
    (case e29 => k_is); (case k29 => k_is); (case a30 => k_is); (case l30 => k_is); (case e30 => k_is); (case k30 => k_is)
    (case c_GREATEST_WIDTH => k_is); (case z_all => k_is); (case z_any => k_is); (case z_bool => k_is); (case z_enumerate => k_is); (case z_int => k_is)
    (case z_isinstance => k_is); (case z_len => k_is); (case z_list => k_is); (case z_max => k_is); (case z_range => k_is); (case z_repr => k_is)
    (case z_sum => k_is); (case y_comb => k_is)
