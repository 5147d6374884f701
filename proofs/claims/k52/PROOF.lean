import PyProof.Rows.All
import Wide.All
import OpenK.AllK
import Wide.FinOn
import HandS.ForMost
import HandS.Evl
import HandS.WideBits
import HandS.WideMore
import HandS.Style
import HandS.IsInst
import HandS.OwnEq
import HandS.Iter
import HandS.Gcd
import HandS.SortKw
import KE.KMathGC
import KE.DatumOrd
import HandS.Deep
import PySem.Challenge.RW_wholesound_k52_shares_means_and_gaps
set_option Elab.async false
set_option linter.all false
set_option maxRecDepth 100000
set_option maxHeartbeats 2000000
namespace WS
open PySem PySem.Spec PyProof.Rows L2 Evl

/-! ### a power of any size -/
def CPowW (i j : Int) : Prop := 0 ≤ j ∧ (Builtin.Int.intBits i : Int) * j ≤ 2 ^ 27
section
variable {X : Cx}
theorem op_powW : OpR X (binaryOp .Pow) (rI CPowW fun i j => .int (i ^ j.toNat)) := opI fun _ _ _ _ _ _ _ hc q => pow_int hc.1 hc.2 q
end

section
variable {K : PySem.W.Frag} {σ : L2.St} {H H' : Hp} {ta tb te tx tl : TE} {t u : TT} {x y z v : V} {r : R2} {D : Ends} {tu tw tz : TS} {g : TG}
theorem ev_sumN {ns : List Int} (h : EvL te σ H (ns.map V.int)) : Ev (tCB (rSum K) (tCons te tNil)) σ H (.int ns.sum) := fun H1 e Q q =>
  h H1 e _ fun p H2 _ e2 h2 => ⟨p, ns, rfl, sq_of h2, q H2 e2⟩
theorem ev_sum {p : Addr} {ns : List Int} (h : Ev te σ H (.ref p)) (hp : SqL K H p (ns.map V.int)) : Ev (tCB (rSum K) (tCons te tNil)) σ H (.int ns.sum) := fun H1 e Q q =>
  h H1 e _ fun H2 e2 => ⟨p, ns, rfl, ex_l (e.trans e2) hp, q H2 e2⟩
theorem ev_allN {bs : List Bool} (h : EvL te σ H (bs.map V.bl)) : Ev (tCB (rAll K) (tCons te tNil)) σ H (.bl (bs.all id)) := fun H1 e Q q =>
  h H1 e _ fun p H2 _ e2 h2 => ⟨p, bs, rfl, sq_of h2, q H2 e2⟩
theorem ev_min {p : Addr} {ns : List Int} {m : Int} (h : Ev te σ H (.ref p)) (hp : SqL K H p (ns.map V.int)) (hm : m ∈ ns) (hle : ∀ y ∈ ns, m ≤ y) : Ev (tCB (rMin K) (tCons te tNil)) σ H (.int m) := fun H1 e Q q =>
  h H1 e _ fun H2 e2 => ⟨p, ns, rfl, ex_l (e.trans e2) hp, by cases ns with | nil => cases hm | cons a r => simp, fun k hk hkl => by
    have : k = m := Int.le_antisymm (hkl m hm) (hle k hk)
    rw [this]
    exact q H2 e2⟩
def rInt1 : List V → Hp → VK → Prop := fun xs H Q => (∃ i, xs = [.int i] ∧ Q (.int i) H) ∨ ∃ k, xs = [.bl k] ∧ Q (.int (if k then 1 else 0)) H
theorem ev_int {i : Int} (h : Ev te σ H (.int i)) : Ev (tCB rInt1 (tCons te tNil)) σ H (.int i) := fun H1 e Q q =>
  h H1 e _ fun H2 e2 => Or.inl ⟨i, rfl, q H2 e2⟩
theorem ev_intB {k : Bool} (h : Ev te σ H (.bl k)) : Ev (tCB rInt1 (tCons te tNil)) σ H (.int (if k then 1 else 0)) := fun H1 e Q q =>
  h H1 e _ fun H2 e2 => Or.inr ⟨k, rfl, q H2 e2⟩
theorem ev_bits {i : Int} (h : Ev te σ H (.int i)) : Ev (tBits te) σ H (.int (Builtin.Int.intBits i : Nat)) := fun H1 e Q q =>
  h H1 e _ fun H2 e2 => ⟨i, rfl, q H2 e2⟩
/-- isinstance of a scalar -/
theorem ev_isi {ty : Value} {b : Bool} {n : String} (h : Ev te σ H x) (ht : ∀ H1, Ex H H1 → TyX K H1 x ty) (hk : PySem.W.kitOne K ty (.type n) = some b) : Ev (tCB (rIsi K) (tCons te (tCons (tC (.ty n)) tNil))) σ H (.bl b) := fun H1 e Q q =>
  h H1 e _ fun H2 e2 => ⟨x, .ty n, ty, .type n, b, rfl, ClsV.ty n, ht H2 (e.trans e2), hk, q H2 e2⟩
theorem ev_isiI {i : Int} {b : Bool} {n : String} (h : Ev te σ H (.int i)) (hk : kitB "int" n = some b) : Ev (tCB (rIsi K) (tCons te (tCons (tC (.ty n)) tNil))) σ H (.bl b) :=
  ev_isi h (fun _ _ => TyX.base (TyOf.int i)) (kit_ty hk)
theorem ev_isiL {p : Addr} {xs : List V} {b : Bool} {n : String} (h : Ev te σ H (.ref p)) (hp : H p = some (.lst xs)) (hk : kitB "list" n = some b) : Ev (tCB (rIsi K) (tCons te (tCons (tC (.ty n)) tNil))) σ H (.bl b) :=
  ev_isi h (fun _ e => TyX.base (TyOf.lst (e _ _ hp))) (kit_ty hk)
theorem ev_chain {r' : R2} {tc : TE} {w' : V} {k k' : Bool} (ha : Ev ta σ H x) (hb : Ev tb σ H y) (hr : RV r x y H (.bl k)) (hc : Ev tc σ H w') (hr' : RV r' y w' H (.bl k')) : Ev (tChain r r' ta tb tc) σ H (.bl (k && k')) := fun H1 e Q q =>
  ha H1 e _ fun H2 e2 => hb H2 (e.trans e2) _ fun H3 e3 => hr H3 ((e.trans e2).trans e3) _ fun H4 e4 => ⟨k, rfl, by
    have e' := ((e.trans e2).trans e3).trans e4
    cases k with
    | true =>
      rw [if_pos rfl]
      exact hc H4 e' _ fun H5 e5 => hr' H5 (e'.trans e5) Q fun H6 e6 => q H6 ((((e2.trans e3).trans e4).trans e5).trans e6)
    | false =>
      rw [if_neg Bool.false_ne_true]
      exact q H4 ((e2.trans e3).trans e4)⟩
/-- [f(x) for x in ns] -/
theorem given_map {α : Type} (xs : List α) (d : α) (f : α → V) : given xs.length (fun _ => true) (fun i => f (xs.getD i d)) = xs.map f := by
  unfold given
  rw [List.filter_eq_self.mpr (fun _ _ => rfl)]
  apply List.ext_getElem?
  intro i
  rw [List.getElem?_map, List.getElem?_map]
  by_cases h : i < xs.length
  · rw [List.getElem?_range h, List.getElem?_eq_getElem h]
    simp only [Option.map_some]
    rw [List.getD_eq_getElem?_getD, List.getElem?_eq_getElem h] <;> rfl
  · rw [List.getElem?_eq_none (by rw [List.length_range]; omega), List.getElem?_eq_none (by omega)]
    rfl
theorem el_map {a : Addr} {j : Nat} {vs : List Nat} {α : Type} (d : α) {xs : List α} {c : α → V} (f : α → V) (h : Ev tl σ H (.ref a)) (hx : SqL K H a (xs.map c)) (hz : xs.length ≤ 40000) (hw : ∀ x, wipe ((wipe σ vs).set j (some x)) vs = wipe σ vs)
    (he : ∀ (x : α) H1, Ex H H1 → x ∈ xs → Ev te ((wipe σ vs).set j (some (c x))) H1 (f x)) : EvL (tLc (iList K tl) (gName j) tYes te vs) σ H (xs.map f) := by
  rw [← given_map xs d f]
  have hl : (xs.map c).length = xs.length := List.length_map _
  rw [← hl]
  refine el_lcL (fun _ => true) _ h hx (by rw [hl]; exact hz) hw (fun i x H1 e hi => fun H2 _ Q q => q H2 (Ex.refl H2)) (fun i x H1 e hi _ => ?_)
  rw [List.getElem?_map] at hi
  cases hq : xs[i]? with
  | none => rw [hq] at hi; cases hi
  | some y =>
    rw [hq] at hi
    have ey : c y = x := Option.some.inj hi
    rw [← ey, List.getD_eq_getElem?_getD, hq]
    exact he y H1 e (List.mem_of_getElem? hq)
/-- [f(i) for i in range(n)] -/
theorem el_mapR {a : TA} {j : Nat} {vs : List Nat} {n : Nat} (f : Nat → V) (h : EvA a σ H [.int (n : Int)]) (hn : n ≤ 40000) (hw : ∀ x, wipe ((wipe σ vs).set j (some x)) vs = wipe σ vs)
    (he : ∀ (i : Nat) H1, Ex H H1 → i < n → Ev te ((wipe σ vs).set j (some (.int (i : Int)))) H1 (f i)) : EvL (tLc (iRng1 a) (gName j) tYes te vs) σ H ((List.range n).map f) := by
  have k := el_lcR1 (t := tYes) (te := te) (j := j) (vs := vs) (fun _ => true) f h (by omega) hw (fun i H1 e hi => fun H2 _ Q q => q H2 (Ex.refl H2)) (fun i H1 e hi _ => he i H1 e (by omega))
  unfold given at k
  rw [List.filter_eq_self.mpr (fun _ _ => rfl), Int.toNat_natCast] at k
  exact k
theorem et_if {b : Bool} {te1 te2 : TE} (h : EvT t σ H b) (h1 : b = true → Ev te1 σ H v) (h2 : b = false → Ev te2 σ H v) : Ev (tIf t te1 te2) σ H v := ev_if h h1 h2
/-- a call whose argument is a new list -/
theorem ev_callN {sp : Sp} {xs : List V} {E : XK} (h : EvL te σ H xs) (hs : ∀ p H1, H1 p = some (.lst xs) → Ex H H1 → SpV sp [.ref p] H1 z) : Ev (tCall sp [] E (tCons te tNil)) σ H z := fun H1 e Q q =>
  h H1 e _ fun p H2 _ e2 hp => hs p H2 hp (e.trans e2) H2 (Ex.refl H2) Q (fun H3 e3 => q H3 (e2.trans e3)) E
theorem ev_op2 {H0 : Hp} (e : Ex H0 H) (h : Ev te σ H0 v) : Ev te σ H v := h.mono e
end
/-! ### frames where one object may change -/
/-- all that was tracked but at g is as it was -/
def ExB (g : Addr) (H H' : Hp) : Prop := ∀ a o, a ≠ g → H a = some o → H' a = some o
theorem ExB.refl (g : Addr) (H : Hp) : ExB g H H := fun _ _ _ h => h
theorem ExB.trans {g : Addr} {H H1 H2 : Hp} (a : ExB g H H1) (b : ExB g H1 H2) : ExB g H H2 := fun x o n h => b x o n (a x o n h)
theorem ExB.of {g : Addr} {H H1 : Hp} (a : Ex H H1) : ExB g H H1 := fun x o _ h => a x o h
theorem ExB.upd {g : Addr} {H H1 : Hp} {o : HO} (a : ExB g H H1) : ExB g H (upd H1 g o) := fun x u n h => by
  rw [upd_ne n]
  exact a x u n h
theorem exb_new {g : Addr} {H H1 H2 : Hp} (e : Ex H H1) (hg : H g = none) (E : ExB g H1 H2) : Ex H H2 := fun b o h => E b o (ne_of_none h hg) (e b o h)
theorem ExB.back {g : Addr} {H H' : Hp} {o : HO} (e : ExB g H H') (hg : H' g = some o) {p : Addr} (h : H' p = none) : H p = none := by
  cases q : H p with
  | none => rfl
  | some u =>
    by_cases n : p = g
    · rw [n, hg] at h; cases h
    · rw [e p u n q] at h; cases h

/-! ### data: scalars, lists and tuples of them -/
def sD : V → PyData
  | .int i => .int i
  | .bl b => .bool b
  | _ => .none
def isSc : V → Bool
  | .int _ => true
  | .bl _ => true
  | .non => true
  | _ => false
section
variable {K : PySem.W.Frag} {H : Hp}
theorem dp_sc {v : V} (h : isSc v = true) : Dp K H v (sD v) := by
  cases v <;> first | cases h | skip
  · exact .non
  · exact .bl _
  · exact .int _
theorem dpAll_sc : ∀ {vs : List V}, vs.all isSc = true → DpAll K H vs (vs.map sD)
  | [], _ => .nil
  | v :: r, h => by
    rw [List.all_cons, Bool.and_eq_true] at h
    exact .cons (dp_sc h.1) (dpAll_sc h.2)
theorem lay_sc (v : V) : PyData.canLay0 (sD v) = true := by
  cases v <;> rfl
theorem layAll_sc : ∀ vs : List V, PyData.canLayAll0 (vs.map sD) = true
  | [] => rfl
  | v :: r => by
    rw [List.map_cons, PyData.canLayAll0, lay_sc v, layAll_sc r]
    rfl
theorem depth_sc (v : V) : PyData.depth (sD v) = 0 := by
  cases v <;> rfl
theorem depthAll_sc : ∀ vs : List V, PyData.depthAll (vs.map sD) = 0
  | [] => rfl
  | v :: r => by
    rw [List.map_cons, PyData.depthAll, depth_sc v, depthAll_sc r]
    rfl
theorem shaped_tup (vs : List V) : SeqAt.shaped (.tuple (vs.map sD)) = true := by
  unfold SeqAt.shaped
  rw [PyData.canLay0, layAll_sc, PyData.depth, depthAll_sc]
  rfl
theorem shaped_lst (vs : List V) : SeqAt.shaped (.list (vs.map sD)) = true := by
  unfold SeqAt.shaped
  rw [PyData.canLay0, layAll_sc, PyData.depth, depthAll_sc]
  rfl
theorem ints_sc : ∀ ns : List Int, (ns.map V.int).all isSc = true
  | [] => rfl
  | _ :: r => by rw [List.map_cons, List.all_cons, ints_sc r]; rfl
theorem ints_sD (ns : List Int) : (ns.map V.int).map sD = ns.map PyData.int := by rw [List.map_map]; rfl
/-- two tuples with the same scalars -/
theorem rv_neT {a b : Addr} {xs : List V} (ha : H a = some (.tup xs)) (hb : H b = some (.tup xs)) (h : xs.all isSc = true) : RV (rNeD K) (.ref a) (.ref b) H (.bl false) := fun H1 e Q q =>
  ⟨.tuple (xs.map sD), .tuple (xs.map sD), .tup (st_of (e _ _ ha)) (dpAll_sc h), .tup (st_of (e _ _ hb)) (dpAll_sc h), shaped_tup xs, shaped_tup xs, by
    rw [SeqAt.eqv_refl _ (SeqAt.canLay_of_shaped (shaped_tup xs))]
    exact q H1 (Ex.refl H1)⟩
theorem rv_eqT {a b : Addr} {xs : List V} (ha : H a = some (.tup xs)) (hb : H b = some (.tup xs)) (h : xs.all isSc = true) : RV (rEqD K) (.ref a) (.ref b) H (.bl true) := fun H1 e Q q =>
  ⟨.tuple (xs.map sD), .tuple (xs.map sD), .tup (st_of (e _ _ ha)) (dpAll_sc h), .tup (st_of (e _ _ hb)) (dpAll_sc h), shaped_tup xs, shaped_tup xs, by
    rw [SeqAt.eqv_refl _ (SeqAt.canLay_of_shaped (shaped_tup xs))]
    exact q H1 (Ex.refl H1)⟩
/-- two lists of ints -/
theorem rv_eqI {a b : Addr} {ns ms : List Int} (ha : SqL K H a (ns.map V.int)) (hb : SqL K H b (ms.map V.int)) : RV (rEqD K) (.ref a) (.ref b) H (.bl (decide (ns = ms))) := fun H1 e Q q =>
  ⟨.list ((ns.map V.int).map sD), .list ((ms.map V.int).map sD), .lst (ex_l e ha) (dpAll_sc (ints_sc ns)), .lst (ex_l e hb) (dpAll_sc (ints_sc ms)), shaped_lst _, shaped_lst _, by
    rw [ints_sD, ints_sD, PyData.eqv, PySem.W.ked_eqvAll]
    exact q H1 (Ex.refl H1)⟩
theorem rv_neI {a b : Addr} {ns ms : List Int} (ha : SqL K H a (ns.map V.int)) (hb : SqL K H b (ms.map V.int)) : RV (rNeD K) (.ref a) (.ref b) H (.bl (!decide (ns = ms))) := fun H1 e Q q =>
  ⟨.list ((ns.map V.int).map sD), .list ((ms.map V.int).map sD), .lst (ex_l e ha) (dpAll_sc (ints_sc ns)), .lst (ex_l e hb) (dpAll_sc (ints_sc ms)), shaped_lst _, shaped_lst _, by
    rw [ints_sD, ints_sD, PyData.eqv, PySem.W.ked_eqvAll]
    exact q H1 (Ex.refl H1)⟩
end
/-- a new tuple is handed back -/
def RetU (xs : List V) (H : Hp) (Q : VK) : Prop := ∀ p H2, H p = none → Ex H H2 → H2 p = some (.tup xs) → Q (.ref p) H2
theorem RetU.go {xs : List V} {H H' : Hp} {Q : VK} (k : RetU xs H Q) (e : Ex H H') {p : Addr} {H2 : Hp} (hp : H' p = none) (e2 : Ex H' H2) (h : H2 p = some (.tup xs)) : Q (.ref p) H2 := k p H2 (fresh_back e hp) (e.trans e2) h
theorem RetU.ex {xs : List V} {H H' : Hp} {Q : VK} (k : RetU xs H Q) (e : Ex H H') : RetU xs H' Q := fun p H2 hp e2 h => k p H2 (fresh_back e hp) (e.trans e2) h
theorem eu_if {σ : L2.St} {H : Hp} {t : TT} {ta tb : TE} {xs : List V} {b : Bool} (h : EvT t σ H b) (h1 : b = true → EvU ta σ H xs) (h2 : b = false → EvU tb σ H xs) : EvU (tIf t ta tb) σ H xs := fun H1 e Q q => h H1 e _ fun H2 e2 => by
  cases b with
  | true =>
    show ta σ H2 Q
    exact h1 rfl H2 (e.trans e2) Q fun p H3 hp e3 h3 => q p H3 (fresh_back e2 hp) (e2.trans e3) h3
  | false =>
    show tb σ H2 Q
    exact h2 rfl H2 (e.trans e2) Q fun p H3 hp e3 h3 => q p H3 (fresh_back e2 hp) (e2.trans e3) h3
section
variable {K : PySem.W.Frag} {σ : L2.St} {H H' : Hp} {ta tb te tx tl : TE} {tr : TA} {t u : TT} {x y z v : V} {r : R2} {D : Ends} {tu tw tz : TS}
/-- the first operand a new tuple -/
theorem ev_opU1 {xs : List V} (ha : EvU ta σ H xs) (hb : ∀ H1, Ex H H1 → Ev tb σ H1 y) (hr : ∀ p H1, H1 p = some (.tup xs) → Ex H H1 → RV r (.ref p) y H1 z) : Ev (tOp r ta tb) σ H z := fun H1 e Q q =>
  ha H1 e _ fun p H2 _ e2 hp => hb H2 (e.trans e2) H2 (Ex.refl H2) _ fun H3 e3 => hr p H3 (e3 p _ hp) ((e.trans e2).trans e3) H3 (Ex.refl H3) Q fun H4 e4 => q H4 ((e2.trans e3).trans e4)
theorem el_cat {a b : Addr} {xs zs : List V} (ha : Ev ta σ H (.ref a)) (hb : Ev tb σ H (.ref b)) (h1 : H a = some (.lst xs)) (h2 : H b = some (.lst zs)) (hz : xs.length + zs.length ≤ 100000) : EvL (tOp rCat ta tb) σ H (xs ++ zs) := fun H1 e Q q =>
  ha H1 e _ fun H2 e2 => hb H2 (e.trans e2) _ fun H3 e3 => ⟨a, b, xs, zs, rfl, rfl, e3 _ _ (e2 _ _ (e _ _ h1)), e3 _ _ (e2 _ _ (e _ _ h2)), sz_of hz, fun p hp => q p _ (fresh_back (e2.trans e3) hp) ((e2.trans e3).trans (Ex.new hp)) upd_same⟩
/-- the second one a new list -/
theorem el_catN {a : Addr} {xs zs : List V} (ha : Ev ta σ H (.ref a)) (hb : EvL tb σ H zs) (h1 : H a = some (.lst xs)) (hz : xs.length + zs.length ≤ 100000) : EvL (tOp rCat ta tb) σ H (xs ++ zs) := fun H1 e Q q =>
  ha H1 e _ fun H2 e2 => hb H2 (e.trans e2) _ fun b H3 _ e3 h3 => ⟨a, b, xs, zs, rfl, rfl, e3 _ _ (e2 _ _ (e _ _ h1)), h3, sz_of hz, fun p hp => q p _ (fresh_back (e2.trans e3) hp) ((e2.trans e3).trans (Ex.new hp)) upd_same⟩
/-- a slice of a new list -/
theorem el_slN {tl th : TO} {xs : List V} {lo hi : Option Int} (h : EvL te σ H xs) (h1 : ∀ H1, Ex H H1 → EvO tl σ H1 lo) (h2 : ∀ H1, Ex H H1 → EvO th σ H1 hi) : EvL (tSl (rSlL K) te tl th) σ H (cutV xs lo hi) := fun H1 e _ q =>
  h H1 e _ fun a H2 _ e2 ha => h1 H2 (e.trans e2) H2 (Ex.refl H2) _ fun H3 e3 => h2 H3 ((e.trans e2).trans e3) H3 (Ex.refl H3) _ fun H4 e4 =>
    ⟨a, xs, rfl, sq_of (e4 _ _ (e3 _ _ ha)), fun p hp => q p _ (fresh_back ((e2.trans e3).trans e4) hp) (((e2.trans e3).trans e4).trans (Ex.new hp)) upd_same⟩
theorem el_rev {a : Addr} {xs : List V} (h : Ev te σ H (.ref a)) (hx : SqL K H a xs) : EvL (tRevL K te) σ H xs.reverse := fun H1 e _ q =>
  h H1 e _ fun H2 e2 => ⟨a, xs, rfl, ex_l (e.trans e2) hx, fun p hp => q p _ (fresh_back e2 hp) (e2.trans (Ex.new hp)) upd_same⟩
theorem rv_isN {x : V} : RV (fun x y H Q => y = .non ∧ Q (.bl (decide (x = .non))) H) x .non H (.bl (decide (x = .non))) := fun H1 _ _ q => ⟨rfl, q H1 (Ex.refl H1)⟩
theorem q_par {i j : Nat} {tr : TA} (k : tr σ H fun vs H1 => ∃ v w, vs = [v, w] ∧ tz D ((σ.set i (some v)).set j (some w)) H1) : tSeq (tPar i j tr) tz D σ H := k
theorem s_par {i j : Nat} {tr : TA} (k : tr σ H fun vs H1 => ∃ v w, vs = [v, w] ∧ D.nx ((σ.set i (some v)).set j (some w)) H1) : tPar i j tr D σ H := k
theorem q_parV {i j : Nat} {tr : TA} {v w : V} (h : EvA tr σ H [v, w]) (k : ∀ H1, Ex H H1 → tz D ((σ.set i (some v)).set j (some w)) H1) : tSeq (tPar i j tr) tz D σ H := h H (Ex.refl H) _ fun H1 e => ⟨v, w, rfl, k H1 e⟩
/-! steps of a reading at a heap -/
theorem ta_consU {Q : List V → Hp → Prop} {xs : List V} (h : EvU te σ H xs) (k : ∀ p H1, H p = none → Ex H H1 → H1 p = some (.tup xs) → tr σ H1 fun vs H2 => Q (.ref p :: vs) H2) : tCons te tr σ H Q := h H (Ex.refl H) _ fun p H1 hp e h1 => k p H1 hp e h1
theorem ta_consL {Q : List V → Hp → Prop} {xs : List V} (h : EvL te σ H xs) (k : ∀ p H1, H p = none → Ex H H1 → H1 p = some (.lst xs) → tr σ H1 fun vs H2 => Q (.ref p :: vs) H2) : tCons te tr σ H Q := h H (Ex.refl H) _ fun p H1 hp e h1 => k p H1 hp e h1
theorem ta_consV {Q : List V → Hp → Prop} (h : Ev te σ H v) (k : ∀ H1, Ex H H1 → tr σ H1 fun vs H2 => Q (v :: vs) H2) : tCons te tr σ H Q := h H (Ex.refl H) _ fun H1 e => k H1 e
theorem el_use {Q : VK} {xs : List V} (h : EvL te σ H xs) (k : ∀ p H1, H p = none → Ex H H1 → H1 p = some (.lst xs) → Q (.ref p) H1) : te σ H Q := h H (Ex.refl H) _ fun p H1 hp e h1 => k p H1 hp e h1
theorem eu_use {Q : VK} {xs : List V} (h : EvU te σ H xs) (k : ∀ p H1, H p = none → Ex H H1 → H1 p = some (.tup xs) → Q (.ref p) H1) : te σ H Q := h H (Ex.refl H) _ fun p H1 hp e h1 => k p H1 hp e h1
theorem ev_use {Q : VK} (h : Ev te σ H v) (k : ∀ H1, Ex H H1 → Q v H1) : te σ H Q := h H (Ex.refl H) _ fun H1 e => k H1 e
theorem top_in {Q : VK} (k : ta σ H fun x H1 => tb σ H1 fun y H2 => r x y H2 Q) : tOp r ta tb σ H Q := k
theorem q_in {te : TE} {i : Nat} (k : te σ H fun x H1 => tz D (σ.set i (some x)) H1) : tSeq (tAsg te (gName i)) tz D σ H := k
theorem r_in {te : TE} (k : te σ H D.rt) : tRet te D σ H := k
theorem ta_in {Q : List V → Hp → Prop} {te : TE} (k : te σ H fun x H1 => tr σ H1 fun vs H2 => Q (x :: vs) H2) : tCons te tr σ H Q := k
theorem tup_in {Q : VK} (k : tr σ H fun vs H1 => vs.length ≤ sizeLine ∧ ∀ p, H1 p = none → Q (.ref p) (upd H1 p (.tup vs))) : tTup tr σ H Q := k
theorem et_use {Q : Bool → Hp → Prop} {b : Bool} (h : EvT t σ H b) (k : ∀ H1, Ex H H1 → Q b H1) : t σ H Q := h H (Ex.refl H) _ fun H1 e => k H1 e
theorem tif_in {Q : VK} (k : t σ H fun c H1 => if c = true then ta σ H1 Q else tb σ H1 Q) : tIf t ta tb σ H Q := k
theorem tcall_in {sp : Sp} {dvs : List V} {E : XK} {Q : VK} (k : tr σ H fun vs H1 => sp (vs ++ dvs) H1 Q E) : tCall sp dvs E tr σ H Q := k
theorem tb_in {te : TE} {Q : Bool → Hp → Prop} (k : te σ H fun x H1 => ∃ c, x = .bl c ∧ Q c H1) : tB te σ H Q := k
theorem ta_nil {Q : List V → Hp → Prop} (k : Q [] H) : tNil σ H Q := k
theorem tl_lst {Q : VK} (k : tr σ H fun vs H1 => vs.length ≤ sizeLine ∧ ∀ p, H1 p = none → Q (.ref p) (upd H1 p (.lst vs))) : tLst tr σ H Q := k
end
section
variable {K : PySem.W.Frag} {σ : L2.St} {H H' : Hp} {ta tb te tx tl : TE} {tr : TA} {t u : TT} {x y z v : V} {r : R2} {D : Ends} {tu tw tz : TS} {g : TG}
/-- for i, x in enumerate(xs) -/
theorem s_forEnum {a : Addr} {xs : List V} (h : EvA tr σ H [.ref a]) (hx : SqL K H a xs) (Pv : Nat → L2.St → Hp → Prop) (h0 : ∀ H1, Ex H H1 → Pv 0 σ H1) (hl : ∀ i σ' H', i ≤ xs.length → Pv i σ' H' → SqL K H' a xs)
    (hs : ∀ i x σ' H', xs[i]? = some x → Pv i σ' H' → ∀ T, H' T = none → g (.ref T) σ' (upd H' T (.tup [.int (i : Nat), x])) fun σ2 H2 => tu { D with nx := Pv (i + 1), ct := Pv (i + 1), bk := D.nx } σ2 H2) (hd : ∀ σ' H', Pv xs.length σ' H' → D.nx σ' H') : tFor (iEnum K tr) g tu D σ H :=
  h H (Ex.refl H) _ fun H1 e => ⟨a, xs, rfl, ex_l e hx, fun i m σ H => m = xs.length - i ∧ i ≤ xs.length ∧ Pv i σ H, ⟨xs.length, by simp, Nat.zero_le _, h0 H1 e⟩, fun i m σ' H' hw => by
    obtain ⟨rfl, hi, p⟩ := hw
    have q := hl i σ' H' hi p
    by_cases hlt : i < xs.length
    · refine .inr ⟨⟨xs, xs[i], q, by simp [hlt]⟩, Pv (i + 1), fun σ2 H2 p' => ⟨xs.length - (i + 1), by omega, rfl, hlt, p'⟩, fun v H2 y => ?_⟩
      obtain ⟨T, x, rfl, hT, rfl, hy⟩ := y
      exact hs i x σ' H' (hy xs q) p T hT
    · have e : i = xs.length := by omega
      subst e
      exact .inl ⟨⟨xs, q, Nat.le_refl _⟩, hd σ' H' p⟩⟩
/-- o.f, o.m(), C's -/
theorem ev_fld {C a dx : Addr} {fs : List (Str × V)} {f : Str} (h : Ev te σ H (.ref a)) (ho : H a = some (.ins C dx fs)) (c : Cls K C) (n : NoAttr K C f) (l : fs.lookup f = some v) : Ev (tFld K te f) σ H v := fun H1 e Q q =>
  h H1 e _ fun H2 e2 => ⟨a, C, dx, fs, v, rfl, e2 _ _ (e _ _ ho), c, n, l, q H2 e2⟩
theorem ev_meth0 {C a dx : Addr} {fs : List (Str × V)} {m : Str} {sp : Sp} {E : XK} (h : Ev te σ H (.ref a)) (ho : H a = some (.ins C dx fs)) (l : fs.lookup m = none) (hs : SpV sp [.ref a] H v) : Ev (tMeth C m sp [] E te tNil) σ H v := fun H1 e Q q =>
  h H1 e _ fun H2 e2 => ⟨a, dx, fs, rfl, e2 _ _ (e _ _ ho), l, hs H2 (e.trans e2) Q (fun H3 e3 => q H3 (e2.trans e3)) E⟩
theorem el_meth0 {C a dx : Addr} {fs : List (Str × V)} {m : Str} {sp : Sp} {E : XK} {xs : List V} (h : Ev te σ H (.ref a)) (ho : H a = some (.ins C dx fs)) (l : fs.lookup m = none) (hs : ∀ H1, Ex H H1 → ∀ Q : VK, RetL xs H1 Q → ∀ E : XK, sp [.ref a] H1 Q E) : EvL (tMeth C m sp [] E te tNil) σ H xs := fun H1 e Q q =>
  h H1 e _ fun H2 e2 => ⟨a, dx, fs, rfl, e2 _ _ (e _ _ ho), l, hs H2 (e.trans e2) Q (fun p H3 hp e3 h3 => q p H3 (fresh_back e2 hp) (e2.trans e3) h3) E⟩
theorem el_callR {sp : Sp} {dvs vs xs : List V} {E : XK} {ta : TA} (h : EvA ta σ H vs) (hs : ∀ H1, Ex H H1 → ∀ Q : VK, RetL xs H1 Q → ∀ E : XK, sp (vs ++ dvs) H1 Q E) : EvL (tCall sp dvs E ta) σ H xs := el_call h fun H1 e Q q E => hs H1 e Q q E
/-- isinstance of an own class -/
theorem ev_isiC {C a dx : Addr} {fs : List (Str × V)} (h : Ev te σ H (.ref a)) (ho : H a = some (.ins C dx fs)) (c : Cls K C)
    (i : PySem.W.findIn K (.ref C) "__class__" = some (some (.builtin "object.__class__")) ∧ PySem.W.specialIn K (.builtin "object.__class__") "__get__" = some (some (.builtin "getset_descriptor.__get__")) ∧ PySem.W.takesIn K (.builtin "object.__class__") = some true ∧ PySem.W.mroIn K C (.type "object") = some true) :
    Ev (tCB (rIsi K) (tCons te (tCons (tC (.ref C)) tNil))) σ H (.bl true) := fun H1 e Q q =>
  h H1 e _ fun H2 e2 => ⟨.ref a, .ref C, .ref C, .ref C, true, rfl, ClsV.own C, TyX.base (TyOf.ins (e2 _ _ (e _ _ ho)) c i.1 i.2.1 i.2.2.1 i.2.2.2), by
    unfold PySem.W.kitOne
    rw [if_pos (beq_self_eq_true _)], q H2 e2⟩
/-- max of a new list -/
theorem ev_maxN {ns : List Int} {m : Int} (h : EvL te σ H (ns.map V.int)) (hm : m ∈ ns) (hle : ∀ y ∈ ns, y ≤ m) : Ev (tCB (rMax K) (tCons te tNil)) σ H (.int m) := fun H1 e Q q =>
  h H1 e _ fun p H2 _ e2 h2 => ⟨p, ns, rfl, sq_of h2, by cases ns with | nil => cases hm | cons a r => simp, fun k hk hkl => by
    have : k = m := Int.le_antisymm (hle k hk) (hkl m hm)
    rw [this]
    exact q H2 e2⟩
end
theorem ev_min2 {σ : L2.St} {H : Hp} {ta tb : TE} {i j : Int} (ha : Ev ta σ H (.int i)) (hb : Ev tb σ H (.int j)) : Ev (tCB (fun xs H Q => ∃ i j, xs = [.int i, .int j] ∧ Q (.int (if j < i then j else i)) H) (tCons ta (tCons tb tNil))) σ H (.int (if j < i then j else i)) := fun H1 e Q q =>
  ha H1 e _ fun H2 e2 => hb H2 (e.trans e2) _ fun H3 e3 => ⟨i, j, rfl, q H3 (e2.trans e3)⟩
theorem spv {sp : Sp} {vs : List V} {H : Hp} {z : V} (h : ∀ H1, Ex H H1 → ∀ Q : VK, RetV z H1 Q → ∀ E : XK, sp vs H1 Q E) : SpV sp vs H z := fun H1 e Q q E => h H1 e Q q E
/-- a call that hands back a new tuple -/
theorem eu_call {σ : L2.St} {H : Hp} {sp : Sp} {dvs vs xs : List V} {E : XK} {ta : TA} (h : EvA ta σ H vs) (hs : ∀ H1, Ex H H1 → ∀ Q : VK, RetU xs H1 Q → ∀ E : XK, sp (vs ++ dvs) H1 Q E) : EvU (tCall sp dvs E ta) σ H xs := fun H1 e Q q =>
  h H1 e _ fun H2 e2 => hs H2 (e.trans e2) Q (fun p H3 hp e3 h3 => q p H3 (fresh_back e2 hp) (e2.trans e3) h3) E
/-- a call of which an argument is a new list, that hands back a new tuple -/
theorem eu_callN {σ : L2.St} {H : Hp} {sp : Sp} {xs ys : List V} {E : XK} {te : TE} (h : EvL te σ H xs) (hs : ∀ p H1, H1 p = some (.lst xs) → Ex H H1 → ∀ Q : VK, RetU ys H1 Q → ∀ E : XK, sp [.ref p] H1 Q E) : EvU (tCall sp [] E (tCons te tNil)) σ H ys := fun H1 e Q q =>
  h H1 e _ fun p H2 hp e2 h2 => hs p H2 h2 (e.trans e2) Q (fun u H3 hu e3 h3 => q u H3 (fresh_back e2 hu) (e2.trans e3) h3) E
end WS

set_option Elab.async false
set_option linter.all false
set_option maxRecDepth 100000
set_option maxHeartbeats 2000000
/-! rules of my own: comb; max of ints with a default; max of alike data -/
namespace WS
open PySem PySem.Spec PyProof.Rows L2 Evl
theorem un65 {k : Nat} {A : Around} (r : Room k A) : A.units + 65 < cLine := by have := r.un; omega
section
variable {X : Cx}
/-- math.comb of two counts -/
def rComb : List V → Hp → VK → Prop := fun xs H Q => ∃ a b : Int, xs = [.int a, .int b] ∧ 0 ≤ a ∧ 0 ≤ b ∧ a < 2 ^ 64 ∧ (b ≤ 9000 ∨ a ≤ 18000) ∧ Q (.int (PySem.W.mcComb a b)) H
theorem cr_comb : CallR X (.builtin "math.comb") rComb := by
  intro pins s σ H xs us Q I r h
  obtain ⟨a, b, rfl, h0, h1, h2, h3, q⟩ := h
  obtain ⟨t, u, rfl⟩ := Vals.int2 r
  exact PySem.W.mc_comb h0 h1 h2 h3 fun _ => ⟨.int _, H, I.tok _, ⟨_, rfl⟩, q⟩
/-- max(xs, default=d) of ints -/
def rMaxDef (K : PySem.W.Frag) : List V → List V → Hp → VK → Prop := fun xs zs H Q => ∃ (a : Addr) (ns : List Int) (d : Int), xs = [.ref a] ∧ zs = [.int d] ∧ SqL K H a (ns.map V.int) ∧ (ns = [] → Q (.int d) H) ∧ ∀ m, m ∈ ns → (∀ y ∈ ns, y ≤ m) → Q (.int m) H
theorem cr_maxDef (hc : X.calm = true) (hu : X.A.units + 64 < cLine) : CallRK X (.builtin "max") [Str.ofString "default"] (rMaxDef X.K) := by
  intro pins s σ H xs zs us ws Q I r rz h
  obtain ⟨a, ns, d, rfl, rfl, hs, q0, q⟩ := h
  obtain ⟨its, rv, hl, _⟩ := I.list hs
  rw [Vals.ref1 r]
  obtain ⟨w1, rfl, e1⟩ := vals1 rz
  obtain ⟨td, rfl⟩ := (show ∃ t, w1 = Value.int d t from e1)
  have dp : DpAll X.K H (ns.map V.int) (ns.map PyData.int) := by
    rw [← ints_sD]
    exact dpAll_sc (ints_sc ns)
  obtain ⟨as, ra⟩ := Dp.readsAll I _ _ _ dp rv
  have dep : PyData.depthAll (ns.map PyData.int) = 0 := by
    rw [← ints_sD]
    exact depthAll_sc _
  show wpAny _ _ (call (.builtin "max") [.ref a] [(Str.ofString "default", .int d td)]) _ _ _
  refine PySem.W.max_list_default (xs := ns.map PyData.int) (I.ok.hd hc) hl.isList (by simpa using ra) (PySem.W.alikeAll_datum (α := Int) ns) (by rw [dep]; omega) (fun e h' tk hk => ?_) fun y ys i v h' tk bs e hi r' hk => ?_
  · exact ⟨.int d, H, I.kept hk, ⟨td, rfl⟩, q0 (List.map_eq_nil_iff.mp e)⟩
  · cases ns with
    | nil => cases e
    | cons n r2 =>
      rw [List.map_cons] at e
      injection e with ea eb
      subst ea
      subst eb
      rw [PySem.W.maxD_ints] at r'
      cases r'
      have mem : ∀ (l : List Int) (k : Int), l.foldl max k = k ∨ l.foldl max k ∈ l := fun l => by
        induction l with
        | nil => intro k; exact .inl rfl
        | cons b l ih =>
          intro k
          rw [List.foldl_cons]
          rcases ih (max k b) with z | z
          · rw [z]
            by_cases hkb : k ≤ b
            · rw [Int.max_eq_right hkb]; exact .inr List.mem_cons_self
            · rw [Int.max_eq_left (by omega)]; exact .inl rfl
          · exact .inr (List.mem_cons_of_mem _ z)
      have ge : ∀ (l : List Int) (k : Int), k ≤ l.foldl max k ∧ ∀ y ∈ l, y ≤ l.foldl max k := fun l => by
        induction l with
        | nil => intro k; exact ⟨Int.le_refl _, fun y hy => absurd hy List.not_mem_nil⟩
        | cons b l ih =>
          intro k
          rw [List.foldl_cons]
          obtain ⟨z1, z2⟩ := ih (max k b)
          refine ⟨by omega, fun y hy => ?_⟩
          rcases List.mem_cons.mp hy with h | h
          · omega
          · exact z2 y h
      refine ⟨.int _, H, I.kept hk, ⟨_, rfl⟩, q _ ?_ fun y hy => ?_⟩
      · rcases mem r2 n with z | z
        · rw [z]; exact List.mem_cons_self
        · exact List.mem_cons_of_mem _ z
      · rcases List.mem_cons.mp hy with h | h
        · rw [h]; exact (ge r2 n).1
        · exact (ge r2 n).2 y h
/-- max(xs) of alike data: one of the items, whose datum is the greatest -/
def rMaxData (K : PySem.W.Frag) : List V → Hp → VK → Prop := fun xs H Q => ∃ (a : Addr) (vs : List V) (d : PyData) (ds : List PyData), xs = [.ref a] ∧ SqL K H a vs ∧ DpAll K H vs (d :: ds) ∧ PySem.W.AlikeAll (d :: ds) ∧ PyData.canLayAll0 (d :: ds) = true ∧ PyData.depthAll (d :: ds) ≤ 32 ∧
  ∀ (i : Nat) y e, vs[i]? = some y → (d :: ds)[i]? = some e → e = PySem.W.maxD d ds → Q y H
theorem cr_maxData (hc : X.calm = true) (hu : X.A.units + 64 < cLine) : CallR X (.builtin "max") (rMaxData X.K) := by
  intro pins s σ H xs us Q I r h
  obtain ⟨a, vs, d, ds, rfl, hs, hd, hal, hcl, hde, q⟩ := h
  obtain ⟨its, rv, hl, _⟩ := I.list hs
  rw [Vals.ref1 r]
  obtain ⟨as, ra⟩ := Dp.readsAll I _ _ _ hd rv
  refine PySem.W.max_list_data (I.ok.hd hc) hl.isList (by simpa using ra) hal (by omega) fun i v h' tk bs hi r' hk => ?_
  rw [List.getElem?_toArray] at hi
  have hlt : i < vs.length := by rw [rv.length]; exact (List.getElem?_eq_some_iff.mp hi).1
  obtain ⟨u, hu', ru⟩ := rv.get (List.getElem?_eq_getElem hlt)
  rw [hi] at hu'
  cases hu'
  obtain ⟨bs2, r2, h2, h3, h4⟩ := PySem.W.readsAll_at ra i v hi
  have ge : (d :: ds)[i]? = some ((d :: ds).getD i .none) := by rw [List.getD_eq_getElem?_getD, List.getElem?_eq_getElem h2] <;> rfl
  exact ⟨_, H, I.kept hk, ru, q i _ _ (List.getElem?_eq_getElem hlt) ge ((PySem.Reads.unique (PySem.W.reads_keeps hk r2) _ _ r').1)⟩
end
end WS

set_option maxRecDepth 100000
/-! shares, means and gaps of all samples of a depth -/
namespace M52
def tm (d w : Nat) : Int := 2 * (1 + (w : Int)) + 2 ^ (d - w) - 1
def gI (a b : Int) : Int := ((Nat.gcd a.natAbs b.natAbs : Nat) : Int)
def pr (d w : Nat) : List Int := (List.range (2 ^ d)).map fun (f : Nat) => (f : Int) / 2 ^ w + 1 + (w : Int)
def mx (l : List Int) : Int := l.foldl max (l.headD 0)
def mn (l : List Int) : Int := l.foldl min (l.headD 0)
def lm (d : Nat) : List Nat := (List.range (d + 1)).filter fun w => decide (tm d w = mn ((List.range (d + 1)).map (tm d)))
def gp1 (o t d : Nat) : Int := if t ≤ o then (o : Int) - t else (2 ^ (d - o) - 1) - (2 ^ (d - o) - 1) / 2 ^ (t - o) + o - t
def gp2 (o t d : Nat) : Int := if t ≤ o then 0 else (2 ^ (d - o) - 1) * 2 ^ o
def gaps (d w o : Nat) : List Int := (List.range (2 ^ d)).map fun (f : Nat) => ((f : Int) / 2 ^ w + 1 + (w : Int)) - ((f : Int) / 2 ^ o + 1 + (o : Int))
def whole (d w : Nat) : Int := 2 ^ (2 ^ (d - w))
def sums (d : Nat) : List Int := (List.range (d + 1)).map fun w => (pr d w).sum
def lr (d : Nat) : List Nat := (List.range (d + 1)).filter fun w => decide ((pr d w).sum = mn (sums d))
def halves (d w : Nat) : List Int := (pr d w).map fun p => 2 ^ (mx (pr d w) - p).toNat
/-- the mean is that of all prices -/
def F1 (d w : Nat) : Bool := decide (tm d w / gI (tm d w) 2 = (pr d w).sum / gI (pr d w).sum (2 ^ d)) && decide (2 / gI (tm d w) 2 = 2 ^ d / gI (pr d w).sum (2 ^ d)) && !decide (2 * (pr d w).sum < (2 * d + 1) * 2 ^ d)
/-- the shares -/
def F2 (d w : Nat) : Bool := decide ((whole d w - 1) / gI (whole d w - 1) (whole d w) = (halves d w).sum / gI (halves d w).sum (2 ^ (mx (pr d w)).toNat)) && decide (whole d w / gI (whole d w - 1) (whole d w) = 2 ^ (mx (pr d w)).toNat / gI (halves d w).sum (2 ^ (mx (pr d w)).toNat))
/-- the gaps -/
def F3 (d w o : Nat) : Bool := decide (gp1 w o d = mx (gaps d w o)) && decide (0 ≤ gp2 w o d) && decide ((gaps d w o)[(gp2 w o d).toNat]? = some (gp1 w o d)) && ((List.range (gp2 w o d).toNat).all fun j => decide ((gaps d w o)[j]? ≠ some (gp1 w o d)))
def F4 (d : Nat) : Bool := decide (lm d = lr d)
def F5 (d : Nat) : Bool := decide (lm d = [d - 2, d - 1]) && decide (tm d (d - 1) / gI (tm d (d - 1)) 2 = 2 * d + 1) && decide (2 / gI (tm d (d - 1)) 2 = 2) && decide (tm d d / gI (tm d d) 2 = d + 1) && decide (2 / gI (tm d d) 2 = 1) && decide (gp1 0 d d = 2 ^ d - 1 - d) && decide (gp2 0 d d = 2 ^ d - 1)
theorem f1 : ∀ d, d < 8 → ∀ w, w ≤ d → F1 d w = true := by decide +kernel
theorem f2 : ∀ d, d < 8 → ∀ w, w ≤ d → F2 d w = true := by decide +kernel
theorem f4 : ∀ d, d < 8 → F4 d = true := by decide +kernel
theorem f5 : ∀ d, d < 23 → F5 (d + 2) = true := by decide +kernel
theorem f3 : ∀ d, d < 8 → ∀ w, w ≤ d → ∀ o, o ≤ d → F3 d w o = true := by decide +kernel
end M52
namespace M52
def F6 (d w : Nat) : Bool := (pr d w).all fun p => decide (0 ≤ p) && decide (p ≤ 200)
theorem f6 : ∀ d, d < 8 → ∀ w, w ≤ d → F6 d w = true := by decide +kernel
end M52

set_option Elab.async false
set_option linter.all false
set_option maxRecDepth 100000
set_option maxHeartbeats 2000000
namespace K52
open PySem PySem.Spec PyProof.Rows L2 Evl WS M52
def topS (i : Nat) : Stmt := PySem.Challenge.pw_wholesound_k52_shares_means_and_gaps.main.body.getD i (.Pass ⟨0, 0, 0, 0⟩)
abbrev s_is_number : Stmt := topS 6
theorem sc_is_number : FnScope ["value"] ["value"] (defScope s_is_number) := ⟨rfl, rfl, rfl, by decide +kernel, rfl, by decide +kernel, by decide +kernel⟩
abbrev s_is_within : Stmt := topS 7
theorem sc_is_within : FnScope ["value", "low", "high"] ["value", "low", "high"] (defScope s_is_within) := ⟨rfl, rfl, rfl, by decide +kernel, rfl, by decide +kernel, by decide +kernel⟩
abbrev s_check_depth : Stmt := topS 8
theorem sc_check_depth : FnScope ["depth", "most"] ["depth", "most"] (defScope s_check_depth) := ⟨rfl, rfl, rfl, by decide +kernel, rfl, by decide +kernel, by decide +kernel⟩
abbrev s_fraction : Stmt := topS 10
theorem sc_fraction : FnScope ["top", "under", "shared"] ["top", "under"] (defScope s_fraction) := ⟨rfl, rfl, rfl, by decide +kernel, rfl, by decide +kernel, by decide +kernel⟩
abbrev s_check_told_at : Stmt := topS 14
theorem sc_check_told_at : FnScope ["depth", "width"] ["depth", "width"] (defScope s_check_told_at) := ⟨rfl, rfl, rfl, by decide +kernel, rfl, by decide +kernel, by decide +kernel⟩
abbrev s_fair : Stmt := topS 15
theorem sc_fair : FnScope ["depth", "width", "whole"] ["depth", "width"] (defScope s_fair) := ⟨rfl, rfl, rfl, by decide +kernel, rfl, by decide +kernel, by decide +kernel⟩
abbrev s_twice_the_mean : Stmt := topS 16
theorem sc_twice_the_mean : FnScope ["depth", "width"] ["depth", "width"] (defScope s_twice_the_mean) := ⟨rfl, rfl, rfl, by decide +kernel, rfl, by decide +kernel, by decide +kernel⟩
abbrev s_mean : Stmt := topS 17
theorem sc_mean : FnScope ["depth", "width"] ["depth", "width"] (defScope s_mean) := ⟨rfl, rfl, rfl, by decide +kernel, rfl, by decide +kernel, by decide +kernel⟩
abbrev s_least_means : Stmt := topS 18
theorem sc_least_means : FnScope ["depth", "means", "width", "told"] ["depth"] (defScope s_least_means) := ⟨rfl, rfl, rfl, by decide +kernel, rfl, by decide +kernel, by decide +kernel⟩
abbrev s_gap : Stmt := topS 19
theorem sc_gap : FnScope ["one", "other", "depth", "width", "highest"] ["one", "other", "depth"] (defScope s_gap) := ⟨rfl, rfl, rfl, by decide +kernel, rfl, by decide +kernel, by decide +kernel⟩
abbrev s__law_cell : Stmt := topS 21
theorem sc__law_cell : FnScope ["_law_script", "_law_index"] ["_law_script", "_law_index"] (defScope s__law_cell) := ⟨rfl, rfl, rfl, by decide +kernel, rfl, by decide +kernel, by decide +kernel⟩
abbrev s__law_hash : Stmt := topS 22
theorem sc__law_hash : FnScope ["_law_seed", "_law_index", "_law_mixed"] ["_law_seed", "_law_index"] (defScope s__law_hash) := ⟨rfl, rfl, rfl, by decide +kernel, rfl, by decide +kernel, by decide +kernel⟩
abbrev s__law_generator : Stmt := topS 23
theorem sc__law_generator : FnScope ["_law_script", "_law_index", "_law_seed"] ["_law_script", "_law_index"] (defScope s__law_generator) := ⟨rfl, rfl, rfl, by decide +kernel, rfl, by decide +kernel, by decide +kernel⟩
abbrev s__law_random : Stmt := topS 24
theorem sc__law_random : FnScope ["_law_generator_here", "_law_bound", "_law_drawn", "_law_turn"] ["_law_generator_here", "_law_bound"] (defScope s__law_random) := ⟨rfl, rfl, rfl, by decide +kernel, rfl, by decide +kernel, by decide +kernel⟩
abbrev s__law_common : Stmt := topS 25
theorem sc__law_common : FnScope ["_law_one", "_law_other"] ["_law_one", "_law_other"] (defScope s__law_common) := ⟨rfl, rfl, rfl, by decide +kernel, rfl, by decide +kernel, by decide +kernel⟩
abbrev s__law_lowest : Stmt := topS 26
theorem sc__law_lowest : FnScope ["_law_over", "_law_under", "_law_common_here"] ["_law_over", "_law_under"] (defScope s__law_lowest) := ⟨rfl, rfl, rfl, by decide +kernel, rfl, by decide +kernel, by decide +kernel⟩
abbrev s__law_prices : Stmt := topS 27
theorem sc__law_prices : FnScope ["_law_depth", "_law_width", "_law_fold"] ["_law_depth", "_law_width"] (defScope s__law_prices) := ⟨rfl, rfl, rfl, by decide +kernel, rfl, by decide +kernel, by decide +kernel⟩
abbrev s__law_right : Stmt := topS 28
theorem sc__law_right : FnScope ["_law_depth", "_law_width", "_law_other", "_law_told", "_law_greatest", "_law_more", "_law_gaps", "_law_price", "_law_fold"] ["_law_depth", "_law_width", "_law_other"] (defScope s__law_right) := ⟨rfl, rfl, rfl, by decide +kernel, rfl, by decide +kernel, by decide +kernel⟩
abbrev s__law_least_right : Stmt := topS 29
theorem sc__law_least_right : FnScope ["_law_depth", "_law_sums", "_law_width"] ["_law_depth"] (defScope s__law_least_right) := ⟨rfl, rfl, rfl, by decide +kernel, rfl, by decide +kernel, by decide +kernel⟩
abbrev s_law : Stmt := topS 30
theorem sc_law : FnScope ["_law_script", "_law_index", "_law_generator_here", "_law_depth", "_law_width", "_law_other"] ["_law_script"] (defScope s_law) := ⟨rfl, rfl, rfl, by decide +kernel, rfl, by decide +kernel, by decide +kernel⟩
structure Tx (K : PySem.W.Frag) (mg : Str → Option Value) where
  a_is_number : Addr
  d_is_number : FuncData
  f_is_number : Fun K "is_number" "is_number" s_is_number a_is_number d_is_number
  b_is_number : Binds K d_is_number ["value"] []
  g_is_number : mg "is_number" = some (.ref a_is_number)
  a_is_within : Addr
  d_is_within : FuncData
  f_is_within : Fun K "is_within" "is_within" s_is_within a_is_within d_is_within
  b_is_within : Binds K d_is_within ["value", "low", "high"] []
  g_is_within : mg "is_within" = some (.ref a_is_within)
  a_check_depth : Addr
  d_check_depth : FuncData
  f_check_depth : Fun K "check_depth" "check_depth" s_check_depth a_check_depth d_check_depth
  b_check_depth : Binds K d_check_depth ["depth", "most"] []
  g_check_depth : mg "check_depth" = some (.ref a_check_depth)
  a_fraction : Addr
  d_fraction : FuncData
  f_fraction : Fun K "fraction" "fraction" s_fraction a_fraction d_fraction
  b_fraction : Binds K d_fraction ["top", "under"] []
  g_fraction : mg "fraction" = some (.ref a_fraction)
  a_check_told_at : Addr
  d_check_told_at : FuncData
  f_check_told_at : Fun K "check_told_at" "check_told_at" s_check_told_at a_check_told_at d_check_told_at
  b_check_told_at : Binds K d_check_told_at ["depth", "width"] []
  g_check_told_at : mg "check_told_at" = some (.ref a_check_told_at)
  a_fair : Addr
  d_fair : FuncData
  f_fair : Fun K "fair" "fair" s_fair a_fair d_fair
  b_fair : Binds K d_fair ["depth", "width"] []
  g_fair : mg "fair" = some (.ref a_fair)
  a_twice_the_mean : Addr
  d_twice_the_mean : FuncData
  f_twice_the_mean : Fun K "twice_the_mean" "twice_the_mean" s_twice_the_mean a_twice_the_mean d_twice_the_mean
  b_twice_the_mean : Binds K d_twice_the_mean ["depth", "width"] []
  g_twice_the_mean : mg "twice_the_mean" = some (.ref a_twice_the_mean)
  a_mean : Addr
  d_mean : FuncData
  f_mean : Fun K "mean" "mean" s_mean a_mean d_mean
  b_mean : Binds K d_mean ["depth", "width"] []
  g_mean : mg "mean" = some (.ref a_mean)
  a_least_means : Addr
  d_least_means : FuncData
  f_least_means : Fun K "least_means" "least_means" s_least_means a_least_means d_least_means
  b_least_means : Binds K d_least_means ["depth"] []
  g_least_means : mg "least_means" = some (.ref a_least_means)
  a_gap : Addr
  d_gap : FuncData
  f_gap : Fun K "gap" "gap" s_gap a_gap d_gap
  b_gap : Binds K d_gap ["one", "other", "depth"] []
  g_gap : mg "gap" = some (.ref a_gap)
  a__law_cell : Addr
  d__law_cell : FuncData
  f__law_cell : Fun K "_law_cell" "_law_cell" s__law_cell a__law_cell d__law_cell
  b__law_cell : Binds K d__law_cell ["_law_script", "_law_index"] []
  g__law_cell : mg "_law_cell" = some (.ref a__law_cell)
  a__law_hash : Addr
  d__law_hash : FuncData
  f__law_hash : Fun K "_law_hash" "_law_hash" s__law_hash a__law_hash d__law_hash
  b__law_hash : Binds K d__law_hash ["_law_seed", "_law_index"] []
  g__law_hash : mg "_law_hash" = some (.ref a__law_hash)
  a__law_generator : Addr
  d__law_generator : FuncData
  f__law_generator : Fun K "_law_generator" "_law_generator" s__law_generator a__law_generator d__law_generator
  b__law_generator : Binds K d__law_generator ["_law_script", "_law_index"] []
  g__law_generator : mg "_law_generator" = some (.ref a__law_generator)
  a__law_random : Addr
  d__law_random : FuncData
  f__law_random : Fun K "_law_random" "_law_random" s__law_random a__law_random d__law_random
  b__law_random : Binds K d__law_random ["_law_generator_here", "_law_bound"] []
  g__law_random : mg "_law_random" = some (.ref a__law_random)
  a__law_common : Addr
  d__law_common : FuncData
  f__law_common : Fun K "_law_common" "_law_common" s__law_common a__law_common d__law_common
  b__law_common : Binds K d__law_common ["_law_one", "_law_other"] []
  g__law_common : mg "_law_common" = some (.ref a__law_common)
  a__law_lowest : Addr
  d__law_lowest : FuncData
  f__law_lowest : Fun K "_law_lowest" "_law_lowest" s__law_lowest a__law_lowest d__law_lowest
  b__law_lowest : Binds K d__law_lowest ["_law_over", "_law_under"] []
  g__law_lowest : mg "_law_lowest" = some (.ref a__law_lowest)
  a__law_prices : Addr
  d__law_prices : FuncData
  f__law_prices : Fun K "_law_prices" "_law_prices" s__law_prices a__law_prices d__law_prices
  b__law_prices : Binds K d__law_prices ["_law_depth", "_law_width"] []
  g__law_prices : mg "_law_prices" = some (.ref a__law_prices)
  a__law_right : Addr
  d__law_right : FuncData
  f__law_right : Fun K "_law_right" "_law_right" s__law_right a__law_right d__law_right
  b__law_right : Binds K d__law_right ["_law_depth", "_law_width", "_law_other"] []
  g__law_right : mg "_law_right" = some (.ref a__law_right)
  a__law_least_right : Addr
  d__law_least_right : FuncData
  f__law_least_right : Fun K "_law_least_right" "_law_least_right" s__law_least_right a__law_least_right d__law_least_right
  b__law_least_right : Binds K d__law_least_right ["_law_depth"] []
  g__law_least_right : mg "_law_least_right" = some (.ref a__law_least_right)
  a_law : Addr
  d_law : FuncData
  f_law : Fun K "law" "law" s_law a_law d_law
  b_law : Binds K d_law ["_law_script"] []
  g_law : mg "law" = some (.ref a_law)
  t_GREATEST_DEPTH : Tok
  c_GREATEST_DEPTH : mg "GREATEST_DEPTH" = some (.int 24 t_GREATEST_DEPTH)
  t_GREATEST_LEFT : Tok
  c_GREATEST_LEFT : mg "GREATEST_LEFT" = some (.int 10 t_GREATEST_LEFT)
  m_bool : mg "bool" = none
  m_enumerate : mg "enumerate" = none
  m_int : mg "int" = none
  m_isinstance : mg "isinstance" = none
  m_len : mg "len" = none
  m_max : mg "max" = none
  m_min : mg "min" = none
  m_range : mg "range" = none
  m_sum : mg "sum" = none
  mt_gcd : mg "gcd" = some (.builtin "math.gcd")
end K52

set_option Elab.async false
set_option linter.all false
set_option maxRecDepth 100000
set_option maxHeartbeats 4000000
set_option exponentiation.threshold 3000
namespace K52
open PySem PySem.Spec PyProof.Rows L2 Evl WS M52
theorem tn (i : Int) (k : Nat) : i * 2 ^ (k : Int).toNat = i * 2 ^ k := by rw [Int.toNat_natCast]
theorem shl1 {i : Int} {k : Nat} (hi : i.natAbs < 2 ^ 64) (hk : k ≤ 2000) : CShl i (k : Int) := shl_ok (n := 64) (j := k) hi (by omega)
theorem p2 (k : Nat) : (0 : Int) < 2 ^ k := Int.pow_pos (by decide)
theorem gI_pos {a b : Int} (h : 0 < b) : 0 < gI a b := by
  unfold gI
  have : 0 < Nat.gcd a.natAbs b.natAbs := Nat.gcd_pos_of_pos_right _ (by omega)
  omega
theorem gI_le {a b : Int} {n : Nat} (h : 0 < b) (hb : b.natAbs < 2 ^ n) : (gI a b).natAbs < 2 ^ n := by
  unfold gI
  rw [Int.natAbs_natCast]
  exact Nat.lt_of_le_of_lt (Nat.le_of_dvd (by omega) (Nat.gcd_dvd_right _ _)) hb
section
variable {K : PySem.W.Frag} {σ : L2.St} {H H' : Hp} {ta tb te tx tl : TE} {tr : TA} {t u : TT}
theorem ev_gcd {a b : Int} (ha : Ev ta σ H (.int a)) (hb : Ev tb σ H (.int b)) : Ev (tCB rGcd (tCons ta (tCons tb tNil))) σ H (.int (gI a b)) := fun H1 e Q q =>
  ha H1 e _ fun H2 e2 => hb H2 (e.trans e2) _ fun H3 e3 => ⟨a, b, rfl, q H3 (e2.trans e3)⟩
/-- [e for i, x in enumerate(xs) if t] -/
theorem el_lcE {a : Addr} {xs : List V} {j1 j2 : Nat} {vs : List Nat} (f : Nat → Bool) (v : Nat → V) (h : EvA tr σ H [.ref a]) (hx : SqL K H a xs) (hz : xs.length ≤ 40000)
    (hw : ∀ x y, wipe (((wipe σ vs).set j1 (some x)).set j2 (some y)) vs = wipe σ vs)
    (ht : ∀ (i : Nat) (x : V) H1, Ex H H1 → xs[i]? = some x → EvT t (((wipe σ vs).set j1 (some (.int (i : Int)))).set j2 (some x)) H1 (f i))
    (he : ∀ (i : Nat) (x : V) H1, Ex H H1 → xs[i]? = some x → f i = true → Ev te (((wipe σ vs).set j1 (some (.int (i : Int)))).set j2 (some x)) H1 (v i)) :
    EvL (tLc (iEnum K tr) (gTup K 2 (gCons (gName j1) (gCons (gName j2) gNil))) t te vs) σ H (given xs.length f v) := fun H0 e Q q => h H0 e _ fun H1 e1 =>
  ⟨a, xs, rfl, ex_l (e.trans e1) hx, fun D hD => by
    refine ⟨fun i k H' => k = xs.length - i ∧ i ≤ xs.length ∧ Cw H1 f v D i H', ⟨xs.length, rfl, Nat.zero_le _, hD, Ex.new hD, upd_same⟩, ?_⟩
    rintro i k H' ⟨rfl, hi, p⟩
    have hq := ex_l ((e.trans e1).trans p.2.1) hx
    by_cases hlt : i < xs.length
    · refine .inr ⟨⟨xs, xs[i], hq, by simp [hlt]⟩, fun H2 => xs.length - (i + 1) < xs.length - i ∧ i + 1 ≤ xs.length ∧ Cw H1 f v D (i + 1) H2, fun H2 y => ⟨_, y.1, rfl, y.2.1, y.2.2⟩, fun x H2 y => ?_⟩
      obtain ⟨T, z, rfl, hT, rfl, hy⟩ := y
      have hz' := hy xs hq
      have eT : Ex H' (upd H' T (.tup [.int (i : Nat), z])) := Ex.new hT
      have p2 : Cw H1 f v D i (upd H' T (.tup [.int (i : Nat), z])) := ⟨p.1, p.2.1.trans eT, eT _ _ p.2.2⟩
      refine ⟨T, _, rfl, st_of upd_same, rfl, _, _, rfl, _, _, rfl, rfl, ?_⟩
      refine ⟨hw _ _, ?_⟩
      have k := cw_turn (t := t) (te := te) p2 (by omega) (ht i z H1 (e.trans e1) hz') (fun hf => he i z H1 (e.trans e1) hz' hf)
      have hlt2 : xs.length - (i + 1) < xs.length - i := by omega
      simp only [hlt2, hlt, Nat.succ_le_of_lt, true_and]
      exact k
    · have e' : i = xs.length := by omega
      subst e'
      exact .inl ⟨⟨xs, hq, Nat.le_refl _⟩, q D H' (fresh_back e1 p.1) (e1.trans p.2.1) p.2.2⟩⟩
end
def frV (a b : Int) : List V := [.int (a / gI a b), .int (b / gI a b)]
section
variable {K : PySem.W.Frag} {mg : Str → Option Value}
def sp_is_number (T : Tx K mg) : Sp := fun vs H Q _ => ∃ i, vs = [.int i] ∧ RetV (.bl true) H Q
def sp_is_within (T : Tx K mg) : Sp := fun vs H Q _ => ∃ i j k, vs = [.int i, .int j, .int k] ∧ j ≤ i ∧ i ≤ k ∧ RetV (.bl true) H Q
def sp_check_depth (T : Tx K mg) : Sp := fun vs H Q _ => ∃ i k : Int, vs = [.int i, .int k] ∧ 1 ≤ i ∧ i ≤ k ∧ RetV .non H Q
def sp_fraction (T : Tx K mg) : Sp := fun vs H Q _ => ∃ a b : Int, vs = [.int a, .int b] ∧ 0 < b ∧ b.natAbs < 2 ^ 2000 ∧ RetU (frV a b) H Q
def sp_check_told_at (T : Tx K mg) : Sp := fun vs H Q _ => ∃ d w : Nat, vs = [.int (d : Int), .int (w : Int)] ∧ 1 ≤ d ∧ d ≤ 24 ∧ w ≤ d ∧ RetV .non H Q
def sp_fair (T : Tx K mg) : Sp := fun vs H Q _ => ∃ d w : Nat, vs = [.int (d : Int), .int (w : Int)] ∧ 1 ≤ d ∧ d ≤ 24 ∧ w ≤ d ∧ d - w ≤ 10 ∧ RetU (frV (whole d w - 1) (whole d w)) H Q
def sp_twice_the_mean (T : Tx K mg) : Sp := fun vs H Q _ => ∃ d w : Nat, vs = [.int (d : Int), .int (w : Int)] ∧ d ≤ 24 ∧ w ≤ d ∧ RetV (.int (tm d w)) H Q
def sp_mean (T : Tx K mg) : Sp := fun vs H Q _ => ∃ d w : Nat, vs = [.int (d : Int), .int (w : Int)] ∧ 1 ≤ d ∧ d ≤ 24 ∧ w ≤ d ∧ RetU (frV (tm d w) 2) H Q
def sp_least_means (T : Tx K mg) : Sp := fun vs H Q _ => ∃ d : Nat, vs = [.int (d : Int)] ∧ 1 ≤ d ∧ d ≤ 24 ∧ RetL ((lm d).map fun w : Nat => V.int (w : Int)) H Q
def sp_gap (T : Tx K mg) : Sp := fun vs H Q _ => ∃ o t d : Nat, vs = [.int (o : Int), .int (t : Int), .int (d : Int)] ∧ 1 ≤ d ∧ d ≤ 24 ∧ o ≤ d ∧ t ≤ d ∧ RetU [.int (gp1 o t d), .int (gp2 o t d)] H Q
end
section
variable {P : Program} {w : World} {K : PySem.W.Frag} {mg : Str → Option Value} {base : Heap}
theorem ok_is_number (T : Tx K mg) : FnOk P w K mg base CX0 1 T.a_is_number T.d_is_number ["value"] (sp_is_number T) := by
  refine T.f_is_number.ok (k := 0) sc_is_number (fun vs H Q E h => ?_) (fun cdv A outer s H vs Q E hr h => ?_)
  · obtain ⟨i, rfl, _⟩ := h
    rfl
  · obtain ⟨i, rfl, q⟩ := h
    refine ⟨_,       (pss_one (ps_ret (pe_and (pe_callB (id := "isinstance") (r := rIsi K) call_isi (by rfl) T.m_isinstance (by decide +kernel) (pa_cons (pv 0) (pa_cons (pe_bltn (by rfl) T.m_int (v := .ty "int") (by decide +kernel) rfl) pa_nil))) (pe_one (pe_not (pe_callB (id := "isinstance") (r := rIsi K) call_isi (by rfl) T.m_isinstance (by decide +kernel) (pa_cons (pv 0) (pa_cons (pe_bltn (by rfl) T.m_bool (v := .ty "bool") (by decide +kernel) rfl) pa_nil)))))))), ?_⟩
    exact s_ret (ev_andV (ev_isiI (b := true) (ev_var rfl) (by decide +kernel)) fun _ => ev_notV (ev_isiI (b := false) (ev_var rfl) (by decide +kernel))) q
theorem ok_is_within (T : Tx K mg) : FnOk P w K mg base CX0 2 T.a_is_within T.d_is_within ["value", "low", "high"] (sp_is_within T) := by
  refine T.f_is_within.ok (k := 1) sc_is_within (fun vs H Q E h => ?_) (fun cdv A outer s H vs Q E hr h => ?_)
  · obtain ⟨i, j, k, rfl, _⟩ := h
    rfl
  · obtain ⟨i, j, k, rfl, h1, h2, q⟩ := h
    refine ⟨_,       (pss_one (ps_ret (pe_and (pe_call (ok_is_number T) hr (by rfl) T.g_is_number T.f_is_number.kp T.b_is_number .nil pass0 (pa_cons (pv 0) pa_nil)) (pe_one (pe_chain op_le op_le (pv 1) (pv 0) (pv 2)))))), ?_⟩
    refine s_ret (ev_is (ev_andV (ev_call (ea_cons (ev_var rfl) ea_nil) (spv fun H1 e Q q E => ⟨i, rfl, q⟩)) fun _ => ev_chain (ev_var rfl) (ev_var rfl) rv_I0 (ev_var rfl) rv_I0) ?_) q
    rw [decide_eq_true h1, decide_eq_true h2]
    rfl
theorem ok_check_depth (T : Tx K mg) : FnOk P w K mg base CX0 3 T.a_check_depth T.d_check_depth ["depth", "most"] (sp_check_depth T) := by
  refine T.f_check_depth.ok (k := 2) sc_check_depth (fun vs H Q E h => ?_) (fun cdv A outer s H vs Q E hr h => ?_)
  · obtain ⟨i, k, rfl, _⟩ := h
    rfl
  · obtain ⟨i, k, rfl, h1, h2, q⟩ := h
    refine ⟨_,       (pss_one (ps_if (pt_not (pt_val (pe_call (ok_is_within T) hr (by rfl) T.g_is_within T.f_is_within.kp T.b_is_within .nil pass0 (pa_cons (pv 0) (pa_cons pe_int (pa_cons (pv 1) pa_nil)))))) 
        (pss_one ps_never) pss_nil)), ?_⟩
    exact s_when (et_not (et_B (ev_call (ea_cons (ev_var rfl) (ea_cons ev_c (ea_cons (ev_var rfl) ea_nil))) (spv fun H1 e Q q E => ⟨i, 1, k, rfl, h1, h2, q⟩)))) (fun z => by cases z) (fun _ => q)
theorem ok_fraction (T : Tx K mg) : FnOk P w K mg base CX0 1 T.a_fraction T.d_fraction ["top", "under"] (sp_fraction T) := by
  refine T.f_fraction.ok (k := 0) sc_fraction (fun vs H Q E h => ?_) (fun cdv A outer s H vs Q E hr h => ?_)
  · obtain ⟨a, b, rfl, _⟩ := h
    rfl
  · obtain ⟨a, b, rfl, h0, h1, q⟩ := h
    refine ⟨_,       (pss_cons (ps_set (i := 2) sc_fraction.nd rfl (by first | exact Or.inl rfl | exact Or.inr rfl) (pe_ifExp (pt_cmpR op_gt (pv 1) pe_int (nomark _)) (pe_callBfun cr_gcd (by rfl) T.mt_gcd (pa_cons (pv 0) (pa_cons (pv 1) pa_nil))) (pe_un un_neg (pe_callBfun cr_gcd (by rfl) T.mt_gcd (pa_cons (pv 0) (pa_cons (pv 1) pa_nil)))))) 
      (pss_one (ps_ret (pe_tup (pa_cons (pe_op op_fdivW (pv 0) (pv 2)) (pa_cons (pe_op op_fdivW (pv 1) (pv 2)) pa_nil)))))), ?_⟩
    refine q_asg (v := .int (gI a b)) (ev_if (b := decide (b > 0)) (et_test (ev_op (ev_var rfl) ev_c rv_I0)) (fun _ => ev_gcd (ev_var rfl) (ev_var rfl)) (fun z => absurd h0 (of_decide_eq_false z))) fun H1 e1 => ?_
    exact s_retU (eu_tup (ea_cons (ev_op (ev_var rfl) (ev_var rfl) (rv_I (wide_div (b := 2000) (gI_pos h0) (gI_le h0 h1) (by decide) (by decide)))) (ea_cons (ev_op (ev_var rfl) (ev_var rfl) (rv_I (wide_div (b := 2000) (gI_pos h0) (gI_le h0 h1) (by decide) (by decide)))) ea_nil)) (by show 2 ≤ 100000; decide)) fun p H2 hp e2 h2 => q.go e1 hp e2 h2
theorem ok_check_told_at (T : Tx K mg) : FnOk P w K mg base CX0 4 T.a_check_told_at T.d_check_told_at ["depth", "width"] (sp_check_told_at T) := by
  refine T.f_check_told_at.ok (k := 3) sc_check_told_at (fun vs H Q E h => ?_) (fun cdv A outer s H vs Q E hr h => ?_)
  · obtain ⟨d, wd, rfl, _⟩ := h
    rfl
  · obtain ⟨d, wd, rfl, h1, h2, h3, q⟩ := h
    refine ⟨_,       (pss_cons (ps_expr (pe_call (ok_check_depth T) hr (by rfl) T.g_check_depth T.f_check_depth.kp T.b_check_depth .nil pass0 (pa_cons (pv 0) (pa_cons (pe_glob (v := .int 24) rfl T.c_GREATEST_DEPTH ⟨_, rfl⟩) pa_nil)))) 
      (pss_one (ps_if (pt_not (pt_val (pe_call (ok_is_within T) (hr.mono (by decide)) (by rfl) T.g_is_within T.f_is_within.kp T.b_is_within .nil pass0 (pa_cons (pv 1) (pa_cons pe_int (pa_cons (pv 0) pa_nil)))))) 
        (pss_one ps_never) pss_nil))), ?_⟩
    refine q_drop (ev_call (ea_cons (ev_var rfl) (ea_cons ev_c ea_nil)) (spv fun H1 e Q q E => ⟨(d : Int), 24, rfl, by omega, by omega, q⟩)) fun H1 e1 => ?_
    exact s_when (et_not (et_B (ev_call (ea_cons (ev_var rfl) (ea_cons ev_c (ea_cons (ev_var rfl) ea_nil))) (spv fun H1 e Q q E => ⟨(wd : Int), 0, (d : Int), rfl, by omega, by omega, q⟩)))) (fun z => by cases z) (fun _ H2 e2 => q H2 (e1.trans e2))
theorem ok_fair (T : Tx K mg) : FnOk P w K mg base CX0 4 T.a_fair T.d_fair ["depth", "width"] (sp_fair T) := by
  refine T.f_fair.ok (k := 3) sc_fair (fun vs H Q E h => ?_) (fun cdv A outer s H vs Q E hr h => ?_)
  · obtain ⟨d, wd, rfl, _⟩ := h
    rfl
  · obtain ⟨d, wd, rfl, h1, h2, h3, h4, q⟩ := h
    refine ⟨_,       (pss_cons (ps_expr (pe_call (ok_check_depth T) hr (by rfl) T.g_check_depth T.f_check_depth.kp T.b_check_depth .nil pass0 (pa_cons (pv 0) (pa_cons (pe_glob (v := .int 24) rfl T.c_GREATEST_DEPTH ⟨_, rfl⟩) pa_nil)))) 
      (pss_cons (ps_if (PW.pt (pw_or (pt_not (pt_val (pe_call (ok_is_within T) (hr.mono (by decide)) (by rfl) T.g_is_within T.f_is_within.kp T.b_is_within .nil pass0 (pa_cons (pv 1) (pa_cons pe_int (pa_cons (pv 0) pa_nil)))))) (pw_or1 (pt_cmpR op_gt (pe_op op_sub (pv 0) (pv 1)) (pe_glob (v := .int 10) rfl T.c_GREATEST_LEFT ⟨_, rfl⟩) (nomark _))))) 
        (pss_one ps_never) pss_nil) 
      (pss_cons (ps_set (i := 2) sc_fair.nd rfl (by first | exact Or.inl rfl | exact Or.inr rfl) (pe_op op_shlW pe_int (pe_op op_shlW pe_int (pe_op op_sub (pv 0) (pv 1))))) 
      (pss_one (ps_ret (pe_call (ok_fraction T) (hr.mono (by decide)) (by rfl) T.g_fraction T.f_fraction.kp T.b_fraction .nil pass0 (pa_cons (pe_op op_sub (pv 2) pe_int) (pa_cons (pv 2) pa_nil)))))))), ?_⟩
    refine q_drop (ev_call (ea_cons (ev_var rfl) (ea_cons ev_c ea_nil)) (spv fun H1 e Q q E => ⟨(d : Int), 24, rfl, by omega, by omega, q⟩)) fun H1 e1 => ?_
    refine q_when (b := false) (et_or (a := false) (et_not (a := true) (et_B (ev_call (ea_cons (ev_var rfl) (ea_cons ev_c (ea_cons (ev_var rfl) ea_nil))) (spv fun H1 e Q q E => ⟨(wd : Int), 0, (d : Int), rfl, by omega, by omega, q⟩)))) fun _ => et_is (et_test (ev_op (ev_op (ev_var rfl) (ev_var rfl) rv_I0) ev_c rv_I0)) (decide_eq_false (by omega))) (fun z => by cases z) (fun _ H2 e2 => ?_)
    have es : (d : Int) - (wd : Int) = ((d - wd : Nat) : Int) := by omega
    have hp : (2 : Nat) ^ (d - wd) ≤ 2 ^ 10 := Nat.pow_le_pow_right (by decide) h4
    have hw1 : (1 : Int) * 2 ^ (d - wd : Nat) = ((2 ^ (d - wd) : Nat) : Int) := by rw [Int.one_mul, Int.natCast_pow]; rfl
    refine q_asg (v := .int (whole d wd)) (ev_is (ev_op ev_c (ev_is (w := .int ((2 ^ (d - wd) : Nat) : Int)) (ev_op ev_c (ev_is (w := .int ((d - wd : Nat) : Int)) (ev_op (ev_var rfl) (ev_var rfl) rv_I0) (by rw [es])) (rv_I (shl1 (by decide) (by omega)))) (by rw [tn, hw1])) (rv_I (shl1 (by decide) (by omega)))) (by rw [tn, Int.one_mul]; rfl)) fun H3 e3 => ?_
    have e13 := (e1.trans e2).trans e3
    refine s_retU (eu_call (ea_cons (ev_op (ev_var rfl) ev_c rv_I0) (ea_cons (ev_var rfl) ea_nil)) fun H4 e4 Q q E => ⟨_, _, rfl, p2 _, ?_, q⟩) fun p H4 hp e4 h4 => q.go e13 hp e4 h4
    unfold whole
    rw [Int.natAbs_pow]
    exact Nat.pow_lt_pow_right (by decide) (by omega)
theorem ok_twice_the_mean (T : Tx K mg) : FnOk P w K mg base CX0 1 T.a_twice_the_mean T.d_twice_the_mean ["depth", "width"] (sp_twice_the_mean T) := by
  refine T.f_twice_the_mean.ok (k := 0) sc_twice_the_mean (fun vs H Q E h => ?_) (fun cdv A outer s H vs Q E hr h => ?_)
  · obtain ⟨d, wd, rfl, _⟩ := h
    rfl
  · obtain ⟨d, wd, rfl, h1, h2, q⟩ := h
    refine ⟨_,       (pss_one (ps_ret (pe_op op_sub (pe_op op_add (pe_op op_mul pe_int (pe_op op_add pe_int (pv 1))) (pe_op op_shlW pe_int (pe_op op_sub (pv 0) (pv 1)))) pe_int))), ?_⟩
    have es : (d : Int) - (wd : Int) = ((d - wd : Nat) : Int) := by omega
    refine s_ret (ev_is (ev_op (ev_op (ev_op ev_c (ev_op ev_c (ev_var rfl) rv_I0) (rv_I (Or.inl ⟨by decide, by decide⟩))) (ev_op ev_c (ev_is (w := .int ((d - wd : Nat) : Int)) (ev_op (ev_var rfl) (ev_var rfl) rv_I0) (by rw [es])) (rv_I (shl1 (by decide) (by omega)))) rv_I0) ev_c rv_I0) ?_) q
    rw [tn, Int.one_mul]
    rfl
theorem ok_mean (T : Tx K mg) : FnOk P w K mg base CX0 5 T.a_mean T.d_mean ["depth", "width"] (sp_mean T) := by
  refine T.f_mean.ok (k := 4) sc_mean (fun vs H Q E h => ?_) (fun cdv A outer s H vs Q E hr h => ?_)
  · obtain ⟨d, wd, rfl, _⟩ := h
    rfl
  · obtain ⟨d, wd, rfl, h1, h2, h3, q⟩ := h
    refine ⟨_,       (pss_cons (ps_expr (pe_call (ok_check_told_at T) hr (by rfl) T.g_check_told_at T.f_check_told_at.kp T.b_check_told_at .nil pass0 (pa_cons (pv 0) (pa_cons (pv 1) pa_nil)))) 
      (pss_one (ps_ret (pe_call (ok_fraction T) (hr.mono (by decide)) (by rfl) T.g_fraction T.f_fraction.kp T.b_fraction .nil pass0 (pa_cons (pe_call (ok_twice_the_mean T) (hr.mono (by decide)) (by rfl) T.g_twice_the_mean T.f_twice_the_mean.kp T.b_twice_the_mean .nil pass0 (pa_cons (pv 0) (pa_cons (pv 1) pa_nil))) (pa_cons pe_int pa_nil)))))), ?_⟩
    refine q_drop (ev_call (ea_cons (ev_var rfl) (ea_cons (ev_var rfl) ea_nil)) (spv fun H1 e Q q E => ⟨d, wd, rfl, h1, h2, h3, q⟩)) fun H1 e1 => ?_
    exact s_retU (eu_call (ea_cons (ev_call (ea_cons (ev_var rfl) (ea_cons (ev_var rfl) ea_nil)) (spv fun H1 e Q q E => ⟨d, wd, rfl, h2, h3, q⟩)) (ea_cons ev_c ea_nil)) fun H4 e4 Q q E => ⟨_, _, rfl, by decide, by decide, q⟩) fun p H4 hp e4 h4 => q.go e1 hp e4 h4
end
end K52

set_option Elab.async false
set_option linter.all false
set_option maxRecDepth 100000
set_option maxHeartbeats 4000000
set_option exponentiation.threshold 3000
namespace K52
open PySem PySem.Spec PyProof.Rows L2 Evl WS M52
theorem fold_min : ∀ (l : List Int) (k : Int), (l.foldl min k = k ∨ l.foldl min k ∈ l) ∧ l.foldl min k ≤ k ∧ ∀ y ∈ l, l.foldl min k ≤ y
  | [], k => ⟨.inl rfl, Int.le_refl _, fun y hy => absurd hy List.not_mem_nil⟩
  | b :: l, k => by
    rw [List.foldl_cons]
    obtain ⟨z1, z2, z3⟩ := fold_min l (min k b)
    refine ⟨?_, by omega, fun y hy => ?_⟩
    · rcases z1 with z | z
      · by_cases hkb : k ≤ b
        · left; rw [z]; omega
        · right; rw [z, Int.min_eq_right (by omega)]; exact List.mem_cons_self
      · exact .inr (List.mem_cons_of_mem _ z)
    · rcases List.mem_cons.mp hy with h | h
      · omega
      · exact z3 y h
theorem fold_max : ∀ (l : List Int) (k : Int), (l.foldl max k = k ∨ l.foldl max k ∈ l) ∧ k ≤ l.foldl max k ∧ ∀ y ∈ l, y ≤ l.foldl max k
  | [], k => ⟨.inl rfl, Int.le_refl _, fun y hy => absurd hy List.not_mem_nil⟩
  | b :: l, k => by
    rw [List.foldl_cons]
    obtain ⟨z1, z2, z3⟩ := fold_max l (max k b)
    refine ⟨?_, by omega, fun y hy => ?_⟩
    · rcases z1 with z | z
      · by_cases hkb : k ≤ b
        · right; rw [z, Int.max_eq_right (by omega)]; exact List.mem_cons_self
        · left; rw [z]; omega
      · exact .inr (List.mem_cons_of_mem _ z)
    · rcases List.mem_cons.mp hy with h | h
      · omega
      · exact z3 y h
theorem mn_ok {l : List Int} (h : l ≠ []) : mn l ∈ l ∧ ∀ y ∈ l, mn l ≤ y := by
  cases l with
  | nil => exact absurd rfl h
  | cons a r =>
    obtain ⟨z1, z2, z3⟩ := fold_min (a :: r) a
    refine ⟨?_, z3⟩
    rcases z1 with z | z
    · show List.foldl min a (a :: r) ∈ _
      rw [z]
      exact List.mem_cons_self
    · exact z
theorem mx_ok {l : List Int} (h : l ≠ []) : mx l ∈ l ∧ ∀ y ∈ l, y ≤ mx l := by
  cases l with
  | nil => exact absurd rfl h
  | cons a r =>
    obtain ⟨z1, z2, z3⟩ := fold_max (a :: r) a
    refine ⟨?_, z3⟩
    rcases z1 with z | z
    · show List.foldl max a (a :: r) ∈ _
      rw [z]
      exact List.mem_cons_self
    · exact z
theorem given_filt (n : Nat) (f : Nat → Bool) : given n f (fun i => V.int (i : Int)) = ((List.range n).filter f).map fun i : Nat => V.int (i : Int) := rfl
theorem filt_int {n : Nat} {g : Nat → Int} {m : Int} : (List.range n).filter (fun w => decide (V.int (g w) = V.int m)) = (List.range n).filter fun w => decide (g w = m) := by
  apply List.filter_congr
  intro k _
  exact decide_eq_decide.mpr ⟨fun h => V.int.inj h, fun h => by rw [h]⟩
section
variable {K : PySem.W.Frag} {σ : L2.St} {H : Hp} {g : TG} {tu tz : TS} {D : Ends}
/-- over a new tuple -/
theorem q_forNU {xs : List V} {tl : TE} (h : EvU tl σ H xs) (Pv : Addr → Nat → L2.St → Hp → Prop) (h0 : ∀ p H1, H p = none → Ex H H1 → H1 p = some (.tup xs) → Pv p 0 σ H1) (hl : ∀ p i σ' H', i ≤ xs.length → Pv p i σ' H' → SqT K H' p xs)
    (hs : ∀ p i x σ' H', xs[i]? = some x → Pv p i σ' H' → g x σ' H' fun σ2 H2 => tu { D with nx := Pv p (i + 1), ct := Pv p (i + 1), bk := tz D } σ2 H2) (hd : ∀ p σ' H', Pv p xs.length σ' H' → tz D σ' H') : tSeq (tFor (iTup K tl) g tu) tz D σ H :=
  h H (Ex.refl H) _ fun p H1 hp e h1 => ⟨p, rfl, ⟨xs, st_of h1⟩, for_tup (D := { D with nx := tz D }) (Pv p) (h0 p H1 hp e h1) (hl p) (hs p) (hd p)⟩
end
section
variable {P : Program} {w : World} {K : PySem.W.Frag} {mg : Str → Option Value} {base : Heap}
theorem ok_least_means (T : Tx K mg) : FnOk P w K mg base CX0 4 T.a_least_means T.d_least_means ["depth"] (sp_least_means T) := by
  refine T.f_least_means.ok (k := 3) sc_least_means (fun vs H Q E h => ?_) (fun cdv A outer s H vs Q E hr h => ?_)
  · obtain ⟨d, rfl, _⟩ := h
    rfl
  · obtain ⟨d, rfl, h1, h2, q⟩ := h
    refine ⟨_,       (pss_cons (ps_expr (pe_call (ok_check_depth T) hr (by rfl) T.g_check_depth T.f_check_depth.kp T.b_check_depth .nil pass0 (pa_cons (pv 0) (pa_cons (pe_glob (v := .int 24) rfl T.c_GREATEST_DEPTH ⟨_, rfl⟩) pa_nil)))) 
      (pss_cons (ps_set (i := 1) sc_least_means.nd rfl (by first | exact Or.inl rfl | exact Or.inr rfl) (pe_lc (own := [("width", 2)]) (g := gName 2) (tt := tYes) rfl sc_least_means.nd (pi_range1 rfl T.m_range (pa_cons (pe_op op_add (pv 0) pe_int) pa_nil)) (blkOk_by (own := [("width", 2)]) (N := ["depth", "means", "width", "told"]) (sc := defScope s_least_means) (by decide +kernel)) (fun _ _ _ _ _ => (pg_name (i := 2) sc_least_means.nd rfl (by first | exact Or.inl rfl | exact Or.inr rfl))) (fun _ _ _ _ _ => pts_nil) (fun _ _ _ _ _ => (pe_call (ok_twice_the_mean T) (hr.mono (by decide)) (by rfl) T.g_twice_the_mean T.f_twice_the_mean.kp T.b_twice_the_mean .nil pass0 (pa_cons (pv 0) (pa_cons (pv 2) pa_nil)))))) 
      (pss_one (ps_ret (pe_lc (own := [("width", 2), ("told", 3)]) (g := gTup K 2 (gCons (gName 2) (gCons (gName 3) gNil))) rfl sc_least_means.nd (pi_enum (by rfl) T.m_enumerate (pa_cons (pv 1) pa_nil)) (blkOk_by (own := [("width", 2), ("told", 3)]) (N := ["depth", "means", "width", "told"]) (sc := defScope s_least_means) (by decide +kernel)) (fun _ _ _ _ _ => by exact (pg_tup rfl (pgs_cons (pg_name (i := 2) sc_least_means.nd rfl (by first | exact Or.inl rfl | exact Or.inr rfl)) (pgs_cons (pg_name (i := 3) sc_least_means.nd rfl (by first | exact Or.inl rfl | exact Or.inr rfl)) pgs_nil)))) (fun _ _ _ _ _ => (pts_one (pt_cmpR op_eq (pv 3) (pe_callB (id := "min") (r := rMin K) (cr_min rfl) (by rfl) T.m_min (by decide +kernel) (pa_cons (pv 1) pa_nil)) (nomark _)))) (fun _ _ _ _ _ => (pv 2))))))), ?_⟩
    refine q_drop (ev_call (ea_cons (ev_var rfl) (ea_cons ev_c ea_nil)) (spv fun H1 e Q q E => ⟨(d : Int), 24, rfl, by omega, by omega, q⟩)) fun H1 e1 => ?_
    have ec : V.int ((d : Int) + 1) = V.int ((d + 1 : Nat) : Int) := by congr 1
    refine q_asgL (el_mapR (n := d + 1) (V.int ∘ fun wd => tm d wd) (ea_cons (ev_is (ev_op (ev_var rfl) ev_c rv_I0) ec) ea_nil) (by omega) (fun _ => rfl) (fun i H2 e2 hi => ev_call (ea_cons (ev_var rfl) (ea_cons (ev_var rfl) ea_nil)) (spv fun H1 e Q q E => ⟨d, i, rfl, h2, by omega, q⟩))) fun p H2 hp e2 k2 => ?_
    rw [← List.map_map] at k2
    have ne : (List.range (d + 1)).map (tm d) ≠ [] := by simp
    have hlen : ((((List.range (d + 1)).map fun wd => tm d wd)).map V.int).length = d + 1 := by simp
    refine s_retL (el_lcE (K := K) (fun i => decide (V.int (tm d i) = V.int (mn ((List.range (d + 1)).map (tm d))))) (fun i => V.int (i : Int)) (ea_cons (ev_var rfl) ea_nil) (sq_of k2) (by rw [hlen]; omega) (fun _ _ => rfl) (fun i x H3 e3 hx => ?_) (fun i x H3 e3 hx _ => ev_var rfl)) fun p H3 hp e3 h3 => ?_
    · rw [List.getElem?_map, List.getElem?_map] at hx
      have hi : i < d + 1 := by
        by_cases h : i < d + 1
        · exact h
        · rw [List.getElem?_eq_none (by rw [List.length_range]; omega)] at hx
          cases hx
      rw [List.getElem?_range hi] at hx
      have ex : V.int (tm d i) = x := Option.some.inj hx
      subst ex
      exact et_test (ev_op (ev_var rfl) (ev_min (K := K) (ns := (List.range (d + 1)).map (tm d)) (ev_var rfl) (sq_of (e3 _ _ k2)) (mn_ok ne).1 (mn_ok ne).2) (rv_eq rfl))
    · refine q.go (e1.trans e2) hp e3 ?_
      rw [h3, hlen, given_filt, filt_int]
      rfl
theorem ok_gap (T : Tx K mg) : FnOk P w K mg base CX0 4 T.a_gap T.d_gap ["one", "other", "depth"] (sp_gap T) := by
  refine T.f_gap.ok (k := 3) sc_gap (fun vs H Q E h => ?_) (fun cdv A outer s H vs Q E hr h => ?_)
  · obtain ⟨o, t, d, rfl, _⟩ := h
    rfl
  · obtain ⟨o, t, d, rfl, h1, h2, h3, h4, q⟩ := h
    refine ⟨_,       (pss_cons (ps_expr (pe_call (ok_check_depth T) hr (by rfl) T.g_check_depth T.f_check_depth.kp T.b_check_depth .nil pass0 (pa_cons (pv 2) (pa_cons (pe_glob (v := .int 24) rfl T.c_GREATEST_DEPTH ⟨_, rfl⟩) pa_nil)))) 
      (pss_cons (ps_for PassesOwn.never rfl (pi_tup (pe_tup (pa_cons (pv 0) (pa_cons (pv 1) pa_nil)))) (pg_name (i := 3) sc_gap.nd rfl (by first | exact Or.inl rfl | exact Or.inr rfl)) 
        (pss_one (ps_if (pt_not (pt_val (pe_call (ok_is_within T) (hr.mono (by decide)) (by rfl) T.g_is_within T.f_is_within.kp T.b_is_within .nil pass0 (pa_cons (pv 3) (pa_cons pe_int (pa_cons (pv 2) pa_nil)))))) 
          (pss_one ps_never) pss_nil))) 
      (pss_cons (ps_if (pt_cmpR op_ge (pv 0) (pv 1) (nomark _)) 
        (pss_one (ps_ret (pe_tup (pa_cons (pe_op op_sub (pv 0) (pv 1)) (pa_cons pe_int pa_nil))))) pss_nil) 
      (pss_cons (ps_set (i := 4) sc_gap.nd rfl (by first | exact Or.inl rfl | exact Or.inr rfl) (pe_op op_sub (pe_op op_shlW pe_int (pe_op op_sub (pv 2) (pv 0))) pe_int)) 
      (pss_one (ps_ret (pe_tup (pa_cons (pe_op op_sub (pe_op op_add (pe_op op_sub (pv 4) (pe_op op_shr (pv 4) (pe_op op_sub (pv 1) (pv 0)))) (pv 0)) (pv 1)) (pa_cons (pe_op op_shlW (pv 4) (pv 0)) pa_nil))))))))), ?_⟩
    refine q_drop (ev_call (ea_cons (ev_var rfl) (ea_cons ev_c ea_nil)) (spv fun H1 e Q q E => ⟨(d : Int), 24, rfl, by omega, by omega, q⟩)) fun H1 e1 => ?_
    refine q_forNU (K := K) (xs := [.int (o : Int), .int (t : Int)]) (eu_tup (ea_cons (ev_var rfl) (ea_cons (ev_var rfl) ea_nil)) (by show 2 ≤ 100000; decide)) (fun p i σ' H' => ∃ y, σ' = [some (.int (o : Int)), some (.int (t : Int)), some (.int (d : Int)), y, none] ∧ Ex H1 H' ∧ H' p = some (.tup [.int (o : Int), .int (t : Int)])) (fun p H2 hp e2 k2 => ⟨none, rfl, e2, k2⟩) (fun p i σ' H' _ hP => ?_) (fun p i x σ' H' hx hP => ?_) (fun p σ' H' hP => ?_)
    · obtain ⟨y, _, _, k⟩ := hP
      exact st_of k
    · obtain ⟨y, rfl, e, k⟩ := hP
      obtain ⟨n, rfl, hn⟩ : ∃ n : Nat, x = V.int (n : Int) ∧ n ≤ d := by
        match i, hx with
        | 0, hx => exact ⟨o, (Option.some.inj hx).symm, h3⟩
        | 1, hx => exact ⟨t, (Option.some.inj hx).symm, h4⟩
      refine s_when (et_not (et_B (ev_call (ea_cons (ev_var rfl) (ea_cons ev_c (ea_cons (ev_var rfl) ea_nil))) (spv fun H1 e Q q E => ⟨(n : Int), 0, (d : Int), rfl, by omega, by omega, q⟩)))) (fun z => by cases z) (fun _ H3 e3 => ⟨_, rfl, e.trans e3, e3 _ _ k⟩)
    obtain ⟨y, rfl, e, _⟩ := hP
    have e02 := e1.trans e
    refine q_when (b := decide ((o : Int) ≥ (t : Int))) (et_test (ev_op (ev_var rfl) (ev_var rfl) rv_I0)) (fun z H3 e3 => ?_) (fun z H3 e3 => ?_)
    · have hz : (o : Int) ≥ (t : Int) := of_decide_eq_true z
      refine s_retU (eu_tup (ea_cons (ev_op (ev_var rfl) (ev_var rfl) rv_I0) (ea_cons ev_c ea_nil)) (by show 2 ≤ 100000; decide)) fun p H4 hp e4 k4 => q.go (e02.trans e3) hp e4 ?_
      rw [k4]
      unfold gp1 gp2
      rw [if_pos (by omega), if_pos (by omega)]
    · have hz : ¬ (o : Int) ≥ (t : Int) := of_decide_eq_false z
      have es : (d : Int) - (o : Int) = ((d - o : Nat) : Int) := by omega
      have et : (t : Int) - (o : Int) = ((t - o : Nat) : Int) := by omega
      have hb : ((2 : Int) ^ (d - o) - 1).natAbs < 2 ^ 64 := by
        have a : (2 : Int) ^ (d - o) = ((2 ^ (d - o) : Nat) : Int) := by rw [Int.natCast_pow]; rfl
        have b : (2 : Nat) ^ (d - o) ≤ 2 ^ 24 := Nat.pow_le_pow_right (by decide) (by omega)
        have c := Nat.two_pow_pos (d - o)
        rw [a]
        omega
      refine q_asg (v := .int (2 ^ (d - o) - 1)) (ev_is (ev_op (ev_op ev_c (ev_is (w := .int ((d - o : Nat) : Int)) (ev_op (ev_var rfl) (ev_var rfl) rv_I0) (by rw [es])) (rv_I (shl1 (by decide) (by omega)))) ev_c rv_I0) (by rw [tn, Int.one_mul])) fun H4 e4 => ?_
      refine s_retU (eu_tup (ea_cons (ev_op (ev_op (ev_op (ev_var rfl) (ev_op (ev_var rfl) (ev_is (w := .int ((t - o : Nat) : Int)) (ev_op (ev_var rfl) (ev_var rfl) rv_I0) (by rw [et])) (rv_I (Int.natCast_nonneg _))) rv_I0) (ev_var rfl) rv_I0) (ev_var rfl) rv_I0) (ea_cons (ev_op (ev_var rfl) (ev_var rfl) (rv_I (shl1 hb (by omega)))) ea_nil)) (by show 2 ≤ 100000; decide)) fun p H5 hp e5 k5 => q.go ((e02.trans e3).trans e4) hp e5 ?_
      rw [k5]
      unfold gp1 gp2
      rw [if_neg (by omega), if_neg (by omega), tn, Int.toNat_natCast]
end
end K52

set_option Elab.async false
set_option linter.all false
set_option maxRecDepth 100000
set_option maxHeartbeats 4000000
namespace K52
open PySem PySem.Spec PyProof.Rows L2 Evl WS M52
/-! ### the draws -/
def cellV (ns : List Int) (k : Nat) : Int := if k < ns.length then ns.getD k 0 else (ns.take 1).sum.fmod 1000003
def mixA (s i : Int) : Int := (s * 1103515245 + 7919 * i * i + i + 1).fmod 2147483647
def mixB (s i : Int) : Int := (mixA s i * mixA s i + 69621).fmod 2147483629
def hashV (s i : Int) : Int := (mixB s i * 48271).fmod 2147483587
theorem fmod_in (a b : Int) (h : 0 < b) : 0 ≤ a.fmod b ∧ a.fmod b < b := by
  rw [Int.fmod_eq_emod_of_nonneg a (by omega)]
  exact ⟨Int.emod_nonneg a (by omega), Int.emod_lt_of_pos a h⟩
/-- a generator at g, of which so many numbers at most were drawn by counting -/
def Gs (H : Hp) (g : Addr) (C : Nat) : Prop := ∃ A B c : Int, H g = some (.lst [.int A, .int B, .int c]) ∧ 0 ≤ A ∧ (0 ≤ B ∧ B < 2147483648) ∧ 0 ≤ c ∧ c ≤ C
theorem Gs.ex {H H' : Hp} {g : Addr} {C : Nat} (h : Gs H g C) (e : Ex H H') : Gs H' g C := by
  obtain ⟨A, B, c, h1, h2⟩ := h
  exact ⟨A, B, c, e _ _ h1, h2⟩
theorem Gs.mono {H : Hp} {g : Addr} {C C' : Nat} (h : Gs H g C) (e : C ≤ C') : Gs H g C' := by
  obtain ⟨A, B, c, h1, h2, h3, h4, h5⟩ := h
  exact ⟨A, B, c, h1, h2, h3, h4, by omega⟩
theorem Gs.some {H : Hp} {g : Addr} {C : Nat} (h : Gs H g C) : ∃ o, H g = some o := by
  obtain ⟨A, B, c, h1, _⟩ := h
  exact ⟨_, h1⟩
def sp__law_cell {K : PySem.W.Frag} {mg : Str → Option Value} (T : Tx K mg) : Sp := fun vs H Q _ => ∃ a, ∃ ns : List Int, ∃ k : Nat, vs = [.ref a, .int (k : Int)] ∧ SqL K H a (ns.map V.int) ∧ ns.length ≤ 63 ∧ RetV (.int (cellV ns k)) H Q
def sp__law_hash {K : PySem.W.Frag} {mg : Str → Option Value} (T : Tx K mg) : Sp := fun vs H Q _ => ∃ s i : Int, vs = [.int s, .int i] ∧ (0 ≤ s ∧ s < 2147483648) ∧ (0 ≤ i ∧ i ≤ 1000000000000) ∧ RetV (.int (hashV s i)) H Q
def sp__law_generator {K : PySem.W.Frag} {mg : Str → Option Value} (T : Tx K mg) : Sp := fun vs H Q _ => ∃ a, ∃ ns : List Int, ∃ k : Nat, vs = [.ref a, .int (k : Int)] ∧ SqL K H a (ns.map V.int) ∧ ns.length ≤ 63 ∧ k ≤ 1000 ∧ ∀ p H2, H p = none → Ex H H2 → Gs H2 p (1000 * k) → Q (.ref p) H2
def sp__law_random {K : PySem.W.Frag} {mg : Str → Option Value} (T : Tx K mg) : Sp := fun vs H Q _ => ∃ g, ∃ n : Int, ∃ C : Nat, vs = [.ref g, .int n] ∧ Gs H g C ∧ C ≤ 1000000000 ∧ 1 ≤ n ∧ n ≤ 1152921504606846976 ∧
  ∀ z H2, 0 ≤ z → z < n → Gs H2 g (C + 4) → ExB g H H2 → Q (.int z) H2
section
variable {P : Program} {w : World} {K : PySem.W.Frag} {mg : Str → Option Value} {base : Heap}
theorem ok__law_cell (T : Tx K mg) : FnOk P w K mg base CX0 1 T.a__law_cell T.d__law_cell ["_law_script", "_law_index"] (sp__law_cell T) := by
  refine T.f__law_cell.ok (k := 0) sc__law_cell (fun vs H Q E h => ?_) (fun cdv A outer s H vs Q E hr h => ?_)
  · obtain ⟨a, ns, k, rfl, _⟩ := h
    rfl
  · obtain ⟨a, ns, k, rfl, hs, hl, q⟩ := h
    refine ⟨_,       (pss_cons (ps_if (pt_cmpR op_lt (pv 1) (pe_callB (id := "len") (r := rLenS K) call_len_seq (by rfl) T.m_len PySem.boot_len (pa_cons (pv 0) pa_nil)) (nomark _)) 
        (pss_one (ps_ret (pe_ix (r := rIxL K) ix_list (pv 0) (pv 1) (fun _ _ => rfl)))) pss_nil) 
      (pss_one (ps_ret (pe_op op_modN (pe_callB (id := "sum") (r := rSum K) (cr_sum rfl) (by rfl) T.m_sum (by decide +kernel) (pa_cons (pe_slice (r := rSlL K) sl_list (pv 0) po_none (po_some pe_int)) pa_nil)) pe_int)))), ?_⟩
    refine q_when (et_test (ev_op (ev_var rfl) (ev_len (K := K) (ev_var rfl) hs) rv_I0)) (fun z H1 e1 => ?_) (fun z H1 e1 => ?_)
    · have hz : (k : Int) < ((ns.map V.int).length : Int) := of_decide_eq_true z
      rw [List.length_map] at hz
      have hk : k < ns.length := by omega
      refine s_ret (ev_op (ev_var rfl) (ev_var rfl) (rv_ixL (K := K) (v := .int (cellV ns k)) (ex_l e1 hs) ?_)) fun H2 e2 => q H2 (e1.trans e2)
      refine atI_nat ?_
      rw [List.getElem?_map, List.getElem?_eq_getElem hk]
      unfold cellV
      rw [if_pos hk, List.getD_eq_getElem?_getD, List.getElem?_eq_getElem hk] <;> rfl
    · have hz : ¬ (k : Int) < ((ns.map V.int).length : Int) := of_decide_eq_false z
      rw [List.length_map] at hz
      have hk : ¬ k < ns.length := by omega
      refine s_ret (ev_is (ev_op (ev_sumN (K := K) (ns := ns.take 1) ?_) ev_c (rv_I (by decide))) ?_) fun H2 e2 => q H2 (e1.trans e2)
      · have k1 := el_sl (σ := start ["_law_script", "_law_index"] [V.ref a, V.int (k : Int)]) (K := K) (te := tVar 0) (ev_var rfl) eo_none (eo_some (te := tC (.int 1)) ev_c) (ex_l e1 hs)
        have ec : cutV (ns.map V.int) none (some 1) = (ns.take 1).map V.int := by
          unfold cutV
          rw [HT.sIx_none, show HT.sIx (ns.map V.int).length (ns.map V.int).length (some 1) = min 1 (ns.map V.int).length from HT.sIx_nat _ _ 1]
          cases ns with
          | nil => rfl
          | cons x r => simp
        rw [ec] at k1
        exact k1
      · unfold cellV
        rw [if_neg hk]
theorem ok__law_hash (T : Tx K mg) : FnOk P w K mg base CX0 1 T.a__law_hash T.d__law_hash ["_law_seed", "_law_index"] (sp__law_hash T) := by
  refine T.f__law_hash.ok (k := 0) sc__law_hash (fun vs H Q E h => ?_) (fun cdv A outer s H vs Q E hr h => ?_)
  · obtain ⟨s, i, rfl, _⟩ := h
    rfl
  · obtain ⟨s, i, rfl, ⟨s0, s1⟩, ⟨i0, i1⟩, q⟩ := h
    refine ⟨_,       (pss_cons (ps_set (i := 2) sc__law_hash.nd rfl (by first | exact Or.inl rfl | exact Or.inr rfl) (pe_op op_modN (pe_callTy call_int1 (by rfl) T.m_int (by decide +kernel) (pa_cons (pe_op op_add (pe_op op_add (pe_op op_add (pe_op op_mul (pv 0) pe_int) (pe_op op_mul (pe_op op_mul pe_int (pv 1)) (pv 1))) (pv 1)) pe_int) pa_nil)) pe_int)) 
      (pss_cons (ps_set (i := 2) sc__law_hash.nd rfl (by first | exact Or.inl rfl | exact Or.inr rfl) (pe_op op_modN (pe_callTy call_int1 (by rfl) T.m_int (by decide +kernel) (pa_cons (pe_op op_add (pe_op op_mul (pv 2) (pv 2)) pe_int) pa_nil)) pe_int)) 
      (pss_one (ps_ret (pe_op op_modN (pe_callTy call_int1 (by rfl) T.m_int (by decide +kernel) (pa_cons (pe_op op_mul (pv 2) pe_int) pa_nil)) pe_int))))), ?_⟩
    have hA := fmod_in (s * 1103515245 + 7919 * i * i + i + 1) 2147483647 (by decide)
    have hB := fmod_in (mixA s i * mixA s i + 69621) 2147483629 (by decide)
    refine q_asg (v := .int (mixA s i)) (ev_op (ev_int (ev_op (ev_op (ev_op (ev_op (ev_var rfl) ev_c (rv_I (Or.inr ⟨by decide, by decide⟩))) (ev_op (ev_op ev_c (ev_var rfl) (rv_I (Or.inl ⟨by decide, by decide⟩))) (ev_var rfl) (rv_I (Or.inr ⟨by omega, by omega⟩))) rv_I0) (ev_var rfl) rv_I0) ev_c rv_I0)) ev_c (rv_I (by decide))) fun H1 e1 => ?_
    have hA' : 0 ≤ mixA s i ∧ mixA s i < 2147483647 := hA
    refine q_asg (v := .int (mixB s i)) (ev_op (ev_int (ev_op (ev_op (ev_var rfl) (ev_var rfl) (rv_I (Or.inl ⟨by omega, by omega⟩))) ev_c rv_I0)) ev_c (rv_I (by decide))) fun H2 e2 => ?_
    refine s_ret (v := .int (hashV s i)) (ev_op (ev_int (ev_op (ev_var rfl) ev_c (rv_I (Or.inr ⟨by decide, by decide⟩)))) ev_c (rv_I (by decide))) fun H3 e3 => q H3 ((e1.trans e2).trans e3)
theorem ok__law_generator (T : Tx K mg) : FnOk P w K mg base CX0 2 T.a__law_generator T.d__law_generator ["_law_script", "_law_index"] (sp__law_generator T) := by
  refine T.f__law_generator.ok (k := 1) sc__law_generator (fun vs H Q E h => ?_) (fun cdv A outer s H vs Q E hr h => ?_)
  · obtain ⟨a, ns, k, rfl, _⟩ := h
    rfl
  · obtain ⟨a, ns, k, rfl, hs, hl, hk, q⟩ := h
    refine ⟨_,       (pss_cons (ps_set (i := 2) sc__law_generator.nd rfl (by first | exact Or.inl rfl | exact Or.inr rfl) (pe_call (ok__law_cell T) hr (by rfl) T.g__law_cell T.f__law_cell.kp T.b__law_cell .nil pass0 (pa_cons (pv 0) (pa_cons (pv 1) pa_nil)))) 
      (pss_one (ps_ret (pe_lst (pa_cons (pe_op op_modN (pe_callTy call_int1 (by rfl) T.m_int (by decide +kernel) (pa_cons (pe_callB (id := "max") (call_max2 rfl) (by rfl) T.m_max (by decide +kernel) (pa_cons (pe_op op_sub (pv 2) (pe_op op_powW pe_int pe_int)) (pa_cons pe_int pa_nil))) pa_nil)) (pe_op op_powW (pe_op op_powW pe_int pe_int) pe_int)) (pa_cons (pe_op op_modN (pe_callTy call_int1 (by rfl) T.m_int (by decide +kernel) (pa_cons (pv 2) pa_nil)) pe_int) (pa_cons (pe_op op_mul pe_int (pv 1)) pa_nil))))))), ?_⟩
    refine q_asg (ev_call (ea_cons (ev_var rfl) (ea_cons (ev_var rfl) ea_nil)) (spv fun H1 e Q q E => ⟨a, ns, k, rfl, ex_l e hs, hl, q⟩)) fun H1 e1 => ?_
    generalize cellV ns k = seed
    refine s_retL (el_lst (ea_cons (ev_op (ev_int (ev_max2 (ev_op (ev_var rfl) (ev_op ev_c ev_c (rv_I ⟨by decide, by decide +kernel⟩)) rv_I0) ev_c)) (ev_op (ev_op ev_c ev_c (rv_I ⟨by decide, by decide +kernel⟩)) ev_c (rv_I ⟨by decide, by decide +kernel⟩)) (rv_I (by decide +kernel))) (ea_cons (ev_op (ev_int (ev_var rfl)) ev_c (rv_I (by decide))) (ea_cons (ev_op ev_c (ev_var rfl) (rv_I (Or.inl ⟨by decide, by decide⟩))) ea_nil))) (by show 3 ≤ 100000; decide)) fun p H2 hp e2 h2 => ?_
    refine q p H2 (fresh_back e1 hp) (e1.trans e2) ⟨_, _, _, h2, (fmod_in _ _ (by decide +kernel)).1, ?_, ?_, ?_⟩
    · have := fmod_in seed 2147483647 (by decide)
      omega
    · omega
    · omega
theorem ok__law_random (T : Tx K mg) : FnOk P w K mg base CX0 2 T.a__law_random T.d__law_random ["_law_generator_here", "_law_bound"] (sp__law_random T) := by
  refine T.f__law_random.ok (k := 1) sc__law_random (fun vs H Q E h => ?_) (fun cdv A outer s H vs Q E hr h => ?_)
  · obtain ⟨g, n, C, rfl, _⟩ := h
    rfl
  · obtain ⟨g, n, C, rfl, hg, hC, hn1, hn2, q⟩ := h
    obtain ⟨A0, B, c, hg, hA, hB, hc0, hc1⟩ := hg
    refine ⟨_,       (pss_cons (ps_if (pt_cmpR op_gt (pe_ix (r := rIxL K) ix_list (pv 0) pe_int (fun _ _ => rfl)) pe_int (nomark _)) 
        (pss_cons (ps_set (i := 2) sc__law_random.nd rfl (by first | exact Or.inl rfl | exact Or.inr rfl) (pe_op op_modN (pe_callTy call_int1 (by rfl) T.m_int (by decide +kernel) (pa_cons (pe_ix (r := rIxL K) ix_list (pv 0) pe_int (fun _ _ => rfl)) pa_nil)) (pv 1))) 
        (pss_cons (ps_asg (pe_op op_fdivW (pe_ix (r := rIxL K) ix_list (pv 0) pe_int (fun _ _ => rfl)) (pv 1)) (pg_sub (pv 0) pe_int set_list)) 
        (pss_one (ps_ret (pv 2))))) pss_nil) 
      (pss_cons (ps_set (i := 2) sc__law_random.nd rfl (by first | exact Or.inl rfl | exact Or.inr rfl) pe_int) 
      (pss_cons (ps_for PassesOwn.never rfl (pi_range1 rfl T.m_range (pa_cons (pe_op op_add pe_int (pe_op op_fdiv (pe_bits (pv 1)) pe_int)) pa_nil)) (pg_name (i := 3) sc__law_random.nd rfl (by first | exact Or.inl rfl | exact Or.inr rfl)) 
        (pss_cons (ps_asg (pe_op op_add (pe_ix (r := rIxL K) ix_list (pv 0) pe_int (fun _ _ => rfl)) pe_int) (pg_sub (pv 0) pe_int set_list)) 
        (pss_one (ps_set (i := 2) sc__law_random.nd rfl (by first | exact Or.inl rfl | exact Or.inr rfl) (pe_op op_add (pe_op op_mul (pv 2) pe_int) (pe_call (ok__law_hash T) hr (by rfl) T.g__law_hash T.f__law_hash.kp T.b__law_hash .nil pass0 (pa_cons (pe_ix (r := rIxL K) ix_list (pv 0) pe_int (fun _ _ => rfl)) (pa_cons (pe_ix (r := rIxL K) ix_list (pv 0) pe_int (fun _ _ => rfl)) pa_nil)))))))) 
      (pss_one (ps_ret (pe_op op_modN (pe_callTy call_int1 (by rfl) T.m_int (by decide +kernel) (pa_cons (pv 2) pa_nil)) (pv 1))))))), ?_⟩
    refine q_when (b := decide (0 < A0)) (et_test (ev_op (ev_op (ev_var rfl) ev_c (rv_ixL (K := K) (sq_of hg) (atI_nat (j := 0) rfl))) ev_c rv_I0)) (fun z H1 e1 => ?_) (fun z H1 e1 => ?_)
    · have g1 := e1 _ _ hg
      refine q_asg (ev_op (ev_int (ev_op (ev_var rfl) ev_c (rv_ixL (K := K) (sq_of g1) (atI_nat (j := 0) rfl)))) (ev_var rfl) (rv_I (show n ≠ 0 by omega))) fun H2 e2 => ?_
      have g2 := e2 _ _ g1
      refine q_setL (j := 0) (v := .int (A0 / n)) g2 (ev_op (ev_op (ev_var rfl) ev_c (rv_ixL (K := K) (sq_of g2) (atI_nat (j := 0) rfl))) (ev_var rfl) (rv_I (wide_div (b := 64) (by omega) (by omega) (by decide) (by decide)))) (ev_var rfl) ev_c (by show 0 < 3; decide) fun H3 e3 => ?_
      have hm := fmod_in A0 n (by omega)
      refine s_ret (ev_var rfl) fun H4 e4 => q _ H4 hm.1 hm.2 ⟨A0 / n, B, c, e4 _ _ upd_same, Int.ediv_nonneg hA (by omega), hB, hc0, by omega⟩ ?_
      exact ((ExB.of ((e1.trans e2).trans e3)).upd).trans (ExB.of e4)
    · refine q_asg ev_c fun H2 e2 => ?_
      have hbits : Builtin.Int.intBits n ≤ 61 := PyProof.Rows.intBits_le (k := 61) (show n.natAbs < 2 ^ 61 by omega)
      refine q_forR1 (n := 1 + ((Builtin.Int.intBits n : Nat) : Int) / 30) (ea_cons (ev_op ev_c (ev_op (ev_bits (ev_var rfl)) ev_c (rv_I ⟨by decide, by decide⟩)) rv_I0) ea_nil) (by omega)
        (fun i σ' H' => ∃ d y3, σ' = [some (.ref g), some (.int n), some (.int d), y3] ∧ ExB g H H' ∧ H' g = some (.lst [.int A0, .int B, .int (c + (i : Int))])) (fun H3 e3 => ⟨0, none, rfl, ExB.of ((e1.trans e2).trans e3), by
          rw [((e1.trans e2).trans e3) _ _ hg, show c + ((0 : Nat) : Int) = c by omega]⟩) (fun i σ' H' hi hP => ?_) (fun σ' H' hP => ?_)
      · obtain ⟨d, y3, rfl, hE, hg'⟩ := hP
        refine q_setL (j := 2) (v := .int (c + (i : Int) + 1)) hg' (ev_op (ev_op (ev_var rfl) ev_c (rv_ixL (K := K) (sq_of hg') (atI_nat (j := 2) rfl))) ev_c rv_I0) (ev_var rfl) ev_c (by show 2 < 3; decide) fun H3 e3 => ?_
        have g3 : (upd H3 g (.lst [.int A0, .int B, .int (c + (i : Int) + 1)])) g = some (.lst [.int A0, .int B, .int (c + (i : Int) + 1)]) := upd_same
        refine s_asg (ev_op (ev_op (ev_var rfl) ev_c (rv_I (Or.inr ⟨by decide, by decide⟩))) (ev_call (ea_cons (ev_op (ev_var rfl) ev_c (rv_ixL (K := K) (sq_of g3) (atI_nat (j := 1) rfl))) (ea_cons (ev_op (ev_var rfl) ev_c (rv_ixL (K := K) (sq_of g3) (atI_nat (j := 2) rfl))) ea_nil)) (spv fun H1 e Q q E => ⟨B, c + (i : Int) + 1, rfl, hB, by omega, q⟩)) rv_I0) fun H4 e4 => ?_
        refine ⟨_, _, rfl, (hE.trans (ExB.of e3)).upd.trans (ExB.of e4), ?_⟩
        rw [e4 _ _ g3, show c + (i : Int) + 1 = c + ((i + 1 : Nat) : Int) by omega]
      · obtain ⟨d, y3, rfl, hE, hg'⟩ := hP
        have hm := fmod_in d n (by omega)
        refine s_ret (ev_op (ev_int (ev_var rfl)) (ev_var rfl) (rv_I (show n ≠ 0 by omega))) fun H4 e4 => q _ H4 hm.1 hm.2 ⟨A0, B, _, e4 _ _ hg', hA, hB, by omega, by omega⟩ (hE.trans (ExB.of e4))
end
end K52

set_option Elab.async false
set_option linter.all false
set_option maxRecDepth 100000
set_option maxHeartbeats 4000000
set_option exponentiation.threshold 3000
namespace K52
open PySem PySem.Spec PyProof.Rows L2 Evl WS M52
section
variable {K : PySem.W.Frag} {σ : L2.St} {H : Hp} {ta tb te : TE}
theorem ev_max {p : Addr} {ns : List Int} {m : Int} (h : Ev te σ H (.ref p)) (hp : SqL K H p (ns.map V.int)) (hm : m ∈ ns) (hle : ∀ y ∈ ns, y ≤ m) : Ev (tCB (rMax K) (tCons te tNil)) σ H (.int m) := fun H1 e Q q =>
  h H1 e _ fun H2 e2 => ⟨p, ns, rfl, ex_l (e.trans e2) hp, by cases ns with | nil => cases hm | cons a r => simp, fun k hk hkl => by
    have : k = m := Int.le_antisymm (hle k hk) (hkl m hm)
    rw [this]
    exact q H2 e2⟩
theorem index_ev {a : Addr} {ns : List Int} {k : Nat} {m : Int} (ha : Ev ta σ H (.ref a)) (hb : ∀ H1, Ex H H1 → Ev tb σ H1 (.int m)) (hl : H a = some (.lst (ns.map V.int))) (hk : ns[k]? = some m) (hno : ∀ j, j < k → ns[j]? ≠ some m) :
    Ev (tBM K "list" (rIndexD K) ta (tCons tb tNil)) σ H (.int (k : Int)) := fun H1 e Q q => ha H1 e _ fun H2 e2 => ⟨Or.inl ⟨rfl, _, sq_of (e2 _ _ (e _ _ hl))⟩, hb H2 (e.trans e2) H2 (Ex.refl H2) _ fun H3 e3 => by
    have h3 := e3 _ _ (e2 _ _ (e _ _ hl))
    refine ⟨a, .int m, .int m, (ns.map V.int).map sD, k, .int m, rfl, rfl, .lst (sq_of h3) (dpAll_sc (ints_sc _)), .int _, shaped_lst _, rfl, ?_, ?_, fun j z hj hz => ?_, q H3 (e2.trans e3)⟩
    · rw [ints_sD, List.getElem?_map, hk]
      rfl
    · simp [PyData.eqv]
    · rw [ints_sD, List.getElem?_map] at hz
      have hn := hno j hj
      cases hq : ns[j]? with
      | none => rw [hq] at hz; cases hz
      | some x =>
        rw [hq] at hz hn
        cases hz
        have : x ≠ m := fun h => hn (by rw [h])
        simp [PyData.eqv]
        exact this⟩
end
theorem gI_nat (x y : Nat) : gI (x : Int) (y : Int) = ((Nat.gcd x y : Nat) : Int) := by
  unfold gI
  rw [Int.natAbs_natCast, Int.natAbs_natCast]
section
variable {K : PySem.W.Frag} {mg : Str → Option Value}
def sp__law_common (T : Tx K mg) : Sp := fun vs H Q _ => ∃ x y : Nat, vs = [.int (x : Int), .int (y : Int)] ∧ RetV (.int ((Nat.gcd x y : Nat) : Int)) H Q
def sp__law_lowest (T : Tx K mg) : Sp := fun vs H Q _ => ∃ a b : Int, vs = [.int a, .int b] ∧ 0 ≤ a ∧ 0 < b ∧ b.natAbs < 2 ^ 2000 ∧ RetU (frV a b) H Q
def sp__law_prices (T : Tx K mg) : Sp := fun vs H Q _ => ∃ d w : Nat, vs = [.int (d : Int), .int (w : Int)] ∧ d ≤ 7 ∧ RetL ((pr d w).map V.int) H Q
def sp__law_right (T : Tx K mg) : Sp := fun vs H Q _ => ∃ d w o : Nat, vs = [.int (d : Int), .int (w : Int), .int (o : Int)] ∧ 1 ≤ d ∧ d ≤ 7 ∧ w ≤ d ∧ o ≤ d ∧ RetV (.bl true) H Q
def sp__law_least_right (T : Tx K mg) : Sp := fun vs H Q _ => ∃ d : Nat, vs = [.int (d : Int)] ∧ 1 ≤ d ∧ d ≤ 7 ∧ RetV (.bl true) H Q
end
theorem fr1 {d w : Nat} (hd : d ≤ 7) (hw : w ≤ d) : frV (tm d w) 2 = frV (pr d w).sum (2 ^ d) ∧ ¬ 2 * (pr d w).sum < (2 * (d : Int) + 1) * 2 ^ d := by
  have h := f1 d (by omega) w hw
  unfold F1 at h
  simp only [Bool.and_eq_true, Bool.not_eq_true', decide_eq_true_eq, decide_eq_false_iff_not] at h
  refine ⟨?_, h.2⟩
  unfold frV
  rw [h.1.1, h.1.2]
theorem fr2 {d w : Nat} (hd : d ≤ 7) (hw : w ≤ d) : frV (whole d w - 1) (whole d w) = frV (halves d w).sum (2 ^ (mx (pr d w)).toNat) := by
  have h := f2 d (by omega) w hw
  unfold F2 at h
  simp only [Bool.and_eq_true, decide_eq_true_eq] at h
  unfold frV
  rw [h.1, h.2]
theorem fr3 {d w o : Nat} (hd : d ≤ 7) (hw : w ≤ d) (ho : o ≤ d) : gp1 w o d = mx (gaps d w o) ∧ 0 ≤ gp2 w o d ∧ (gaps d w o)[(gp2 w o d).toNat]? = some (gp1 w o d) ∧ ∀ j, j < (gp2 w o d).toNat → (gaps d w o)[j]? ≠ some (gp1 w o d) := by
  have h := f3 d (by omega) w hw o ho
  unfold F3 at h
  simp only [Bool.and_eq_true, decide_eq_true_eq, List.all_eq_true, List.mem_range] at h
  exact ⟨h.1.1.1, h.1.1.2, h.1.2, h.2⟩
theorem fr4 {d : Nat} (hd : d ≤ 7) : lm d = lr d := by
  have h := f4 d (by omega)
  unfold F4 at h
  exact of_decide_eq_true h
theorem fr6 {d w : Nat} (hd : d ≤ 7) (hw : w ≤ d) : ∀ p ∈ pr d w, 0 ≤ p ∧ p ≤ 200 := by
  have h := f6 d (by omega) w hw
  unfold F6 at h
  simp only [Bool.and_eq_true, decide_eq_true_eq, List.all_eq_true] at h
  exact h
theorem pr_ne (d w : Nat) : pr d w ≠ [] := by
  unfold pr
  have := Nat.two_pow_pos d
  simp
theorem pr_len (d w : Nat) : (pr d w).length = 2 ^ d := by
  unfold pr
  simp
theorem ga_ne (d w o : Nat) : gaps d w o ≠ [] := by
  unfold gaps
  simp
theorem two7 {d : Nat} (h : d ≤ 7) : 2 ^ d ≤ 128 := Nat.le_trans (Nat.pow_le_pow_right (by decide) h) (by decide)
theorem pc (d : Nat) : (2 : Int) ^ d = ((2 ^ d : Nat) : Int) := by rw [Int.natCast_pow]; rfl
theorem pr_at {d w i : Nat} (h : i < 2 ^ d) : ((pr d w).map V.int)[i]? = some (.int ((i : Int) / 2 ^ w + 1 + (w : Int))) := by
  unfold pr
  rw [List.getElem?_map, List.getElem?_map, List.getElem?_range h]
  rfl
section
variable {P : Program} {w : World} {K : PySem.W.Frag} {mg : Str → Option Value} {base : Heap}
theorem ok__law_common (T : Tx K mg) : FnOk P w K mg base CX0 1 T.a__law_common T.d__law_common ["_law_one", "_law_other"] (sp__law_common T) := by
  refine T.f__law_common.ok (k := 0) sc__law_common (fun vs H Q E h => ?_) (fun cdv A outer s H vs Q E hr h => ?_)
  · obtain ⟨x, y, rfl, _⟩ := h
    rfl
  · obtain ⟨x, y, rfl, q⟩ := h
    refine ⟨_,       (pss_cons (ps_while PassesOwn.never (pt_cmpR op_ne (pv 1) pe_int (nomark _)) 
        (pss_one (ps_par (i := 0) (j := 1) (by rfl) sc__law_common.nd rfl rfl (by decide) rfl rfl (pa_cons (pv 1) (pa_cons (pe_op op_modN (pv 0) (pv 1)) pa_nil)) (by rfl)))) 
      (pss_one (ps_ret (pv 0)))), ?_⟩
    refine q_while (fun m σ' H' => ∃ x' y' : Nat, σ' = [some (.int (x' : Int)), some (.int (y' : Int))] ∧ Ex H H' ∧ Nat.gcd x' y' = Nat.gcd x y ∧ m = y') y ⟨x, y, rfl, Ex.refl H, rfl, rfl⟩ (fun m σ' H' hW => ?_)
    obtain ⟨x', y', rfl, eH, hg, hm⟩ := hW
    refine ⟨!decide (V.int (y' : Int) = V.int 0), et_test (ev_op (ev_var rfl) ev_c (rv_ne rfl)), fun z H4 e4 => ?_, fun z H4 e4 => ?_⟩
    · have hz : 0 < y' := by
        rcases Nat.eq_zero_or_pos y' with h | h
        · rw [h] at z; exact absurd z (by decide)
        · exact h
      refine ⟨fun σ2 H2 => ∃ x2 y2 : Nat, σ2 = [some (.int (x2 : Int)), some (.int (y2 : Int))] ∧ Ex H H2 ∧ Nat.gcd x2 y2 = Nat.gcd x y ∧ y2 < y', fun σ2 H2 hN => ?_, ?_⟩
      · obtain ⟨x2, y2, rfl, e, hg2, hlt⟩ := hN
        exact ⟨y2, by omega, x2, y2, rfl, e, hg2, rfl⟩
      · have hA : EvA (tCons (tVar 1) (tCons (tOp (rI (fun _ j => j ≠ 0) fun i j => V.int (i.fmod j)) (tVar 0) (tVar 1)) tNil)) ([some (.int (x' : Int)), some (.int (y' : Int))] : L2.St) H4 [.int (y' : Int), .int ((x' % y' : Nat) : Int)] :=
          ea_cons (ev_var rfl) (ea_cons (ev_is (ev_op (ev_var rfl) (ev_var rfl) (rv_I (show (y' : Int) ≠ 0 by omega))) (by rw [Int.fmod_eq_emod_of_nonneg _ (by omega)]; rfl)) ea_nil)
        refine s_par (hA H4 (Ex.refl H4) _ fun H5 e5 => ⟨_, _, rfl, ?_⟩)
        refine ⟨y', x' % y', rfl, (eH.trans e4).trans e5, ?_, Nat.mod_lt _ hz⟩
        rw [← hg, Nat.gcd_comm x' y', Nat.gcd_rec y' x', Nat.gcd_comm]
    · have hz : y' = 0 := by
        rcases Nat.eq_zero_or_pos y' with h | h
        · exact h
        · rw [decide_eq_false (fun h' => by have := V.int.inj h'; omega)] at z
          cases z
      subst hz
      rw [Nat.gcd_zero_right] at hg
      rw [← hg] at q
      exact s_ret (ev_var rfl) fun H5 e5 => q H5 ((eH.trans e4).trans e5)
theorem ok__law_lowest (T : Tx K mg) : FnOk P w K mg base CX0 2 T.a__law_lowest T.d__law_lowest ["_law_over", "_law_under"] (sp__law_lowest T) := by
  refine T.f__law_lowest.ok (k := 1) sc__law_lowest (fun vs H Q E h => ?_) (fun cdv A outer s H vs Q E hr h => ?_)
  · obtain ⟨a, b, rfl, _⟩ := h
    rfl
  · obtain ⟨a, b, rfl, h0, h1, h2, q⟩ := h
    refine ⟨_,       (pss_cons (ps_set (i := 2) sc__law_lowest.nd rfl (by first | exact Or.inl rfl | exact Or.inr rfl) (pe_call (ok__law_common T) hr (by rfl) T.g__law_common T.f__law_common.kp T.b__law_common .nil pass0 (pa_cons (pv 0) (pa_cons (pv 1) pa_nil)))) 
      (pss_one (ps_ret (pe_tup (pa_cons (pe_op op_fdivW (pv 0) (pv 2)) (pa_cons (pe_op op_fdivW (pv 1) (pv 2)) pa_nil)))))), ?_⟩
    obtain ⟨x, rfl⟩ := Int.eq_ofNat_of_zero_le h0
    obtain ⟨y, rfl⟩ := Int.eq_ofNat_of_zero_le (Int.le_of_lt h1)
    refine q_asg (v := .int (gI (x : Int) (y : Int))) (ev_is (ev_call (ea_cons (ev_var rfl) (ea_cons (ev_var rfl) ea_nil)) (spv fun H1 e Q q E => ⟨x, y, rfl, q⟩)) (by rw [gI_nat])) fun H1 e1 => ?_
    exact s_retU (eu_tup (ea_cons (ev_op (ev_var rfl) (ev_var rfl) (rv_I (wide_div (b := 2000) (gI_pos h1) (gI_le h1 h2) (by decide) (by decide)))) (ea_cons (ev_op (ev_var rfl) (ev_var rfl) (rv_I (wide_div (b := 2000) (gI_pos h1) (gI_le h1 h2) (by decide) (by decide)))) ea_nil)) (by show 2 ≤ 100000; decide)) fun p H2 hp e2 h2 => q.go e1 hp e2 h2
theorem ok__law_prices (T : Tx K mg) : FnOk P w K mg base CX0 1 T.a__law_prices T.d__law_prices ["_law_depth", "_law_width"] (sp__law_prices T) := by
  refine T.f__law_prices.ok (k := 0) sc__law_prices (fun vs H Q E h => ?_) (fun cdv A outer s H vs Q E hr h => ?_)
  · obtain ⟨d, wd, rfl, _⟩ := h
    rfl
  · obtain ⟨d, wd, rfl, hd, q⟩ := h
    refine ⟨_,       (pss_one (ps_ret (pe_lc (own := [("_law_fold", 2)]) (g := gName 2) (tt := tYes) rfl sc__law_prices.nd (pi_range1 rfl T.m_range (pa_cons (pe_op op_shlW pe_int (pv 0)) pa_nil)) (blkOk_by (own := [("_law_fold", 2)]) (N := ["_law_depth", "_law_width", "_law_fold"]) (sc := defScope s__law_prices) (by decide +kernel)) (fun _ _ _ _ _ => (pg_name (i := 2) sc__law_prices.nd rfl (by first | exact Or.inl rfl | exact Or.inr rfl))) (fun _ _ _ _ _ => pts_nil) (fun _ _ _ _ _ => (pe_op op_add (pe_op op_add (pe_op op_shr (pv 2) (pv 1)) pe_int) (pv 1)))))), ?_⟩
    have h7 := two7 hd
    refine s_retL (el_mapR (n := 2 ^ d) (V.int ∘ fun (f : Nat) => (f : Int) / 2 ^ wd + 1 + (wd : Int)) (ea_cons (ev_is (w := .int ((2 ^ d : Nat) : Int)) (ev_op ev_c (ev_var rfl) (rv_I (shl1 (by decide) (by omega)))) (by rw [tn, Int.one_mul, pc])) ea_nil) (by omega) (fun _ => rfl) (fun i H1 e hi => ev_is (ev_op (ev_op (ev_op (ev_var rfl) (ev_var rfl) (rv_I (Int.natCast_nonneg wd))) ev_c rv_I0) (ev_var rfl) rv_I0) ?_)) fun p H2 hp e2 h2 => q.go (Ex.refl H) hp e2 ?_
    · rw [Int.toNat_natCast]
      rfl
    · rw [h2]
      unfold pr
      rw [List.map_map]
theorem ok__law_right (T : Tx K mg) : FnOk P w K mg base CX0 6 T.a__law_right T.d__law_right ["_law_depth", "_law_width", "_law_other"] (sp__law_right T) := by
  refine T.f__law_right.ok (k := 5) sc__law_right (fun vs H Q E h => ?_) (fun cdv A outer s H vs Q E hr h => ?_)
  · obtain ⟨d, wd, o, rfl, _⟩ := h
    rfl
  · obtain ⟨d, wd, o, rfl, h1, h2, h3, h4, q⟩ := h
    refine ⟨_,       (pss_cons (ps_set (i := 3) sc__law_right.nd rfl (by first | exact Or.inl rfl | exact Or.inr rfl) (pe_call (ok__law_prices T) (hr.mono (by decide)) (by rfl) T.g__law_prices T.f__law_prices.kp T.b__law_prices .nil pass0 (pa_cons (pv 0) (pa_cons (pv 1) pa_nil)))) 
      (pss_cons (ps_if (PW.pt (pw_or (pt_cmpR (op_neD hr.units) (pe_call (ok_mean T) hr (by rfl) T.g_mean T.f_mean.kp T.b_mean .nil pass0 (pa_cons (pv 0) (pa_cons (pv 1) pa_nil))) (pe_call (ok__law_lowest T) (hr.mono (by decide)) (by rfl) T.g__law_lowest T.f__law_lowest.kp T.b__law_lowest .nil pass0 (pa_cons (pe_callB (id := "sum") (r := rSum K) (cr_sum rfl) (by rfl) T.m_sum (by decide +kernel) (pa_cons (pv 3) pa_nil)) (pa_cons (pe_callB (id := "len") (r := rLenS K) call_len_seq (by rfl) T.m_len PySem.boot_len (pa_cons (pv 3) pa_nil)) pa_nil))) (nomark _)) (pw_or1 (pt_cmpR op_lt (pe_op op_mul pe_int (pe_callB (id := "sum") (r := rSum K) (cr_sum rfl) (by rfl) T.m_sum (by decide +kernel) (pa_cons (pv 3) pa_nil))) (pe_op op_mul (pe_op op_add (pe_op op_mul pe_int (pv 0)) pe_int) (pe_callB (id := "len") (r := rLenS K) call_len_seq (by rfl) T.m_len PySem.boot_len (pa_cons (pv 3) pa_nil))) (nomark _))))) 
        (pss_one (ps_ret pe_bl)) pss_nil) 
      (pss_cons (ps_set (i := 4) sc__law_right.nd rfl (by first | exact Or.inl rfl | exact Or.inr rfl) (pe_callB (id := "max") (r := rMax K) (cr_max rfl) (by rfl) T.m_max (by decide +kernel) (pa_cons (pv 3) pa_nil))) 
      (pss_cons (ps_if (pt_cmpR (op_neD hr.units) (pe_call (ok_fair T) (hr.mono (by decide)) (by rfl) T.g_fair T.f_fair.kp T.b_fair .nil pass0 (pa_cons (pv 0) (pa_cons (pv 1) pa_nil))) (pe_call (ok__law_lowest T) (hr.mono (by decide)) (by rfl) T.g__law_lowest T.f__law_lowest.kp T.b__law_lowest .nil pass0 (pa_cons (pe_callB (id := "sum") (r := rSum K) (cr_sum rfl) (by rfl) T.m_sum (by decide +kernel) (pa_cons (pe_lc (own := [("_law_price", 7)]) (g := gName 7) (tt := tYes) rfl sc__law_right.nd (pi_list (pv 3)) (blkOk_by (own := [("_law_price", 7)]) (N := ["_law_depth", "_law_width", "_law_other", "_law_told", "_law_greatest", "_law_more", "_law_gaps", "_law_price", "_law_fold"]) (sc := defScope s__law_right) (by decide +kernel)) (fun _ _ _ _ _ => (pg_name (i := 7) sc__law_right.nd rfl (by first | exact Or.inl rfl | exact Or.inr rfl))) (fun _ _ _ _ _ => pts_nil) (fun _ _ _ _ _ => (pe_op op_shlW pe_int (pe_op op_sub (pv 4) (pv 7))))) pa_nil)) (pa_cons (pe_op op_shlW pe_int (pv 4)) pa_nil))) (nomark _)) 
        (pss_one (ps_ret pe_bl)) pss_nil) 
      (pss_cons (ps_set (i := 5) sc__law_right.nd rfl (by first | exact Or.inl rfl | exact Or.inr rfl) (pe_call (ok__law_prices T) (hr.mono (by decide)) (by rfl) T.g__law_prices T.f__law_prices.kp T.b__law_prices .nil pass0 (pa_cons (pv 0) (pa_cons (pv 2) pa_nil)))) 
      (pss_cons (ps_setLc (i := 6) (own := [("_law_fold", 8)]) (g := gName 8) (tt := tYes) rfl sc__law_right.nd rfl rfl (sw_true rfl rfl rfl (by decide +kernel)) (pi_range1 rfl T.m_range (pa_cons (pe_callB (id := "len") (r := rLenS K) call_len_seq (by rfl) T.m_len PySem.boot_len (pa_cons (pv 3) pa_nil)) pa_nil)) (blkOk_by (own := [("_law_fold", 8)]) (N := ["_law_depth", "_law_width", "_law_other", "_law_told", "_law_greatest", "_law_more", "_law_gaps", "_law_price", "_law_fold"]) (sc := defScope s__law_right) (by decide +kernel)) (fun _ _ _ _ _ => (pg_name (i := 8) sc__law_right.nd rfl (by first | exact Or.inl rfl | exact Or.inr rfl))) (fun _ _ _ _ _ => pts_nil) (fun _ _ _ _ _ => (pe_op op_sub (pe_ix (r := rIxL K) ix_list (pv 3) (pv 8) (fun _ _ => rfl)) (pe_ix (r := rIxL K) ix_list (pv 5) (pv 8) (fun _ _ => rfl))))) 
      (pss_one (ps_ret (pe_cmpR (op_eqD hr.units) (pe_call (ok_gap T) (hr.mono (by decide)) (by rfl) T.g_gap T.f_gap.kp T.b_gap .nil pass0 (pa_cons (pv 1) (pa_cons (pv 2) (pa_cons (pv 0) pa_nil)))) (pe_tup (pa_cons (pe_callB (id := "max") (r := rMax K) (cr_max rfl) (by rfl) T.m_max (by decide +kernel) (pa_cons (pv 6) pa_nil)) (pa_cons (pe_bm PySem.F.plainAttrs_list PySem.F.slot_list_index PySem.F.type_list_index (mt_indexD (un65 hr)) (pv 6) (pa_cons (pe_callB (id := "max") (r := rMax K) (cr_max rfl) (by rfl) T.m_max (by decide +kernel) (pa_cons (pv 6) pa_nil)) pa_nil)) pa_nil))) (nomark _)))))))))), ?_⟩
    have h7 := two7 h2
    obtain ⟨m1, m2⟩ := mx_ok (pr_ne d wd)
    have hb := fr6 h2 h3
    have hmb := hb _ m1
    -- told
    refine q_asgL (xs := (pr d wd).map V.int) (el_callR (ea_cons (ev_var rfl) (ea_cons (ev_var rfl) ea_nil)) fun H1 e Q q E => ⟨d, wd, rfl, h2, q⟩) fun p H1 hp e1 k1 => ?_
    have hlen : (((pr d wd).map V.int).length : Int) = 2 ^ d := by rw [List.length_map, pr_len, pc]
    have el : ∀ {H' : Hp} {σ' : L2.St}, Ex H1 H' → σ'[3]? = some (some (.ref p)) → Ev (tCB (rLenS K) (tCons (tVar 3) tNil)) σ' H' (.int (2 ^ d)) := fun {H'} {σ'} e hσ => ev_is (ev_len (K := K) (ev_var hσ) (sq_of (e _ _ k1))) (by rw [hlen])
    have es : ∀ {H' : Hp} {σ' : L2.St}, Ex H1 H' → σ'[3]? = some (some (.ref p)) → Ev (tCB (rSum K) (tCons (tVar 3) tNil)) σ' H' (.int (pr d wd).sum) := fun {H'} {σ'} e hσ => ev_sum (K := K) (ev_var hσ) (sq_of (e _ _ k1))
    obtain ⟨f11, f12⟩ := fr1 h2 h3
    have hs0 : 0 ≤ (pr d wd).sum := by
      have : ∀ l : List Int, (∀ y ∈ l, 0 ≤ y) → 0 ≤ l.sum := fun l => by
        induction l with
        | nil => intro _; exact Int.le_refl _
        | cons a r ih =>
          intro h
          rw [List.sum_cons]
          have := h a List.mem_cons_self
          have := ih fun y hy => h y (List.mem_cons_of_mem _ hy)
          omega
      exact this _ fun y hy => (hb y hy).1
    have hp2 : ((2 : Int) ^ d).natAbs < 2 ^ 2000 := by
      rw [pc, Int.natAbs_natCast]
      exact Nat.pow_lt_pow_right (by decide) (by omega)
    refine q_when (b := false) (et_or (a := false) (et_test (ev_opUU (xs := frV (tm d wd) 2) (ys := frV (pr d wd).sum (2 ^ d)) (eu_call (ea_cons (ev_var rfl) (ea_cons (ev_var rfl) ea_nil)) fun H2 e Q q E => ⟨d, wd, rfl, h1, by omega, h3, q⟩)
      (eu_call (ea_cons (es (Ex.refl H1) rfl) (ea_cons (el (Ex.refl H1) rfl) ea_nil)) fun H2 e Q q E => ⟨_, _, rfl, hs0, p2 d, hp2, q⟩) fun u v H2 hu hv e => rv_neT (K := K) hu (by rw [f11]; exact hv) rfl)) fun _ =>
      et_is (et_test (ev_op (ev_op ev_c (es (Ex.refl H1) rfl) (rv_I (Or.inl ⟨by decide, by decide⟩))) (ev_op (ev_op (ev_op ev_c (ev_var rfl) (rv_I (Or.inl ⟨by decide, by decide⟩))) ev_c rv_I0) (el (Ex.refl H1) rfl) (rv_I (Or.inl ⟨by omega, by omega⟩))) rv_I0)) (decide_eq_false f12)) (fun z => by cases z) (fun _ H2 e2 => ?_)
    -- greatest
    refine q_asg (v := .int (mx (pr d wd))) (ev_max (K := K) (ev_var rfl) (sq_of (e2 _ _ k1)) m1 m2) fun H3 e3 => ?_
    have e13 := e2.trans e3
    have k3 := e13 _ _ k1
    obtain ⟨M, hM⟩ := Int.eq_ofNat_of_zero_le hmb.1
    have hM2 : M ≤ 200 := by omega
    have hp3 : ((2 : Int) ^ M).natAbs < 2 ^ 2000 := by
      rw [pc, Int.natAbs_natCast]
      exact Nat.pow_lt_pow_right (by decide) (by omega)
    have hh0 : 0 ≤ (halves d wd).sum := by
      have : ∀ l : List Int, (∀ y ∈ l, 0 ≤ y) → 0 ≤ l.sum := fun l => by
        induction l with
        | nil => intro _; exact Int.le_refl _
        | cons a r ih =>
          intro h
          rw [List.sum_cons]
          have := h a List.mem_cons_self
          have := ih fun y hy => h y (List.mem_cons_of_mem _ hy)
          omega
      refine this _ fun y hy => ?_
      obtain ⟨x, _, rfl⟩ := List.mem_map.mp hy
      exact Int.le_of_lt (p2 _)
    have f2' := fr2 h2 h3
    rw [hM, Int.toNat_natCast] at f2'
    refine q_when (b := false) (et_test (ev_opUU (xs := frV (whole d wd - 1) (whole d wd)) (ys := frV (halves d wd).sum (2 ^ M)) (eu_call (ea_cons (ev_var rfl) (ea_cons (ev_var rfl) ea_nil)) fun H2 e Q q E => ⟨d, wd, rfl, h1, by omega, h3, by omega, q⟩)
      (eu_call (ea_cons (ev_sumN (K := K) (ns := halves d wd) ?_) (ea_cons (ev_is (w := .int (2 ^ M)) (ev_op ev_c (ev_is (w := .int (M : Int)) (ev_var rfl) (by rw [hM])) (rv_I (shl1 (by decide) (by omega)))) (by rw [tn, Int.one_mul])) ea_nil)) fun H2 e Q q E => ⟨_, _, rfl, hh0, p2 M, hp3, q⟩) fun u v H2 hu hv e => rv_neT (K := K) hu (by rw [f2']; exact hv) rfl)) (fun z => by cases z) (fun _ H4 e4 => ?_)
    · unfold halves
      rw [List.map_map]
      refine el_map (0 : Int) _ (ev_var rfl) (sq_of k3) (by rw [pr_len]; omega) (fun _ => rfl) (fun x H5 e5 hx => ?_)
      have hx1 := m2 x hx
      have hx2 := hb x hx
      obtain ⟨n, hn⟩ := Int.eq_ofNat_of_zero_le (show 0 ≤ mx (pr d wd) - x by omega)
      refine ev_is (ev_op ev_c (ev_is (w := .int (n : Int)) (ev_op (ev_var rfl) (ev_var rfl) rv_I0) (by rw [hn])) (rv_I (shl1 (by decide) (by omega)))) ?_
      show V.int (1 * 2 ^ (n : Int).toNat) = V.int (2 ^ (mx (pr d wd) - x).toNat)
      rw [hn, Int.one_mul]
    have e14 := e13.trans e4
    -- more
    refine q_asgL (xs := (pr d o).map V.int) (el_callR (ea_cons (ev_var rfl) (ea_cons (ev_var rfl) ea_nil)) fun H1 e Q q E => ⟨d, o, rfl, h2, q⟩) fun p5 H5 hp5 e5 k5 => ?_
    have e15 := e14.trans e5
    refine q_asgL (xs := (gaps d wd o).map V.int) ?_ fun p6 H6 hp6 e6 k6 => ?_
    · unfold gaps
      rw [List.map_map]
      refine el_mapR (n := 2 ^ d) _ (ea_cons (ev_is (el e15 rfl) (by rw [pc])) ea_nil) (by omega) (fun _ => rfl) (fun i H7 e7 hi => ?_)
      exact ev_op (ev_op (ev_var rfl) (ev_var rfl) (rv_ixL (K := K) (sq_of ((e15.trans e7) _ _ k1)) (atI_nat (pr_at hi)))) (ev_op (ev_var rfl) (ev_var rfl) (rv_ixL (K := K) (sq_of (e7 _ _ k5)) (atI_nat (pr_at hi)))) rv_I0
    obtain ⟨g1, g2⟩ := mx_ok (ga_ne d wd o)
    obtain ⟨f31, f32, f33, f34⟩ := fr3 h2 h3 h4
    have hmax : ∀ {H' : Hp}, Ex H6 H' → Ev (tCB (rMax K) (tCons (tVar 6) tNil)) ([some (.int (d : Int)), some (.int (wd : Int)), some (.int (o : Int)), some (.ref p), some (.int (mx (pr d wd))), some (.ref p5), some (.ref p6), none, none] : L2.St) H' (.int (gp1 wd o d)) := fun {H'} e => by
      rw [f31]
      exact ev_max (K := K) (ev_var rfl) (sq_of (e _ _ k6)) g1 g2
    refine s_ret (ev_opUU (xs := [.int (gp1 wd o d), .int (gp2 wd o d)]) (ys := [.int (gp1 wd o d), .int (gp2 wd o d)]) (eu_call (ea_cons (ev_var rfl) (ea_cons (ev_var rfl) (ea_cons (ev_var rfl) ea_nil))) fun H2 e Q q E => ⟨wd, o, d, rfl, h1, by omega, h3, h4, q⟩)
      (eu_tup (ea_cons (hmax (Ex.refl H6)) (ea_cons (ev_is (index_ev (K := K) (ev_var rfl) (fun H1 e => hmax e) k6 f33 f34) (by rw [Int.toNat_of_nonneg f32])) ea_nil)) (by show 2 ≤ 100000; decide)) fun u v H2 hu hv e => rv_eqT (K := K) hu hv rfl) fun H7 e7 => q H7 (((e1.trans e15).trans e6).trans e7)
theorem ok__law_least_right (T : Tx K mg) : FnOk P w K mg base CX0 5 T.a__law_least_right T.d__law_least_right ["_law_depth"] (sp__law_least_right T) := by
  refine T.f__law_least_right.ok (k := 4) sc__law_least_right (fun vs H Q E h => ?_) (fun cdv A outer s H vs Q E hr h => ?_)
  · obtain ⟨d, rfl, _⟩ := h
    rfl
  · obtain ⟨d, rfl, h1, h2, q⟩ := h
    refine ⟨_,       (pss_cons (ps_set (i := 1) sc__law_least_right.nd rfl (by first | exact Or.inl rfl | exact Or.inr rfl) (pe_lc (own := [("_law_width", 2)]) (g := gName 2) (tt := tYes) rfl sc__law_least_right.nd (pi_range1 rfl T.m_range (pa_cons (pe_op op_add (pv 0) pe_int) pa_nil)) (blkOk_by (own := [("_law_width", 2)]) (N := ["_law_depth", "_law_sums", "_law_width"]) (sc := defScope s__law_least_right) (by decide +kernel)) (fun _ _ _ _ _ => (pg_name (i := 2) sc__law_least_right.nd rfl (by first | exact Or.inl rfl | exact Or.inr rfl))) (fun _ _ _ _ _ => pts_nil) (fun _ _ _ _ _ => (pe_callB (id := "sum") (r := rSum K) (cr_sum rfl) (by rfl) T.m_sum (by decide +kernel) (pa_cons (pe_call (ok__law_prices T) (hr.mono (by decide)) (by rfl) T.g__law_prices T.f__law_prices.kp T.b__law_prices .nil pass0 (pa_cons (pv 0) (pa_cons (pv 2) pa_nil))) pa_nil))))) 
      (pss_one (ps_ret (pe_cmpR (op_eqD hr.units) (pe_call (ok_least_means T) hr (by rfl) T.g_least_means T.f_least_means.kp T.b_least_means .nil pass0 (pa_cons (pv 0) pa_nil)) (pe_lc (own := [("_law_width", 2)]) (g := gName 2) rfl sc__law_least_right.nd (pi_range1 rfl T.m_range (pa_cons (pe_op op_add (pv 0) pe_int) pa_nil)) (blkOk_by (own := [("_law_width", 2)]) (N := ["_law_depth", "_law_sums", "_law_width"]) (sc := defScope s__law_least_right) (by decide +kernel)) (fun _ _ _ _ _ => (pg_name (i := 2) sc__law_least_right.nd rfl (by first | exact Or.inl rfl | exact Or.inr rfl))) (fun _ _ _ _ _ => (pts_one (pt_cmpR op_eq (pe_ix (r := rIxL K) ix_list (pv 1) (pv 2) (fun _ _ => rfl)) (pe_callB (id := "min") (r := rMin K) (cr_min rfl) (by rfl) T.m_min (by decide +kernel) (pa_cons (pv 1) pa_nil)) (nomark _)))) (fun _ _ _ _ _ => (pv 2))) (nomark _))))), ?_⟩
    have ec : V.int ((d : Int) + 1) = V.int ((d + 1 : Nat) : Int) := by congr 1
    refine q_asgL (xs := (sums d).map V.int) ?_ fun p H1 hp e1 k1 => ?_
    · unfold sums
      rw [List.map_map]
      exact el_mapR (n := d + 1) _ (ea_cons (ev_is (ev_op (ev_var rfl) ev_c rv_I0) ec) ea_nil) (by omega) (fun _ => rfl) (fun i H2 e2 hi => ev_sumN (K := K) (ns := pr d i) (el_callR (ea_cons (ev_var rfl) (ea_cons (ev_var rfl) ea_nil)) fun H3 e Q q E => ⟨d, i, rfl, h2, q⟩))
    have ne : sums d ≠ [] := by unfold sums; simp
    have hat : ∀ i, i < d + 1 → ((sums d).map V.int)[i]? = some (.int (pr d i).sum) := fun i hi => by
      unfold sums
      rw [List.getElem?_map, List.getElem?_map, List.getElem?_range hi]
      rfl
    have em : ∀ l : List Nat, (l.map fun wd : Nat => V.int (wd : Int)) = (l.map fun wd : Nat => (wd : Int)).map V.int := fun l => by rw [List.map_map]; rfl
    refine s_ret (ev_is (ev_opLL (xs := ((lm d).map fun wd : Nat => (wd : Int)).map V.int) (ys := ((lr d).map fun wd : Nat => (wd : Int)).map V.int) ?_ ?_ fun u v H2 hu hv e => rv_eqI (K := K) (sq_of hu) (sq_of hv)) ?_) fun H2 e2 => q H2 (e1.trans e2)
    · rw [← em]
      exact el_callR (ea_cons (ev_var rfl) ea_nil) fun H3 e Q q E => ⟨d, rfl, h1, by omega, q⟩
    · rw [← em]
      have hk := el_lcR1 (σ := [some (V.int (d : Int)), some (V.ref p), none]) (H := H1) (ta := tCons (tOp (rI0 fun i j => .int (i + j)) (tVar 0) (tC (.int 1))) tNil) (j := 2) (vs := [2]) (n := ((d + 1 : Nat) : Int)) (t := tTest (tOp rEq (tOp (rIxL K) (tVar 1) (tVar 2)) (tCB (rMin K) (tCons (tVar 1) tNil)))) (te := tVar 2) (fun i => decide (V.int (pr d i).sum = V.int (mn (sums d)))) (fun i => V.int (i : Int)) (ea_cons (ev_is (ev_op (ev_var rfl) ev_c rv_I0) ec) ea_nil) ⟨by omega, by omega⟩ (fun _ => rfl) (fun i H2 e hi => ?_) (fun i H2 e hi _ => ev_var rfl)
      · rw [Int.toNat_natCast, given_filt, filt_int] at hk
        exact hk
      · exact et_test (ev_op (ev_op (ev_var rfl) (ev_var rfl) (rv_ixL (K := K) (sq_of (e _ _ k1)) (atI_nat (hat i (by omega))))) (ev_min (K := K) (ev_var rfl) (sq_of (e _ _ k1)) (mn_ok ne).1 (mn_ok ne).2) (rv_eq rfl))
    · rw [fr4 h2, decide_eq_true rfl]
end
end K52

set_option Elab.async false
set_option linter.all false
set_option maxRecDepth 100000
set_option maxHeartbeats 4000000
set_option exponentiation.threshold 3000
namespace K52
open PySem PySem.Spec PyProof.Rows L2 Evl WS M52
theorem fr5 {n : Nat} (h : n < 23) : lm (n + 2) = [n, n + 1] ∧ frV (tm (n + 2) (n + 1)) 2 = [.int (2 * ((n + 2 : Nat) : Int) + 1), .int 2] ∧ frV (tm (n + 2) (n + 2)) 2 = [.int (((n + 2 : Nat) : Int) + 1), .int 1] ∧ gp1 0 (n + 2) (n + 2) = 2 ^ (n + 2) - 1 - ((n + 2 : Nat) : Int) ∧ gp2 0 (n + 2) (n + 2) = 2 ^ (n + 2) - 1 := by
  have h := f5 n h
  unfold F5 at h
  simp only [Bool.and_eq_true, decide_eq_true_eq] at h
  obtain ⟨⟨⟨⟨⟨⟨a1, a2⟩, a3⟩, a4⟩, a5⟩, a6⟩, a7⟩ := h
  refine ⟨by rw [a1]; rfl, ?_, ?_, a6, a7⟩
  · unfold frV
    have e : n + 2 - 1 = n + 1 := rfl
    rw [e] at a2 a3
    rw [a2, a3]
  · unfold frV
    rw [a4, a5]
def sp_law (K : PySem.W.Frag) : Sp := fun vs H Q _ => ∃ a, ∃ ns : List Int, vs = [.ref a] ∧ SqL K H a (ns.map V.int) ∧ ns.length ≤ 63 ∧ ∀ H', Q (.bl true) H'
section
variable {P : Program} {w : World} {K : PySem.W.Frag} {mg : Str → Option Value} {base : Heap}
theorem ok_law (T : Tx K mg) : FnOk P w K mg base CX0 7 T.a_law T.d_law ["_law_script"] (sp_law K) := by
  refine T.f_law.ok (k := 6) sc_law (fun vs H Q E h => ?_) (fun cdv A outer s H vs Q E hr h => ?_)
  · obtain ⟨a, ns, rfl, _⟩ := h
    rfl
  · obtain ⟨a, ns, rfl, hS, hl, q⟩ := h
    refine ⟨_,       (pss_cons (ps_for PassesOwn.never rfl (pi_range1 rfl T.m_range (pa_cons pe_int pa_nil)) (pg_name (i := 1) sc_law.nd rfl (by first | exact Or.inl rfl | exact Or.inr rfl)) 
        (pss_cons (ps_set (i := 2) sc_law.nd rfl (by first | exact Or.inl rfl | exact Or.inr rfl) (pe_call (ok__law_generator T) (hr.mono (by decide)) (by rfl) T.g__law_generator T.f__law_generator.kp T.b__law_generator .nil pass0 (pa_cons (pv 0) (pa_cons (pv 1) pa_nil)))) 
        (pss_cons (ps_set (i := 3) sc_law.nd rfl (by first | exact Or.inl rfl | exact Or.inr rfl) (pe_op op_add pe_int (pe_call (ok__law_random T) (hr.mono (by decide)) (by rfl) T.g__law_random T.f__law_random.kp T.b__law_random .nil pass0 (pa_cons (pv 2) (pa_cons pe_int pa_nil))))) 
        (pss_cons (ps_par (i := 4) (j := 5) (by rfl) sc_law.nd rfl rfl (by decide) rfl rfl (pa_cons (pe_call (ok__law_random T) (hr.mono (by decide)) (by rfl) T.g__law_random T.f__law_random.kp T.b__law_random .nil pass0 (pa_cons (pv 2) (pa_cons (pe_op op_add (pv 3) pe_int) pa_nil))) (pa_cons (pe_call (ok__law_random T) (hr.mono (by decide)) (by rfl) T.g__law_random T.f__law_random.kp T.b__law_random .nil pass0 (pa_cons (pv 2) (pa_cons (pe_op op_add (pv 3) pe_int) pa_nil))) pa_nil)) (by rfl)) 
        (pss_cons (ps_if (PW.pt (pw_or (pt_not (pt_val (pe_call (ok__law_right T) hr (by rfl) T.g__law_right T.f__law_right.kp T.b__law_right .nil pass0 (pa_cons (pv 3) (pa_cons (pv 4) (pa_cons (pv 5) pa_nil)))))) (pw_or1 (pt_not (pt_val (pe_call (ok__law_least_right T) (hr.mono (by decide)) (by rfl) T.g__law_least_right T.f__law_least_right.kp T.b__law_least_right .nil pass0 (pa_cons (pv 3) pa_nil))))))) 
          (pss_one (ps_ret pe_bl)) pss_nil) 
        (pss_cons (ps_set (i := 3) sc_law.nd rfl (by first | exact Or.inl rfl | exact Or.inr rfl) (pe_op op_add pe_int (pe_call (ok__law_random T) (hr.mono (by decide)) (by rfl) T.g__law_random T.f__law_random.kp T.b__law_random .nil pass0 (pa_cons (pv 2) (pa_cons pe_int pa_nil))))) 
        (pss_cons (ps_if (PW.pt (pw_or (pt_cmpR (op_neD hr.units) (pe_call (ok_least_means T) (hr.mono (by decide)) (by rfl) T.g_least_means T.f_least_means.kp T.b_least_means .nil pass0 (pa_cons (pv 3) pa_nil)) (pe_lst (pa_cons (pe_op op_sub (pv 3) pe_int) (pa_cons (pe_op op_sub (pv 3) pe_int) pa_nil))) (nomark _)) (pw_or1 (pt_cmpR (op_neD hr.units) (pe_call (ok_mean T) (hr.mono (by decide)) (by rfl) T.g_mean T.f_mean.kp T.b_mean .nil pass0 (pa_cons (pv 3) (pa_cons (pe_op op_sub (pv 3) pe_int) pa_nil))) (pe_tup (pa_cons (pe_op op_add (pe_op op_mul pe_int (pv 3)) pe_int) (pa_cons pe_int pa_nil))) (nomark _))))) 
          (pss_one (ps_ret pe_bl)) pss_nil) 
        (pss_one (ps_if (PW.pt (pw_or (pt_cmpR (op_neD hr.units) (pe_call (ok_mean T) (hr.mono (by decide)) (by rfl) T.g_mean T.f_mean.kp T.b_mean .nil pass0 (pa_cons (pv 3) (pa_cons (pv 3) pa_nil))) (pe_tup (pa_cons (pe_op op_add (pv 3) pe_int) (pa_cons pe_int pa_nil))) (nomark _)) (pw_or1 (pt_cmpR (op_neD hr.units) (pe_call (ok_gap T) (hr.mono (by decide)) (by rfl) T.g_gap T.f_gap.kp T.b_gap .nil pass0 (pa_cons pe_int (pa_cons (pv 3) (pa_cons (pv 3) pa_nil)))) (pe_tup (pa_cons (pe_op op_sub (pe_op op_sub (pe_op op_shlW pe_int (pv 3)) pe_int) (pv 3)) (pa_cons (pe_op op_sub (pe_op op_shlW pe_int (pv 3)) pe_int) pa_nil))) (nomark _))))) 
          (pss_one (ps_ret pe_bl)) pss_nil))))))))) 
      (pss_one (ps_ret (pe_and (pe_cmpR (op_eqD hr.units) (pe_call (ok_fair T) (hr.mono (by decide)) (by rfl) T.g_fair T.f_fair.kp T.b_fair .nil pass0 (pa_cons pe_int (pa_cons pe_int pa_nil))) (pe_tup (pa_cons pe_int (pa_cons pe_int pa_nil))) (nomark _)) (pe_and (pe_cmpR (op_eqD hr.units) (pe_call (ok_least_means T) (hr.mono (by decide)) (by rfl) T.g_least_means T.f_least_means.kp T.b_least_means .nil pass0 (pa_cons pe_int pa_nil)) (pe_lst (pa_cons pe_int pa_nil)) (nomark _)) (pe_one (pe_cmpR (op_eqD hr.units) (pe_call (ok_gap T) (hr.mono (by decide)) (by rfl) T.g_gap T.f_gap.kp T.b_gap .nil pass0 (pa_cons pe_int (pa_cons pe_int (pa_cons pe_int pa_nil)))) (pe_tup (pa_cons pe_int (pa_cons pe_int pa_nil))) (nomark _)))))))), ?_⟩
    refine q_forR1 (n := 2) (ea_cons ev_c ea_nil) (by decide) (fun i σ' H' => ∃ y1 y2 y3 y4 y5, σ' = [some (.ref a), y1, y2, y3, y4, y5] ∧ Ex H H') (fun H1 e1 => ⟨none, none, none, none, none, rfl, e1⟩) (fun i σ' H' hi hP => ?_) (fun σ' H' hP => ?_)
    · obtain ⟨y1, y2, y3, y4, y5, rfl, eH⟩ := hP
      refine ⟨.ref a, rfl, .int (i : Int), rfl, a, ns, i, rfl, ex_l eH hS, hl, by omega, fun g H1 hg0 e1 hg1 => ?_⟩
      refine ⟨.ref g, rfl, g, 7, _, rfl, hg1, by omega, by decide, by decide, fun z1 H2 z10 z11 hg2 E2 => ?_⟩
      refine ⟨1, z1, rfl, rfl, ?_⟩
      obtain ⟨n, rfl⟩ := Int.eq_ofNat_of_zero_le z10
      have ed : (1 : Int) + (n : Int) = ((n + 1 : Nat) : Int) := by omega
      dsimp only
      rw [ed]
      refine ⟨.ref g, rfl, .int ((n + 1 : Nat) : Int), rfl, _, 1, rfl, rfl, g, ((n + 1 : Nat) : Int) + 1, _, rfl, hg2, by omega, by omega, by omega, fun z2 H3 z20 z21 hg3 E3 => ?_⟩
      refine ⟨.ref g, rfl, .int ((n + 1 : Nat) : Int), rfl, _, 1, rfl, rfl, g, ((n + 1 : Nat) : Int) + 1, _, rfl, hg3, by omega, by omega, by omega, fun z3 H4 z30 z31 hg4 E4 => ?_⟩
      refine ⟨_, _, rfl, ?_⟩
      obtain ⟨n2, rfl⟩ := Int.eq_ofNat_of_zero_le z20
      obtain ⟨n3, rfl⟩ := Int.eq_ofNat_of_zero_le z30
      refine q_when (b := false) (et_or (a := false) (et_not (a := true) (et_B (ev_call (ea_cons (ev_var rfl) (ea_cons (ev_var rfl) (ea_cons (ev_var rfl) ea_nil))) (spv fun H1 e Q q E => ⟨n + 1, n2, n3, rfl, by omega, by omega, by omega, by omega, q⟩)))) fun _ => et_not (a := true) (et_B (ev_call (ea_cons (ev_var rfl) ea_nil) (spv fun H1 e Q q E => ⟨n + 1, rfl, by omega, by omega, q⟩)))) (fun z => by cases z) (fun _ H5 e5 => ?_)
      have hg5 := hg4.ex e5
      refine ⟨.ref g, rfl, g, 23, _, rfl, hg5, by omega, by decide, by decide, fun z4 H6 z40 z41 hg6 E6 => ?_⟩
      refine ⟨2, z4, rfl, rfl, ?_⟩
      have E16 := (((E2.trans E3).trans E4).trans (ExB.of e5)).trans E6
      have eT := exb_new e1 hg0 E16
      obtain ⟨m, rfl⟩ := Int.eq_ofNat_of_zero_le z40
      have ed2 : (2 : Int) + (m : Int) = ((m + 2 : Nat) : Int) := by omega
      dsimp only
      rw [ed2]
      obtain ⟨c1, c2, c3, c4, c5⟩ := fr5 (n := m) (by omega)
      have em : ∀ l : List Nat, (l.map fun wd : Nat => V.int (wd : Int)) = (l.map fun wd : Nat => (wd : Int)).map V.int := fun l => by rw [List.map_map]; rfl
      have e1' : ((m + 2 : Nat) : Int) - 1 = ((m + 1 : Nat) : Int) := by omega
      have e2' : ((m + 2 : Nat) : Int) - 2 = (m : Int) := by omega
      refine q_when (b := false) (et_or (a := false) (et_is (et_test (ev_opLL (xs := ([m, m + 1].map fun wd : Nat => (wd : Int)).map V.int) (ys := ([m, m + 1].map fun wd : Nat => (wd : Int)).map V.int) (by
        rw [← em, ← c1]
        exact el_callR (ea_cons (ev_var rfl) ea_nil) fun H3 e Q q E => ⟨m + 2, rfl, by omega, by omega, q⟩)
        (el_lst (ea_cons (ev_is (ev_op (ev_var rfl) ev_c rv_I0) (by rw [e2'])) (ea_cons (ev_is (ev_op (ev_var rfl) ev_c rv_I0) (by rw [e1'])) ea_nil)) (by show 2 ≤ 100000; decide)) fun u v H2 hu hv e => rv_neI (K := K) (sq_of hu) (sq_of hv))) (by rw [decide_eq_true rfl]; rfl)) fun _ =>
        et_test (ev_opUU (xs := [.int (2 * ((m + 2 : Nat) : Int) + 1), .int 2]) (ys := [.int (2 * ((m + 2 : Nat) : Int) + 1), .int 2]) (eu_call (ea_cons (ev_var rfl) (ea_cons (ev_is (w := .int ((m + 1 : Nat) : Int)) (ev_op (ev_var rfl) ev_c rv_I0) (by rw [e1'])) ea_nil)) fun H2 e Q q E => ⟨m + 2, m + 1, rfl, by omega, by omega, by omega, by rw [c2]; exact q⟩)
        (eu_tup (ea_cons (ev_op (ev_op ev_c (ev_var rfl) (rv_I (Or.inl ⟨by decide, by decide⟩))) ev_c rv_I0) (ea_cons ev_c ea_nil)) (by show 2 ≤ 100000; decide)) fun u v H2 hu hv e => rv_neT (K := K) hu hv rfl)) (fun z => by cases z) (fun _ H7 e7 => ?_)
      have hsh : ∀ {σ1 : L2.St} {H1 : Hp}, σ1[3]? = some (some (.int ((m + 2 : Nat) : Int))) → Ev (tOp (rI CShl fun i j => .int (i * 2 ^ j.toNat)) (tC (.int 1)) (tVar 3)) σ1 H1 (.int (2 ^ (m + 2))) := fun {σ1} {H1} h => ev_is (ev_op ev_c (ev_var h) (rv_I (shl1 (by decide) (by omega)))) (by rw [tn, Int.one_mul])
      refine s_when (b := false) (et_or (a := false) (et_test (ev_opUU (xs := [.int (((m + 2 : Nat) : Int) + 1), .int 1]) (ys := [.int (((m + 2 : Nat) : Int) + 1), .int 1]) (eu_call (ea_cons (ev_var rfl) (ea_cons (ev_var rfl) ea_nil)) fun H2 e Q q E => ⟨m + 2, m + 2, rfl, by omega, by omega, by omega, by rw [c3]; exact q⟩)
        (eu_tup (ea_cons (ev_op (ev_var rfl) ev_c rv_I0) (ea_cons ev_c ea_nil)) (by show 2 ≤ 100000; decide)) fun u v H2 hu hv e => rv_neT (K := K) hu hv rfl)) fun _ =>
        et_test (ev_opUU (xs := [.int (2 ^ (m + 2) - 1 - ((m + 2 : Nat) : Int)), .int (2 ^ (m + 2) - 1)]) (ys := [.int (2 ^ (m + 2) - 1 - ((m + 2 : Nat) : Int)), .int (2 ^ (m + 2) - 1)]) (eu_call (ea_cons ev_c (ea_cons (ev_var rfl) (ea_cons (ev_var rfl) ea_nil))) fun H2 e Q q E => ⟨0, m + 2, m + 2, rfl, by omega, by omega, by omega, by omega, by rw [c4, c5]; exact q⟩)
        (eu_tup (ea_cons (ev_op (ev_op (hsh rfl) ev_c rv_I0) (ev_var rfl) rv_I0) (ea_cons (ev_op (hsh rfl) ev_c rv_I0) ea_nil)) (by show 2 ≤ 100000; decide)) fun u v H2 hu hv e => rv_neT (K := K) hu hv rfl)) (fun z => by cases z) (fun _ H8 e8 => ⟨_, _, _, _, _, rfl, eH.trans ((eT.trans e7).trans e8)⟩)
    · obtain ⟨y1, y2, y3, y4, y5, rfl, eH⟩ := hP
      have w1 : frV (whole 24 24 - 1) (whole 24 24) = [.int 1, .int 2] := by decide +kernel
      have w2 : ((lm 1).map fun wd : Nat => V.int (wd : Int)) = [(0 : Int)].map V.int := by decide +kernel
      have w3 : ([.int (gp1 24 3 24), .int (gp2 24 3 24)] : List V) = [.int 21, .int 0] := by decide +kernel
      refine s_ret (v := .bl true) (ev_is (ev_andV (a := true) (ev_opUU (xs := [.int 1, .int 2]) (ys := [.int 1, .int 2]) (eu_call (ea_cons ev_c (ea_cons ev_c ea_nil)) fun H2 e Q q E => ⟨24, 24, rfl, by decide, by decide, by decide, by decide, by rw [w1]; exact q⟩) (eu_tup (ea_cons ev_c (ea_cons ev_c ea_nil)) (by show 2 ≤ 100000; decide)) fun u v H2 hu hv e => rv_eqT (K := K) hu hv rfl) fun _ =>
        ev_andV (a := true) (ev_is (ev_opLL (xs := [(0 : Int)].map V.int) (ys := [(0 : Int)].map V.int) (by rw [← w2]; exact el_callR (ea_cons ev_c ea_nil) fun H3 e Q q E => ⟨1, rfl, by decide, by decide, q⟩) (el_lst (ea_cons ev_c ea_nil) (by show 1 ≤ 100000; decide)) fun u v H2 hu hv e => rv_eqI (K := K) (sq_of hu) (sq_of hv)) (by rw [decide_eq_true rfl])) fun _ =>
        (ev_opUU (xs := [.int 21, .int 0]) (ys := [.int 21, .int 0]) (eu_call (ea_cons ev_c (ea_cons ev_c (ea_cons ev_c ea_nil))) fun H2 e Q q E => ⟨24, 3, 24, rfl, by decide, by decide, by decide, by decide, by rw [w3]; exact q⟩) (eu_tup (ea_cons ev_c (ea_cons ev_c ea_nil)) (by show 2 ≤ 100000; decide)) fun u v H2 hu hv e => rv_eqT (K := K) hu hv rfl)) rfl) fun H2 e2 => q H2
end
end K52

set_option Elab.async false
set_option linter.all false
set_option maxRecDepth 100000
set_option maxHeartbeats 4000000
namespace K52
open PySem PySem.Spec PyProof.Rows L2 Evl WS M52
theorem all_mk {l : PySem.W.OpenLaw} {w : World} {K : PySem.W.Frag} {h : Heap} {mg : Str → Option Value} {fa f1 f2 f3 f4 f5 f6 f7 f8 f9 f10 f11 f12 f13 f14 f15 f16 f17 f18 f19 f20 : Addr} (X : K.In h) (G : h.Ns mainGlobals mg) (hfa : mg "law" = some (.ref fa))
    {od1 an1 od2 an2 od3 an3 od4 an4 od5 an5 od6 an6 od7 an7 od8 an8 od9 an9 od10 an10 od11 an11 od12 an12 od13 an13 od14 an14 od15 an15 od16 an16 od17 an17 od18 an18 od19 an19 od20 an20 : Option Addr} {sl1 sl2 sl3 sl4 sl5 sl6 sl7 sl8 sl9 sl10 sl11 sl12 sl13 sl14 sl15 sl16 sl17 sl18 sl19 sl20 : Array (Option Value)} {oc1 kV1 dc1 pm1 cd1 ct1 oc2 kV2 dc2 pm2 cd2 ct2 oc3 kV3 dc3 pm3 cd3 ct3 oc4 kV4 dc4 pm4 cd4 ct4 oc5 kV5 dc5 pm5 cd5 ct5 oc6 kV6 dc6 pm6 cd6 ct6 oc7 kV7 dc7 pm7 cd7 ct7 oc8 kV8 dc8 pm8 cd8 ct8 oc9 kV9 dc9 pm9 cd9 ct9 oc10 kV10 dc10 pm10 cd10 ct10 oc11 kV11 dc11 pm11 cd11 ct11 oc12 kV12 dc12 pm12 cd12 ct12 oc13 kV13 dc13 pm13 cd13 ct13 oc14 kV14 dc14 pm14 cd14 ct14 oc15 kV15 dc15 pm15 cd15 ct15 oc16 kV16 dc16 pm16 cd16 ct16 oc17 kV17 dc17 pm17 cd17 ct17 oc18 kV18 dc18 pm18 cd18 ct18 oc19 kV19 dc19 pm19 cd19 ct19 oc20 kV20 dc20 pm20 cd20 ct20 : Value}
    {t_GREATEST_DEPTH t_GREATEST_LEFT : Tok}
    (a1 : PySem.W.nsIn K mainGlobals "is_number" = some (some (.ref f1)))
    (l1 : K.lookup f1 = some ⟨oc1, od1, .func (PySem.W.fnOf "is_number" "is_number" (defArgs s_is_number) (defBody s_is_number) (defScope s_is_number) .none kV1 dc1 pm1 an1 cd1 ct1), sl1⟩)
    (e1 : PySem.W.codeIn K cd1 "is_number" = true)
    (k1 : PySem.W.keepIn K (.ref f1) = true)
    (a2 : PySem.W.nsIn K mainGlobals "is_within" = some (some (.ref f2)))
    (l2 : K.lookup f2 = some ⟨oc2, od2, .func (PySem.W.fnOf "is_within" "is_within" (defArgs s_is_within) (defBody s_is_within) (defScope s_is_within) .none kV2 dc2 pm2 an2 cd2 ct2), sl2⟩)
    (e2 : PySem.W.codeIn K cd2 "is_within" = true)
    (k2 : PySem.W.keepIn K (.ref f2) = true)
    (a3 : PySem.W.nsIn K mainGlobals "check_depth" = some (some (.ref f3)))
    (l3 : K.lookup f3 = some ⟨oc3, od3, .func (PySem.W.fnOf "check_depth" "check_depth" (defArgs s_check_depth) (defBody s_check_depth) (defScope s_check_depth) .none kV3 dc3 pm3 an3 cd3 ct3), sl3⟩)
    (e3 : PySem.W.codeIn K cd3 "check_depth" = true)
    (k3 : PySem.W.keepIn K (.ref f3) = true)
    (a4 : PySem.W.nsIn K mainGlobals "fraction" = some (some (.ref f4)))
    (l4 : K.lookup f4 = some ⟨oc4, od4, .func (PySem.W.fnOf "fraction" "fraction" (defArgs s_fraction) (defBody s_fraction) (defScope s_fraction) .none kV4 dc4 pm4 an4 cd4 ct4), sl4⟩)
    (e4 : PySem.W.codeIn K cd4 "fraction" = true)
    (k4 : PySem.W.keepIn K (.ref f4) = true)
    (a5 : PySem.W.nsIn K mainGlobals "check_told_at" = some (some (.ref f5)))
    (l5 : K.lookup f5 = some ⟨oc5, od5, .func (PySem.W.fnOf "check_told_at" "check_told_at" (defArgs s_check_told_at) (defBody s_check_told_at) (defScope s_check_told_at) .none kV5 dc5 pm5 an5 cd5 ct5), sl5⟩)
    (e5 : PySem.W.codeIn K cd5 "check_told_at" = true)
    (k5 : PySem.W.keepIn K (.ref f5) = true)
    (a6 : PySem.W.nsIn K mainGlobals "fair" = some (some (.ref f6)))
    (l6 : K.lookup f6 = some ⟨oc6, od6, .func (PySem.W.fnOf "fair" "fair" (defArgs s_fair) (defBody s_fair) (defScope s_fair) .none kV6 dc6 pm6 an6 cd6 ct6), sl6⟩)
    (e6 : PySem.W.codeIn K cd6 "fair" = true)
    (k6 : PySem.W.keepIn K (.ref f6) = true)
    (a7 : PySem.W.nsIn K mainGlobals "twice_the_mean" = some (some (.ref f7)))
    (l7 : K.lookup f7 = some ⟨oc7, od7, .func (PySem.W.fnOf "twice_the_mean" "twice_the_mean" (defArgs s_twice_the_mean) (defBody s_twice_the_mean) (defScope s_twice_the_mean) .none kV7 dc7 pm7 an7 cd7 ct7), sl7⟩)
    (e7 : PySem.W.codeIn K cd7 "twice_the_mean" = true)
    (k7 : PySem.W.keepIn K (.ref f7) = true)
    (a8 : PySem.W.nsIn K mainGlobals "mean" = some (some (.ref f8)))
    (l8 : K.lookup f8 = some ⟨oc8, od8, .func (PySem.W.fnOf "mean" "mean" (defArgs s_mean) (defBody s_mean) (defScope s_mean) .none kV8 dc8 pm8 an8 cd8 ct8), sl8⟩)
    (e8 : PySem.W.codeIn K cd8 "mean" = true)
    (k8 : PySem.W.keepIn K (.ref f8) = true)
    (a9 : PySem.W.nsIn K mainGlobals "least_means" = some (some (.ref f9)))
    (l9 : K.lookup f9 = some ⟨oc9, od9, .func (PySem.W.fnOf "least_means" "least_means" (defArgs s_least_means) (defBody s_least_means) (defScope s_least_means) .none kV9 dc9 pm9 an9 cd9 ct9), sl9⟩)
    (e9 : PySem.W.codeIn K cd9 "least_means" = true)
    (k9 : PySem.W.keepIn K (.ref f9) = true)
    (a10 : PySem.W.nsIn K mainGlobals "gap" = some (some (.ref f10)))
    (l10 : K.lookup f10 = some ⟨oc10, od10, .func (PySem.W.fnOf "gap" "gap" (defArgs s_gap) (defBody s_gap) (defScope s_gap) .none kV10 dc10 pm10 an10 cd10 ct10), sl10⟩)
    (e10 : PySem.W.codeIn K cd10 "gap" = true)
    (k10 : PySem.W.keepIn K (.ref f10) = true)
    (a11 : PySem.W.nsIn K mainGlobals "_law_cell" = some (some (.ref f11)))
    (l11 : K.lookup f11 = some ⟨oc11, od11, .func (PySem.W.fnOf "_law_cell" "_law_cell" (defArgs s__law_cell) (defBody s__law_cell) (defScope s__law_cell) .none kV11 dc11 pm11 an11 cd11 ct11), sl11⟩)
    (e11 : PySem.W.codeIn K cd11 "_law_cell" = true)
    (k11 : PySem.W.keepIn K (.ref f11) = true)
    (a12 : PySem.W.nsIn K mainGlobals "_law_hash" = some (some (.ref f12)))
    (l12 : K.lookup f12 = some ⟨oc12, od12, .func (PySem.W.fnOf "_law_hash" "_law_hash" (defArgs s__law_hash) (defBody s__law_hash) (defScope s__law_hash) .none kV12 dc12 pm12 an12 cd12 ct12), sl12⟩)
    (e12 : PySem.W.codeIn K cd12 "_law_hash" = true)
    (k12 : PySem.W.keepIn K (.ref f12) = true)
    (a13 : PySem.W.nsIn K mainGlobals "_law_generator" = some (some (.ref f13)))
    (l13 : K.lookup f13 = some ⟨oc13, od13, .func (PySem.W.fnOf "_law_generator" "_law_generator" (defArgs s__law_generator) (defBody s__law_generator) (defScope s__law_generator) .none kV13 dc13 pm13 an13 cd13 ct13), sl13⟩)
    (e13 : PySem.W.codeIn K cd13 "_law_generator" = true)
    (k13 : PySem.W.keepIn K (.ref f13) = true)
    (a14 : PySem.W.nsIn K mainGlobals "_law_random" = some (some (.ref f14)))
    (l14 : K.lookup f14 = some ⟨oc14, od14, .func (PySem.W.fnOf "_law_random" "_law_random" (defArgs s__law_random) (defBody s__law_random) (defScope s__law_random) .none kV14 dc14 pm14 an14 cd14 ct14), sl14⟩)
    (e14 : PySem.W.codeIn K cd14 "_law_random" = true)
    (k14 : PySem.W.keepIn K (.ref f14) = true)
    (a15 : PySem.W.nsIn K mainGlobals "_law_common" = some (some (.ref f15)))
    (l15 : K.lookup f15 = some ⟨oc15, od15, .func (PySem.W.fnOf "_law_common" "_law_common" (defArgs s__law_common) (defBody s__law_common) (defScope s__law_common) .none kV15 dc15 pm15 an15 cd15 ct15), sl15⟩)
    (e15 : PySem.W.codeIn K cd15 "_law_common" = true)
    (k15 : PySem.W.keepIn K (.ref f15) = true)
    (a16 : PySem.W.nsIn K mainGlobals "_law_lowest" = some (some (.ref f16)))
    (l16 : K.lookup f16 = some ⟨oc16, od16, .func (PySem.W.fnOf "_law_lowest" "_law_lowest" (defArgs s__law_lowest) (defBody s__law_lowest) (defScope s__law_lowest) .none kV16 dc16 pm16 an16 cd16 ct16), sl16⟩)
    (e16 : PySem.W.codeIn K cd16 "_law_lowest" = true)
    (k16 : PySem.W.keepIn K (.ref f16) = true)
    (a17 : PySem.W.nsIn K mainGlobals "_law_prices" = some (some (.ref f17)))
    (l17 : K.lookup f17 = some ⟨oc17, od17, .func (PySem.W.fnOf "_law_prices" "_law_prices" (defArgs s__law_prices) (defBody s__law_prices) (defScope s__law_prices) .none kV17 dc17 pm17 an17 cd17 ct17), sl17⟩)
    (e17 : PySem.W.codeIn K cd17 "_law_prices" = true)
    (k17 : PySem.W.keepIn K (.ref f17) = true)
    (a18 : PySem.W.nsIn K mainGlobals "_law_right" = some (some (.ref f18)))
    (l18 : K.lookup f18 = some ⟨oc18, od18, .func (PySem.W.fnOf "_law_right" "_law_right" (defArgs s__law_right) (defBody s__law_right) (defScope s__law_right) .none kV18 dc18 pm18 an18 cd18 ct18), sl18⟩)
    (e18 : PySem.W.codeIn K cd18 "_law_right" = true)
    (k18 : PySem.W.keepIn K (.ref f18) = true)
    (a19 : PySem.W.nsIn K mainGlobals "_law_least_right" = some (some (.ref f19)))
    (l19 : K.lookup f19 = some ⟨oc19, od19, .func (PySem.W.fnOf "_law_least_right" "_law_least_right" (defArgs s__law_least_right) (defBody s__law_least_right) (defScope s__law_least_right) .none kV19 dc19 pm19 an19 cd19 ct19), sl19⟩)
    (e19 : PySem.W.codeIn K cd19 "_law_least_right" = true)
    (k19 : PySem.W.keepIn K (.ref f19) = true)
    (a20 : PySem.W.nsIn K mainGlobals "law" = some (some (.ref f20)))
    (l20 : K.lookup f20 = some ⟨oc20, od20, .func (PySem.W.fnOf "law" "law" (defArgs s_law) (defBody s_law) (defScope s_law) .none kV20 dc20 pm20 an20 cd20 ct20), sl20⟩)
    (e20 : PySem.W.codeIn K cd20 "law" = true)
    (k20 : PySem.W.keepIn K (.ref f20) = true)
    (c_GREATEST_DEPTH : PySem.W.nsIn K mainGlobals "GREATEST_DEPTH" = some (some (.int 24 t_GREATEST_DEPTH)))
    (c_GREATEST_LEFT : PySem.W.nsIn K mainGlobals "GREATEST_LEFT" = some (some (.int 10 t_GREATEST_LEFT)))
    (z_bool : PySem.W.nsIn K mainGlobals "bool" = some none)
    (z_enumerate : PySem.W.nsIn K mainGlobals "enumerate" = some none)
    (z_int : PySem.W.nsIn K mainGlobals "int" = some none)
    (z_isinstance : PySem.W.nsIn K mainGlobals "isinstance" = some none)
    (z_len : PySem.W.nsIn K mainGlobals "len" = some none)
    (z_max : PySem.W.nsIn K mainGlobals "max" = some none)
    (z_min : PySem.W.nsIn K mainGlobals "min" = some none)
    (z_range : PySem.W.nsIn K mainGlobals "range" = some none)
    (z_sum : PySem.W.nsIn K mainGlobals "sum" = some none)
    (y_gcd : PySem.W.nsIn K mainGlobals "gcd" = some (some (.builtin "math.gcd"))) :
    ∃ fd : FuncData, (∀ (s : Shared) (v : Value), BindsTo s fd ⟨[v], []⟩ [("_law_script", v)]) ∧ ∀ base : Heap, K.In base → base.Ns mainGlobals mg → FnOk l.prog w K mg base CX0 7 fa fd ["_law_script"] (sp_law K) := by
  have e := hfa.symm.trans (PySem.W.mg_of X G a20)
  cases e
  have F1 := fun_mk (st := s_is_number) l1 e1 k1
  have b1 := F1.binds (ps := ["value"]) fun _ _ _ _ _ _ us hl => match us, hl with | [_], _ => rfl
  have F2 := fun_mk (st := s_is_within) l2 e2 k2
  have b2 := F2.binds (ps := ["value", "low", "high"]) fun _ _ _ _ _ _ us hl => match us, hl with | [_, _, _], _ => rfl
  have F3 := fun_mk (st := s_check_depth) l3 e3 k3
  have b3 := F3.binds (ps := ["depth", "most"]) fun _ _ _ _ _ _ us hl => match us, hl with | [_, _], _ => rfl
  have F4 := fun_mk (st := s_fraction) l4 e4 k4
  have b4 := F4.binds (ps := ["top", "under"]) fun _ _ _ _ _ _ us hl => match us, hl with | [_, _], _ => rfl
  have F5 := fun_mk (st := s_check_told_at) l5 e5 k5
  have b5 := F5.binds (ps := ["depth", "width"]) fun _ _ _ _ _ _ us hl => match us, hl with | [_, _], _ => rfl
  have F6 := fun_mk (st := s_fair) l6 e6 k6
  have b6 := F6.binds (ps := ["depth", "width"]) fun _ _ _ _ _ _ us hl => match us, hl with | [_, _], _ => rfl
  have F7 := fun_mk (st := s_twice_the_mean) l7 e7 k7
  have b7 := F7.binds (ps := ["depth", "width"]) fun _ _ _ _ _ _ us hl => match us, hl with | [_, _], _ => rfl
  have F8 := fun_mk (st := s_mean) l8 e8 k8
  have b8 := F8.binds (ps := ["depth", "width"]) fun _ _ _ _ _ _ us hl => match us, hl with | [_, _], _ => rfl
  have F9 := fun_mk (st := s_least_means) l9 e9 k9
  have b9 := F9.binds (ps := ["depth"]) fun _ _ _ _ _ _ us hl => match us, hl with | [_], _ => rfl
  have F10 := fun_mk (st := s_gap) l10 e10 k10
  have b10 := F10.binds (ps := ["one", "other", "depth"]) fun _ _ _ _ _ _ us hl => match us, hl with | [_, _, _], _ => rfl
  have F11 := fun_mk (st := s__law_cell) l11 e11 k11
  have b11 := F11.binds (ps := ["_law_script", "_law_index"]) fun _ _ _ _ _ _ us hl => match us, hl with | [_, _], _ => rfl
  have F12 := fun_mk (st := s__law_hash) l12 e12 k12
  have b12 := F12.binds (ps := ["_law_seed", "_law_index"]) fun _ _ _ _ _ _ us hl => match us, hl with | [_, _], _ => rfl
  have F13 := fun_mk (st := s__law_generator) l13 e13 k13
  have b13 := F13.binds (ps := ["_law_script", "_law_index"]) fun _ _ _ _ _ _ us hl => match us, hl with | [_, _], _ => rfl
  have F14 := fun_mk (st := s__law_random) l14 e14 k14
  have b14 := F14.binds (ps := ["_law_generator_here", "_law_bound"]) fun _ _ _ _ _ _ us hl => match us, hl with | [_, _], _ => rfl
  have F15 := fun_mk (st := s__law_common) l15 e15 k15
  have b15 := F15.binds (ps := ["_law_one", "_law_other"]) fun _ _ _ _ _ _ us hl => match us, hl with | [_, _], _ => rfl
  have F16 := fun_mk (st := s__law_lowest) l16 e16 k16
  have b16 := F16.binds (ps := ["_law_over", "_law_under"]) fun _ _ _ _ _ _ us hl => match us, hl with | [_, _], _ => rfl
  have F17 := fun_mk (st := s__law_prices) l17 e17 k17
  have b17 := F17.binds (ps := ["_law_depth", "_law_width"]) fun _ _ _ _ _ _ us hl => match us, hl with | [_, _], _ => rfl
  have F18 := fun_mk (st := s__law_right) l18 e18 k18
  have b18 := F18.binds (ps := ["_law_depth", "_law_width", "_law_other"]) fun _ _ _ _ _ _ us hl => match us, hl with | [_, _, _], _ => rfl
  have F19 := fun_mk (st := s__law_least_right) l19 e19 k19
  have b19 := F19.binds (ps := ["_law_depth"]) fun _ _ _ _ _ _ us hl => match us, hl with | [_], _ => rfl
  have F20 := fun_mk (st := s_law) l20 e20 k20
  have b20 := F20.binds (ps := ["_law_script"]) fun _ _ _ _ _ _ us hl => match us, hl with | [_], _ => rfl
  exact ⟨_, fun s v => .of_eq rfl, fun base _ _ => ok_law { a_is_number := f1, d_is_number := _, f_is_number := F1, b_is_number := b1, g_is_number := PySem.W.mg_of X G a1, a_is_within := f2, d_is_within := _, f_is_within := F2, b_is_within := b2, g_is_within := PySem.W.mg_of X G a2, a_check_depth := f3, d_check_depth := _, f_check_depth := F3, b_check_depth := b3, g_check_depth := PySem.W.mg_of X G a3, a_fraction := f4, d_fraction := _, f_fraction := F4, b_fraction := b4, g_fraction := PySem.W.mg_of X G a4, a_check_told_at := f5, d_check_told_at := _, f_check_told_at := F5, b_check_told_at := b5, g_check_told_at := PySem.W.mg_of X G a5, a_fair := f6, d_fair := _, f_fair := F6, b_fair := b6, g_fair := PySem.W.mg_of X G a6, a_twice_the_mean := f7, d_twice_the_mean := _, f_twice_the_mean := F7, b_twice_the_mean := b7, g_twice_the_mean := PySem.W.mg_of X G a7, a_mean := f8, d_mean := _, f_mean := F8, b_mean := b8, g_mean := PySem.W.mg_of X G a8, a_least_means := f9, d_least_means := _, f_least_means := F9, b_least_means := b9, g_least_means := PySem.W.mg_of X G a9, a_gap := f10, d_gap := _, f_gap := F10, b_gap := b10, g_gap := PySem.W.mg_of X G a10, a__law_cell := f11, d__law_cell := _, f__law_cell := F11, b__law_cell := b11, g__law_cell := PySem.W.mg_of X G a11, a__law_hash := f12, d__law_hash := _, f__law_hash := F12, b__law_hash := b12, g__law_hash := PySem.W.mg_of X G a12, a__law_generator := f13, d__law_generator := _, f__law_generator := F13, b__law_generator := b13, g__law_generator := PySem.W.mg_of X G a13, a__law_random := f14, d__law_random := _, f__law_random := F14, b__law_random := b14, g__law_random := PySem.W.mg_of X G a14, a__law_common := f15, d__law_common := _, f__law_common := F15, b__law_common := b15, g__law_common := PySem.W.mg_of X G a15, a__law_lowest := f16, d__law_lowest := _, f__law_lowest := F16, b__law_lowest := b16, g__law_lowest := PySem.W.mg_of X G a16, a__law_prices := f17, d__law_prices := _, f__law_prices := F17, b__law_prices := b17, g__law_prices := PySem.W.mg_of X G a17, a__law_right := f18, d__law_right := _, f__law_right := F18, b__law_right := b18, g__law_right := PySem.W.mg_of X G a18, a__law_least_right := f19, d__law_least_right := _, f__law_least_right := F19, b__law_least_right := b19, g__law_least_right := PySem.W.mg_of X G a19, a_law := fa, d_law := _, f_law := F20, b_law := b20, g_law := PySem.W.mg_of X G a20, t_GREATEST_DEPTH := t_GREATEST_DEPTH, c_GREATEST_DEPTH := PySem.W.mg_of X G c_GREATEST_DEPTH, t_GREATEST_LEFT := t_GREATEST_LEFT, c_GREATEST_LEFT := PySem.W.mg_of X G c_GREATEST_LEFT, m_bool := PySem.W.mg_none_of X G z_bool, m_enumerate := PySem.W.mg_none_of X G z_enumerate, m_int := PySem.W.mg_none_of X G z_int, m_isinstance := PySem.W.mg_none_of X G z_isinstance, m_len := PySem.W.mg_none_of X G z_len, m_max := PySem.W.mg_none_of X G z_max, m_min := PySem.W.mg_none_of X G z_min, m_range := PySem.W.mg_none_of X G z_range, m_sum := PySem.W.mg_none_of X G z_sum, mt_gcd := PySem.W.mg_of X G y_gcd }⟩
end K52
open PySem PySem.W PyProof.Rows
set_option maxHeartbeats 0 in
theorem PySem.Challenge.cw_wholesound_k52_shares_means_and_gaps_holds : PySem.Challenge.rw_wholesound_k52_shares_means_and_gaps.Holds := by
  w_on; o_law; k_head; (case hw => w_witness2)
  k_fill
  refine L2.walk_of (l := PySem.Challenge.rw_wholesound_k52_shares_means_and_gaps) (n := 63) (k := 7) (x := "_law_script") (CX := fun _ => L2.CX0) (sp := fun w => K52.sp_law _) rfl (by decide) rfl ⟨rfl, by decide, by decide⟩ (fun w h Y => PySem.W.kIn_of Y) ?F (fun _ _ a ns hl _ hS => ⟨a, ns, rfl, hS, hl, fun _ => rfl⟩) (fun _ _ _ _ _ h => h)
  case F =>
    intro w mg fa h KX G hmg
    refine' K52.all_mk KX G hmg ?a1 ?l1 ?e1 ?k1 ?a2 ?l2 ?e2 ?k2 ?a3 ?l3 ?e3 ?k3 ?a4 ?l4 ?e4 ?k4 ?a5 ?l5 ?e5 ?k5 ?a6 ?l6 ?e6 ?k6 ?a7 ?l7 ?e7 ?k7 ?a8 ?l8 ?e8 ?k8 ?a9 ?l9 ?e9 ?k9 ?a10 ?l10 ?e10 ?k10 ?a11 ?l11 ?e11 ?k11 ?a12 ?l12 ?e12 ?k12 ?a13 ?l13 ?e13 ?k13 ?a14 ?l14 ?e14 ?k14 ?a15 ?l15 ?e15 ?k15 ?a16 ?l16 ?e16 ?k16 ?a17 ?l17 ?e17 ?k17 ?a18 ?l18 ?e18 ?k18 ?a19 ?l19 ?e19 ?k19 ?a20 ?l20 ?e20 ?k20 ?c_GREATEST_DEPTH ?c_GREATEST_LEFT ?z_bool ?z_enumerate ?z_int ?z_isinstance ?z_len ?z_max ?z_min ?z_range ?z_sum ?y_gcd
    (case a1 => k_is); (case l1 => k_is); (case e1 => k_is); (case k1 => k_is); (case a2 => k_is); (case l2 => k_is)
    (case e2 => k_is); (case k2 => k_is); (case a3 => k_is); (case l3 => k_is); (case e3 => k_is); (case k3 => k_is)
    (case a4 => k_is); (case l4 => k_is); (case e4 => k_is); (case k4 => k_is); (case a5 => k_is); (case l5 => k_is)
    (case e5 => k_is); (case k5 => k_is); (case a6 => k_is); (case l6 => k_is); (case e6 => k_is); (case k6 => k_is)
    (case a7 => k_is); (case l7 => k_is); (case e7 => k_is); (case k7 => k_is); (case a8 => k_is); (case l8 => k_is)
    (case e8 => k_is); (case k8 => k_is); (case a9 => k_is); (case l9 => k_is); (case e9 => k_is); (case k9 => k_is)
    (case a10 => k_is); (case l10 => k_is); (case e10 => k_is); (case k10 => k_is); (case a11 => k_is); (case l11 => k_is)
    (case e11 => k_is); (case k11 => k_is); (case a12 => k_is); (case l12 => k_is); (case e12 => k_is); (case k12 => k_is)
    (case a13 => k_is); (case l13 => k_is); (case e13 => k_is); (case k13 => k_is); (case a14 => k_is); (case l14 => k_is)
    (case e14 => k_is); (case k14 => k_is); (case a15 => k_is); (case l15 => k_is); (case e15 => k_is); (case k15 => k_is)
    (case a16 => k_is); (case l16 => k_is); (case e16 => k_is); (case k16 => k_is); (case a17 => k_is); (case l17 => k_is)
    (case e17 => k_is); (case k17 => k_is); (case a18 => k_is); (case l18 => k_is); (case e18 => k_is); (case k18 => k_is)
    (case a19 => k_is); (case l19 => k_is); (case e19 => k_is); (case k19 => k_is); (case a20 => k_is); (case l20 => k_is)
    (case e20 => k_is); (case k20 => k_is); (case c_GREATEST_DEPTH => k_is); (case c_GREATEST_LEFT => k_is); (case z_bool => k_is); (case z_enumerate => k_is)
    (case z_int => k_is); (case z_isinstance => k_is); (case z_len => k_is); (case z_max => k_is); (case z_min => k_is); (case z_range => k_is)
    (case z_sum => k_is); (case y_gcd => k_is)
