import PyProof.Rows.All
import Wide.All
import OpenK.AllK
import Wide.FinOn
import HandS.ForMost
import HandS.Evl
import HandS.WideBits
import HandS.WideMore
import HandS.Style
import HandS.IsInst
import HandS.OwnEq
import HandS.Iter
import HandS.Gcd
import HandS.SortKw
import KE.KMathGC
import KE.DatumOrd
import HandS.Dict
import HandS.Sort
import HandS.Walk
import HandS.More
import HandS.Ends
import PyProof.ReprRoads
import HandS.SortInts
import HandS.Deep
import PySem.Challenge.RW_wholesound_k10_guesses_and_rests
set_option Elab.async false
set_option linter.all false
set_option maxRecDepth 100000
set_option maxHeartbeats 2000000
namespace WS
open PySem PySem.Spec PyProof.Rows L2 Evl

/-! ### a power of any size -/
def CPowW (i j : Int) : Prop := 0 ≤ j ∧ (Builtin.Int.intBits i : Int) * j ≤ 2 ^ 27
section
variable {X : Cx}
theorem op_powW : OpR X (binaryOp .Pow) (rI CPowW fun i j => .int (i ^ j.toNat)) := opI fun _ _ _ _ _ _ _ hc q => pow_int hc.1 hc.2 q
end

section
variable {K : PySem.W.Frag} {σ : L2.St} {H H' : Hp} {ta tb te tx tl : TE} {t u : TT} {x y z v : V} {r : R2} {D : Ends} {tu tw tz : TS} {g : TG}
theorem ev_sumN {ns : List Int} (h : EvL te σ H (ns.map V.int)) : Ev (tCB (rSum K) (tCons te tNil)) σ H (.int ns.sum) := fun H1 e Q q =>
  h H1 e _ fun p H2 _ e2 h2 => ⟨p, ns, rfl, sq_of h2, q H2 e2⟩
theorem ev_sum {p : Addr} {ns : List Int} (h : Ev te σ H (.ref p)) (hp : SqL K H p (ns.map V.int)) : Ev (tCB (rSum K) (tCons te tNil)) σ H (.int ns.sum) := fun H1 e Q q =>
  h H1 e _ fun H2 e2 => ⟨p, ns, rfl, ex_l (e.trans e2) hp, q H2 e2⟩
theorem ev_allN {bs : List Bool} (h : EvL te σ H (bs.map V.bl)) : Ev (tCB (rAll K) (tCons te tNil)) σ H (.bl (bs.all id)) := fun H1 e Q q =>
  h H1 e _ fun p H2 _ e2 h2 => ⟨p, bs, rfl, sq_of h2, q H2 e2⟩
theorem ev_min {p : Addr} {ns : List Int} {m : Int} (h : Ev te σ H (.ref p)) (hp : SqL K H p (ns.map V.int)) (hm : m ∈ ns) (hle : ∀ y ∈ ns, m ≤ y) : Ev (tCB (rMin K) (tCons te tNil)) σ H (.int m) := fun H1 e Q q =>
  h H1 e _ fun H2 e2 => ⟨p, ns, rfl, ex_l (e.trans e2) hp, by cases ns with | nil => cases hm | cons a r => simp, fun k hk hkl => by
    have : k = m := Int.le_antisymm (hkl m hm) (hle k hk)
    rw [this]
    exact q H2 e2⟩
def rInt1 : List V → Hp → VK → Prop := fun xs H Q => (∃ i, xs = [.int i] ∧ Q (.int i) H) ∨ ∃ k, xs = [.bl k] ∧ Q (.int (if k then 1 else 0)) H
theorem ev_int {i : Int} (h : Ev te σ H (.int i)) : Ev (tCB rInt1 (tCons te tNil)) σ H (.int i) := fun H1 e Q q =>
  h H1 e _ fun H2 e2 => Or.inl ⟨i, rfl, q H2 e2⟩
theorem ev_intB {k : Bool} (h : Ev te σ H (.bl k)) : Ev (tCB rInt1 (tCons te tNil)) σ H (.int (if k then 1 else 0)) := fun H1 e Q q =>
  h H1 e _ fun H2 e2 => Or.inr ⟨k, rfl, q H2 e2⟩
theorem ev_bits {i : Int} (h : Ev te σ H (.int i)) : Ev (tBits te) σ H (.int (Builtin.Int.intBits i : Nat)) := fun H1 e Q q =>
  h H1 e _ fun H2 e2 => ⟨i, rfl, q H2 e2⟩
/-- isinstance of a scalar -/
theorem ev_isi {ty : Value} {b : Bool} {n : String} (h : Ev te σ H x) (ht : ∀ H1, Ex H H1 → TyX K H1 x ty) (hk : PySem.W.kitOne K ty (.type n) = some b) : Ev (tCB (rIsi K) (tCons te (tCons (tC (.ty n)) tNil))) σ H (.bl b) := fun H1 e Q q =>
  h H1 e _ fun H2 e2 => ⟨x, .ty n, ty, .type n, b, rfl, ClsV.ty n, ht H2 (e.trans e2), hk, q H2 e2⟩
theorem ev_isiI {i : Int} {b : Bool} {n : String} (h : Ev te σ H (.int i)) (hk : kitB "int" n = some b) : Ev (tCB (rIsi K) (tCons te (tCons (tC (.ty n)) tNil))) σ H (.bl b) :=
  ev_isi h (fun _ _ => TyX.base (TyOf.int i)) (kit_ty hk)
theorem ev_isiL {p : Addr} {xs : List V} {b : Bool} {n : String} (h : Ev te σ H (.ref p)) (hp : H p = some (.lst xs)) (hk : kitB "list" n = some b) : Ev (tCB (rIsi K) (tCons te (tCons (tC (.ty n)) tNil))) σ H (.bl b) :=
  ev_isi h (fun _ e => TyX.base (TyOf.lst (e _ _ hp))) (kit_ty hk)
theorem ev_chain {r' : R2} {tc : TE} {w' : V} {k k' : Bool} (ha : Ev ta σ H x) (hb : Ev tb σ H y) (hr : RV r x y H (.bl k)) (hc : Ev tc σ H w') (hr' : RV r' y w' H (.bl k')) : Ev (tChain r r' ta tb tc) σ H (.bl (k && k')) := fun H1 e Q q =>
  ha H1 e _ fun H2 e2 => hb H2 (e.trans e2) _ fun H3 e3 => hr H3 ((e.trans e2).trans e3) _ fun H4 e4 => ⟨k, rfl, by
    have e' := ((e.trans e2).trans e3).trans e4
    cases k with
    | true =>
      rw [if_pos rfl]
      exact hc H4 e' _ fun H5 e5 => hr' H5 (e'.trans e5) Q fun H6 e6 => q H6 ((((e2.trans e3).trans e4).trans e5).trans e6)
    | false =>
      rw [if_neg Bool.false_ne_true]
      exact q H4 ((e2.trans e3).trans e4)⟩
/-- [f(x) for x in ns] -/
theorem given_map {α : Type} (xs : List α) (d : α) (f : α → V) : given xs.length (fun _ => true) (fun i => f (xs.getD i d)) = xs.map f := by
  unfold given
  rw [List.filter_eq_self.mpr (fun _ _ => rfl)]
  apply List.ext_getElem?
  intro i
  rw [List.getElem?_map, List.getElem?_map]
  by_cases h : i < xs.length
  · rw [List.getElem?_range h, List.getElem?_eq_getElem h]
    simp only [Option.map_some]
    rw [List.getD_eq_getElem?_getD, List.getElem?_eq_getElem h] <;> rfl
  · rw [List.getElem?_eq_none (by rw [List.length_range]; omega), List.getElem?_eq_none (by omega)]
    rfl
theorem el_map {a : Addr} {j : Nat} {vs : List Nat} {α : Type} (d : α) {xs : List α} {c : α → V} (f : α → V) (h : Ev tl σ H (.ref a)) (hx : SqL K H a (xs.map c)) (hz : xs.length ≤ 40000) (hw : ∀ x, wipe ((wipe σ vs).set j (some x)) vs = wipe σ vs)
    (he : ∀ (x : α) H1, Ex H H1 → x ∈ xs → Ev te ((wipe σ vs).set j (some (c x))) H1 (f x)) : EvL (tLc (iList K tl) (gName j) tYes te vs) σ H (xs.map f) := by
  rw [← given_map xs d f]
  have hl : (xs.map c).length = xs.length := List.length_map _
  rw [← hl]
  refine el_lcL (fun _ => true) _ h hx (by rw [hl]; exact hz) hw (fun i x H1 e hi => fun H2 _ Q q => q H2 (Ex.refl H2)) (fun i x H1 e hi _ => ?_)
  rw [List.getElem?_map] at hi
  cases hq : xs[i]? with
  | none => rw [hq] at hi; cases hi
  | some y =>
    rw [hq] at hi
    have ey : c y = x := Option.some.inj hi
    rw [← ey, List.getD_eq_getElem?_getD, hq]
    exact he y H1 e (List.mem_of_getElem? hq)
/-- [f(i) for i in range(n)] -/
theorem el_mapR {a : TA} {j : Nat} {vs : List Nat} {n : Nat} (f : Nat → V) (h : EvA a σ H [.int (n : Int)]) (hn : n ≤ 40000) (hw : ∀ x, wipe ((wipe σ vs).set j (some x)) vs = wipe σ vs)
    (he : ∀ (i : Nat) H1, Ex H H1 → i < n → Ev te ((wipe σ vs).set j (some (.int (i : Int)))) H1 (f i)) : EvL (tLc (iRng1 a) (gName j) tYes te vs) σ H ((List.range n).map f) := by
  have k := el_lcR1 (t := tYes) (te := te) (j := j) (vs := vs) (fun _ => true) f h (by omega) hw (fun i H1 e hi => fun H2 _ Q q => q H2 (Ex.refl H2)) (fun i H1 e hi _ => he i H1 e (by omega))
  unfold given at k
  rw [List.filter_eq_self.mpr (fun _ _ => rfl), Int.toNat_natCast] at k
  exact k
theorem et_if {b : Bool} {te1 te2 : TE} (h : EvT t σ H b) (h1 : b = true → Ev te1 σ H v) (h2 : b = false → Ev te2 σ H v) : Ev (tIf t te1 te2) σ H v := ev_if h h1 h2
/-- a call whose argument is a new list -/
theorem ev_callN {sp : Sp} {xs : List V} {E : XK} (h : EvL te σ H xs) (hs : ∀ p H1, H1 p = some (.lst xs) → Ex H H1 → SpV sp [.ref p] H1 z) : Ev (tCall sp [] E (tCons te tNil)) σ H z := fun H1 e Q q =>
  h H1 e _ fun p H2 _ e2 hp => hs p H2 hp (e.trans e2) H2 (Ex.refl H2) Q (fun H3 e3 => q H3 (e2.trans e3)) E
theorem ev_op2 {H0 : Hp} (e : Ex H0 H) (h : Ev te σ H0 v) : Ev te σ H v := h.mono e
end
/-! ### frames where one object may change -/
/-- all that was tracked but at g is as it was -/
def ExB (g : Addr) (H H' : Hp) : Prop := ∀ a o, a ≠ g → H a = some o → H' a = some o
theorem ExB.refl (g : Addr) (H : Hp) : ExB g H H := fun _ _ _ h => h
theorem ExB.trans {g : Addr} {H H1 H2 : Hp} (a : ExB g H H1) (b : ExB g H1 H2) : ExB g H H2 := fun x o n h => b x o n (a x o n h)
theorem ExB.of {g : Addr} {H H1 : Hp} (a : Ex H H1) : ExB g H H1 := fun x o _ h => a x o h
theorem ExB.upd {g : Addr} {H H1 : Hp} {o : HO} (a : ExB g H H1) : ExB g H (upd H1 g o) := fun x u n h => by
  rw [upd_ne n]
  exact a x u n h
theorem exb_new {g : Addr} {H H1 H2 : Hp} (e : Ex H H1) (hg : H g = none) (E : ExB g H1 H2) : Ex H H2 := fun b o h => E b o (ne_of_none h hg) (e b o h)
theorem ExB.back {g : Addr} {H H' : Hp} {o : HO} (e : ExB g H H') (hg : H' g = some o) {p : Addr} (h : H' p = none) : H p = none := by
  cases q : H p with
  | none => rfl
  | some u =>
    by_cases n : p = g
    · rw [n, hg] at h; cases h
    · rw [e p u n q] at h; cases h

/-! ### data: scalars, lists and tuples of them -/
def sD : V → PyData
  | .int i => .int i
  | .bl b => .bool b
  | _ => .none
def isSc : V → Bool
  | .int _ => true
  | .bl _ => true
  | .non => true
  | _ => false
section
variable {K : PySem.W.Frag} {H : Hp}
theorem dp_sc {v : V} (h : isSc v = true) : Dp K H v (sD v) := by
  cases v <;> first | cases h | skip
  · exact .non
  · exact .bl _
  · exact .int _
theorem dpAll_sc : ∀ {vs : List V}, vs.all isSc = true → DpAll K H vs (vs.map sD)
  | [], _ => .nil
  | v :: r, h => by
    rw [List.all_cons, Bool.and_eq_true] at h
    exact .cons (dp_sc h.1) (dpAll_sc h.2)
theorem lay_sc (v : V) : PyData.canLay0 (sD v) = true := by
  cases v <;> rfl
theorem layAll_sc : ∀ vs : List V, PyData.canLayAll0 (vs.map sD) = true
  | [] => rfl
  | v :: r => by
    rw [List.map_cons, PyData.canLayAll0, lay_sc v, layAll_sc r]
    rfl
theorem depth_sc (v : V) : PyData.depth (sD v) = 0 := by
  cases v <;> rfl
theorem depthAll_sc : ∀ vs : List V, PyData.depthAll (vs.map sD) = 0
  | [] => rfl
  | v :: r => by
    rw [List.map_cons, PyData.depthAll, depth_sc v, depthAll_sc r]
    rfl
theorem shaped_tup (vs : List V) : SeqAt.shaped (.tuple (vs.map sD)) = true := by
  unfold SeqAt.shaped
  rw [PyData.canLay0, layAll_sc, PyData.depth, depthAll_sc]
  rfl
theorem shaped_lst (vs : List V) : SeqAt.shaped (.list (vs.map sD)) = true := by
  unfold SeqAt.shaped
  rw [PyData.canLay0, layAll_sc, PyData.depth, depthAll_sc]
  rfl
theorem ints_sc : ∀ ns : List Int, (ns.map V.int).all isSc = true
  | [] => rfl
  | _ :: r => by rw [List.map_cons, List.all_cons, ints_sc r]; rfl
theorem ints_sD (ns : List Int) : (ns.map V.int).map sD = ns.map PyData.int := by rw [List.map_map]; rfl
/-- two tuples with the same scalars -/
theorem rv_neT {a b : Addr} {xs : List V} (ha : H a = some (.tup xs)) (hb : H b = some (.tup xs)) (h : xs.all isSc = true) : RV (rNeD K) (.ref a) (.ref b) H (.bl false) := fun H1 e Q q =>
  ⟨.tuple (xs.map sD), .tuple (xs.map sD), .tup (st_of (e _ _ ha)) (dpAll_sc h), .tup (st_of (e _ _ hb)) (dpAll_sc h), shaped_tup xs, shaped_tup xs, by
    rw [SeqAt.eqv_refl _ (SeqAt.canLay_of_shaped (shaped_tup xs))]
    exact q H1 (Ex.refl H1)⟩
theorem rv_eqT {a b : Addr} {xs : List V} (ha : H a = some (.tup xs)) (hb : H b = some (.tup xs)) (h : xs.all isSc = true) : RV (rEqD K) (.ref a) (.ref b) H (.bl true) := fun H1 e Q q =>
  ⟨.tuple (xs.map sD), .tuple (xs.map sD), .tup (st_of (e _ _ ha)) (dpAll_sc h), .tup (st_of (e _ _ hb)) (dpAll_sc h), shaped_tup xs, shaped_tup xs, by
    rw [SeqAt.eqv_refl _ (SeqAt.canLay_of_shaped (shaped_tup xs))]
    exact q H1 (Ex.refl H1)⟩
/-- two lists of ints -/
theorem rv_eqI {a b : Addr} {ns ms : List Int} (ha : SqL K H a (ns.map V.int)) (hb : SqL K H b (ms.map V.int)) : RV (rEqD K) (.ref a) (.ref b) H (.bl (decide (ns = ms))) := fun H1 e Q q =>
  ⟨.list ((ns.map V.int).map sD), .list ((ms.map V.int).map sD), .lst (ex_l e ha) (dpAll_sc (ints_sc ns)), .lst (ex_l e hb) (dpAll_sc (ints_sc ms)), shaped_lst _, shaped_lst _, by
    rw [ints_sD, ints_sD, PyData.eqv, PySem.W.ked_eqvAll]
    exact q H1 (Ex.refl H1)⟩
theorem rv_neI {a b : Addr} {ns ms : List Int} (ha : SqL K H a (ns.map V.int)) (hb : SqL K H b (ms.map V.int)) : RV (rNeD K) (.ref a) (.ref b) H (.bl (!decide (ns = ms))) := fun H1 e Q q =>
  ⟨.list ((ns.map V.int).map sD), .list ((ms.map V.int).map sD), .lst (ex_l e ha) (dpAll_sc (ints_sc ns)), .lst (ex_l e hb) (dpAll_sc (ints_sc ms)), shaped_lst _, shaped_lst _, by
    rw [ints_sD, ints_sD, PyData.eqv, PySem.W.ked_eqvAll]
    exact q H1 (Ex.refl H1)⟩
end
/-- a new tuple is handed back -/
def RetU (xs : List V) (H : Hp) (Q : VK) : Prop := ∀ p H2, H p = none → Ex H H2 → H2 p = some (.tup xs) → Q (.ref p) H2
theorem RetU.go {xs : List V} {H H' : Hp} {Q : VK} (k : RetU xs H Q) (e : Ex H H') {p : Addr} {H2 : Hp} (hp : H' p = none) (e2 : Ex H' H2) (h : H2 p = some (.tup xs)) : Q (.ref p) H2 := k p H2 (fresh_back e hp) (e.trans e2) h
theorem RetU.ex {xs : List V} {H H' : Hp} {Q : VK} (k : RetU xs H Q) (e : Ex H H') : RetU xs H' Q := fun p H2 hp e2 h => k p H2 (fresh_back e hp) (e.trans e2) h
theorem eu_if {σ : L2.St} {H : Hp} {t : TT} {ta tb : TE} {xs : List V} {b : Bool} (h : EvT t σ H b) (h1 : b = true → EvU ta σ H xs) (h2 : b = false → EvU tb σ H xs) : EvU (tIf t ta tb) σ H xs := fun H1 e Q q => h H1 e _ fun H2 e2 => by
  cases b with
  | true =>
    show ta σ H2 Q
    exact h1 rfl H2 (e.trans e2) Q fun p H3 hp e3 h3 => q p H3 (fresh_back e2 hp) (e2.trans e3) h3
  | false =>
    show tb σ H2 Q
    exact h2 rfl H2 (e.trans e2) Q fun p H3 hp e3 h3 => q p H3 (fresh_back e2 hp) (e2.trans e3) h3
section
variable {K : PySem.W.Frag} {σ : L2.St} {H H' : Hp} {ta tb te tx tl : TE} {tr : TA} {t u : TT} {x y z v : V} {r : R2} {D : Ends} {tu tw tz : TS}
/-- the first operand a new tuple -/
theorem ev_opU1 {xs : List V} (ha : EvU ta σ H xs) (hb : ∀ H1, Ex H H1 → Ev tb σ H1 y) (hr : ∀ p H1, H1 p = some (.tup xs) → Ex H H1 → RV r (.ref p) y H1 z) : Ev (tOp r ta tb) σ H z := fun H1 e Q q =>
  ha H1 e _ fun p H2 _ e2 hp => hb H2 (e.trans e2) H2 (Ex.refl H2) _ fun H3 e3 => hr p H3 (e3 p _ hp) ((e.trans e2).trans e3) H3 (Ex.refl H3) Q fun H4 e4 => q H4 ((e2.trans e3).trans e4)
theorem el_cat {a b : Addr} {xs zs : List V} (ha : Ev ta σ H (.ref a)) (hb : Ev tb σ H (.ref b)) (h1 : H a = some (.lst xs)) (h2 : H b = some (.lst zs)) (hz : xs.length + zs.length ≤ 100000) : EvL (tOp rCat ta tb) σ H (xs ++ zs) := fun H1 e Q q =>
  ha H1 e _ fun H2 e2 => hb H2 (e.trans e2) _ fun H3 e3 => ⟨a, b, xs, zs, rfl, rfl, e3 _ _ (e2 _ _ (e _ _ h1)), e3 _ _ (e2 _ _ (e _ _ h2)), sz_of hz, fun p hp => q p _ (fresh_back (e2.trans e3) hp) ((e2.trans e3).trans (Ex.new hp)) upd_same⟩
/-- the second one a new list -/
theorem el_catN {a : Addr} {xs zs : List V} (ha : Ev ta σ H (.ref a)) (hb : EvL tb σ H zs) (h1 : H a = some (.lst xs)) (hz : xs.length + zs.length ≤ 100000) : EvL (tOp rCat ta tb) σ H (xs ++ zs) := fun H1 e Q q =>
  ha H1 e _ fun H2 e2 => hb H2 (e.trans e2) _ fun b H3 _ e3 h3 => ⟨a, b, xs, zs, rfl, rfl, e3 _ _ (e2 _ _ (e _ _ h1)), h3, sz_of hz, fun p hp => q p _ (fresh_back (e2.trans e3) hp) ((e2.trans e3).trans (Ex.new hp)) upd_same⟩
/-- a slice of a new list -/
theorem el_slN {tl th : TO} {xs : List V} {lo hi : Option Int} (h : EvL te σ H xs) (h1 : ∀ H1, Ex H H1 → EvO tl σ H1 lo) (h2 : ∀ H1, Ex H H1 → EvO th σ H1 hi) : EvL (tSl (rSlL K) te tl th) σ H (cutV xs lo hi) := fun H1 e _ q =>
  h H1 e _ fun a H2 _ e2 ha => h1 H2 (e.trans e2) H2 (Ex.refl H2) _ fun H3 e3 => h2 H3 ((e.trans e2).trans e3) H3 (Ex.refl H3) _ fun H4 e4 =>
    ⟨a, xs, rfl, sq_of (e4 _ _ (e3 _ _ ha)), fun p hp => q p _ (fresh_back ((e2.trans e3).trans e4) hp) (((e2.trans e3).trans e4).trans (Ex.new hp)) upd_same⟩
theorem el_rev {a : Addr} {xs : List V} (h : Ev te σ H (.ref a)) (hx : SqL K H a xs) : EvL (tRevL K te) σ H xs.reverse := fun H1 e _ q =>
  h H1 e _ fun H2 e2 => ⟨a, xs, rfl, ex_l (e.trans e2) hx, fun p hp => q p _ (fresh_back e2 hp) (e2.trans (Ex.new hp)) upd_same⟩
theorem rv_isN {x : V} : RV (fun x y H Q => y = .non ∧ Q (.bl (decide (x = .non))) H) x .non H (.bl (decide (x = .non))) := fun H1 _ _ q => ⟨rfl, q H1 (Ex.refl H1)⟩
theorem q_par {i j : Nat} {tr : TA} (k : tr σ H fun vs H1 => ∃ v w, vs = [v, w] ∧ tz D ((σ.set i (some v)).set j (some w)) H1) : tSeq (tPar i j tr) tz D σ H := k
theorem s_par {i j : Nat} {tr : TA} (k : tr σ H fun vs H1 => ∃ v w, vs = [v, w] ∧ D.nx ((σ.set i (some v)).set j (some w)) H1) : tPar i j tr D σ H := k
theorem q_parV {i j : Nat} {tr : TA} {v w : V} (h : EvA tr σ H [v, w]) (k : ∀ H1, Ex H H1 → tz D ((σ.set i (some v)).set j (some w)) H1) : tSeq (tPar i j tr) tz D σ H := h H (Ex.refl H) _ fun H1 e => ⟨v, w, rfl, k H1 e⟩
/-! steps of a reading at a heap -/
theorem ta_consU {Q : List V → Hp → Prop} {xs : List V} (h : EvU te σ H xs) (k : ∀ p H1, H p = none → Ex H H1 → H1 p = some (.tup xs) → tr σ H1 fun vs H2 => Q (.ref p :: vs) H2) : tCons te tr σ H Q := h H (Ex.refl H) _ fun p H1 hp e h1 => k p H1 hp e h1
theorem ta_consL {Q : List V → Hp → Prop} {xs : List V} (h : EvL te σ H xs) (k : ∀ p H1, H p = none → Ex H H1 → H1 p = some (.lst xs) → tr σ H1 fun vs H2 => Q (.ref p :: vs) H2) : tCons te tr σ H Q := h H (Ex.refl H) _ fun p H1 hp e h1 => k p H1 hp e h1
theorem ta_consV {Q : List V → Hp → Prop} (h : Ev te σ H v) (k : ∀ H1, Ex H H1 → tr σ H1 fun vs H2 => Q (v :: vs) H2) : tCons te tr σ H Q := h H (Ex.refl H) _ fun H1 e => k H1 e
theorem el_use {Q : VK} {xs : List V} (h : EvL te σ H xs) (k : ∀ p H1, H p = none → Ex H H1 → H1 p = some (.lst xs) → Q (.ref p) H1) : te σ H Q := h H (Ex.refl H) _ fun p H1 hp e h1 => k p H1 hp e h1
theorem eu_use {Q : VK} {xs : List V} (h : EvU te σ H xs) (k : ∀ p H1, H p = none → Ex H H1 → H1 p = some (.tup xs) → Q (.ref p) H1) : te σ H Q := h H (Ex.refl H) _ fun p H1 hp e h1 => k p H1 hp e h1
theorem ev_use {Q : VK} (h : Ev te σ H v) (k : ∀ H1, Ex H H1 → Q v H1) : te σ H Q := h H (Ex.refl H) _ fun H1 e => k H1 e
theorem top_in {Q : VK} (k : ta σ H fun x H1 => tb σ H1 fun y H2 => r x y H2 Q) : tOp r ta tb σ H Q := k
theorem q_in {te : TE} {i : Nat} (k : te σ H fun x H1 => tz D (σ.set i (some x)) H1) : tSeq (tAsg te (gName i)) tz D σ H := k
theorem r_in {te : TE} (k : te σ H D.rt) : tRet te D σ H := k
theorem ta_in {Q : List V → Hp → Prop} {te : TE} (k : te σ H fun x H1 => tr σ H1 fun vs H2 => Q (x :: vs) H2) : tCons te tr σ H Q := k
theorem tup_in {Q : VK} (k : tr σ H fun vs H1 => vs.length ≤ sizeLine ∧ ∀ p, H1 p = none → Q (.ref p) (upd H1 p (.tup vs))) : tTup tr σ H Q := k
theorem et_use {Q : Bool → Hp → Prop} {b : Bool} (h : EvT t σ H b) (k : ∀ H1, Ex H H1 → Q b H1) : t σ H Q := h H (Ex.refl H) _ fun H1 e => k H1 e
theorem tif_in {Q : VK} (k : t σ H fun c H1 => if c = true then ta σ H1 Q else tb σ H1 Q) : tIf t ta tb σ H Q := k
theorem tcall_in {sp : Sp} {dvs : List V} {E : XK} {Q : VK} (k : tr σ H fun vs H1 => sp (vs ++ dvs) H1 Q E) : tCall sp dvs E tr σ H Q := k
theorem tb_in {te : TE} {Q : Bool → Hp → Prop} (k : te σ H fun x H1 => ∃ c, x = .bl c ∧ Q c H1) : tB te σ H Q := k
theorem ta_nil {Q : List V → Hp → Prop} (k : Q [] H) : tNil σ H Q := k
theorem tl_lst {Q : VK} (k : tr σ H fun vs H1 => vs.length ≤ sizeLine ∧ ∀ p, H1 p = none → Q (.ref p) (upd H1 p (.lst vs))) : tLst tr σ H Q := k
end
section
variable {K : PySem.W.Frag} {σ : L2.St} {H H' : Hp} {ta tb te tx tl : TE} {tr : TA} {t u : TT} {x y z v : V} {r : R2} {D : Ends} {tu tw tz : TS} {g : TG}
/-- for i, x in enumerate(xs) -/
theorem s_forEnum {a : Addr} {xs : List V} (h : EvA tr σ H [.ref a]) (hx : SqL K H a xs) (Pv : Nat → L2.St → Hp → Prop) (h0 : ∀ H1, Ex H H1 → Pv 0 σ H1) (hl : ∀ i σ' H', i ≤ xs.length → Pv i σ' H' → SqL K H' a xs)
    (hs : ∀ i x σ' H', xs[i]? = some x → Pv i σ' H' → ∀ T, H' T = none → g (.ref T) σ' (upd H' T (.tup [.int (i : Nat), x])) fun σ2 H2 => tu { D with nx := Pv (i + 1), ct := Pv (i + 1), bk := D.nx } σ2 H2) (hd : ∀ σ' H', Pv xs.length σ' H' → D.nx σ' H') : tFor (iEnum K tr) g tu D σ H :=
  h H (Ex.refl H) _ fun H1 e => ⟨a, xs, rfl, ex_l e hx, fun i m σ H => m = xs.length - i ∧ i ≤ xs.length ∧ Pv i σ H, ⟨xs.length, by simp, Nat.zero_le _, h0 H1 e⟩, fun i m σ' H' hw => by
    obtain ⟨rfl, hi, p⟩ := hw
    have q := hl i σ' H' hi p
    by_cases hlt : i < xs.length
    · refine .inr ⟨⟨xs, xs[i], q, by simp [hlt]⟩, Pv (i + 1), fun σ2 H2 p' => ⟨xs.length - (i + 1), by omega, rfl, hlt, p'⟩, fun v H2 y => ?_⟩
      obtain ⟨T, x, rfl, hT, rfl, hy⟩ := y
      exact hs i x σ' H' (hy xs q) p T hT
    · have e : i = xs.length := by omega
      subst e
      exact .inl ⟨⟨xs, q, Nat.le_refl _⟩, hd σ' H' p⟩⟩
/-- o.f, o.m(), C's -/
theorem ev_fld {C a dx : Addr} {fs : List (Str × V)} {f : Str} (h : Ev te σ H (.ref a)) (ho : H a = some (.ins C dx fs)) (c : Cls K C) (n : NoAttr K C f) (l : fs.lookup f = some v) : Ev (tFld K te f) σ H v := fun H1 e Q q =>
  h H1 e _ fun H2 e2 => ⟨a, C, dx, fs, v, rfl, e2 _ _ (e _ _ ho), c, n, l, q H2 e2⟩
theorem ev_meth0 {C a dx : Addr} {fs : List (Str × V)} {m : Str} {sp : Sp} {E : XK} (h : Ev te σ H (.ref a)) (ho : H a = some (.ins C dx fs)) (l : fs.lookup m = none) (hs : SpV sp [.ref a] H v) : Ev (tMeth C m sp [] E te tNil) σ H v := fun H1 e Q q =>
  h H1 e _ fun H2 e2 => ⟨a, dx, fs, rfl, e2 _ _ (e _ _ ho), l, hs H2 (e.trans e2) Q (fun H3 e3 => q H3 (e2.trans e3)) E⟩
theorem el_meth0 {C a dx : Addr} {fs : List (Str × V)} {m : Str} {sp : Sp} {E : XK} {xs : List V} (h : Ev te σ H (.ref a)) (ho : H a = some (.ins C dx fs)) (l : fs.lookup m = none) (hs : ∀ H1, Ex H H1 → ∀ Q : VK, RetL xs H1 Q → ∀ E : XK, sp [.ref a] H1 Q E) : EvL (tMeth C m sp [] E te tNil) σ H xs := fun H1 e Q q =>
  h H1 e _ fun H2 e2 => ⟨a, dx, fs, rfl, e2 _ _ (e _ _ ho), l, hs H2 (e.trans e2) Q (fun p H3 hp e3 h3 => q p H3 (fresh_back e2 hp) (e2.trans e3) h3) E⟩
theorem el_callR {sp : Sp} {dvs vs xs : List V} {E : XK} {ta : TA} (h : EvA ta σ H vs) (hs : ∀ H1, Ex H H1 → ∀ Q : VK, RetL xs H1 Q → ∀ E : XK, sp (vs ++ dvs) H1 Q E) : EvL (tCall sp dvs E ta) σ H xs := el_call h fun H1 e Q q E => hs H1 e Q q E
/-- isinstance of an own class -/
theorem ev_isiC {C a dx : Addr} {fs : List (Str × V)} (h : Ev te σ H (.ref a)) (ho : H a = some (.ins C dx fs)) (c : Cls K C)
    (i : PySem.W.findIn K (.ref C) "__class__" = some (some (.builtin "object.__class__")) ∧ PySem.W.specialIn K (.builtin "object.__class__") "__get__" = some (some (.builtin "getset_descriptor.__get__")) ∧ PySem.W.takesIn K (.builtin "object.__class__") = some true ∧ PySem.W.mroIn K C (.type "object") = some true) :
    Ev (tCB (rIsi K) (tCons te (tCons (tC (.ref C)) tNil))) σ H (.bl true) := fun H1 e Q q =>
  h H1 e _ fun H2 e2 => ⟨.ref a, .ref C, .ref C, .ref C, true, rfl, ClsV.own C, TyX.base (TyOf.ins (e2 _ _ (e _ _ ho)) c i.1 i.2.1 i.2.2.1 i.2.2.2), by
    unfold PySem.W.kitOne
    rw [if_pos (beq_self_eq_true _)], q H2 e2⟩
/-- max of a new list -/
theorem ev_maxN {ns : List Int} {m : Int} (h : EvL te σ H (ns.map V.int)) (hm : m ∈ ns) (hle : ∀ y ∈ ns, y ≤ m) : Ev (tCB (rMax K) (tCons te tNil)) σ H (.int m) := fun H1 e Q q =>
  h H1 e _ fun p H2 _ e2 h2 => ⟨p, ns, rfl, sq_of h2, by cases ns with | nil => cases hm | cons a r => simp, fun k hk hkl => by
    have : k = m := Int.le_antisymm (hle k hk) (hkl m hm)
    rw [this]
    exact q H2 e2⟩
end
theorem ev_min2 {σ : L2.St} {H : Hp} {ta tb : TE} {i j : Int} (ha : Ev ta σ H (.int i)) (hb : Ev tb σ H (.int j)) : Ev (tCB (fun xs H Q => ∃ i j, xs = [.int i, .int j] ∧ Q (.int (if j < i then j else i)) H) (tCons ta (tCons tb tNil))) σ H (.int (if j < i then j else i)) := fun H1 e Q q =>
  ha H1 e _ fun H2 e2 => hb H2 (e.trans e2) _ fun H3 e3 => ⟨i, j, rfl, q H3 (e2.trans e3)⟩
theorem spv {sp : Sp} {vs : List V} {H : Hp} {z : V} (h : ∀ H1, Ex H H1 → ∀ Q : VK, RetV z H1 Q → ∀ E : XK, sp vs H1 Q E) : SpV sp vs H z := fun H1 e Q q E => h H1 e Q q E
/-- a call that hands back a new tuple -/
theorem eu_call {σ : L2.St} {H : Hp} {sp : Sp} {dvs vs xs : List V} {E : XK} {ta : TA} (h : EvA ta σ H vs) (hs : ∀ H1, Ex H H1 → ∀ Q : VK, RetU xs H1 Q → ∀ E : XK, sp (vs ++ dvs) H1 Q E) : EvU (tCall sp dvs E ta) σ H xs := fun H1 e Q q =>
  h H1 e _ fun H2 e2 => hs H2 (e.trans e2) Q (fun p H3 hp e3 h3 => q p H3 (fresh_back e2 hp) (e2.trans e3) h3) E
/-- a call of which an argument is a new list, that hands back a new tuple -/
theorem eu_callN {σ : L2.St} {H : Hp} {sp : Sp} {xs ys : List V} {E : XK} {te : TE} (h : EvL te σ H xs) (hs : ∀ p H1, H1 p = some (.lst xs) → Ex H H1 → ∀ Q : VK, RetU ys H1 Q → ∀ E : XK, sp [.ref p] H1 Q E) : EvU (tCall sp [] E (tCons te tNil)) σ H ys := fun H1 e Q q =>
  h H1 e _ fun p H2 hp e2 h2 => hs p H2 h2 (e.trans e2) Q (fun u H3 hu e3 h3 => q u H3 (fresh_back e2 hu) (e2.trans e3) h3) E
end WS

set_option Elab.async false
set_option linter.all false
set_option maxRecDepth 100000
set_option maxHeartbeats 2000000
/-! rules of my own: comb; max of ints with a default; max of alike data -/
namespace WS
open PySem PySem.Spec PyProof.Rows L2 Evl
theorem un65 {k : Nat} {A : Around} (r : Room k A) : A.units + 65 < cLine := by have := r.un; omega
section
variable {X : Cx}
/-- math.comb of two counts -/
def rComb : List V → Hp → VK → Prop := fun xs H Q => ∃ a b : Int, xs = [.int a, .int b] ∧ 0 ≤ a ∧ 0 ≤ b ∧ a < 2 ^ 64 ∧ (b ≤ 9000 ∨ a ≤ 18000) ∧ Q (.int (PySem.W.mcComb a b)) H
theorem cr_comb : CallR X (.builtin "math.comb") rComb := by
  intro pins s σ H xs us Q I r h
  obtain ⟨a, b, rfl, h0, h1, h2, h3, q⟩ := h
  obtain ⟨t, u, rfl⟩ := Vals.int2 r
  exact PySem.W.mc_comb h0 h1 h2 h3 fun _ => ⟨.int _, H, I.tok _, ⟨_, rfl⟩, q⟩
/-- max(xs, default=d) of ints -/
def rMaxDef (K : PySem.W.Frag) : List V → List V → Hp → VK → Prop := fun xs zs H Q => ∃ (a : Addr) (ns : List Int) (d : Int), xs = [.ref a] ∧ zs = [.int d] ∧ SqL K H a (ns.map V.int) ∧ (ns = [] → Q (.int d) H) ∧ ∀ m, m ∈ ns → (∀ y ∈ ns, y ≤ m) → Q (.int m) H
theorem cr_maxDef (hc : X.calm = true) (hu : X.A.units + 64 < cLine) : CallRK X (.builtin "max") [Str.ofString "default"] (rMaxDef X.K) := by
  intro pins s σ H xs zs us ws Q I r rz h
  obtain ⟨a, ns, d, rfl, rfl, hs, q0, q⟩ := h
  obtain ⟨its, rv, hl, _⟩ := I.list hs
  rw [Vals.ref1 r]
  obtain ⟨w1, rfl, e1⟩ := vals1 rz
  obtain ⟨td, rfl⟩ := (show ∃ t, w1 = Value.int d t from e1)
  have dp : DpAll X.K H (ns.map V.int) (ns.map PyData.int) := by
    rw [← ints_sD]
    exact dpAll_sc (ints_sc ns)
  obtain ⟨as, ra⟩ := Dp.readsAll I _ _ _ dp rv
  have dep : PyData.depthAll (ns.map PyData.int) = 0 := by
    rw [← ints_sD]
    exact depthAll_sc _
  show wpAny _ _ (call (.builtin "max") [.ref a] [(Str.ofString "default", .int d td)]) _ _ _
  refine PySem.W.max_list_default (xs := ns.map PyData.int) (I.ok.hd hc) hl.isList (by simpa using ra) (PySem.W.alikeAll_datum (α := Int) ns) (by rw [dep]; omega) (fun e h' tk hk => ?_) fun y ys i v h' tk bs e hi r' hk => ?_
  · exact ⟨.int d, H, I.kept hk, ⟨td, rfl⟩, q0 (List.map_eq_nil_iff.mp e)⟩
  · cases ns with
    | nil => cases e
    | cons n r2 =>
      rw [List.map_cons] at e
      injection e with ea eb
      subst ea
      subst eb
      rw [PySem.W.maxD_ints] at r'
      cases r'
      have mem : ∀ (l : List Int) (k : Int), l.foldl max k = k ∨ l.foldl max k ∈ l := fun l => by
        induction l with
        | nil => intro k; exact .inl rfl
        | cons b l ih =>
          intro k
          rw [List.foldl_cons]
          rcases ih (max k b) with z | z
          · rw [z]
            by_cases hkb : k ≤ b
            · rw [Int.max_eq_right hkb]; exact .inr List.mem_cons_self
            · rw [Int.max_eq_left (by omega)]; exact .inl rfl
          · exact .inr (List.mem_cons_of_mem _ z)
      have ge : ∀ (l : List Int) (k : Int), k ≤ l.foldl max k ∧ ∀ y ∈ l, y ≤ l.foldl max k := fun l => by
        induction l with
        | nil => intro k; exact ⟨Int.le_refl _, fun y hy => absurd hy List.not_mem_nil⟩
        | cons b l ih =>
          intro k
          rw [List.foldl_cons]
          obtain ⟨z1, z2⟩ := ih (max k b)
          refine ⟨by omega, fun y hy => ?_⟩
          rcases List.mem_cons.mp hy with h | h
          · omega
          · exact z2 y h
      refine ⟨.int _, H, I.kept hk, ⟨_, rfl⟩, q _ ?_ fun y hy => ?_⟩
      · rcases mem r2 n with z | z
        · rw [z]; exact List.mem_cons_self
        · exact List.mem_cons_of_mem _ z
      · rcases List.mem_cons.mp hy with h | h
        · rw [h]; exact (ge r2 n).1
        · exact (ge r2 n).2 y h
/-- max(xs) of alike data: one of the items, whose datum is the greatest -/
def rMaxData (K : PySem.W.Frag) : List V → Hp → VK → Prop := fun xs H Q => ∃ (a : Addr) (vs : List V) (d : PyData) (ds : List PyData), xs = [.ref a] ∧ SqL K H a vs ∧ DpAll K H vs (d :: ds) ∧ PySem.W.AlikeAll (d :: ds) ∧ PyData.canLayAll0 (d :: ds) = true ∧ PyData.depthAll (d :: ds) ≤ 32 ∧
  ∀ (i : Nat) y e, vs[i]? = some y → (d :: ds)[i]? = some e → e = PySem.W.maxD d ds → Q y H
theorem cr_maxData (hc : X.calm = true) (hu : X.A.units + 64 < cLine) : CallR X (.builtin "max") (rMaxData X.K) := by
  intro pins s σ H xs us Q I r h
  obtain ⟨a, vs, d, ds, rfl, hs, hd, hal, hcl, hde, q⟩ := h
  obtain ⟨its, rv, hl, _⟩ := I.list hs
  rw [Vals.ref1 r]
  obtain ⟨as, ra⟩ := Dp.readsAll I _ _ _ hd rv
  refine PySem.W.max_list_data (I.ok.hd hc) hl.isList (by simpa using ra) hal (by omega) fun i v h' tk bs hi r' hk => ?_
  rw [List.getElem?_toArray] at hi
  have hlt : i < vs.length := by rw [rv.length]; exact (List.getElem?_eq_some_iff.mp hi).1
  obtain ⟨u, hu', ru⟩ := rv.get (List.getElem?_eq_getElem hlt)
  rw [hi] at hu'
  cases hu'
  obtain ⟨bs2, r2, h2, h3, h4⟩ := PySem.W.readsAll_at ra i v hi
  have ge : (d :: ds)[i]? = some ((d :: ds).getD i .none) := by rw [List.getD_eq_getElem?_getD, List.getElem?_eq_getElem h2] <;> rfl
  exact ⟨_, H, I.kept hk, ru, q i _ _ (List.getElem?_eq_getElem hlt) ge ((PySem.Reads.unique (PySem.W.reads_keeps hk r2) _ _ r').1)⟩
end
end WS

set_option Elab.async false
set_option linter.all false
set_option maxRecDepth 100000
set_option maxHeartbeats 4000000
namespace M44
open PySem PySem.Spec PyProof.Rows L2
open PySem.W (mcComb)
/-! ### tables of ints -/
abbrev Tab := List (Int × Int)
def put (d : Tab) (k v : Int) : Tab := if (d.any fun p => decide (p.1 = k)) = true then d.map (fun p => if p.1 = k then (p.1, v) else p) else d ++ [(k, v)]
def get (d : Tab) (k : Int) : Option Int := (d.find? fun p => decide (p.1 = k)).map (·.2)
def got (d : Tab) (k : Int) : Int := (get d k).getD 0
def add (d : Tab) (k v : Int) : Tab := put d k (got d k + v)
def kv (d : Tab) : List (Key × V) := d.map fun p => (Sum.inl p.1, V.int p.2)
theorem kv_any (k : Int) : ∀ d : Tab, ((kv d).any fun p => decide (p.1 = Sum.inl k)) = d.any fun p => decide (p.1 = k)
  | [] => rfl
  | p :: r => by
    have e : decide ((Sum.inl p.1 : Key) = Sum.inl k) = decide (p.1 = k) := decide_eq_decide.mpr ⟨fun h => Sum.inl.inj h, fun h => by rw [h]⟩
    have ih := kv_any k r
    unfold kv at ih ⊢
    rw [List.map_cons, List.any_cons, List.any_cons, ih, e]
theorem kv_put (d : Tab) (k v : Int) : putK (kv d) (Sum.inl k) (V.int v) = kv (put d k v) := by
  unfold putK put
  rw [kv_any]
  split
  · unfold kv
    rw [List.map_map, List.map_map]
    refine List.map_congr_left fun p _ => ?_
    show (if (Sum.inl p.1 : Key) = Sum.inl k then _ else _) = _
    by_cases h : p.1 = k
    · rw [if_pos (by rw [h])]
      show _ = (Sum.inl (if p.1 = k then (p.1, v) else p).1, V.int (if p.1 = k then (p.1, v) else p).2)
      rw [if_pos h]
    · rw [if_neg (fun z => h (Sum.inl.inj z))]
      show _ = (Sum.inl (if p.1 = k then (p.1, v) else p).1, V.int (if p.1 = k then (p.1, v) else p).2)
      rw [if_neg h]
  · unfold kv
    rw [List.map_append]
    rfl
theorem kv_get (k : Int) : ∀ d : Tab, valV (kv d) (Sum.inl k) = (get d k).map V.int
  | [] => rfl
  | p :: r => by
    have ih := kv_get k r
    by_cases h : p.1 = k
    · have e : get (p :: r) k = some p.2 := by unfold get; simp [h]
      rw [e]
      exact valV_pos (p := (Sum.inl p.1, V.int p.2)) (by rw [h])
    · have e : get (p :: r) k = get r k := by unfold get; simp [h]
      rw [e, ← ih]
      exact valV_neg (p := (Sum.inl p.1, V.int p.2)) (fun z => h (Sum.inl.inj z))
theorem kv_got (d : Tab) (k : Int) : (valV (kv d) (Sum.inl k)).getD (V.int 0) = V.int (got d k) := by
  rw [kv_get]
  unfold got
  cases get d k <;> rfl
theorem len_kv (d : Tab) : (kv d).length = d.length := List.length_map _
theorem len_put (d : Tab) (k v : Int) : (put d k v).length ≤ d.length + 1 := by
  unfold put
  split
  · rw [List.length_map]; omega
  · rw [List.length_append]; exact Nat.le_refl _
/-- all values are at most so great -/
def Bd (d : Tab) (B : Nat) : Prop := ∀ p ∈ d, p.2.natAbs ≤ B
theorem Bd.mono {d : Tab} {B C : Nat} (h : Bd d B) (e : B ≤ C) : Bd d C := fun p hp => Nat.le_trans (h p hp) e
theorem got_bd {d : Tab} {B : Nat} (h : Bd d B) (k : Int) : (got d k).natAbs ≤ B := by
  unfold got get
  cases e : d.find? fun p => decide (p.1 = k) with
  | none => exact Nat.zero_le _
  | some p => exact h p (List.mem_of_find?_eq_some e)
theorem put_bd {d : Tab} {B : Nat} {k v : Int} (h : Bd d B) (hv : v.natAbs ≤ B) : Bd (put d k v) B := by
  unfold put
  split
  · intro p hp
    obtain ⟨q, hq, rfl⟩ := List.mem_map.mp hp
    split
    · exact hv
    · exact h q hq
  · intro p hp
    rcases List.mem_append.mp hp with z | z
    · exact h p z
    · rw [List.mem_singleton.mp z]; exact hv
theorem add_bd {d : Tab} {B C : Nat} {k v : Int} (h : Bd d B) (hv : v.natAbs ≤ C) : Bd (add d k v) (B + C) := by
  refine put_bd (h.mono (Nat.le_add_right _ _)) ?_
  have := got_bd h k
  omega
/-! ### the same in one go, for tables without a key twice -/
def addT : Tab → Int → Int → Tab
  | [], k, v => [(k, v)]
  | (a, x) :: r, k, v => if a = k then (a, x + v) :: r else (a, x) :: addT r k v
def Dn (d : Tab) : Prop := (d.map (·.1)).Nodup
theorem addT_keys (k v : Int) : ∀ (d : Tab) (a : Int), a ∈ (addT d k v).map (·.1) → a = k ∨ a ∈ d.map (·.1)
  | [], a, h => by
    left
    simpa [addT] using h
  | (b, x) :: r, a, h => by
    unfold addT at h
    split at h
    · right
      simpa using h
    · rw [List.map_cons] at h
      rcases List.mem_cons.mp h with z | z
      · right; rw [z]; exact List.mem_cons_self
      · rcases addT_keys k v r a z with y | y
        · exact .inl y
        · exact .inr (List.mem_cons_of_mem _ y)
theorem addT_dn (k v : Int) : ∀ d : Tab, Dn d → Dn (addT d k v)
  | [], _ => by simp [addT, Dn]
  | (b, x) :: r, h => by
    unfold Dn at h ⊢
    rw [List.map_cons, List.nodup_cons] at h
    unfold addT
    split
    · rw [List.map_cons, List.nodup_cons]; exact h
    · rename_i c
      rw [List.map_cons, List.nodup_cons]
      refine ⟨fun z => ?_, addT_dn k v r h.2⟩
      rcases addT_keys k v r _ z with y | y
      · exact c y
      · exact h.1 y
theorem map_same (k w : Int) : ∀ r : Tab, k ∉ r.map (·.1) → r.map (fun p => if p.1 = k then (p.1, w) else p) = r
  | [], _ => rfl
  | p :: r, h => by
    rw [List.map_cons, List.mem_cons, not_or] at h
    rw [List.map_cons, if_neg (fun z => h.1 z.symm), map_same k w r h.2]
theorem got_out (k : Int) : ∀ r : Tab, (r.any fun p => decide (p.1 = k)) = false → got r k = 0
  | [], _ => rfl
  | p :: r, h => by
    rw [List.any_cons, Bool.or_eq_false_iff] at h
    have := got_out k r h.2
    unfold got get at this ⊢
    rw [List.find?_cons, h.1]
    exact this
theorem add_eq (k v : Int) : ∀ d : Tab, Dn d → add d k v = addT d k v
  | [], _ => by
    show put [] k (0 + v) = _
    rw [Int.zero_add]
    rfl
  | (b, x) :: r, h => by
    unfold Dn at h
    rw [List.map_cons, List.nodup_cons] at h
    have ih := add_eq k v r h.2
    unfold addT
    by_cases c : b = k
    · subst c
      rw [if_pos rfl]
      have g : got ((b, x) :: r) b = x := by unfold got get; simp
      unfold add put
      rw [g, List.any_cons, decide_eq_true (show ((b, x) : Int × Int).1 = b from rfl), Bool.true_or, if_pos rfl, List.map_cons, if_pos rfl, map_same _ _ r h.1]
    · rw [if_neg c, ← ih]
      have g : got ((b, x) :: r) k = got r k := by unfold got get; simp [c]
      unfold add put
      rw [g, List.any_cons, decide_eq_false (show ¬ ((b, x) : Int × Int).1 = k from c), Bool.false_or, List.map_cons, if_neg c]
      split <;> rfl
theorem addT_bd {B C : Nat} {k v : Int} (hv : v.natAbs ≤ C) : ∀ {d : Tab}, Bd d B → Bd (addT d k v) (B + C)
  | [], _ => fun p hp => by
    rw [List.mem_singleton.mp hp]
    show v.natAbs ≤ _
    omega
  | (b, x) :: r, h => by
    unfold addT
    have hx : x.natAbs ≤ B := h (b, x) List.mem_cons_self
    have hr : Bd r B := fun p hp => h p (List.mem_cons_of_mem _ hp)
    split
    · intro p hp
      rcases List.mem_cons.mp hp with z | z
      · rw [z]
        show (x + v).natAbs ≤ _
        omega
      · have := hr p z
        omega
    · intro p hp
      rcases List.mem_cons.mp hp with z | z
      · rw [z]
        show x.natAbs ≤ _
        omega
      · exact addT_bd hv hr p z
theorem addT_len (k v : Int) : ∀ d : Tab, (addT d k v).length ≤ d.length + 1
  | [] => Nat.le_refl _
  | (b, x) :: r => by
    unfold addT
    split
    · exact Nat.le_succ _
    · have := addT_len k v r
      rw [List.length_cons, List.length_cons]
      omega
/-! ### how many lists -/
theorem comb_tab : ∀ a, a < 81 → ∀ b, b < 81 → (mcComb (a : Nat) (b : Nat)).natAbs < 2 ^ 80 := by decide +kernel
def term (m b t : Int) (o : Nat) : Int := mcComb m o * mcComb (t - o * b + m - 1) (m - 1)
def sumL (m b t : Int) : Nat → Int
  | 0 => 0
  | k + 1 => if k % 2 = 1 then sumL m b t k - term m b t k else sumL m b t k + term m b t k
def lws (m b t : Int) : Int := if t ≤ m * (b - 1) then sumL m b t (min m (t / b) + 1).toNat else 0
def inner (m : Nat) (ls : Int) (h : Nat) (d : Tab) : Nat → Tab
  | 0 => d
  | j + 1 => addT (inner m ls h d j) ((2 * h + j : Nat) : Int) (ls * mcComb m j)
def outer (m b : Nat) : Nat → Tab
  | 0 => []
  | h + 1 => inner m (lws m ((2 ^ (b - 1) : Nat) : Int) h) h (outer m b h) (m - h + 1)
def rbs (m b : Nat) : Tab := if b = 0 then [(0, 1)] else outer m b (m + 1)
def lowO (m : Nat) (s : Int) : Nat := ((m : Int) + 1 - s).toNat
def combs (m : Nat) (s : Int) : List Int := (List.range (m + 1 - lowO m s)).map fun i => mcComb m ((lowO m s + i : Nat) : Int)
def rbl (m : Nat) (s : Int) (w : Nat) : Int := if w = 0 then 1 else (combs m s).sum * 2 ^ (m * (w - 1))
def lpW (m b w : Nat) : List (Int × Int × Int) := (rbs m (b - w)).map fun p => ((w : Int), p.1 + (m : Int) * (1 + (w : Int)), p.2 * rbl m p.1 w)
def lpN (m b : Nat) : Nat → List (Int × Int × Int)
  | 0 => []
  | w + 1 => lpN m b w ++ lpW m b w
def lp (m b : Nat) : List (Int × Int × Int) := lpN m b (b + 1)
def hml (m b : Nat) (s : Int) : Int := (((lp m b).filter fun t => decide (t.2.1 = s)).map fun t => t.2.2).sum
def hmw (m b : Nat) (w : Int) : Int := (((lp m b).filter fun t => decide (t.1 = w)).map fun t => t.2.2).sum
def tot (m b : Nat) : Int := ((lp m b).map fun t => t.2.1 * t.2.2).sum
end M44
namespace M44
open PySem PySem.Spec PyProof.Rows L2
open PySem.W (mcComb)
theorem inner_dn (m : Nat) (ls : Int) (h : Nat) {d : Tab} (hd : Dn d) : ∀ j, Dn (inner m ls h d j)
  | 0 => hd
  | j + 1 => addT_dn _ _ _ (inner_dn m ls h hd j)
theorem inner_len (m : Nat) (ls : Int) (h : Nat) (d : Tab) : ∀ j, (inner m ls h d j).length ≤ d.length + j
  | 0 => Nat.le_refl _
  | j + 1 => by
    have := inner_len m ls h d j
    have := addT_len ((2 * h + j : Nat) : Int) (ls * mcComb m j) (inner m ls h d j)
    unfold inner
    omega
theorem outer_dn (m b : Nat) : ∀ h, Dn (outer m b h)
  | 0 => by simp [outer, Dn]
  | h + 1 => inner_dn _ _ _ (outer_dn m b h) _
theorem outer_len (m b : Nat) (hm : m ≤ 40) : ∀ h, (outer m b h).length ≤ h * 41
  | 0 => Nat.le_refl _
  | h + 1 => by
    have := outer_len m b hm h
    have := inner_len m (lws m ((2 ^ (b - 1) : Nat) : Int) h) h (outer m b h) (m - h + 1)
    unfold outer
    omega
/-- keys from 0 to twice m -/
def Kin (m : Nat) (d : Tab) : Prop := ∀ p ∈ d, 0 ≤ p.1 ∧ p.1 ≤ 2 * (m : Int)
theorem addT_kin {m : Nat} {k v : Int} (hk : 0 ≤ k ∧ k ≤ 2 * (m : Int)) {d : Tab} (h : Kin m d) : Kin m (addT d k v) := fun p hp => by
  rcases addT_keys k v d p.1 (List.mem_map.mpr ⟨p, hp, rfl⟩) with z | z
  · rw [z]; exact hk
  · obtain ⟨q, hq, e⟩ := List.mem_map.mp z
    have e' : q.1 = p.1 := e
    rw [← e']; exact h q hq
theorem inner_kin {m : Nat} (ls : Int) {h : Nat} {d : Tab} (hd : Kin m d) (hh : h ≤ m) : ∀ j, j ≤ m - h + 1 → Kin m (inner m ls h d j)
  | 0, _ => hd
  | j + 1, hj => addT_kin (by omega) (inner_kin ls hd hh j (by omega))
theorem outer_kin (m b : Nat) : ∀ h, h ≤ m + 1 → Kin m (outer m b h)
  | 0, _ => fun p hp => absurd hp List.not_mem_nil
  | h + 1, hh => inner_kin _ (outer_kin m b h (by omega)) (by omega) _ (Nat.le_refl _)
theorem rbs_kin (m b : Nat) : Kin m (rbs m b) := by
  unfold rbs
  split
  · intro p hp
    rw [List.mem_singleton.mp hp]
    exact ⟨Int.le_refl _, show (0 : Int) ≤ 2 * (m : Int) by omega⟩
  · exact outer_kin m b (m + 1) (Nat.le_refl _)
theorem sum_bd {m b t : Nat} (m1 : 1 ≤ m) (m2 : m ≤ 40) (b1 : 1 ≤ b) (t2 : t ≤ 40) (h : ∀ o : Nat, o ≤ m → o * b ≤ t → (term m b t o).natAbs ≤ 2 ^ 160) : ∀ k : Nat, ((k : Int) ≤ min (m : Int) ((t : Int) / (b : Int)) + 1) → (sumL m b t k).natAbs ≤ k * 2 ^ 160
  | 0, _ => by simp [sumL]
  | k + 1, hk => by
    have ih := sum_bd m1 m2 b1 t2 h k (by omega)
    have hkm : k ≤ m := by omega
    have hkb : k * b ≤ t := by
      have h1 : (k : Int) ≤ (t : Int) / (b : Int) := by omega
      have h2 := (Int.le_ediv_iff_mul_le (show (0 : Int) < (b : Int) by omega)).mp h1
      rw [← Int.natCast_mul] at h2
      omega
    have ht := h k hkm hkb
    unfold sumL
    split <;> omega
theorem lws_bd {m b t : Nat} (m1 : 1 ≤ m) (m2 : m ≤ 40) (b1 : 1 ≤ b) (t2 : t ≤ 40) (h : ∀ o : Nat, o ≤ m → o * b ≤ t → (term m b t o).natAbs ≤ 2 ^ 160) : (lws m b t).natAbs ≤ 2 ^ 166 := by
  unfold lws
  split
  · have hq : 0 ≤ (t : Int) / (b : Int) := Int.ediv_nonneg (by omega) (by omega)
    have h1 := sum_bd m1 m2 b1 t2 h (min (m : Int) ((t : Int) / (b : Int)) + 1).toNat (by omega)
    have h2 : (min (m : Int) ((t : Int) / (b : Int)) + 1).toNat ≤ 41 := by omega
    have h3 : (min (m : Int) ((t : Int) / (b : Int)) + 1).toNat * 2 ^ 160 ≤ 41 * 2 ^ 160 := Nat.mul_le_mul_right _ h2
    have : (2 : Nat) ^ 166 = 64 * 2 ^ 160 := by decide
    omega
  · simp
theorem inner_bd {m : Nat} {ls : Int} {h : Nat} {d : Tab} {B C : Nat} (hd : Bd d B) (hc : ∀ j, j ≤ m → (ls * mcComb m j).natAbs ≤ C) : ∀ j, j ≤ m + 1 → Bd (inner m ls h d j) (B + j * C)
  | 0, _ => hd.mono (by omega)
  | j + 1, hj => (addT_bd (hc j (by omega)) (inner_bd hd hc j (by omega))).mono (by rw [Nat.succ_mul]; omega)
theorem outer_bd {m b : Nat} {C : Nat} (hc : ∀ h j : Nat, h ≤ m → j ≤ m → (lws m ((2 ^ (b - 1) : Nat) : Int) h * mcComb m j).natAbs ≤ C) : ∀ h, h ≤ m + 1 → Bd (outer m b h) (h * ((m + 1) * C))
  | 0, _ => fun p hp => absurd hp List.not_mem_nil
  | h + 1, hh => (inner_bd (outer_bd hc h (by omega)) (hc h · (by omega)) (m - h + 1) (by omega)).mono (by
      rw [Nat.succ_mul h]
      exact Nat.add_le_add_left (Nat.mul_le_mul_right _ (by omega)) _)
end M44

set_option Elab.async false
set_option linter.all false
set_option maxRecDepth 100000
set_option maxHeartbeats 4000000
namespace M50
open M44
def LW (m b : Nat) (t : Int) : Int := if m = 0 then (if t = 0 then 1 else 0) else if t < 0 then 0 else lws m b t
/-- a depth's samples, wrapped numbers, folds -/
def wr (d : Nat) (z : Int) : Int := (z + 2 ^ (d - 1)) % 2 ^ d - 2 ^ (d - 1)
def fold (z : Int) : Int := if z ≥ 0 then 2 * z else -2 * z - 1
def pri (w : Nat) (f : Int) : Int := f / 2 ^ w + 1 + w
def samples (d : Nat) : List Int := (List.range (2 ^ d)).map fun i : Nat => -(2 ^ (d - 1)) + (i : Int)
def allr (d : Nat) : Nat → List (List Int)
  | 0 => [[]]
  | n + 1 => (allr d n).flatMap fun r => (samples d).map fun x => r ++ [x]
def Cn (d w : Nat) : Nat → Int → Nat
  | 0, k => if k = 0 then 1 else 0
  | n + 1, k => ((List.range (2 ^ d)).map fun f : Nat => Cn d w n (k - pri w f)).sum
/-- the guess behind a row, the rests -/
def wsum (row : List Int) (len : Nat) : List Int → Nat → Int
  | [], _ => 0
  | w :: r, j => w * row.getD (len - 1 - j) 0 + wsum row len r (j + 1)
def gs (ws : List Int) (s : Nat) (row : List Int) (i : Nat) : Int := if i < ws.length then 0 else wsum row i ws 0 / 2 ^ s
def rst (ws : List Int) (s d : Nat) (row : List Int) : List Int := (List.range row.length).map fun i => wr d (row.getD i 0 - gs ws s row i)
def size (ws : List Int) (s d w : Nat) (row : List Int) : Int := ((rst ws s d row).map fun z => pri w (fold z)).sum
theorem wsum_snoc (r : List Int) (x : Int) (n : Nat) (hn : n ≤ r.length) : ∀ (ws : List Int) (j : Nat), j + ws.length ≤ n → wsum (r ++ [x]) n ws j = wsum r n ws j
  | [], _, _ => rfl
  | w :: l, j, h => by
    rw [List.length_cons] at h
    unfold wsum
    rw [wsum_snoc r x n hn l (j + 1) (by omega), List.getD_eq_getElem?_getD, List.getD_eq_getElem?_getD, List.getElem?_append_left (by omega)]
theorem gs_snoc (ws : List Int) (s : Nat) (r : List Int) (x : Int) (i : Nat) (hi : i ≤ r.length) : gs ws s (r ++ [x]) i = gs ws s r i := by
  unfold gs
  split
  · rfl
  · rw [wsum_snoc r x i hi ws 0 (by omega)]
theorem rst_snoc (ws : List Int) (s d : Nat) (r : List Int) (x : Int) : rst ws s d (r ++ [x]) = rst ws s d r ++ [wr d (x - gs ws s r r.length)] := by
  unfold rst
  rw [List.length_append, List.length_singleton, List.range_succ, List.map_append]
  congr 1
  · apply List.map_congr_left
    intro i hi
    have hi := List.mem_range.mp hi
    rw [gs_snoc ws s r x i (by omega), List.getD_eq_getElem?_getD, List.getD_eq_getElem?_getD, List.getElem?_append_left hi]
  · rw [List.map_singleton, gs_snoc ws s r x _ (Nat.le_refl _), List.getD_eq_getElem?_getD, List.getElem?_append_right (Nat.le_refl _), Nat.sub_self]
    rfl
theorem sum_app (a b : List Int) : (a ++ b).sum = a.sum + b.sum := by
  induction a with
  | nil => simp
  | cons x t ih => rw [List.cons_append, List.sum_cons, List.sum_cons, ih]; omega
theorem size_snoc (ws : List Int) (s d w : Nat) (r : List Int) (x : Int) : size ws s d w (r ++ [x]) = size ws s d w r + pri w (fold (wr d (x - gs ws s r r.length))) := by
  unfold size
  rw [rst_snoc, List.map_append, sum_app]
  simp
/-- folds of the wrapped differences: each fold once -/
theorem wr_mod (d : Nat) (x g : Int) : wr d (x - g) = wr d (x - g % 2 ^ d) := by
  unfold wr
  have h : (x - g + 2 ^ (d - 1)) % 2 ^ d = (x - g % 2 ^ d + 2 ^ (d - 1)) % 2 ^ d := by
    have e : x - g + 2 ^ (d - 1) = (x - g % 2 ^ d + 2 ^ (d - 1)) + 2 ^ d * (-(g / 2 ^ d)) := by
      have := Int.emod_add_mul_ediv g (2 ^ d)
      rw [Int.mul_neg]
      omega
    rw [e, Int.add_mul_emod_self_left]
  rw [h]
def once (d : Nat) (g : Int) : Bool := ((samples d).map fun x => fold (wr d (x - g))).isPerm ((List.range (2 ^ d)).map fun i : Nat => (i : Int))
theorem once_all : ([1, 2, 3].all fun d => (List.range (2 ^ d)).all fun g => once d (g : Int)) = true := by decide +kernel
theorem once_of {d : Nat} (h : 1 ≤ d ∧ d ≤ 3) (g : Int) : ((samples d).map fun x => fold (wr d (x - g))).Perm ((List.range (2 ^ d)).map fun i : Nat => (i : Int)) := by
  have hp : (0 : Int) < 2 ^ d := Int.pow_pos (by decide)
  have hm : d ∈ [1, 2, 3] := by
    have : d = 1 ∨ d = 2 ∨ d = 3 := by omega
    rcases this with h | h | h <;> rw [h] <;> decide
  have h0 := Int.emod_nonneg g (Int.ne_of_gt hp)
  have h1 := Int.emod_lt_of_pos g hp
  obtain ⟨n, hn⟩ := Int.eq_ofNat_of_zero_le h0
  have hn2 : n < 2 ^ d := by
    have : (n : Int) < ((2 ^ d : Nat) : Int) := by rw [Int.natCast_pow]; rw [hn] at h1; exact h1
    omega
  have k := List.all_eq_true.mp (List.all_eq_true.mp once_all d hm) n (List.mem_range.mpr hn2)
  have e : ((samples d).map fun x => fold (wr d (x - g))) = (samples d).map fun x => fold (wr d (x - (n : Int))) := by
    apply List.map_congr_left
    intro x _
    rw [wr_mod d x g, hn]
  rw [e]
  exact List.isPerm_iff.mp k
theorem sum_add {β : Type} (f g : β → Nat) : ∀ F : List β, (F.map fun x => f x + g x).sum = (F.map f).sum + (F.map g).sum
  | [] => rfl
  | x :: F => by
    have := sum_add f g F
    simp only [List.map_cons, List.sum_cons]
    omega
theorem sum_zero {β : Type} : ∀ F : List β, (F.map fun _ => 0).sum = 0
  | [] => rfl
  | x :: F => by
    rw [List.map_cons, List.sum_cons, sum_zero F]
theorem countP_flatG {β : Type} (F : List β) (p : List Int → Bool) (B : List Int → List (List Int)) (q : β → List Int → Bool) (h : ∀ r, (B r).countP p = (F.map fun f => if q f r = true then 1 else 0).sum) : ∀ l : List (List Int), (l.flatMap B).countP p = (F.map fun f => l.countP (q f)).sum
  | [] => by
    simp only [List.flatMap_nil, List.countP_nil]
    exact (sum_zero F).symm
  | r :: t => by
    have ih := countP_flatG F p B q h t
    rw [List.flatMap_cons, List.countP_append, ih, h r, ← sum_add]
    congr 1
    apply List.map_congr_left
    intro f _
    rw [List.countP_cons]
    omega
theorem countP_sum {β : Type} (p : β → Bool) : ∀ l : List β, l.countP p = (l.map fun x => if p x = true then 1 else 0).sum
  | [] => rfl
  | x :: t => by
    rw [List.countP_cons, countP_sum p t, List.map_cons, List.sum_cons]
    omega
theorem cnt_rows {d : Nat} (hd : 1 ≤ d ∧ d ≤ 3) (ws : List Int) (s w : Nat) : ∀ (n : Nat) (k : Int), (allr d n).countP (fun r => decide (size ws s d w r = k)) = Cn d w n k
  | 0, k => by
    unfold allr Cn
    rw [List.countP_cons, List.countP_nil]
    have : size ws s d w [] = 0 := rfl
    rw [this]
    by_cases h : k = 0
    · rw [if_pos h, h]; rfl
    · rw [if_neg h, decide_eq_false (fun e => h e.symm)]; rfl
  | n + 1, k => by
    unfold allr Cn
    rw [countP_flatG (List.range (2 ^ d)) _ _ (fun f r => decide (size ws s d w r = k - pri w f)) (fun r => ?_)]
    · congr 1
      apply List.map_congr_left
      intro f _
      exact cnt_rows hd ws s w n (k - pri w f)
    · rw [List.countP_map]
      have e : ((fun r => decide (size ws s d w r = k)) ∘ fun x => r ++ [x]) = (fun f => decide (size ws s d w r = k - pri w f)) ∘ fun x => fold (wr d (x - gs ws s r r.length)) := by
        funext x
        show decide (size ws s d w (r ++ [x]) = k) = decide (size ws s d w r = k - pri w (fold (wr d (x - gs ws s r r.length))))
        rw [size_snoc]
        refine decide_eq_decide.mpr ⟨fun h => by omega, fun h => by omega⟩
      rw [e, ← List.countP_map, (once_of hd _).countP_eq, List.countP_map, countP_sum]
      rfl
theorem pri_bound {d w : Nat} (hw : w ≤ d) {f : Nat} (hf : f < 2 ^ d) : 1 ≤ pri w f ∧ pri w f ≤ (w : Int) + 2 ^ (d - w) := by
  unfold pri
  have h2 : (0 : Int) < 2 ^ w := Int.pow_pos (by decide)
  have h0 : 0 ≤ (f : Int) / 2 ^ w := Int.ediv_nonneg (by omega) (Int.le_of_lt h2)
  have h1 : (f : Int) / 2 ^ w < 2 ^ (d - w) := by
    refine Int.ediv_lt_of_lt_mul h2 ?_
    rw [← Int.pow_add, Nat.sub_add_cancel hw]
    have : (f : Int) < ((2 ^ d : Nat) : Int) := by omega
    rw [Int.natCast_pow] at this
    exact this
  omega
theorem Cn_out {d w : Nat} (hw : w ≤ d) : ∀ (n : Nat) (k : Int), k < 0 ∨ (n : Int) * ((w : Int) + 2 ^ (d - w)) < k → Cn d w n k = 0
  | 0, k, h => by
    unfold Cn
    rw [if_neg (by omega)]
  | n + 1, k, h => by
    unfold Cn
    have : ((List.range (2 ^ d)).map fun f : Nat => Cn d w n (k - pri w f)) = (List.range (2 ^ d)).map fun _ => 0 := by
      apply List.map_congr_left
      intro f hf
      have hb := pri_bound hw (List.mem_range.mp hf)
      refine Cn_out hw n _ ?_
      rcases h with h | h
      · exact Or.inl (by omega)
      · right
        rw [Int.natCast_add, Int.add_mul] at h
        have e1 : ((1 : Nat) : Int) * ((w : Int) + 2 ^ (d - w)) = (w : Int) + 2 ^ (d - w) := by rw [Int.natCast_one, Int.one_mul]
        omega
    rw [this, sum_zero]
/-! ### tables that count -/
theorem get_put (t : Tab) (k v j : Int) : get (put t k v) j = if j = k then some v else get t j := by
  have h := kv_get j (put t k v)
  rw [← kv_put, L2.valV_put] at h
  by_cases e : j = k
  · rw [if_pos e]
    rw [if_pos (by rw [e])] at h
    cases g : get (put t k v) j with
    | none => rw [g] at h; cases h
    | some x =>
      rw [g] at h
      have := L2.V.int.inj (Option.some.inj h)
      rw [this]
  · rw [if_neg e]
    rw [if_neg (fun z => e (Sum.inl.inj z)), kv_get] at h
    cases g : get (put t k v) j with
    | none =>
      rw [g] at h
      cases g2 : get t j with
      | none => rfl
      | some y => rw [g2] at h; cases h
    | some x =>
      rw [g] at h
      cases g2 : get t j with
      | none => rw [g2] at h; cases h
      | some y =>
        rw [g2] at h
        have := L2.V.int.inj (Option.some.inj h)
        rw [this]
def keys (t : Tab) : List Int := t.map (·.1)
theorem keys_put (t : Tab) (k v : Int) : keys (put t k v) = if k ∈ keys t then keys t else keys t ++ [k] := by
  have ha : (t.any fun p => decide (p.1 = k)) = decide (k ∈ keys t) := by
    unfold keys
    induction t with
    | nil => rfl
    | cons p r ih =>
      rw [List.any_cons, ih, List.map_cons]
      by_cases c : p.1 = k
      · rw [c]; simp
      · have c' : ¬ k = p.1 := fun e => c e.symm
        simp [c, c']
  unfold put
  rw [ha]
  by_cases c : k ∈ keys t
  · rw [if_pos (decide_eq_true c), if_pos c]
    unfold keys
    rw [List.map_map]
    apply List.map_congr_left
    intro p _
    show (if p.1 = k then (p.1, v) else p).1 = p.1
    split <;> rfl
  · rw [if_neg (by rw [decide_eq_false c]; decide), if_neg c]
    unfold keys
    rw [List.map_append]
    rfl
theorem get_key (t : Tab) (k : Int) : (get t k).isSome = decide (k ∈ keys t) := by
  unfold M44.get keys
  rw [Option.isSome_map]
  induction t with
  | nil => rfl
  | cons p r ih =>
    rw [List.find?_cons, List.map_cons]
    by_cases c : p.1 = k
    · rw [decide_eq_true c, c]; simp
    · rw [decide_eq_false c]
      have c' : ¬ k = p.1 := fun e => c e.symm
      simp only [List.mem_cons, c', false_or]
      exact ih
theorem get_mem : ∀ (t : Tab) (p : Int × Int), (keys t).Nodup → p ∈ t → get t p.1 = some p.2
  | [], p, _, h => by cases h
  | x :: r, p, hn, h => by
    have hn2 : x.1 ∉ keys r ∧ (keys r).Nodup := List.nodup_cons.mp hn
    rcases List.mem_cons.mp h with e | h
    · rw [e]
      unfold M44.get
      simp
    · have c : ¬ x.1 = p.1 := fun e => hn2.1 (by rw [e]; exact List.mem_map.mpr ⟨p, h, rfl⟩)
      have ih := get_mem r p hn2.2 h
      unfold M44.get at ih ⊢
      rw [List.find?_cons, decide_eq_false c]
      exact ih
theorem nodup_len : ∀ (l m : List Int), l.Nodup → (∀ x ∈ l, x ∈ m) → l.length ≤ m.length
  | [], _, _, _ => Nat.zero_le _
  | x :: t, m, hn, h => by
    have hn2 := List.nodup_cons.mp hn
    have hx := h x List.mem_cons_self
    have ih := nodup_len t (m.erase x) hn2.2 fun y hy => (List.mem_erase_of_ne (fun e => hn2.1 (by rw [← e]; exact hy))).mpr (h y (List.mem_cons_of_mem _ hy))
    have hl := List.length_erase_of_mem hx
    have : 0 < m.length := List.length_pos_of_mem hx
    rw [List.length_cons]
    omega
/-- a table that tells counts -/
def CT (t : Tab) (c : Int → Nat) : Prop := (keys t).Nodup ∧ ∀ k, get t k = if c k = 0 then none else some ((c k : Nat) : Int)
theorem CT.nil : CT [] fun _ => 0 := ⟨List.nodup_nil, fun k => rfl⟩
theorem CT.gotC {t : Tab} {c : Int → Nat} (h : CT t c) (k : Int) : M44.got t k = ((c k : Nat) : Int) := by
  unfold M44.got
  rw [h.2 k]
  by_cases e : c k = 0
  · rw [if_pos e, e]; rfl
  · rw [if_neg e]; rfl
def upC (c : Int → Nat) (k : Int) (v : Nat) : Int → Nat := fun j => if j = k then v else c j
theorem CT.putC {t : Tab} {c : Int → Nat} (h : CT t c) (k : Int) (v : Nat) (hv : v ≠ 0) : CT (put t k (v : Int)) (upC c k v) := by
  refine ⟨?_, fun j => ?_⟩
  · rw [keys_put]
    by_cases e : k ∈ keys t
    · rw [if_pos e]; exact h.1
    · rw [if_neg e]
      refine List.nodup_append.mpr ⟨h.1, List.pairwise_singleton _ _, fun a ha b hb => ?_⟩
      rw [List.mem_singleton.mp hb]
      exact fun z => e (z ▸ ha)
  · rw [get_put]
    by_cases e : j = k
    · have : upC c k v j = v := if_pos e
      rw [this, if_pos e, if_neg hv]
    · have : upC c k v j = c j := if_neg e
      rw [this, if_neg e, h.2 j]
theorem CT.alike {t u : Tab} {c : Int → Nat} (h : CT t c) (k : CT u c) : t.length = u.length ∧ ∀ p ∈ t, get u p.1 = some p.2 := by
  have hk : ∀ x, x ∈ keys t ↔ x ∈ keys u := fun x => by
    have e1 := get_key t x
    have e2 := get_key u x
    rw [h.2 x] at e1
    rw [k.2 x, e1] at e2
    have := decide_eq_decide.mp e2
    exact this
  refine ⟨?_, fun p hp => ?_⟩
  · have l1 := nodup_len _ _ h.1 fun x hx => (hk x).mp hx
    have l2 := nodup_len _ _ k.1 fun x hx => (hk x).mpr hx
    unfold keys at l1 l2
    rw [List.length_map, List.length_map] at l1 l2
    omega
  · rw [k.2, ← h.2]
    exact get_mem t p h.1 hp
theorem CT.ext {t : Tab} {c c' : Int → Nat} (h : CT t c) (e : ∀ k, c k = c' k) : CT t c' := by
  have : c = c' := funext e
  rw [← this]
  exact h
/-! ### what the numbers are -/
theorem right_all : ([1, 2, 3].all fun d => (List.range (d + 1)).all fun w => (List.range 4).all fun n => (List.range (n * (w + 2 ^ (d - w)) + 3)).all fun k =>
    decide (LW n (2 ^ (d - w)) ((k : Int) - n * (1 + w)) * 2 ^ (n * w) = ((Cn d w n k : Nat) : Int)) && decide ((LW n (2 ^ (d - w)) ((k : Int) - n * (1 + w))).natAbs < 2 ^ 1000)) = true := by decide +kernel
theorem right_of {d w n k : Nat} (hd : 1 ≤ d ∧ d ≤ 3) (hw : w ≤ d) (hn : n ≤ 3) (hk : k < n * (w + 2 ^ (d - w)) + 3) : LW n (2 ^ (d - w)) ((k : Int) - n * (1 + w)) * 2 ^ (n * w) = ((Cn d w n k : Nat) : Int) ∧ (LW n (2 ^ (d - w)) ((k : Int) - n * (1 + w))).natAbs < 2 ^ 1000 := by
  have hm : d ∈ [1, 2, 3] := by
    have : d = 1 ∨ d = 2 ∨ d = 3 := by omega
    rcases this with h | h | h <;> rw [h] <;> decide
  have k1 := List.all_eq_true.mp (List.all_eq_true.mp (List.all_eq_true.mp (List.all_eq_true.mp right_all d hm) w (List.mem_range.mpr (by omega))) n (List.mem_range.mpr (by omega))) k (List.mem_range.mpr hk)
  rw [Bool.and_eq_true] at k1
  exact ⟨of_decide_eq_true k1.1, of_decide_eq_true k1.2⟩
theorem allr_len (d : Nat) : ∀ n, (allr d n).length = (2 ^ d) ^ n
  | 0 => rfl
  | n + 1 => by
    unfold allr
    rw [List.length_flatMap]
    have : (allr d n).map (fun r => ((samples d).map fun x => r ++ [x]).length) = (allr d n).map fun _ => 2 ^ d := by
      apply List.map_congr_left
      intro r _
      unfold samples
      rw [List.length_map, List.length_map, List.length_range]
    rw [this]
    have h2 : ∀ l : List (List Int), (l.map fun _ => 2 ^ d).sum = l.length * 2 ^ d := fun l => by
      induction l with
      | nil => simp
      | cons x t ih => rw [List.map_cons, List.sum_cons, ih, List.length_cons, Nat.add_mul]; omega
    rw [h2, allr_len d n, Nat.pow_succ]
theorem allr_row (d : Nat) : ∀ (n : Nat) (r : List Int), r ∈ allr d n → r.length = n ∧ ∀ x ∈ r, -(2 ^ (d - 1)) ≤ x ∧ x < -(2 ^ (d - 1)) + 2 ^ d
  | 0, r, h => by
    unfold allr at h
    rw [List.mem_singleton.mp h]
    exact ⟨rfl, fun x hx => absurd hx List.not_mem_nil⟩
  | n + 1, r, h => by
    unfold allr at h
    obtain ⟨r0, h0, h1⟩ := List.mem_flatMap.mp h
    obtain ⟨x, hx, rfl⟩ := List.mem_map.mp h1
    obtain ⟨hl, hb⟩ := allr_row d n r0 h0
    refine ⟨by rw [List.length_append, hl]; rfl, fun y hy => ?_⟩
    rcases List.mem_append.mp hy with k | k
    · exact hb y k
    · rw [List.mem_singleton.mp k]
      unfold samples at hx
      obtain ⟨i, hi, rfl⟩ := List.mem_map.mp hx
      have hi := List.mem_range.mp hi
      have : (i : Int) < ((2 ^ d : Nat) : Int) := by omega
      rw [Int.natCast_pow] at this
      have e : ((2 : Nat) : Int) = 2 := rfl
      rw [e] at this
      omega
theorem wr_in {d : Nat} (z : Int) : -(2 ^ (d - 1)) ≤ wr d z ∧ wr d z < 2 ^ d := by
  have hp : (0 : Int) < 2 ^ d := Int.pow_pos (by decide)
  have hq : (0 : Int) < 2 ^ (d - 1) := Int.pow_pos (by decide)
  have h0 := Int.emod_nonneg (z + 2 ^ (d - 1)) (Int.ne_of_gt hp)
  have h1 := Int.emod_lt_of_pos (z + 2 ^ (d - 1)) hp
  unfold wr
  omega
end M50

set_option Elab.async false
set_option linter.all false
set_option maxRecDepth 100000
set_option maxHeartbeats 4000000
namespace M10
open M50
theorem two_half {d : Nat} (h : 1 ≤ d) : (2 : Int) ^ d = 2 * 2 ^ (d - 1) := by
  obtain ⟨k, rfl⟩ : ∃ k, d = k + 1 := ⟨d - 1, by omega⟩
  rw [Nat.add_sub_cancel, Int.pow_succ, Int.mul_comm]
theorem half_pos (d : Nat) : (0 : Int) < 2 ^ (d - 1) := Int.pow_pos (by decide)
/-- the rests ahead of wrapping -/
def ur (ws : List Int) (s : Nat) (row : List Int) : List Int := (List.range row.length).map fun i => row.getD i 0 - gs ws s row i
theorem rst_ur (ws : List Int) (s d : Nat) (row : List Int) : rst ws s d row = (ur ws s row).map (wr d) := by
  unfold rst ur
  rw [List.map_map]
  rfl
theorem ur_cut (ws : List Int) (s : Nat) (row : List Int) : ur ws s row = row.take ws.length ++ (List.range (((row.length : Int) - (ws.length : Int)).toNat)).map fun i => row.getD (ws.length + i) 0 - wsum row (ws.length + i) ws 0 / 2 ^ s := by
  unfold ur
  apply List.ext_getElem?
  intro i
  rw [List.getElem?_map]
  have lt : (row.take ws.length).length = min ws.length row.length := List.length_take
  by_cases h : i < row.length
  · rw [List.getElem?_range h]
    by_cases c : i < ws.length
    · rw [List.getElem?_append_left (by omega), List.getElem?_take, if_pos c]
      show some (row.getD i 0 - gs ws s row i) = _
      unfold gs
      rw [if_pos c, Int.sub_zero, List.getD_eq_getElem?_getD, List.getElem?_eq_getElem h]
      rfl
    · rw [List.getElem?_append_right (by omega), lt, List.getElem?_map, List.getElem?_range (by omega)]
      show some (row.getD i 0 - gs ws s row i) = some (row.getD (ws.length + (i - min ws.length row.length)) 0 - wsum row (ws.length + (i - min ws.length row.length)) ws 0 / 2 ^ s)
      unfold gs
      rw [if_neg c, show ws.length + (i - min ws.length row.length) = i by omega]
  · rw [List.getElem?_eq_none (by rw [List.length_range]; omega)]
    symm
    apply List.getElem?_eq_none
    rw [List.length_append, lt, List.length_map, List.length_range]
    omega
/-- wrapping as the law has it -/
def lw (d : Nat) (z : Int) : Int := if z.fmod (2 ^ d) ≥ 2 ^ (d - 1) then z.fmod (2 ^ d) - 2 ^ d else z.fmod (2 ^ d)
theorem lw_wr {d : Nat} (h : 1 ≤ d) (z : Int) : lw d z = wr d z := by
  have h2 := two_half h
  have hp := half_pos d
  unfold lw wr
  rw [Int.fmod_eq_emod_of_nonneg _ (by omega), h2]
  generalize (2 : Int) ^ (d - 1) = k at hp
  have m0 := Int.emod_nonneg z (show 2 * k ≠ 0 by omega)
  have m1 := Int.emod_lt_of_pos z (show 0 < 2 * k by omega)
  have e : (z + k) % (2 * k) = (z % (2 * k) + k) % (2 * k) := by rw [Int.emod_add_emod]
  rw [e]
  by_cases c : z % (2 * k) ≥ k
  · rw [if_pos c]
    have : (z % (2 * k) + k) % (2 * k) = z % (2 * k) + k - 2 * k := by
      have e2 : z % (2 * k) + k = (z % (2 * k) + k - 2 * k) + 2 * k * 1 := by omega
      rw [e2, Int.add_mul_emod_self_left, Int.emod_eq_of_lt (by omega) (by omega)]
      omega
    omega
  · rw [if_neg c, Int.emod_eq_of_lt (a := z % (2 * k) + k) (by omega) (by omega)]
    omega
def Smp (d : Nat) (row : List Int) : Prop := ∀ x ∈ row, -(2 ^ (d - 1)) ≤ x ∧ x ≤ 2 ^ (d - 1) - 1
theorem wr_smp {d : Nat} (h : 1 ≤ d) (z : Int) : -(2 ^ (d - 1)) ≤ wr d z ∧ wr d z ≤ 2 ^ (d - 1) - 1 := by
  have h2 := two_half h
  have hp := half_pos d
  unfold wr
  rw [h2]
  generalize (2 : Int) ^ (d - 1) = k at hp
  have m0 := Int.emod_nonneg (z + k) (show 2 * k ≠ 0 by omega)
  have m1 := Int.emod_lt_of_pos (z + k) (show 0 < 2 * k by omega)
  omega
theorem wr_back {d : Nat} (h : 1 ≤ d) {x g : Int} (h0 : -(2 ^ (d - 1)) ≤ x) (h1 : x ≤ 2 ^ (d - 1) - 1) : wr d (wr d (x - g) + g) = x := by
  have h2 := two_half h
  have hp := half_pos d
  unfold wr
  rw [h2]
  generalize (2 : Int) ^ (d - 1) = k at hp h0 h1
  have e : ((x - g + k) % (2 * k) - k + g + k) % (2 * k) = (x + k) % (2 * k) := by
    rw [show (x - g + k) % (2 * k) - k + g + k = (x - g + k) % (2 * k) + g by omega, Int.emod_add_emod]
    congr 1
    omega
  rw [e, Int.emod_eq_of_lt (by omega) (by omega)]
  omega
theorem wr_self {d : Nat} (h : 1 ≤ d) {x : Int} (h0 : -(2 ^ (d - 1)) ≤ x) (h1 : x ≤ 2 ^ (d - 1) - 1) : wr d x = x := by
  have h2 := two_half h
  have hp := half_pos d
  unfold wr
  rw [h2]
  generalize (2 : Int) ^ (d - 1) = k at hp h0 h1
  rw [Int.emod_eq_of_lt (by omega) (by omega)]
  omega
theorem wr_back2 {d : Nat} (h : 1 ≤ d) {x g : Int} (h0 : -(2 ^ (d - 1)) ≤ x) (h1 : x ≤ 2 ^ (d - 1) - 1) : wr d (wr d (x + g) - g) = x := by
  have := wr_back h (g := -g) h0 h1
  rw [Int.sub_neg] at this
  rw [Int.sub_eq_add_neg]
  exact this
/-- back from rests to the row -/
def ru (ws : List Int) (s d : Nat) (rs : List Int) : Nat → List Int
  | 0 => []
  | i + 1 => ru ws s d rs i ++ [if i < ws.length then rs.getD i 0 else wr d (rs.getD i 0 + wsum (ru ws s d rs i) i ws 0 / 2 ^ s)]
theorem ru_len (ws : List Int) (s d : Nat) (rs : List Int) : ∀ i, (ru ws s d rs i).length = i
  | 0 => rfl
  | i + 1 => by
    unfold ru
    rw [List.length_append, ru_len ws s d rs i]
    rfl
theorem ru_cut (ws : List Int) (s d : Nat) (rs : List Int) : ∀ i, i ≤ ws.length → i ≤ rs.length → ru ws s d rs i = rs.take i
  | 0, _, _ => rfl
  | i + 1, h, h2 => by
    unfold ru
    rw [ru_cut ws s d rs i (by omega) (by omega), if_pos (by omega), List.take_succ, List.getD_eq_getElem?_getD, List.getElem?_eq_getElem (by omega)]
    rfl
theorem ru_step {ws : List Int} {s d : Nat} {rs : List Int} {i : Nat} (h : ws.length ≤ i) : ru ws s d rs (i + 1) = ru ws s d rs i ++ [wr d (rs.getD i 0 + wsum (ru ws s d rs i) i ws 0 / 2 ^ s)] := by
  rw [ru, if_neg (by omega)]
theorem ru_smp {ws : List Int} {s d : Nat} {rs : List Int} (h : 1 ≤ d) (hs : Smp d rs) : ∀ i, i ≤ rs.length → Smp d (ru ws s d rs i)
  | 0, _ => fun x hx => absurd hx List.not_mem_nil
  | i + 1, hi => fun x hx => by
    unfold ru at hx
    rcases List.mem_append.mp hx with k | k
    · exact ru_smp h hs i (by omega) x k
    · rw [List.mem_singleton.mp k]
      split
      · rw [List.getD_eq_getElem?_getD, List.getElem?_eq_getElem (by omega)]
        exact hs _ (List.getElem_mem _)
      · exact wr_smp h _
theorem take_snoc {row : List Int} {i : Nat} (hi : i < row.length) : row.take (i + 1) = row.take i ++ [row.getD i 0] := by
  rw [List.take_succ, List.getD_eq_getElem?_getD, List.getElem?_eq_getElem hi]
  rfl
theorem wsum_pre (row : List Int) : ∀ (n i : Nat), i ≤ n → n ≤ row.length → ∀ ws : List Int, ws.length ≤ i → wsum (row.take n) i ws 0 = wsum row i ws 0 := by
  intro n i hin hn ws hw
  have hall : ∀ (ws : List Int) (j : Nat), j + ws.length ≤ i → wsum (row.take n) i ws j = wsum row i ws j := by
    intro ws
    induction ws with
    | nil => intro j _; rfl
    | cons w l ih =>
      intro j h
      rw [List.length_cons] at h
      unfold wsum
      rw [ih (j + 1) (by omega), List.getD_eq_getElem?_getD, List.getD_eq_getElem?_getD, List.getElem?_take, if_pos (by omega)]
  exact hall ws 0 (by omega)
theorem rst_get {ws : List Int} {s d : Nat} {row : List Int} {i : Nat} (hi : i < row.length) : (rst ws s d row).getD i 0 = wr d (row.getD i 0 - gs ws s row i) := by
  unfold rst
  rw [List.getD_eq_getElem?_getD, List.getElem?_map, List.getElem?_range hi]
  rfl
theorem rst_len (ws : List Int) (s d : Nat) (row : List Int) : (rst ws s d row).length = row.length := by
  unfold rst
  rw [List.length_map, List.length_range]
theorem smp_get {d : Nat} {row : List Int} (h : Smp d row) {i : Nat} (hi : i < row.length) : -(2 ^ (d - 1)) ≤ row.getD i 0 ∧ row.getD i 0 ≤ 2 ^ (d - 1) - 1 := by
  rw [List.getD_eq_getElem?_getD, List.getElem?_eq_getElem hi]
  exact h _ (List.getElem_mem hi)
theorem back_row {ws : List Int} {s d : Nat} {row : List Int} (h : 1 ≤ d) (hs : Smp d row) : ∀ i, i ≤ row.length → ru ws s d (rst ws s d row) i = row.take i
  | 0, _ => rfl
  | i + 1, hi => by
    have ih := back_row (ws := ws) (s := s) h hs i (by omega)
    have hx := smp_get hs (show i < row.length by omega)
    unfold ru
    rw [ih, take_snoc (by omega), rst_get (by omega)]
    congr 2
    unfold gs
    by_cases c : i < ws.length
    · rw [if_pos c, if_pos c, Int.sub_zero, wr_self h hx.1 hx.2]
    · rw [if_neg c, if_neg c, wsum_pre row i i (Nat.le_refl _) (by omega) ws (by omega)]
      exact wr_back h hx.1 hx.2
theorem ru_take (ws : List Int) (s d : Nat) (rs : List Int) : ∀ n i, i ≤ n → (ru ws s d rs n).take i = ru ws s d rs i
  | 0, i, h => by
    obtain rfl : i = 0 := by omega
    rfl
  | n + 1, i, h => by
    by_cases c : i = n + 1
    · rw [c, List.take_of_length_le (by rw [ru_len]; exact Nat.le_refl _)]
    · rw [show ru ws s d rs (n + 1) = ru ws s d rs n ++ _ from rfl, List.take_append_of_le_length (by rw [ru_len]; omega), ru_take ws s d rs n i (by omega)]
theorem back_rests {ws : List Int} {s d : Nat} {rs : List Int} (h : 1 ≤ d) (hs : Smp d rs) : rst ws s d (ru ws s d rs rs.length) = rs := by
  apply List.ext_getElem?
  intro i
  unfold rst
  rw [List.getElem?_map, ru_len]
  by_cases hi : i < rs.length
  · rw [List.getElem?_range hi, List.getElem?_eq_getElem hi]
    show some (wr d ((ru ws s d rs rs.length).getD i 0 - gs ws s (ru ws s d rs rs.length) i)) = _
    congr 1
    have hx := smp_get hs hi
    have ei : (ru ws s d rs rs.length).getD i 0 = (ru ws s d rs (i + 1)).getD i 0 := by
      rw [List.getD_eq_getElem?_getD, List.getD_eq_getElem?_getD, ← ru_take ws s d rs rs.length (i + 1) (by omega), List.getElem?_take, if_pos (by omega)]
    have el : (ru ws s d rs (i + 1)).getD i 0 = if i < ws.length then rs.getD i 0 else wr d (rs.getD i 0 + wsum (ru ws s d rs i) i ws 0 / 2 ^ s) := by
      rw [ru, List.getD_eq_getElem?_getD, List.getElem?_append_right (by rw [ru_len]; exact Nat.le_refl _), ru_len, Nat.sub_self]
      rfl
    have er : rs.getD i 0 = rs[i] := by
      rw [List.getD_eq_getElem?_getD, List.getElem?_eq_getElem hi]
      rfl
    rw [ei, el, ← er]
    unfold gs
    by_cases c : i < ws.length
    · rw [if_pos c, if_pos c, Int.sub_zero, wr_self h hx.1 hx.2]
    · rw [if_neg c, if_neg c, ← wsum_pre (ru ws s d rs rs.length) i i (Nat.le_refl _) (by rw [ru_len]; omega) ws (by omega), ru_take ws s d rs rs.length i (by omega)]
      exact wr_back2 h hx.1 hx.2
  · rw [List.getElem?_eq_none (by rw [List.length_range]; omega), List.getElem?_eq_none (by omega)]
    rfl
end M10

set_option Elab.async false
set_option linter.all false
set_option maxRecDepth 100000
set_option maxHeartbeats 4000000
namespace M10
open M50 PySem PySem.Spec PyProof.Rows L2 Evl WS
/-! ### all rows: their rests are all rows -/
def perm1 (d : Nat) (g : Int) : Bool := ((samples d).map fun x => wr d (x - g)).isPerm (samples d)
theorem perm_all : ([1, 2, 3].all fun d => (List.range (2 ^ d)).all fun g => perm1 d (g : Int)) = true := by decide +kernel
theorem perm_of {d : Nat} (h : 1 ≤ d ∧ d ≤ 3) (g : Int) : ((samples d).map fun x => wr d (x - g)).Perm (samples d) := by
  have hp : (0 : Int) < 2 ^ d := Int.pow_pos (by decide)
  have hm : d ∈ [1, 2, 3] := by
    have : d = 1 ∨ d = 2 ∨ d = 3 := by omega
    rcases this with h | h | h <;> rw [h] <;> decide
  have h0 := Int.emod_nonneg g (Int.ne_of_gt hp)
  have h1 := Int.emod_lt_of_pos g hp
  obtain ⟨n, hn⟩ := Int.eq_ofNat_of_zero_le h0
  have hn2 : n < 2 ^ d := by
    have : (n : Int) < ((2 ^ d : Nat) : Int) := by rw [Int.natCast_pow]; rw [hn] at h1; exact h1
    omega
  have k := List.all_eq_true.mp (List.all_eq_true.mp perm_all d hm) n (List.mem_range.mpr hn2)
  have e : ((samples d).map fun x => wr d (x - g)) = (samples d).map fun x => wr d (x - (n : Int)) := by
    apply List.map_congr_left
    intro x _
    rw [wr_mod d x g, hn]
  rw [e]
  exact List.isPerm_iff.mp k
theorem flat_congr {α β : Type} {f g : α → List β} : ∀ l : List α, (∀ a ∈ l, (f a).Perm (g a)) → (l.flatMap f).Perm (l.flatMap g)
  | [], _ => List.Perm.refl _
  | a :: t, h => by
    rw [List.flatMap_cons, List.flatMap_cons]
    exact (h a List.mem_cons_self).append (flat_congr t fun b hb => h b (List.mem_cons_of_mem _ hb))
theorem flat_perm {α β : Type} (f : α → List β) {l m : List α} (h : l.Perm m) : (l.flatMap f).Perm (m.flatMap f) := by
  induction h with
  | nil => exact List.Perm.refl _
  | cons x _ ih =>
    rw [List.flatMap_cons, List.flatMap_cons]
    exact (List.Perm.refl _).append ih
  | swap x y l =>
    rw [List.flatMap_cons, List.flatMap_cons, List.flatMap_cons, List.flatMap_cons, ← List.append_assoc, ← List.append_assoc]
    exact List.perm_append_comm.append (List.Perm.refl _)
  | trans _ _ h1 h2 => exact h1.trans h2
theorem rst_all {d : Nat} (h : 1 ≤ d ∧ d ≤ 3) (ws : List Int) (s : Nat) : ∀ n, ((allr d n).map (rst ws s d)).Perm (allr d n)
  | 0 => List.Perm.refl _
  | n + 1 => by
    unfold allr
    rw [List.map_flatMap]
    have e : (allr d n).flatMap (fun r => ((samples d).map fun x => r ++ [x]).map (rst ws s d)) = (allr d n).flatMap fun r => ((samples d).map fun x => wr d (x - gs ws s r r.length)).map fun y => rst ws s d r ++ [y] := by
      congr 1
      funext r
      rw [List.map_map, List.map_map]
      apply List.map_congr_left
      intro x _
      exact rst_snoc ws s d r x
    rw [e]
    refine (flat_congr (g := fun r => (samples d).map fun y => rst ws s d r ++ [y]) _ fun r _ => (perm_of h _).map _).trans ?_
    have e2 : (allr d n).flatMap (fun r => (samples d).map fun y => rst ws s d r ++ [y]) = ((allr d n).map (rst ws s d)).flatMap fun r => (samples d).map fun y => r ++ [y] := by
      rw [List.flatMap_map]
    rw [e2]
    exact flat_perm _ (rst_all h ws s n)
/-! ### their texts -/
def dat (row : List Int) : PyData := .list ((row.map V.int).map sD)
def tx (row : List Int) : Str := (dat row).shown
def okTx (row : List Int) : Bool := (dat row).showable && !(dat row).hasDict && decide ((dat row).depth ≤ 50) && decide ((dat row).shown.length ≤ 1000) && PyData.strOk (dat row).shown
theorem tx_all : ([1, 2].all fun d => [1, 2, 3].all fun n => (allr d n).all okTx) = true := by decide +kernel
theorem tx_of {d n : Nat} (h1 : 1 ≤ d ∧ d ≤ 2) (h2 : 1 ≤ n ∧ n ≤ 3) {row : List Int} (h : row ∈ allr d n) : (dat row).showable = true ∧ (dat row).hasDict = false ∧ (dat row).depth ≤ 50 ∧ (dat row).shown.length ≤ 1000 ∧ PyData.strOk (tx row) = true := by
  have hd : d ∈ [1, 2] := by
    have : d = 1 ∨ d = 2 := by omega
    rcases this with h | h <;> rw [h] <;> decide
  have hn : n ∈ [1, 2, 3] := by
    have : n = 1 ∨ n = 2 ∨ n = 3 := by omega
    rcases this with h | h | h <;> rw [h] <;> decide
  have k := List.all_eq_true.mp (List.all_eq_true.mp (List.all_eq_true.mp tx_all d hd) n hn) row h
  unfold okTx at k
  rw [Bool.and_eq_true, Bool.and_eq_true, Bool.and_eq_true, Bool.and_eq_true, Bool.not_eq_true'] at k
  exact ⟨k.1.1.1.1, k.1.1.1.2, of_decide_eq_true k.1.1.2, of_decide_eq_true k.1.2, k.2⟩
/-! ### differences -/
def Df (f : Nat → Int) : Nat → Nat → Int
  | 0, i => f i
  | k + 1, i => Df f k (i + 1) - Df f k i
def lin (f : Nat → Int) : List Int → Nat → Int
  | [], _ => 0
  | c :: r, i => c * f i + lin f r (i + 1)
def cadd : List Int → List Int → List Int
  | [], ys => ys.map fun y => -y
  | x :: xs, [] => x :: xs
  | x :: xs, y :: ys => (x - y) :: cadd xs ys
def co : Nat → List Int
  | 0 => [1]
  | k + 1 => cadd (0 :: co k) (co k)
theorem lin_neg (f : Nat → Int) : ∀ (ys : List Int) (i : Nat), lin f (ys.map fun y => -y) i = - lin f ys i
  | [], i => rfl
  | y :: ys, i => by
    rw [List.map_cons, lin, lin, lin_neg f ys, Int.neg_mul]
    omega
theorem lin_cadd (f : Nat → Int) : ∀ (xs ys : List Int) (i : Nat), lin f (cadd xs ys) i = lin f xs i - lin f ys i
  | [], ys, i => by
    rw [cadd, lin_neg, lin]
    omega
  | x :: xs, [], i => by
    rw [cadd]
    show _ = _ - 0
    omega
  | x :: xs, y :: ys, i => by
    rw [cadd, lin, lin, lin, lin_cadd f xs ys, Int.sub_mul]
    omega
theorem Df_lin (f : Nat → Int) : ∀ k i, Df f k i = lin f (co k) i
  | 0, i => by
    show f i = 1 * f i + 0
    omega
  | k + 1, i => by
    rw [co, lin_cadd, Df, Df_lin f k, Df_lin f k, lin]
    omega
theorem lin_app (f : Nat → Int) (w : Int) : ∀ (a : List Int) (i : Nat), lin f (a ++ [w]) i = lin f a i + w * f (i + a.length)
  | [], i => by
    show w * f i + 0 = 0 + w * f (i + 0)
    rw [Nat.add_zero]
    omega
  | c :: a, i => by
    rw [List.cons_append, lin, lin, lin_app f w a, List.length_cons, show i + 1 + a.length = i + (a.length + 1) by omega]
    omega
theorem wsum_lin (row : List Int) (n i : Nat) : ∀ (ws : List Int) (j : Nat), i + ws.length + j = n → wsum row n ws j = lin (fun t => row.getD t 0) ws.reverse i
  | [], j, _ => rfl
  | w :: l, j, h => by
    rw [List.length_cons] at h
    rw [List.reverse_cons, lin_app, wsum, wsum_lin row n i l (j + 1) (by omega), List.length_reverse, show n - 1 - j = i + l.length by omega]
    omega
end M10

set_option Elab.async false
set_option linter.all false
set_option maxRecDepth 100000
set_option maxHeartbeats 2000000
namespace WS
open PySem PySem.Spec PyProof.Rows L2 Evl
section
variable {X : Cx} {tg : Expr}
theorem cr_range1 : CallR X (.type "range") (fun vs H Q => ∃ j, vs = [V.int j] ∧ ∀ p, H p = none → Q (.ref p) (upd H p (.rng 0 j))) := by
  intro pins s σ H vs us Q I r h
  obtain ⟨j, rfl, q⟩ := h
  obtain ⟨u1, rfl, t, rfl⟩ := vals1 r
  refine call_range_1 ⟨.ref s.heap.objs.size, upd H s.heap.objs.size (.rng 0 j), I.laid (t' := s.toks + 1 + 1) (fun _ _ keep => Heap.get?_push_of_some _ keep) (Nat.le_refl _) ⟨_, t, _, Heap.get?_push_size _ rfl⟩, rfl, q _ (I.hok.fresh (Nat.le_refl _))⟩
/-- a range kept as a value, gone over -/
def iRngV (te : TE) : TI := fun σ H R => te σ H fun x H1 => ∃ a lo hi, x = V.ref a ∧ H1 a = some (.rng lo hi) ∧ (-(2 ^ 62) ≤ lo ∧ lo < 2 ^ 62 ∧ -(2 ^ 62) ≤ hi ∧ hi < 2 ^ 62) ∧ R (Itr lo (hi - lo).toNat) H1
theorem pi_rngV {l : Expr} {tl : TE} (hl : PE X l tl) : PI X tg l (iRngV tl) := by
  refine ⟨fun pins s σ H R I h => thn (hl.run pins s σ H _ I h) fun v z ⟨x, G, J, rel, told⟩ => ?_⟩
  obtain ⟨a, lo, hi, rfl, at_, ⟨b1, b2, b3, b4⟩, q⟩ := told
  cases rel
  obtain ⟨t, u, w, laid⟩ := (show ∃ t u w, z.heap.get? a = some { cls := .type "range", data := .fields #[.int lo t, .int hi u, .int 1 w] } from J.hok a _ at_)
  refine wpAny_pyIter_range laid (small_one b1 b2 b3 b4) ?_
  have size_ : (((hi - lo).toNat : Nat) : Int) - ((0 : Nat) : Int) = Builtin.Range.rangeSize lo hi 1 := by rw [rangeSize_one]; split <;> omega
  refine ⟨z.heap.objs.size, [z.heap.objs.size], _, _, G, rfl, J.kept (t' := z.toks) (fun _ _ keep => Heap.get?_push_of_some _ keep), turn_range _ lo (hi - lo).toNat, ?_, fun b hb => ?_, q⟩
  · show IsRangeIter _ _ (lo + ((0 : Nat) : Int) * 1) ((((hi - lo).toNat : Nat) : Int) - ((0 : Nat) : Int)) 1
    rw [size_, show lo + ((0 : Nat) : Int) * 1 = lo by simp]
    exact Heap.get?_push_size _ rfl
  · obtain rfl := List.mem_singleton.mp hb
    exact J.fpOk (Nat.le_refl _) (J.hok.fresh (Nat.le_refl _))
end
theorem given_all (n : Nat) (f : Nat → V) : given n (fun _ => true) f = (List.range n).map f := by
  unfold given
  rw [List.filter_eq_self.mpr (fun _ _ => rfl)]
section
variable {K : PySem.W.Frag} {σ : L2.St} {H H' : Hp} {te tl : TE} {v : V}
theorem et_yes : EvT tYes σ H true := fun H1 _ _ q => q H1 (Ex.refl H1)
/-- [f(i) for i in r], r a range kept as a value -/
theorem el_mapRV {a : Addr} {n j : Nat} {vs : List Nat} (f : Nat → V) (h : Ev tl σ H (.ref a)) (ha : H a = some (.rng 0 (n : Int))) (hn : n ≤ 40000) (hw : ∀ x, wipe ((wipe σ vs).set j (some x)) vs = wipe σ vs)
    (he : ∀ (i : Nat) H1, Ex H H1 → i < n → Ev te ((wipe σ vs).set j (some (.int (i : Int)))) H1 (f i)) : EvL (tLc (iRngV tl) (gName j) tYes te vs) σ H ((List.range n).map f) := by
  rw [← given_all]
  refine fun H0 e Q q => h H0 e _ fun H1 e1 => ⟨a, 0, (n : Int), rfl, e1 _ _ (e _ _ ha), by omega, fun Dl hD => ?_⟩
  have en : ((n : Int) - 0).toNat = n := by omega
  rw [en]
  exact lc_it walk_range (Cw H1 (fun _ => true) f Dl) ⟨hD, Ex.new hD, upd_same⟩ (fun _ _ _ _ => trivial) (fun i x G G' hi p y => by
    obtain ⟨rfl, rfl⟩ := y
    have e0 : (0 : Int) + (i : Int) = (i : Int) := Int.zero_add _
    show wipe ((wipe σ vs).set j (some (.int ((0 : Int) + (i : Int))))) vs = wipe σ vs ∧ _
    rw [e0]
    have hh := he i H1 (e.trans e1) hi
    rw [← e0] at hh
    exact ⟨hw _, cw_turn p (by omega) et_yes (fun _ => hh)⟩) (fun G p => q Dl G (fresh_back e1 p.1) (e1.trans p.2.1) p.2.2)
/-- [f(i, x) for i, x in enumerate(xs)] -/
theorem el_enum {tr : TA} {a : Addr} {xs : List V} {i j : Nat} {vs : List Nat} (f : Nat → V) (h : EvA tr σ H [.ref a]) (hx : SqL K H a xs) (hz : xs.length ≤ 40000)
    (hw : ∀ x y, wipe (((wipe σ vs).set i (some x)).set j (some y)) vs = wipe σ vs) (he : ∀ (k : Nat) (x : V) H1, Ex H H1 → xs[k]? = some x → Ev te (((wipe σ vs).set i (some (.int (k : Int)))).set j (some x)) H1 (f k)) :
    EvL (tLc (iEnum K tr) (gTup K 2 (gCons (gName i) (gCons (gName j) gNil))) tYes te vs) σ H ((List.range xs.length).map f) := by
  rw [← given_all]
  refine fun H0 e Q q => h H0 e _ fun H1 e1 => ⟨a, xs, rfl, ex_l (e.trans e1) hx, fun Dl hD => ?_⟩
  refine lc_it (walk_enum (K := K) (a := a) (xs := xs)) (Cw H1 (fun _ => true) f Dl) ⟨hD, Ex.new hD, upd_same⟩ (fun _ G _ p => ex_l ((e.trans e1).trans p.2.1) hx) (fun k x G G' hk p y => ?_) (fun G p => q Dl G (fresh_back e1 p.1) (e1.trans p.2.1) p.2.2)
  obtain ⟨T, z, x', rfl, hT, rfl, hz', hx'⟩ := y
  obtain rfl := Option.some.inj hz'
  refine ⟨T, _, rfl, st_of upd_same, rfl, _, _, rfl, _, _, rfl, rfl, hw _ _, ?_⟩
  have nD : Dl ≠ T := fun z => by rw [← z, p.2.2] at hT; cases hT
  have p' : Cw H1 (fun _ => true) f Dl k (upd G T (.tup [.int (k : Int), x'])) := ⟨p.1, p.2.1.trans (Ex.new hT), by rw [upd_ne nD]; exact p.2.2⟩
  exact cw_turn p' (by omega) et_yes (fun _ => he k x' H1 (e.trans e1) hx')
/-- .. over a new list -/
theorem el_enumN {xs : List V} {i j : Nat} {vs : List Nat} (f : Nat → V) (h : EvL tl σ H xs) (hz : xs.length ≤ 40000)
    (hw : ∀ x y, wipe (((wipe σ vs).set i (some x)).set j (some y)) vs = wipe σ vs) (he : ∀ (k : Nat) (x : V) H1, Ex H H1 → xs[k]? = some x → Ev te (((wipe σ vs).set i (some (.int (k : Int)))).set j (some x)) H1 (f k)) :
    EvL (tLc (iEnum K (tCons tl tNil)) (gTup K 2 (gCons (gName i) (gCons (gName j) gNil))) tYes te vs) σ H ((List.range xs.length).map f) := fun H0 e Q q =>
  h H0 e _ fun a H1 ha e1 hx => by
    have k := el_enum (K := K) (te := te) (i := i) (j := j) (vs := vs) (tr := fun _ H Q => Q [.ref a] H) f (σ := σ) (H := H1) (fun H2 _ Q2 q2 => q2 H2 (Ex.refl H2)) (sq_of hx) hz hw (fun k x H2 e2 hk => he k x H2 ((e.trans e1).trans e2) hk)
    exact k H1 (Ex.refl H1) Q fun p H2 hp e2 h2 => q p H2 (fresh_back e1 hp) (e1.trans e2) h2
end
end WS

set_option Elab.async false
set_option linter.all false
set_option maxRecDepth 100000
set_option maxHeartbeats 2000000
namespace WS
open PySem PySem.Spec PyProof.Rows L2 Evl
section
variable {X : Cx}
/-- x *= e, one of both small -/
def ipMulS : TIp := fun x y H Q => ∃ i j, x = .int i ∧ y = .int j ∧ CMul i j ∧ Q (.int (i * j)) H
theorem ip_mulS : PIp X .Mult ipMulS := fun pins s σ H x y v u Q I r1 r2 h => by
  obtain ⟨i, j, rfl, rfl, small, q⟩ := h
  obtain ⟨t, rfl⟩ := r1
  obtain ⟨t', rfl⟩ := r2
  exact imul_int ⟨.int _, H, I.tok _, ⟨_, rfl⟩, q⟩ small.ok
end
section
variable {K : PySem.W.Frag} {σ : L2.St} {H : Hp} {te : TE} {D : Ends} {tz : TS}
theorem s_augMul {i : Nat} {a b : Int} (hx : σ[i]? = some (some (.int a))) (h : Ev te σ H (.int b)) (hm : CMul a b) (k : ∀ H1, Ex H H1 → D.nx (σ.set i (some (.int (a * b)))) H1) : tAug i te ipMulS D σ H :=
  ⟨_, hx, h H (Ex.refl H) _ fun H1 e => ⟨a, b, rfl, rfl, hm, k H1 e⟩⟩
/-- max(xs, default=d), xs a new list -/
theorem ev_maxDef {ns : List Int} {d m : Int} (h : EvL te σ H (ns.map V.int)) (h0 : ns = [] → m = d) (h1 : ns ≠ [] → m ∈ ns ∧ ∀ y ∈ ns, y ≤ m) : Ev (tCKw (rMaxDef K) (tCons te tNil) (tCons (tC (.int d)) tNil)) σ H (.int m) := fun H1 e Q q =>
  h H1 e _ fun p H2 _ e2 h2 => ⟨p, ns, d, rfl, rfl, sq_of h2, fun z => by rw [← h0 z]; exact q H2 e2, fun k hk hkl => by
    have ne : ns ≠ [] := fun z => by rw [z] at hk; cases hk
    rw [show k = m from Int.le_antisymm ((h1 ne).2 k hk) (hkl m (h1 ne).1)]
    exact q H2 e2⟩
theorem ev_comb {ta tb : TE} {a b : Int} (ha : Ev ta σ H (.int a)) (hb : Ev tb σ H (.int b)) (h0 : 0 ≤ a) (h1 : 0 ≤ b) (h2 : a ≤ 18000) : Ev (tCB rComb (tCons ta (tCons tb tNil))) σ H (.int (PySem.W.mcComb a b)) := fun H1 e Q q =>
  ha H1 e _ fun H2 e2 => hb H2 (e.trans e2) _ fun H3 e3 => ⟨a, b, rfl, h0, h1, by omega, .inr h2, q H3 (e2.trans e3)⟩
theorem ev_anyN {bs : List Bool} (h : EvL te σ H (bs.map V.bl)) : Ev (tCB (rAny K) (tCons te tNil)) σ H (.bl (bs.any id)) := fun H1 e Q q =>
  h H1 e _ fun p H2 _ e2 h2 => ⟨p, bs, rfl, sq_of h2, q H2 e2⟩
theorem rv_odd {u : Int} (h : 0 ≤ u) : RV (fun x y H Q => ∃ n : Nat, x = .int (n : Int) ∧ y = .int 1 ∧ Q (.int ((n % 2 : Nat) : Int)) H) (.int u) (.int 1) H (.int (u % 2)) := fun H1 e Q q =>
  ⟨u.toNat, by rw [show ((u.toNat : Nat) : Int) = u by omega], rfl, by
    rw [show ((u.toNat % 2 : Nat) : Int) = u % 2 by omega]
    exact q H1 (Ex.refl H1)⟩
/-- [f(i, x) for i, x in enumerate(xs) if t(i, x)] -/
theorem el_enumT {tr : TA} {t : TT} {a : Addr} {xs : List V} {i j : Nat} {vs : List Nat} (b : Nat → Bool) (f : Nat → V) (h : EvA tr σ H [.ref a]) (hx : SqL K H a xs) (hz : xs.length ≤ 40000)
    (hw : ∀ x y, wipe (((wipe σ vs).set i (some x)).set j (some y)) vs = wipe σ vs) (ht : ∀ (k : Nat) (x : V) H1, Ex H H1 → xs[k]? = some x → EvT t (((wipe σ vs).set i (some (.int (k : Int)))).set j (some x)) H1 (b k))
    (he : ∀ (k : Nat) (x : V) H1, Ex H H1 → xs[k]? = some x → b k = true → Ev te (((wipe σ vs).set i (some (.int (k : Int)))).set j (some x)) H1 (f k)) :
    EvL (tLc (iEnum K tr) (gTup K 2 (gCons (gName i) (gCons (gName j) gNil))) t te vs) σ H (given xs.length b f) := by
  refine fun H0 e Q q => h H0 e _ fun H1 e1 => ⟨a, xs, rfl, ex_l (e.trans e1) hx, fun Dl hD => ?_⟩
  refine lc_it (walk_enum (K := K) (a := a) (xs := xs)) (Cw H1 b f Dl) ⟨hD, Ex.new hD, upd_same⟩ (fun _ G _ p => ex_l ((e.trans e1).trans p.2.1) hx) (fun k x G G' hk p y => ?_) (fun G p => q Dl G (fresh_back e1 p.1) (e1.trans p.2.1) p.2.2)
  obtain ⟨T, z, x', rfl, hT, rfl, hz', hx'⟩ := y
  obtain rfl := Option.some.inj hz'
  refine ⟨T, _, rfl, st_of upd_same, rfl, _, _, rfl, _, _, rfl, rfl, hw _ _, ?_⟩
  have nD : Dl ≠ T := fun z => by rw [← z, p.2.2] at hT; cases hT
  have p' : Cw H1 b f Dl k (upd G T (.tup [.int (k : Int), x'])) := ⟨p.1, p.2.1.trans (Ex.new hT), by rw [upd_ne nD]; exact p.2.2⟩
  exact cw_turn p' (by omega) (ht k x' H1 (e.trans e1) hx') (fun hb => he k x' H1 (e.trans e1) hx' hb)
theorem given_filt {α : Type} (d : α) (l : List α) (b : α → Bool) (f : α → V) : given l.length (fun i => b (l.getD i d)) (fun i => f (l.getD i d)) = (l.filter b).map f := by
  unfold given
  show List.map (f ∘ fun i => l.getD i d) _ = _
  rw [← List.map_map]
  congr 1
  have m : (List.range l.length).map (fun i => l.getD i d) = l := by
    apply List.ext_getElem?
    intro i
    rw [List.getElem?_map]
    by_cases c : i < l.length
    · rw [List.getElem?_range c, List.getElem?_eq_getElem c]
      simp [c]
    · rw [List.getElem?_eq_none (by rw [List.length_range]; omega), List.getElem?_eq_none (by omega)]
      rfl
  conv => rhs; rw [← m]
  rw [List.filter_map]
  rfl
/-- [f(x) for x in ns if t(x)] -/
theorem el_mapT {tl : TE} {t : TT} {a : Addr} {j : Nat} {vs : List Nat} {ns : List Int} (b : Int → Bool) (f : Int → V) (h : Ev tl σ H (.ref a)) (hx : SqL K H a (ns.map V.int)) (hz : ns.length ≤ 40000) (hw : ∀ x, wipe ((wipe σ vs).set j (some x)) vs = wipe σ vs)
    (ht : ∀ (u : Int) H1, Ex H H1 → u ∈ ns → EvT t ((wipe σ vs).set j (some (.int u))) H1 (b u)) (he : ∀ (u : Int) H1, Ex H H1 → u ∈ ns → b u = true → Ev te ((wipe σ vs).set j (some (.int u))) H1 (f u)) : EvL (tLc (iList K tl) (gName j) t te vs) σ H ((ns.filter b).map f) := by
  rw [← given_filt 0 ns b f]
  have hl : (ns.map V.int).length = ns.length := List.length_map _
  rw [← hl]
  refine el_lcL (fun i => b (ns.getD i 0)) (fun i => f (ns.getD i 0)) h hx (by rw [hl]; exact hz) hw (fun i x H1 e hi => ?_) (fun i x H1 e hi hb => ?_)
  · rw [List.getElem?_map] at hi
    cases hq : ns[i]? with
    | none => rw [hq] at hi; cases hi
    | some u =>
      rw [hq] at hi
      obtain rfl := Option.some.inj hi
      rw [List.getD_eq_getElem?_getD, hq]
      exact ht u H1 e (List.mem_of_getElem? hq)
  · rw [List.getElem?_map] at hi
    cases hq : ns[i]? with
    | none => rw [hq] at hi; cases hi
    | some u =>
      rw [hq] at hi
      obtain rfl := Option.some.inj hi
      rw [List.getD_eq_getElem?_getD, hq] at hb ⊢
      exact he u H1 e (List.mem_of_getElem? hq) hb
/-- what a comprehension asks behind its iterable -/
def LcB (J : It) (g : TG) (tt : TT) (te : TE) (vs : List Nat) (σ : L2.St) (H1 : Hp) (Q : VK) : Prop := ∀ D, H1 D = none → ∃ W : Nat → Nat → Hp → Prop, (∃ m, W 0 m (upd H1 D (.lst []))) ∧ ∀ i m H, W i m H →
  (J.stop i H ∧ Q (.ref D) H) ∨ (J.go i H ∧ ∃ Nx : Hp → Prop, (∀ H', Nx H' → ∃ m', m' < m ∧ W (i + 1) m' H') ∧ ∀ x H', J.yld i H x H' → g x (wipe σ vs) H' fun σ2 H2 => wipe σ2 vs = wipe σ vs ∧ tt σ2 H2 fun b H3 =>
    if b = true then te σ2 H3 fun y H4 => ∃ acc, H4 D = some (.lst acc) ∧ acc.length < sizeLine ∧ Nx (upd H4 D (.lst (acc ++ [y]))) else Nx H3)
theorem lcR1_in {ta : TA} {g : TG} {tt : TT} {vs : List Nat} {Q : VK} (k : ta σ H fun xs H1 => ∃ j : Int, xs = [.int j] ∧ -(2 ^ 62) ≤ j ∧ j < 2 ^ 62 ∧ LcB (Itr 0 j.toNat) g tt te vs σ H1 Q) : tLc (iRng1 ta) g tt te vs σ H Q := k
theorem forL_in {tl : TE} {g : TG} {tu : TS} (k : tl σ H fun x H1 => ∃ a, x = .ref a ∧ (∃ xs, SqL K H1 a xs) ∧ ∃ W : Nat → Nat → L2.St → Hp → Prop, (∃ m, W 0 m σ H1) ∧ ∀ i m σ H, W i m σ H →
  ((Itl K a).stop i H ∧ tz D σ H) ∨ ((Itl K a).go i H ∧ ∃ N : L2.St → Hp → Prop, (∀ σ' H', N σ' H' → ∃ m', m' < m ∧ W (i + 1) m' σ' H') ∧ ∀ x H', (Itl K a).yld i H x H' → g x σ H' fun σ2 H2 => tu { D with nx := N, ct := N, bk := tz D } σ2 H2)) : tSeq (tFor (iList K tl) g tu) tz D σ H := k
theorem forL_at {a : Addr} {g : TG} {tu : TS} (k : tSeq (tFor (iList K fun _ H Q => Q (.ref a) H) g tu) tz D σ H) : ∃ b, (V.ref a) = .ref b ∧ (∃ xs, SqL K H b xs) ∧ ∃ W : Nat → Nat → L2.St → Hp → Prop, (∃ m, W 0 m σ H) ∧ ∀ i m σ H, W i m σ H →
  ((Itl K b).stop i H ∧ tz D σ H) ∨ ((Itl K b).go i H ∧ ∃ N : L2.St → Hp → Prop, (∀ σ' H', N σ' H' → ∃ m', m' < m ∧ W (i + 1) m' σ' H') ∧ ∀ x H', (Itl K b).yld i H x H' → g x σ H' fun σ2 H2 => tu { D with nx := N, ct := N, bk := tz D } σ2 H2) := k
theorem ev_at {a : Addr} : Ev (fun _ H Q => Q (.ref a) H) σ H (.ref a) := fun H1 _ _ q => q H1 (Ex.refl H1)
theorem top_in2' {ta tb : TE} {r : R2} {Q : VK} (k : ta σ H fun x H1 => tb σ H1 fun y H2 => r x y H2 Q) : tOp r ta tb σ H Q := k
/-- [u] * k, k counted -/
theorem el_times {tb : TE} {u : Int} {k : Nat} (hk : k ≤ 1000) (hu : Ev te σ H (.int u)) (hi : ∀ H1, Ex H H1 → Ev tb σ H1 (.int (k : Int))) : EvL (tOp rRep (tLst (tCons te tNil)) tb) σ H ((List.replicate k u).map V.int) := fun H1 e Q q => by
  refine el_lst (ea_cons hu ea_nil) (by show 1 ≤ 100000; decide) H1 e _ fun l H2 hl e2 h2 => ?_
  refine hi H2 (e.trans e2) H2 (Ex.refl H2) _ fun H3 e3 => ⟨l, (k : Int), _, rfl, rfl, e3 _ _ h2, by omega, by omega, ?_, fun p hp => ?_⟩
  · show 1 * (k : Int).toNat ≤ sizeLine
    rw [Int.toNat_natCast, Nat.one_mul]
    exact sz_of (by omega)
  · refine q p _ (fresh_back (e2.trans e3) hp) ((e2.trans e3).trans (Ex.new hp)) ?_
    rw [upd_same, Int.toNat_natCast, List.map_replicate]
    congr 2
    simp
end
end WS

set_option Elab.async false
set_option linter.all false
set_option maxRecDepth 100000
set_option maxHeartbeats 2000000
namespace WS
open PySem PySem.Spec PyProof.Rows L2 Evl
def below : Nat → Nat → List (List Int)
  | 0, _ => [[]]
  | n + 1, top => (below n top).flatMap fun r => (List.range top).map fun i : Nat => r ++ [(i : Int)]
theorem below_len : ∀ n top, (below n top).length = top ^ n
  | 0, _ => rfl
  | n + 1, top => by
    have h : ∀ l : List (List Int), (l.flatMap fun r => (List.range top).map fun i : Nat => r ++ [(i : Int)]).length = l.length * top := by
      intro l
      induction l with
      | nil => simp
      | cons a r ih => rw [List.flatMap_cons, List.length_append, ih, List.length_map, List.length_range, List.length_cons, Nat.succ_mul]; omega
    unfold below
    rw [h, below_len n top, Nat.pow_succ]
theorem below_row : ∀ (n top : Nat) (r : List Int), r ∈ below n top → r.length = n ∧ ∀ x ∈ r, 0 ≤ x ∧ x < (top : Int)
  | 0, top, r, h => by
    rw [List.mem_singleton.mp h]
    exact ⟨rfl, fun x hx => absurd hx List.not_mem_nil⟩
  | n + 1, top, r, h => by
    obtain ⟨s, hs, h2⟩ := List.mem_flatMap.mp h
    obtain ⟨i, hi, rfl⟩ := List.mem_map.mp h2
    obtain ⟨k1, k2⟩ := below_row n top s hs
    refine ⟨by rw [List.length_append, k1]; rfl, fun x hx => ?_⟩
    rcases List.mem_append.mp hx with z | z
    · exact k2 x z
    · rw [List.mem_singleton.mp z]
      have := List.mem_range.mp hi
      omega
theorem snoc_rec {motive : List Int → Prop} (nil : motive []) (snoc : ∀ r x, motive r → motive (r ++ [x])) : ∀ r, motive r := by
  intro r
  have : ∀ s : List Int, motive s.reverse := by
    intro s
    induction s with
    | nil => exact nil
    | cons x t ih => rw [List.reverse_cons]; exact snoc _ _ ih
  have h := this r.reverse
  rwa [List.reverse_reverse] at h
theorem below_all : ∀ (r : List Int) (top : Nat), (∀ x ∈ r, 0 ≤ x ∧ x < (top : Int)) → r ∈ below r.length top := by
  intro r
  induction r using snoc_rec with
  | nil => exact fun top _ => List.mem_singleton.mpr rfl
  | snoc r x ih =>
    intro top h
    rw [List.length_append]
    show _ ∈ (below r.length top).flatMap _
    refine List.mem_flatMap.mpr ⟨r, ih top fun y hy => h y (List.mem_append_left _ hy), List.mem_map.mpr ⟨x.toNat, ?_, ?_⟩⟩
    · have := h x (List.mem_append_right _ List.mem_cons_self)
      exact List.mem_range.mpr (by omega)
    · have := h x (List.mem_append_right _ List.mem_cons_self)
      rw [show ((x.toNat : Nat) : Int) = x by omega]
/-- a list of lists of ints -/
def Lv (H : Hp) (vs : List V) (rs : List (List Int)) : Prop := vs.length = rs.length ∧ ∀ (i : Nat) (r : List Int), rs[i]? = some r → ∃ a : Addr, vs[i]? = some (V.ref a) ∧ H a = some (HO.lst (r.map V.int))
theorem Lv.ex {H H' : Hp} {vs : List V} {rs : List (List Int)} (h : Lv H vs rs) (e : Ex H H') : Lv H' vs rs := ⟨h.1, fun i r hr => by
  obtain ⟨a, h1, h2⟩ := h.2 i r hr
  exact ⟨a, h1, e _ _ h2⟩⟩
theorem Lv.get {H : Hp} {vs : List V} {rs : List (List Int)} (h : Lv H vs rs) {i : Nat} {x : V} (hx : vs[i]? = some x) : ∃ (a : Addr) (r : List Int), x = V.ref a ∧ rs[i]? = some r ∧ H a = some (.lst (r.map V.int)) := by
  have hi := (List.getElem?_eq_some_iff.mp hx).1
  have hr : rs[i]? = some (rs[i]'(by have := h.1; omega)) := List.getElem?_eq_getElem (by have := h.1; omega)
  obtain ⟨a, h1, h2⟩ := h.2 i _ hr
  rw [hx] at h1
  exact ⟨a, _, Option.some.inj h1, hr, h2⟩
theorem Lv.app {H : Hp} {vs ws : List V} {rs ss : List (List Int)} (h : Lv H vs rs) (k : Lv H ws ss) : Lv H (vs ++ ws) (rs ++ ss) := by
  refine ⟨by rw [List.length_append, List.length_append, h.1, k.1], fun i r hr => ?_⟩
  have hl := h.1
  by_cases c : i < rs.length
  · rw [List.getElem?_append_left c] at hr
    rw [List.getElem?_append_left (by omega)]
    exact h.2 i r hr
  · rw [List.getElem?_append_right (by omega)] at hr
    rw [List.getElem?_append_right (by omega), hl]
    exact k.2 _ r hr
def LL (H : Hp) (p : Addr) (rs : List (List Int)) : Prop := ∃ vs, H p = some (.lst vs) ∧ Lv H vs rs
theorem LL.ex {H H' : Hp} {p : Addr} {rs : List (List Int)} (h : LL H p rs) (e : Ex H H') : LL H' p rs := by
  obtain ⟨vs, h1, h2⟩ := h
  exact ⟨vs, e _ _ h1, h2.ex e⟩
section
variable {K : PySem.W.Frag} {σ : L2.St} {H : Hp} {ta tb te tl : TE} {D : Ends} {tr : TA}
theorem s_in {i : Nat} (k : te σ H fun x H1 => D.nx (σ.set i (some x)) H1) : tAsg te (gName i) D σ H := k
theorem el_catVL {a : Addr} {xs zs : List V} (ha : Ev ta σ H (.ref a)) (h2 : H a = some (.lst xs)) (hb : EvL tb σ H zs) (hz : xs.length + zs.length ≤ 100000) : EvL (tOp rCat ta tb) σ H (xs ++ zs) := fun H1 e Q q =>
  ha H1 e _ fun H2 e2 => hb H2 (e.trans e2) _ fun p H3 _ e3 hp => ⟨a, p, xs, zs, rfl, rfl, e3 _ _ (e2 _ _ (e _ _ h2)), hp, sz_of hz, fun u hu => q u _ (fresh_back (e2.trans e3) hu) ((e2.trans e3).trans (Ex.new hu)) upd_same⟩
theorem el_catLV {a : Addr} {xs zs : List V} (hb : EvL ta σ H zs) (ha : Ev tb σ H (.ref a)) (h2 : H a = some (.lst xs)) (hz : zs.length + xs.length ≤ 100000) : EvL (tOp rCat ta tb) σ H (zs ++ xs) := fun H1 e Q q =>
  hb H1 e _ fun p H2 _ e2 hp => ha H2 (e.trans e2) _ fun H3 e3 => ⟨p, a, zs, xs, rfl, rfl, e3 _ _ hp, e3 _ _ (e2 _ _ (e _ _ h2)), sz_of hz, fun u hu => q u _ (fresh_back (e2.trans e3) hu) ((e2.trans e3).trans (Ex.new hu)) upd_same⟩
/-- [row + [i] for i in range(n)] -/
theorem longer_use {r : List Int} {a : Addr} {i1 j : Nat} {ws : List Nat} {n : Nat} {Q : VK} (hn : n ≤ 10000) (hr : r.length ≤ 100) (h : EvA tr σ H [.int (n : Int)]) (ha : H a = some (.lst (r.map V.int)))
    (hw : ∀ y, wipe ((wipe σ ws).set j (some y)) ws = wipe σ ws) (hx : ∀ y, ((wipe σ ws).set j (some y))[i1]? = some (some (.ref a))) (hj : ∀ y, ((wipe σ ws).set j (some y))[j]? = some (some y))
    (k : ∀ D H', H D = none → Ex H H' → LL H' D ((List.range n).map fun i : Nat => r ++ [(i : Int)]) → Q (.ref D) H') : tLc (iRng1 tr) (gName j) tYes (tOp rCat (tVar i1) (tLst (tCons (tVar j) tNil))) ws σ H Q := by
  refine h H (Ex.refl H) _ fun H1 e1 => ⟨_, rfl, by omega, by omega, fun D hD => ?_⟩
  have hD0 := fresh_back e1 hD
  rw [Int.toNat_natCast]
  refine lc_range (lo := 0) (n := n) (fun i H' => Ex H1 H' ∧ ∃ acc : List V, H' D = some (.lst acc) ∧ acc.length = i ∧ ∀ (t : Nat) (v : V), acc[t]? = some v → ∃ u, v = V.ref u ∧ u ≠ D ∧ H' u = some (HO.lst ((r ++ [(t : Int)]).map V.int)))
    ⟨Ex.new hD, [], upd_same, rfl, fun n v hv => by simp at hv⟩ (fun i H' hi p' => ?_) (fun H' p' => ?_)
  · obtain ⟨e, acc, ha', hl, hacc⟩ := p'
    refine ⟨hw _, ?_⟩
    unfold tYes
    dsimp only
    rw [if_pos rfl]
    have ec : (0 : Int) + (i : Int) = (i : Int) := Int.zero_add _
    show tOp rCat (tVar i1) (tLst (tCons (tVar j) tNil)) ((wipe σ ws).set j (some (.int ((0 : Int) + (i : Int))))) H' _
    rw [ec]
    refine el_use (el_catVL (a := a) (xs := r.map V.int) (zs := [V.int (i : Int)]) (ev_var (hx _)) ((e1.trans e) _ _ ha) (el_lst (ea_cons (ev_var (hj _)) ea_nil) (by show 1 ≤ 100000; decide)) (by rw [List.length_map]; show r.length + 1 ≤ 100000; omega)) fun u H2 hu e2 ku => ?_
    have uD : u ≠ D := fun z => by rw [z, ha'] at hu; cases hu
    refine ⟨acc, e2 _ _ ha', sz_lt (by omega), Ex.mut (e.trans e2) hD, acc ++ [.ref u], upd_same, by rw [List.length_append, hl]; rfl, fun t v hv => ?_⟩
    by_cases hn : t < acc.length
    · rw [List.getElem?_append_left hn] at hv
      obtain ⟨z, rfl, hz1, hz3⟩ := hacc t v hv
      exact ⟨z, rfl, hz1, by rw [upd_ne hz1]; exact e2 _ _ hz3⟩
    · rw [List.getElem?_append_right (by omega)] at hv
      cases hd : t - acc.length with
      | zero =>
        rw [hd] at hv
        cases hv
        have : t = i := by omega
        subst this
        exact ⟨u, rfl, uD, by rw [upd_ne uD, List.map_append]; exact ku⟩
      | succ m => rw [hd] at hv; simp at hv
  · obtain ⟨e, acc, ha', hl, hacc⟩ := p'
    refine k D H' hD0 (e1.trans e) ⟨acc, ha', by rw [hl, List.length_map, List.length_range], fun t s hs => ?_⟩
    rw [List.getElem?_map] at hs
    have ht : t < n := by
      by_cases c : t < n
      · exact c
      · rw [List.getElem?_eq_none (by rw [List.length_range]; omega)] at hs; cases hs
    rw [List.getElem?_range ht] at hs
    cases hs
    have hv : acc[t]? = some (acc[t]'(by omega)) := List.getElem?_eq_getElem (by omega)
    obtain ⟨u, hu, _, h3⟩ := hacc t _ hv
    exact ⟨u, by rw [hv, hu], h3⟩
/-- a comprehension over range(n) that makes lists of ints -/
theorem lists_use {f : Nat → List Int} {j : Nat} {ws : List Nat} {n : Nat} {Q : VK} (hn : n ≤ 40000) (h : EvA tr σ H [.int (n : Int)])
    (hw : ∀ y, wipe ((wipe σ ws).set j (some y)) ws = wipe σ ws) (he : ∀ (i : Nat) H1, Ex H H1 → i < n → EvL te ((wipe σ ws).set j (some (.int (i : Int)))) H1 ((f i).map V.int))
    (k : ∀ D H', H D = none → Ex H H' → LL H' D ((List.range n).map f) → Q (.ref D) H') : tLc (iRng1 tr) (gName j) tYes te ws σ H Q := by
  refine h H (Ex.refl H) _ fun H1 e1 => ⟨_, rfl, by omega, by omega, fun D hD => ?_⟩
  have hD0 := fresh_back e1 hD
  rw [Int.toNat_natCast]
  refine lc_range (lo := 0) (n := n) (fun i H' => Ex H1 H' ∧ ∃ acc : List V, H' D = some (.lst acc) ∧ acc.length = i ∧ ∀ (t : Nat) (v : V), acc[t]? = some v → ∃ u, v = V.ref u ∧ u ≠ D ∧ H' u = some (HO.lst ((f t).map V.int)))
    ⟨Ex.new hD, [], upd_same, rfl, fun n v hv => by simp at hv⟩ (fun i H' hi p' => ?_) (fun H' p' => ?_)
  · obtain ⟨e, acc, ha', hl, hacc⟩ := p'
    refine ⟨hw _, ?_⟩
    unfold tYes
    dsimp only
    rw [if_pos rfl]
    have ec : (0 : Int) + (i : Int) = (i : Int) := Int.zero_add _
    show te ((wipe σ ws).set j (some (.int ((0 : Int) + (i : Int))))) H' _
    rw [ec]
    refine el_use (he i H' (e1.trans e) hi) fun u H2 hu e2 ku => ?_
    have uD : u ≠ D := fun z => by rw [z, ha'] at hu; cases hu
    refine ⟨acc, e2 _ _ ha', sz_lt (by omega), Ex.mut (e.trans e2) hD, acc ++ [.ref u], upd_same, by rw [List.length_append, hl]; rfl, fun t v hv => ?_⟩
    by_cases hn : t < acc.length
    · rw [List.getElem?_append_left hn] at hv
      obtain ⟨z, rfl, hz1, hz3⟩ := hacc t v hv
      exact ⟨z, rfl, hz1, by rw [upd_ne hz1]; exact e2 _ _ hz3⟩
    · rw [List.getElem?_append_right (by omega)] at hv
      cases hd : t - acc.length with
      | zero =>
        rw [hd] at hv
        cases hv
        have : t = i := by omega
        subst this
        exact ⟨u, rfl, uD, by rw [upd_ne uD]; exact ku⟩
      | succ m => rw [hd] at hv; simp at hv
  · obtain ⟨e, acc, ha', hl, hacc⟩ := p'
    refine k D H' hD0 (e1.trans e) ⟨acc, ha', by rw [hl, List.length_map, List.length_range], fun t s hs => ?_⟩
    rw [List.getElem?_map] at hs
    have ht : t < n := by
      by_cases c : t < n
      · exact c
      · rw [List.getElem?_eq_none (by rw [List.length_range]; omega)] at hs; cases hs
    rw [List.getElem?_range ht] at hs
    cases hs
    have hv : acc[t]? = some (acc[t]'(by omega)) := List.getElem?_eq_getElem (by omega)
    obtain ⟨u, hu, _, h3⟩ := hacc t _ hv
    exact ⟨u, by rw [hv, hu], h3⟩
/-- [f(r) for r in rows if t(r)] -/
theorem el_mapLLt {rs : List (List Int)} {p : Addr} {j : Nat} {vs : List Nat} {t : TT} (b : List Int → Bool) (f : List Int → V) (h : Ev tl σ H (.ref p)) (hp : LL H p rs) (hz : rs.length ≤ 40000) (hw : ∀ x, wipe ((wipe σ vs).set j (some x)) vs = wipe σ vs)
    (ht : ∀ (a : Addr) (r : List Int) H1, Ex H H1 → r ∈ rs → H1 a = some (.lst (r.map V.int)) → EvT t ((wipe σ vs).set j (some (.ref a))) H1 (b r))
    (he : ∀ (a : Addr) (r : List Int) H1, Ex H H1 → r ∈ rs → H1 a = some (.lst (r.map V.int)) → b r = true → Ev te ((wipe σ vs).set j (some (.ref a))) H1 (f r)) : EvL (tLc (iList K tl) (gName j) t te vs) σ H ((rs.filter b).map f) := by
  obtain ⟨as, h1, h2⟩ := hp
  have e : ∀ l : List (List Int), given l.length (fun i => b (l.getD i [])) (fun i => f (l.getD i [])) = (l.filter b).map f := by
    intro l
    unfold given
    show List.map (f ∘ fun i => l.getD i []) _ = _
    rw [← List.map_map]
    congr 1
    have m : (List.range l.length).map (fun i => l.getD i []) = l := by
      apply List.ext_getElem?
      intro i
      rw [List.getElem?_map]
      by_cases c : i < l.length
      · rw [List.getElem?_range c, List.getElem?_eq_getElem c]
        simp [c]
      · rw [List.getElem?_eq_none (by rw [List.length_range]; omega), List.getElem?_eq_none (by omega)]
        rfl
    conv => rhs; rw [← m]
    rw [List.filter_map]
    rfl
  rw [← e rs, ← h2.1]
  refine el_lcL (fun i => b (rs.getD i [])) (fun i => f (rs.getD i [])) h (sq_of h1) (by rw [h2.1]; exact hz) hw (fun i x H1 ex hx => ?_) (fun i x H1 ex hx hb => ?_)
  · obtain ⟨a, r, rfl, hr, ha⟩ := h2.get hx
    rw [List.getD_eq_getElem?_getD, hr]
    exact ht a r H1 ex (List.mem_of_getElem? hr) (ex _ _ ha)
  · obtain ⟨a, r, rfl, hr, ha⟩ := h2.get hx
    rw [List.getD_eq_getElem?_getD, hr] at hb ⊢
    exact he a r H1 ex (List.mem_of_getElem? hr) (ex _ _ ha) hb
theorem el_mapLL {rs : List (List Int)} {p : Addr} {j : Nat} {vs : List Nat} (f : List Int → V) (h : Ev tl σ H (.ref p)) (hp : LL H p rs) (hz : rs.length ≤ 40000) (hw : ∀ x, wipe ((wipe σ vs).set j (some x)) vs = wipe σ vs)
    (he : ∀ (a : Addr) (r : List Int) H1, Ex H H1 → r ∈ rs → H1 a = some (.lst (r.map V.int)) → Ev te ((wipe σ vs).set j (some (.ref a))) H1 (f r)) : EvL (tLc (iList K tl) (gName j) tYes te vs) σ H (rs.map f) := by
  have k := el_mapLLt (K := K) (t := tYes) (fun _ => true) f h hp hz hw (fun a r H1 _ _ _ => fun H2 _ Q q => q H2 (Ex.refl H2)) (fun a r H1 e hr ha _ => he a r H1 e hr ha)
  rw [List.filter_eq_self.mpr (fun _ _ => rfl)] at k
  exact k
theorem Lv.nil : Lv H [] [] := ⟨rfl, fun i r hr => by cases hr⟩
theorem top_in2 {r : R2} {Q : VK} (k : ta σ H fun x H1 => tb σ H1 fun y H2 => r x y H2 Q) : tOp r ta tb σ H Q := k
theorem cut_nat {xs : List Int} {lo hi : Nat} (h : hi ≤ xs.length) : cutV (xs.map V.int) (some (lo : Int)) (some (hi : Int)) = ((xs.drop lo).take (hi - lo)).map V.int := by
  unfold cutV
  rw [HT.sIx_nat, HT.sIx_nat, List.length_map, Nat.min_eq_left h, List.map_take, List.map_drop]
  by_cases c : lo ≤ xs.length
  · rw [Nat.min_eq_left c]
  · rw [Nat.min_eq_right (by omega), List.drop_of_length_le (by rw [List.length_map]; omega), List.drop_of_length_le (by rw [List.length_map]; omega), List.take_nil, List.take_nil]
end
end WS

set_option Elab.async false
set_option linter.all false
set_option maxRecDepth 100000
set_option maxHeartbeats 2000000
namespace WS
open PySem PySem.Spec PyProof.Rows L2 Evl
theorem fmod_in (a b : Int) (h : 0 < b) : 0 ≤ a.fmod b ∧ a.fmod b < b := by
  rw [Int.fmod_eq_emod_of_nonneg a (by omega)]
  exact ⟨Int.emod_nonneg a (by omega), Int.emod_lt_of_pos a h⟩
/-- a generator at g, of which so many numbers at most were drawn by counting -/
def Gs (H : Hp) (g : Addr) (C : Nat) : Prop := ∃ A B c : Int, H g = some (.lst [.int A, .int B, .int c]) ∧ 0 ≤ A ∧ (0 ≤ B ∧ B < 2147483648) ∧ 0 ≤ c ∧ c ≤ C
theorem Gs.ex {H H' : Hp} {g : Addr} {C : Nat} (h : Gs H g C) (e : Ex H H') : Gs H' g C := by
  obtain ⟨A, B, c, h1, h2⟩ := h
  exact ⟨A, B, c, e _ _ h1, h2⟩
theorem Gs.mono {H : Hp} {g : Addr} {C C' : Nat} (h : Gs H g C) (e : C ≤ C') : Gs H g C' := by
  obtain ⟨A, B, c, h1, h2, h3, h4, h5⟩ := h
  exact ⟨A, B, c, h1, h2, h3, h4, by omega⟩
theorem Gs.some {H : Hp} {g : Addr} {C : Nat} (h : Gs H g C) : ∃ o, H g = some o := by
  obtain ⟨A, B, c, h1, _⟩ := h
  exact ⟨_, h1⟩
theorem Gs.upd {H : Hp} {g p : Addr} {C : Nat} {o : HO} (h : Gs H g C) (n : g ≠ p) : Gs (upd H p o) g C := by
  obtain ⟨A, B, c, h1, h2⟩ := h
  exact ⟨A, B, c, by rw [upd_ne n]; exact h1, h2⟩
theorem ints_use {σ : L2.St} {H : Hp} {ta : TA} {te : TE} {j : Nat} {ws : List Nat} {n : Nat} {g : Addr} {C d : Nat} {Q : VK} (P : Int → Prop) (h : EvA ta σ H [.int (n : Int)]) (hn : n ≤ 100) (hw : ∀ x, wipe ((wipe σ ws).set j (some x)) ws = wipe σ ws) (hg : Gs H g C)
    (step : ∀ (i : Nat) H' (R : VK), i < n → Gs H' g (C + d * i) → ExB g H H' → (∀ z H2, P z → Gs H2 g (C + d * i + d) → ExB g H' H2 → R (.int z) H2) → te ((wipe σ ws).set j (some (.int (i : Int)))) H' R)
    (k : ∀ (D : Addr) (H' : Hp) (zs : List Int), H D = none → zs.length = n → (∀ z ∈ zs, P z) → H' D = Option.some (HO.lst (zs.map V.int)) → Gs H' g (C + d * n) → ExB g H H' → Q (.ref D) H') : tLc (iRng1 ta) (gName j) tYes te ws σ H Q := by
  obtain ⟨og, hog⟩ := hg.some
  refine h H (Ex.refl H) _ fun H1 e1 => ⟨(n : Int), rfl, by omega, by omega, fun D hD => ?_⟩
  have hD0 := fresh_back e1 hD
  have gD : g ≠ D := fun z => by rw [z, hD0] at hog; cases hog
  rw [Int.toNat_natCast]
  refine lc_range (lo := 0) (n := n) (fun i H' => ∃ zs : List Int, zs.length = i ∧ (∀ z ∈ zs, P z) ∧ H' D = Option.some (HO.lst (zs.map V.int)) ∧ Gs H' g (C + d * i) ∧ ExB g H H') ⟨[], rfl, fun z hz => absurd hz List.not_mem_nil, upd_same, (hg.ex e1).upd gD, fun b o hb hh => by rw [upd_ne (ne_of_none hh hD0)]; exact e1 _ _ hh⟩ (fun i H' hi p => ?_) (fun H' p => ?_)
  · obtain ⟨zs, hl, hz, hL, hG, hE⟩ := p
    rw [Int.zero_add]
    refine ⟨hw _, step i H' _ hi hG hE fun z H2 pz hG2 hE2 => ⟨zs.map V.int, hE2 D _ (Ne.symm gD) hL, sz_lt (by rw [List.length_map]; omega), zs ++ [z], by rw [List.length_append, hl]; rfl, fun y hy => ?_, ?_, ?_, ?_⟩⟩
    · rcases List.mem_append.mp hy with h | h
      · exact hz y h
      · rw [List.mem_singleton] at h
        rw [h]
        exact pz
    · show _ = _
      rw [upd_same, List.map_append]
      rfl
    · rw [Nat.mul_add, Nat.mul_one, ← Nat.add_assoc]
      exact hG2.upd gD
    · exact fun b o hb hh => by rw [upd_ne (ne_of_none hh hD0)]; exact (hE.trans hE2) b o hb hh
  · obtain ⟨zs, hl, hz, hL, hG, hE⟩ := p
    exact k D H' zs hD0 hl hz hL hG hE
theorem ints_body {σ : L2.St} {H : Hp} {te : TE} {j : Nat} {ws : List Nat} {n : Nat} {g : Addr} {C d : Nat} {Q : VK} (P : Int → Prop) (hn : n ≤ 100) (hw : ∀ x, wipe ((wipe σ ws).set j (some x)) ws = wipe σ ws) (hg : Gs H g C)
    (step : ∀ (i : Nat) H' (R : VK), i < n → Gs H' g (C + d * i) → ExB g H H' → (∀ z H2, P z → Gs H2 g (C + d * i + d) → ExB g H' H2 → R (.int z) H2) → te ((wipe σ ws).set j (some (.int (i : Int)))) H' R)
    (k : ∀ (D : Addr) (H' : Hp) (zs : List Int), H D = none → zs.length = n → (∀ z ∈ zs, P z) → H' D = Option.some (HO.lst (zs.map V.int)) → Gs H' g (C + d * n) → ExB g H H' → Q (.ref D) H') : LcB (Itr 0 n) (gName j) tYes te ws σ H Q := by
  obtain ⟨og, hog⟩ := hg.some
  have e1 := Ex.refl H
  intro D hD
  have hD0 := fresh_back e1 hD
  have gD : g ≠ D := fun z => by rw [z, hD0] at hog; cases hog
  refine lc_range (lo := 0) (n := n) (fun i H' => ∃ zs : List Int, zs.length = i ∧ (∀ z ∈ zs, P z) ∧ H' D = Option.some (HO.lst (zs.map V.int)) ∧ Gs H' g (C + d * i) ∧ ExB g H H') ⟨[], rfl, fun z hz => absurd hz List.not_mem_nil, upd_same, (hg.ex e1).upd gD, fun b o hb hh => by rw [upd_ne (ne_of_none hh hD0)]; exact e1 _ _ hh⟩ (fun i H' hi p => ?_) (fun H' p => ?_)
  · obtain ⟨zs, hl, hz, hL, hG, hE⟩ := p
    rw [Int.zero_add]
    refine ⟨hw _, step i H' _ hi hG hE fun z H2 pz hG2 hE2 => ⟨zs.map V.int, hE2 D _ (Ne.symm gD) hL, sz_lt (by rw [List.length_map]; omega), zs ++ [z], by rw [List.length_append, hl]; rfl, fun y hy => ?_, ?_, ?_, ?_⟩⟩
    · rcases List.mem_append.mp hy with h | h
      · exact hz y h
      · rw [List.mem_singleton] at h
        rw [h]
        exact pz
    · show _ = _
      rw [upd_same, List.map_append]
      rfl
    · rw [Nat.mul_add, Nat.mul_one, ← Nat.add_assoc]
      exact hG2.upd gD
    · exact fun b o hb hh => by rw [upd_ne (ne_of_none hh hD0)]; exact (hE.trans hE2) b o hb hh
  · obtain ⟨zs, hl, hz, hL, hG, hE⟩ := p
    exact k D H' zs hD0 hl hz hL hG hE
end WS

set_option Elab.async false
set_option linter.all false
set_option maxRecDepth 100000
set_option maxHeartbeats 2000000
/-! rules of my own: == and != by an own __eq__ that tells True or False; comb -/
namespace WS
open PySem PySem.Spec PyProof.Rows L2 Evl
section
variable {X : Cx} {n : Nat} {CX : CXT} {C f : Addr} {fd : FuncData} {ps : List Str} {sp : Sp} {E : XK}
/-- a right side whose type has no say ahead of C's -/
def Rhs (K : PySem.W.Frag) (C : Addr) (H : Hp) (y : V) : Prop := ∃ t, TyX K H y t ∧ PySem.W.notFirst K C t = true
def rOwn (K : PySem.W.Frag) (C : Addr) (sp : Sp) (E : XK) (neg : Bool) : R2 := fun x y H Q =>
  ∃ a dx fs, x = .ref a ∧ H a = some (.ins C dx fs) ∧ Rhs K C H y ∧ sp [.ref a, y] H (fun v H' => ∃ b, v = .bl b ∧ Q (.bl (if neg then !b else b)) H') E
theorem sub_list (K : PySem.W.Frag) (C : Addr) : PySem.W.subIn K (.type "list") (.ref C) = some false := by
  unfold PySem.W.subIn
  have h : fastBuiltinMro "list" = some [.type "list", .type "object"] := by decide +kernel
  simp [h]
theorem rhs_list {K : PySem.W.Frag} {C a : Addr} {H : Hp} {xs : List V} (h : H a = some (.lst xs)) : Rhs K C H (.ref a) :=
  ⟨.type "list", TyX.base (TyOf.lst h), by unfold PySem.W.notFirst; rw [sub_list]; rfl⟩
theorem notFirst_self (K : PySem.W.Frag) (C : Addr) : PySem.W.notFirst K C (.ref C) = true := by unfold PySem.W.notFirst; simp
/-- the callee runs anywhere below the body -/
theorem own_run (F : FnOk X.prog X.w X.K X.mg X.base CX n f fd ps sp) (hb : Binds X.K fd ps []) (hx : Passes CX X E) {A : Around} (sb : Sub X n A) {pins : List (Addr × Obj)} {s : Shared} {σ : L2.St} {H : Hp} {vs : List V} {us : List Value} {Q : VK}
    (I : Inv X pins σ H s) (r : Vals vs us) (h : sp vs H Q E) : wpAny (model X.prog X.w) A (call (.ref f) us) (EP X pins σ Q) X.xe s := by
  have k := I.env0
  have k' : Env0 X.prog X.w X.K X.mg X.base A X.stack s H := { frames := sb.fr.trans k.frames, mod := k.mod, bs := k.bs, bsz := k.bsz, funs := k.funs, frf := k.frf, hok := k.hok, bare := k.bare }
  have bd := hb s us I.kIn (by rw [List.append_nil, ← r.length]; exact F.len _ _ _ _ h)
  rw [List.append_nil] at bd
  refine wpAny_call (codeAny_mono (F.run A X.stack s H ⟨us, []⟩ us vs Q E sb.room k' bd r h) ?_)
  intro res s' z
  match res, z with
  | .error e, z => exact hx pins σ H s e s' I z
  | .ok (.ret u), z => exact I.after z
theorem cmp_back {σ : L2.St} {pins : List (Addr × Obj)} {Q : VK} (v : Value) (s' : Shared) (z : EP X pins σ (fun w H' => ∃ b, w = .bl b ∧ Q (.bl b) H') v s') : PySem.W.CmpBack (EP X pins σ Q) v s' := by
  obtain ⟨w, H', I', rw', b, rfl, q⟩ := z
  cases (show v = Value.bool b from rw')
  exact ⟨.bl b, H', I', rfl, q⟩
theorem op_own (F : FnOk X.prog X.w X.K X.mg X.base CX n f fd ps sp) (hs : PySem.W.findIn X.K (.ref C) "__eq__" = some (some (.ref f))) (hf : PySem.W.isFn X.K (.ref f) = true) (hb : Binds X.K fd ps []) (hx : Passes CX X E) (hr : Room n X.A) : OpR X (compareOp .Eq) (rOwn X.K C sp E false) := by
  intro pins s σ H x y v u Q I rx ry h
  obtain ⟨a, dx, fs, rfl, ha, ⟨t, ty, nf⟩, q⟩ := h
  cases (show v = Value.ref a from rx)
  obtain ⟨mA, J0, _⟩ := ins_get I.hok ha
  obtain ⟨od, J, _⟩ := J0.look
  obtain ⟨mm, hF⟩ := I.fr
  obtain ⟨P, kx, hp, _⟩ := kit_of I ry ty
  exact PySem.W.cmp_K (op := .Eq) (tb := t) hr.units0 hF I.ok.mod.kin J (kx.ty _ _ I.kIn hp) nf hs hf
    (wpAny_mono (own_run F hb hx ⟨hr, rfl⟩ I (Paired.cons (show RelV (V.ref a) (Value.ref a) from rfl) (Paired.cons ry Paired.nil)) q) cmp_back fun _ _ e => e)
/-- object's != asks the own == -/
theorem bound_ne {A : Around} {s : Shared} {K : PySem.W.Frag} {x : Addr} {ox : Obj} {od : Option Obj} {M : Model} {args : List Value} {R : Option Value → Shared → Prop} {E' : Value → Shared → Prop} (k : K.In s.heap) (J : PySem.W.InstAt s.heap x ox C od)
    (hN : PySem.W.findIn K (.ref C) "__ne__" = some (some (.builtin "object.__ne__"))) (h : wpAny M A (call (.builtin "object.__ne__") (.ref x :: args)) (fun v => R (some v)) E' s) : wpAny M A (callSpecialIfBound? (.ref x) "__ne__" args) R E' s := by
  unfold callSpecialIfBound? bindSpecialIfBound?
  have done : wpAny M A (do let v ← call (.builtin "object.__ne__") ([.ref x] ++ args); pure (some v)) R E' s := wpAny_bind (wpAny_mono h (fun _ _ z => wpAny_pure z) fun _ _ z => z)
  have bd : bindSpecial (.builtin "object.__ne__") (.ref x) = pure (.builtin "object.__ne__", [.ref x]) := F.cmp_object.ne.bind _
  refine wpAny_holding (wpAny_bind (wpAny_bind (wpAny_bind (J.type.here ((PySem.W.looks_findIn k hN).here (wpAny_bind (wpAny_askSetting (wpAny_ite ?_))))))))
  split
  · refine wpAny_bind (wpAny_of_eq bd (wpAny_pure ?_))
    exact done
  · refine wpAny_tryCatch (wpAny_bind (wpAny_of_eq bd (wpAny_pure ?_)))
    exact done
theorem op_ownNe (F : FnOk X.prog X.w X.K X.mg X.base CX n f fd ps sp) (hs : PySem.W.findIn X.K (.ref C) "__eq__" = some (some (.ref f))) (hN : PySem.W.findIn X.K (.ref C) "__ne__" = some (some (.builtin "object.__ne__"))) (hm : PySem.W.mroIn X.K C (.type "object") = some true)
    (hf : PySem.W.isFn X.K (.ref f) = true) (hb : Binds X.K fd ps []) (hx : Passes CX X E) (hr : Room (n + 1) X.A) : OpR X (compareOp .NotEq) (rOwn X.K C sp E true) := by
  intro pins s σ H x y v u Q I rx ry h
  obtain ⟨a, dx, fs, rfl, ha, ⟨t, ty, nf⟩, q⟩ := h
  cases (show v = Value.ref a from rx)
  obtain ⟨mA, J0, _⟩ := ins_get I.hok ha
  obtain ⟨od, J, _⟩ := J0.look
  obtain ⟨P, kx, hp, _⟩ := kit_of I ry ty
  have k := I.kIn
  have hu1 : X.A.in1.units < cLine := by have := hr.un; show X.A.units + 1 < cLine; omega
  have one : wpAny (model X.prog X.w) X.A (tryCompare (.ref a) "__ne__" u) (fun r s' => ∃ z, r = some z ∧ EP X pins σ Q z s') X.xe s := by
    unfold tryCompare
    refine wpAny_bind (bound_ne k J hN (wpAny_call (codeAny_call_builtin PySem.F.cmp_object.ne.plain PySem.F.cmpEntry_ne (PySem.W.check_slot PySem.F.cmpKind_ne PySem.F.cmpSplit_ne (J.type.andThen (PySem.W.looks_mroIn k hm)) (PySem.F.cmpArgs_ne _ _) ?_))))
    unfold Builtin.«object.__ne__» slotArgs
    refine wpAny_bind (wpAny_pure (wpAny_bind (wpAny_cRoomFor hu1 (wpAny_bind ?_))))
    refine PySem.W.ifBound_K k J hs hf (wpAny_mono (own_run (A := X.A.in1) F hb hx ⟨hr.in1, rfl⟩ I (Paired.cons (show RelV (V.ref a) (Value.ref a) from rfl) (Paired.cons ry Paired.nil)) q) (fun z s' e => ?_) fun _ _ e => e)
    obtain ⟨w', H', I', rw', b, rfl, q'⟩ := e
    cases (show z = Value.bool b from rw')
    refine wpAny_bind (wpAny_truthy_bool (wpAny_pure ?_))
    exact wpAny_pure ⟨_, rfl, .bl _, H', I', rfl, q'⟩
  show wpAny _ _ (richCompare .NotEq (.ref a) u) _ _ _
  unfold richCompare
  simp only [oneThing_ref]
  refine wpAny_holding (wpAny_bind (wpAny_cRoomFor hr.units0 (wpAny_bind (J.type.here (wpAny_bind ((kx.ty _ _ k hp).here ?_))))))
  have last : ∀ (g : Option Value → Sem Value), (∀ z, g (some z) = pure z) → wpAny (model X.prog X.w) X.A (tryCompare (.ref a) "__ne__" u >>= g) (EP X pins σ Q) X.xe s := fun g hg =>
    wpAny_bind (wpAny_mono one (fun r s' e => by obtain ⟨z, rfl, hz⟩ := e; rw [hg]; exact wpAny_pure hz) fun _ _ e => e)
  split
  · rename_i ne
    have e : PySem.W.subIn X.K t (.ref C) = some false := by
      unfold PySem.W.notFirst at nf
      rw [Bool.or_eq_true] at nf
      rcases nf with e | e
      · rw [beq_iff_eq.mp e] at ne; simp at ne
      · exact beq_iff_eq.mp e
    refine wpAny_bind ((PySem.W.looks_subIn k e).here ?_)
    simp only [Bool.false_eq_true, if_false]
    exact last _ fun _ => rfl
  · refine wpAny_bind (wpAny_pure ?_)
    simp only [Bool.false_eq_true, if_false]
    exact last _ fun _ => rfl
end
end WS

set_option Elab.async false
set_option linter.all false
set_option maxRecDepth 100000
set_option maxHeartbeats 2000000
namespace WS
open PySem PySem.Spec PyProof.Rows L2 Evl
/-! ### defs that are called while no text of a list is being made: repr of data can be told there -/
abbrev Quiet (A : Around) : Prop := A.guards = some []
structure FnQ (P : Program) (w : World) (K : PySem.W.Frag) (mg : Str → Option Value) (base : Heap) (k : Nat) (f : Addr) (fd : FuncData) (ps : List Str) (sp : Sp) : Prop where
  many : ∀ vs H Q E, sp vs H Q E → vs.length = ps.length
  go : ∀ (A : Around) (below : List Env) (z : Shared) (G : Hp) (args : Args) (us : List Value) (vs : List V) (Q : VK) (E : XK), Quiet A → Room k A → Env0 P w K mg base A below z G →
    BindsTo z fd args (ps.zip us) → Vals vs us → sp vs G Q E → codeAny (model P w) A (.call (.ref f) args) (CR CX0 below P w G z Q E) z
section
variable {P : Program} {w : World} {K : PySem.W.Frag} {mg : Str → Option Value} {base : Heap}
/-- any def may be called so -/
theorem FnQ.of {k : Nat} {f : Addr} {fd : FuncData} {ps : List Str} {sp : Sp} (F : FnOk P w K mg base CX0 k f fd ps sp) : FnQ P w K mg base k f fd ps sp :=
  ⟨F.len, fun A below z G args us vs Q E _ room => F.run A below z G args us vs Q E room⟩
/-- a def by its body -/
theorem okQ {x qual : Str} {st : Stmt} {f : Addr} {fd : FuncData} {N ps : List Str} {k : Nat} {sp : Sp} (F : Fun K x qual st f fd) (S : FnScope N ps (defScope st)) (many : ∀ vs H Q E, sp vs H Q E → vs.length = ps.length)
    (body : ∀ (cdv : Value) (A : Around) (below : List Env) (z : Shared) (G : Hp) (vs : List V) (Q : VK) (E : XK), Quiet A → Room k (A.deeper (envOfC qual (defScope st) z.heap.objs.size f cdv)) → sp vs G Q E →
      ∃ t, PSs (cxOf CX0 P w K mg base N qual (defScope st) f cdv A below z G E).nox (defBody st) t ∧ t { nx := fun _ G' => Q .non G', rt := Q } (start N vs) G) : FnQ P w K mg base (k + 1) f fd ps sp := by
  obtain ⟨oc, od, kV, doc, pm, an, cdv, ct, osl, rfl, at_, code⟩ := F.ex
  refine ⟨many, fun A below z G args us vs Q E quiet room around bound rel told => ?_⟩
  have inK : K.In z.heap := around.mod.kin.keeps fun b o e => (around.bs b o e).1
  have kinds : ∀ y ∈ ps.zip us, (defScope st).names.lookup y.1 = some .local ∨ ((defScope st).names.lookup y.1 = some .cell ∧ ((cellsFrom (z.heap.objs.size + 1) (defScope st).names []).lookup y.1).isSome = true) := by
    rintro ⟨n, v⟩ hy
    cases S.par n (List.of_mem_zip hy).1 with
    | inl q => exact .inl q
    | inr q => exact .inr ⟨q, PySem.W.cellsFrom_some _ _ _ (.inl q)⟩
  refine codeAny_call_function room.depth (inK _ _ at_) rfl S.co S.gen rfl (PySem.W.codeRec_of inK code) (bound _ _ _ _ (wpAny_newFunctionEnv_cells S.kind kinds fun env he z1 laid => ?_))
  subst he
  refine ⟨(around.mod.nolimit.keeps fun b o e => (around.bs b o e).1).keeps laid.toInCall.keep, codeAny_func ?_⟩
  obtain ⟨t, run, q⟩ := body cdv A below z G vs Q E quiet (room.deeper _) told
  have I := inv_start (CX := CX0) (E := E) (cd := cdv) S room.hd around (many _ _ _ _ told) rel laid
  refine wpAny_mono (run.nox.run [] z1 (start N vs) G _ I q) (fun fl z' hs => ?_) fun e z' hs => hs
  cases fl with
  | ret u => exact let ⟨v, σ', G', J, rv, qq⟩ := hs; ⟨v, G', J.os, J.bare, J.base, J.hok, rv, qq⟩
  | next => exact let ⟨σ', G', J, qq⟩ := hs; ⟨V.non, G', J.os, J.bare, J.base, J.hok, rfl, qq⟩
  | brk => exact let ⟨_, _, _, qq⟩ := hs; qq.elim
  | cont => exact let ⟨_, _, _, qq⟩ := hs; qq.elim
end
section
variable {X : Cx} {k : Nat} {f : Addr} {fd : FuncData} {ps : List Str} {sp : Sp} {x : Str} {p pos : Pos} {e : Expr} {es : List Expr} {t : TA}
/-- the call of such a def -/
theorem pe_callQ (F : FnQ X.prog X.w X.K X.mg X.base k f fd ps sp) (quiet : Quiet X.A) (room : Room k X.A) (own : Gl X x) (at_ : X.mg x = some (.ref f)) (keep : PySem.W.keepIn X.K (.ref f) = true) (b : Binds X.K fd ps [])
    (args : PA X (e :: es) t) (plain : (x == ("__debug__" : Str)) = false := by decide) (st : starEach (e :: es) X.env = (false, eval e X.env) :: starEach es X.env := by rfl) (nost : (backTo pos (starEach es X.env)).any (·.1) = false := by rfl) :
    PE X (.Call (.Name x p) (e :: es) [] pos) (tCall sp [] E0 t) := ⟨fun pins z σ G Q I h => by
  refine wpAny_Call_Name_kw (ld_glob I own at_ (PySem.W.callWith_K (h₀ := X.base) I.ok.mod.kin keep (thn (args.run pos pins z σ G _ I h) fun us z1 told => ?_) st nost) plain)
  obtain ⟨vs, G1, I1, rel, q⟩ := told
  have q' : sp vs G1 Q E0 := by simpa using q
  have big : us.length = ps.length := by rw [← rel.length]; exact F.many _ _ _ _ q'
  have bb : BindsTo z1 fd ⟨us, []⟩ (ps.zip us) := by
    have := b z1 us I1.kIn (by simpa using big)
    simpa using this
  refine ⟨I1.kIn, wpAny_call (codeAny_mono (F.go X.A X.stack z1 G1 ⟨us, []⟩ us vs Q E0 quiet room I1.env0 bb rel q') fun r z' hq => ?_)⟩
  match r, hq with
  | .ok (.ret u), hq => exact I1.after hq⟩
/-- repr of data -/
def rRepr (K : PySem.W.Frag) : List V → Hp → VK → Prop := fun xs H Q => ∃ a d, xs = [.ref a] ∧ Dp K H (.ref a) d ∧ d.showable = true ∧ d.hasDict = false ∧ d.depth ≤ 50 ∧ d.shown.length ≤ sizeLine ∧ Q (.str d.shown) H
theorem cr_repr (quiet : Quiet X.A) (room : X.A.units + 64 < cLine) : CallR X (.builtin "repr") (rRepr X.K) := by
  intro pins s σ H xs us Q I r h
  obtain ⟨a, d, rfl, hd, show_, nod, deep, small, q⟩ := h
  obtain ⟨u, rfl, ru⟩ := vals1 r
  cases (show u = Value.ref a from ru)
  obtain ⟨as, rd⟩ := Dp.reads I d (.ref a) (.ref a) hd rfl
  exact repr_of_reads' rd show_ (fun z => by rw [nod] at z; cases z) quiet (by omega) (fun _ _ e => e) (fun h' u' tk keep => ⟨.str d.shown, H, I.kept keep, ⟨u', rfl⟩, q⟩) small
end
/-! ### the head for such a def -/
theorem law_callQ {P : Program} {w : World} {K : PySem.W.Frag} {mg mb : Str → Option Value} {k : Nat} {fa a : Addr} {fd : FuncData} {x : Str} {sp : Sp} {z : Shared} {vs : List Value} {ns : List Int}
    (inK : K.In z.heap) (top : z.heap.Ns mainGlobals mg) (bl : z.heap.Ns builtinsNs mb) (boot : ∀ y : Str, y ≠ "__name__" → mb y = bootBuiltins y) (free : z.heap.NoLimit) (nogen : z.gens = #[])
    (obj : z.heap.get? a = some { cls := .type "list", data := .seq vs.toArray }) (nums : IntsAre vs ns) (small : ns.length ≤ sizeLine) (room : Room k callerA)
    (F : ∀ base : Heap, K.In base → base.Ns mainGlobals mg → FnQ P w K mg base k fa fd [x] sp) (bound : ∀ (s : Shared) (u : Value), BindsTo s fd ⟨[u], []⟩ [(x, u)])
    (told : ∀ G : Hp, Only G → SqL K G a (ns.map V.int) → sp [.ref a] G (fun v _ => v = .bl true) E0) :
    codeAny (model P w) callerA (.call (.ref fa) ⟨[.ref a], []⟩) (fun r z' => r = .ok (.ret (.bool true)) ∧ OldK z.heap z'.heap ∧ z'.os = z.os ∧ AllBare z'.gens) z := by
  have many := nums.length
  have run : ∀ G : Hp, Only G → SqL K G a (ns.map V.int) → HOk P w G z.heap → (∀ b, G b ≠ none → b = a ∧ K.lookup a = none) →
      codeAny (model P w) callerA (.call (.ref fa) ⟨[.ref a], []⟩) (fun r z' => r = .ok (.ret (.bool true)) ∧ OldK z.heap z'.heap ∧ z'.os = z.os ∧ AllBare z'.gens) z := by
    intro G only sq hok hid
    have dictFree : ∀ {b : Addr} {o : Obj} {es : Array DictEntry} {ep : Nat}, z.heap.get? b = some o → o.data = .dict es ep → G b = none := by
      intro b o es ep e d
      refine Classical.byContradiction fun q => ?_
      obtain ⟨rfl, _⟩ := hid b q
      rw [obj] at e
      obtain rfl := Option.some.inj e
      exact Data.noConfusion d
    have ownFree : ∀ {b : Addr} {o : Obj}, K.lookup b = some o → G b = none := by
      intro b o e
      refine Classical.byContradiction fun q => ?_
      obtain ⟨rfl, no⟩ := hid b q
      rw [no] at e
      cases e
    have ns_ : ∀ {b : Addr} {m : Str → Option Value}, z.heap.Ns b m → (hidT z.heap G).Ns b m := by
      rintro b m ⟨o, es, ep, e, d, r⟩
      exact ⟨o, es, ep, hidT_get e (dictFree e d), d, r⟩
    have inB : K.In (hidT z.heap G) := fun b o e => hidT_get (inK b o e) (ownFree e)
    obtain ⟨mc, c1, c2⟩ := free
    have around : Env0 P w K mg (hidT z.heap G) callerA [] z G := by
      refine ⟨rfl, ⟨inB, ns_ top, ⟨mb, ns_ bl, boot⟩, ⟨mc, ns_ c1, c2⟩⟩, fun _ _ e => of_hidT e, Nat.le_of_eq (hidT_size _ _), trivial, ?_, hok, .of_eq nogen⟩
      intro b hb
      cases hb
    refine codeAny_mono ((F _ inB (ns_ top)).go callerA [] z G ⟨[.ref a], []⟩ [.ref a] [.ref a] _ _ rfl room around (bound z (.ref a)) (.cons rfl .nil) (told G only sq)) fun r z' h => ?_
    match r, h with
    | .ok (.ret u), h =>
      obtain ⟨v, G', os, bare, un, hok', rel, q⟩ := h
      obtain rfl : v = .bl true := q
      obtain rfl : u = Value.bool true := rel
      refine ⟨rfl, OldK.of_keep fun b o e => ?_, os, bare⟩
      rcases only b with no | ⟨ob, xs, fr⟩
      · exact un.keep b o e no (fun y => by cases y) (fun y => by cases y)
      · have now := (hok' b _ (un.frzs b ob _ fr)).1
        have old := (hok b _ fr).1
        rw [e] at old
        rw [Option.some.inj old]
        exact now
  cases found : K.lookup a with
  | some o =>
    have e := inK a o found
    rw [obj] at e
    obtain rfl := Option.some.inj e
    exact run (fun _ => none) (fun _ => .inl rfl) (.inr ⟨_, vs.toArray, _, found, rfl, rfl, rfl, by rw [List.size_toArray, many]; exact small, by simpa using vals_ints nums⟩) (fun b u y => by cases y) (fun b y => absurd rfl y)
  | none =>
    have at_ : ∀ b, (if b = a then some (HO.frz { cls := .type "list", data := .seq vs.toArray } (.lst (ns.map V.int))) else none) ≠ none → b = a := fun b y => Classical.byContradiction fun ne => y (if_neg ne)
    refine run (fun b => if b = a then some (.frz { cls := .type "list", data := .seq vs.toArray } (.lst (ns.map V.int))) else none) (fun b => ?_) (.inl (.inr ⟨_, if_pos rfl⟩)) (fun b u y => ?_) (fun b y => ⟨at_ b y, found⟩)
    · by_cases e : b = a
      · exact .inr ⟨_, _, if_pos e⟩
      · exact .inl (if_neg e)
    · obtain rfl := at_ b (fun no => by have := y.symm.trans no; cases this)
      obtain rfl := Option.some.inj ((if_pos rfl).symm.trans y)
      exact ⟨obj, by rw [List.length_map]; exact small, vs, _, vals_ints nums, obj⟩
theorem walk_ofQ {l : PySem.W.OpenLaw} {n k : Nat} {q : Program} {loose : List Str} {XP : (Str → Option Value) → Heap → Prop} {YP : World → Heap → Prop} {d : DefRec} {K : Params → PySem.W.Frag} {sp : World → Sp} {x : Str}
    (most : l.most = some n) (line : n ≤ sizeLine) (plain : d.params.defaults = []) (room : Room k callerA) (inY : ∀ (w : World) (h : Heap), YP w h → (K w.params).In h)
    (F : ∀ (w : World) (mg : Str → Option Value) (fa : Addr) (h : Heap), (K w.params).In h → h.Ns mainGlobals mg → mg d.name = some (.ref fa) →
      ∃ fd : FuncData, (∀ (s : Shared) (u : Value), BindsTo s fd ⟨[u], []⟩ [(x, u)]) ∧ ∀ base : Heap, (K w.params).In base → base.Ns mainGlobals mg → FnQ l.prog w (K w.params) mg base k fa fd [x] (sp w))
    (told : ∀ (w : World) (G : Hp) (a : Addr) (ns : List Int), ns.length ≤ n → Only G → SqL (K w.params) G a (ns.map V.int) → sp w [.ref a] G (fun v _ => v = .bl true) E0) :
    PySem.W.WalkO q loose XP YP l.row.toRowW d [] (fun f vs => PySem.call f vs) :=
  Att.attach_call most plain fun w _ z mg mb fa _ _ _ _ a vs ns ground Y _ _ _ named obj nums len nogen =>
    let ⟨_, bound, G⟩ := F w mg fa _ (inY w _ Y) ground.T.g named
    law_callQ (inY w _ Y) ground.T.g ground.T.b ground.T.builtins ground.T.nolimit nogen obj nums (Nat.le_trans len line) room G bound fun H only sq => told w H a ns len only sq
end WS

set_option Elab.async false
set_option linter.all false
set_option maxRecDepth 100000
set_option maxHeartbeats 2000000
/-! sorted of texts, any number of them -/
namespace WS
open PySem PySem.Spec PyProof.Rows L2 Evl
def sLe (a b : Str) : Bool := !decide (b.cps.toList < a.cps.toList)
def sv : Value → Str
  | .str x _ => x
  | _ => ⟨#[]⟩
def ltSv (v u : Value) : Bool := decide ((sv v).cps.toList < (sv u).cps.toList)
theorem swo_str : SrtO.Swo ltSv := by
  refine ⟨fun x y h => ?_, fun x y z h1 h2 => ?_⟩
  · have a := of_decide_eq_true (p := (sv x).cps.toList < (sv y).cps.toList) h
    exact decide_eq_false fun b => List.lt_irrefl _ (List.lt_trans a b)
  · have a := List.not_lt.mp (of_decide_eq_false (p := (sv y).cps.toList < (sv x).cps.toList) h1)
    have b := List.not_lt.mp (of_decide_eq_false (p := (sv z).cps.toList < (sv y).cps.toList) h2)
    exact decide_eq_false fun c => List.lt_irrefl _ (List.lt_of_le_of_lt (List.le_trans a b) c)
section
variable {prog : Program} {w : World} {A : Around} {s : Shared}
theorem strs_mem {vs : List Value} {ss : List Str} (h : StrsAre vs ss) : ∀ v ∈ vs, ∃ x t, v = Value.str x t := fun v hv => h.all v hv
theorem str_cmp {vs : List Value} {ss : List Str} (hI : StrsAre vs ss) : SrtO.Cmp prog w A s oneType' (fun p => p.1 ∈ vs) (SrtO.lt2 ltSv) := by
  intro p q hm hm'
  obtain ⟨a, t, e⟩ := strs_mem hI _ hm
  obtain ⟨b, u, e'⟩ := strs_mem hI _ hm'
  show wpAny (model prog w) A (keyLt' oneType' p.1 q.1) (fun r s' => s' = s ∧ r = ltSv p.1 q.1) (fun _ _ => False) s
  rw [e, e', keyLt'_oneType]
  exact oneLt_str ⟨rfl, rfl⟩
theorem strs_sortable {a : Addr} {vs : List Value} {ss : List Str} (hI : StrsAre vs ss) (h2 : 2 ≤ vs.length) : SrtO.SortableO prog w A s a vs ltSv := by
  intro h' _
  refine ⟨oneType', fun Q E hq => ?_, str_cmp hI⟩
  match vs, hI, h2 with
  | v1 :: v2 :: rest, hI, _ =>
    rw [keyKind_strs hI]
    exact wpAny_pure hq
  | [], _, h => exact absurd h (by decide)
  | [v], _, h => exact absurd h (by simp)
end
theorem strs_sv : ∀ {vs : List Value}, (∀ v ∈ vs, ∃ x t, v = Value.str x t) → StrsAre vs (vs.map sv)
  | [], _ => .nil
  | v :: vs, h => by
    obtain ⟨x, t, rfl⟩ := h v List.mem_cons_self
    exact .cons x t (strs_sv fun u hu => h u (List.mem_cons_of_mem _ hu))
theorem sv_strs : ∀ {vs : List Value} {ss : List Str}, StrsAre vs ss → vs.map sv = ss
  | _, _, .nil => rfl
  | _, _, .cons x t r => congrArg (x :: ·) (sv_strs r)
theorem strs_out {vs out : List Value} {ss : List Str} (hI : StrsAre vs ss) (hs : SrtO.Srtd ltSv out) (hb : SrtO.Stb ltSv out vs) : StrsAre out (out.map sv) ∧ (out.map sv).Perm ss ∧ (out.map sv).Pairwise fun a b => sLe a b = true := by
  refine ⟨strs_sv fun v hv => strs_mem hI v (hb.perm.mem_iff.mp hv), ?_, ?_⟩
  · have q := hb.perm.map sv
    rw [sv_strs hI] at q
    exact q
  · refine List.pairwise_map.mpr (hs.imp fun {x y} h => ?_)
    have : decide ((sv y).cps.toList < (sv x).cps.toList) = false := h
    unfold sLe
    rw [this]
    rfl
/-- sorted lists of texts, alike up to order, are the same -/
theorem sLe_anti {a b : Str} (h1 : sLe a b = true) (h2 : sLe b a = true) : a = b := by
  unfold sLe at h1 h2
  have k1 : ¬ b.cps.toList < a.cps.toList := fun c => by rw [decide_eq_true c] at h1; cases h1
  have k2 : ¬ a.cps.toList < b.cps.toList := fun c => by rw [decide_eq_true c] at h2; cases h2
  have e := List.le_antisymm (List.not_lt.mp k1) (List.not_lt.mp k2)
  obtain ⟨x⟩ := a
  obtain ⟨y⟩ := b
  have : x = y := Array.toList_inj.mp e
  rw [this]
theorem sLe_refl (a : Str) : sLe a a = true := by
  unfold sLe
  rw [decide_eq_false (List.lt_irrefl _)]
  rfl
theorem sorted_one : ∀ (l m : List Str), l.Perm m → l.Pairwise (fun a b => sLe a b = true) → m.Pairwise (fun a b => sLe a b = true) → l = m
  | [], m, p, _, _ => (List.nil_perm.mp p).symm
  | x :: l, [], p, _, _ => by cases p.length_eq
  | x :: l, y :: m, p, h1, h2 => by
    have hx : x ∈ y :: m := p.mem_iff.mp List.mem_cons_self
    have hy : y ∈ x :: l := p.mem_iff.mpr List.mem_cons_self
    have g1 := (List.pairwise_cons.mp h1).1
    have g2 := (List.pairwise_cons.mp h2).1
    have e : x = y := by
      rcases List.mem_cons.mp hx with e | hx
      · exact e
      · rcases List.mem_cons.mp hy with e | hy
        · exact e.symm
        · exact sLe_anti (g1 y hy) (g2 x hx)
    subst e
    rw [sorted_one l m p.cons_inv (List.pairwise_cons.mp h1).2 (List.pairwise_cons.mp h2).2]
/-- sorted(texts), any number of them -/
def rSortedSA (K : PySem.W.Frag) : List V → Hp → VK → Prop := fun vs H Q => ∃ (a : Addr) (ss : List Str), vs = [V.ref a] ∧ SqL K H a (ss.map V.str) ∧
  ∀ (ss' : List Str) (p : Addr), ss'.Perm ss → ss'.Pairwise (fun a b => sLe a b = true) → H p = none → Q (.ref p) (upd H p (.lst (ss'.map V.str)))
theorem cr_sortedSA {X : Cx} : CallR X (.builtin "sorted") (rSortedSA X.K) := by
  intro pins s σ H vs us Q I r h
  obtain ⟨a, ss, rfl, hs, q⟩ := h
  obtain ⟨its, rv, hl, hz⟩ := I.list hs
  rw [Vals.ref1 r]
  have hi := rv.strs
  refine SrtO.sorted_ord swo_str hl.isList (by rw [← rv.length]; exact hz) (fun h2 h₁ a' _ _ => strs_sortable hi h2) fun out h1 h2 => ?_
  obtain ⟨k1, k2, k3⟩ := strs_out hi h1 h2
  obtain ⟨ep, he'⟩ := PyProof.Rows.sortedAll_at s.heap its out.toArray
  have hlen : ((out.map sv).map V.str).length ≤ sizeLine := by
    rw [List.length_map, k2.length_eq]
    rw [List.length_map] at hz
    exact hz
  exact ⟨.ref _, upd H (s.heap.objs.size + 1) (.lst ((out.map sv).map V.str)), I.laid (t' := s.toks) (fun _ _ => PyProof.Rows.sortedAll_old) (Nat.le_succ _) ⟨hlen, out, ep, vals_of_strs k1, he'⟩, rfl, q _ _ k2 k3 (I.hok.fresh (Nat.le_succ _))⟩
def srt (ss : List Str) : List Str := ss.mergeSort sLe
theorem srt_ok (ss : List Str) : (srt ss).Perm ss ∧ (srt ss).Pairwise fun a b => sLe a b = true := by
  refine ⟨List.mergeSort_perm ss sLe, List.pairwise_mergeSort (fun a b c h1 h2 => ?_) (fun a b => ?_) ss⟩
  · unfold sLe at *
    have k1 : ¬ b.cps.toList < a.cps.toList := fun c => by rw [decide_eq_true c] at h1; cases h1
    have k2 : ¬ c.cps.toList < b.cps.toList := fun d => by rw [decide_eq_true d] at h2; cases h2
    rw [decide_eq_false (fun d => List.lt_irrefl _ (List.lt_of_le_of_lt (List.le_trans (List.not_lt.mp k1) (List.not_lt.mp k2)) d))]
    rfl
  · unfold sLe
    by_cases c : b.cps.toList < a.cps.toList
    · rw [decide_eq_true c, decide_eq_false (fun d => List.lt_irrefl _ (List.lt_trans c d))]
      rfl
    · rw [decide_eq_false c]
      rfl
theorem srt_perm {ss tt : List Str} (h : ss.Perm tt) : srt ss = srt tt := sorted_one _ _ (((srt_ok ss).1.trans h).trans (srt_ok tt).1.symm) (srt_ok ss).2 (srt_ok tt).2
section
variable {K : PySem.W.Frag} {σ : L2.St} {H : Hp} {te : TE}
theorem el_sortedSA {ss : List Str} (h : EvL te σ H (ss.map V.str)) : EvL (tCB (rSortedSA K) (tCons te tNil)) σ H ((srt ss).map V.str) := fun H1 e Q q =>
  h H1 e _ fun p H2 hp e2 h2 => ⟨p, ss, rfl, sq_of h2, fun ss' p' hp1 hs hp' => by
    have : ss' = srt ss := sorted_one _ _ (hp1.trans (srt_ok ss).1.symm) hs (srt_ok ss).2
    rw [this]
    exact q p' _ (fresh_back e2 hp') (e2.trans (Ex.new hp')) upd_same⟩
theorem el_sortedSAv {a : Addr} {ss : List Str} (h : Ev te σ H (.ref a)) (ha : SqL K H a (ss.map V.str)) : EvL (tCB (rSortedSA K) (tCons te tNil)) σ H ((srt ss).map V.str) := fun H1 e Q q =>
  h H1 e _ fun H2 e2 => ⟨a, ss, rfl, ex_l (e.trans e2) ha, fun ss' p' hp1 hs hp' => by
    have : ss' = srt ss := sorted_one _ _ (hp1.trans (srt_ok ss).1.symm) hs (srt_ok ss).2
    rw [this]
    exact q p' _ (fresh_back e2 hp') (e2.trans (Ex.new hp')) upd_same⟩
end
end WS

set_option Elab.async false
set_option linter.all false
set_option maxRecDepth 100000
set_option maxHeartbeats 2000000
namespace K10
open PySem PySem.Spec PyProof.Rows L2 Evl WS
def topS (i : Nat) : Stmt := PySem.Challenge.pw_wholesound_k10_guesses_and_rests.main.body.getD i (.Pass ⟨0, 0, 0, 0⟩)
theorem un1 {k : Nat} {A : Around} (r : Room k A) : A.units + 1 < cLine := by have := r.un; omega
abbrev s_is_number : Stmt := topS 10
theorem sc_is_number : FnScope ["value"] ["value"] (defScope s_is_number) := ⟨rfl, rfl, rfl, by decide +kernel, rfl, by decide +kernel, by decide +kernel⟩
abbrev s_is_within : Stmt := topS 11
theorem sc_is_within : FnScope ["value", "low", "high"] ["value", "low", "high"] (defScope s_is_within) := ⟨rfl, rfl, rfl, by decide +kernel, rfl, by decide +kernel, by decide +kernel⟩
abbrev s_is_numbers : Stmt := topS 12
theorem sc_is_numbers : FnScope ["value", "item"] ["value"] (defScope s_is_numbers) := ⟨rfl, rfl, rfl, by decide +kernel, rfl, by decide +kernel, by decide +kernel⟩
abbrev s_check_within : Stmt := topS 13
theorem sc_check_within : FnScope ["number", "low", "high"] ["number", "low", "high"] (defScope s_check_within) := ⟨rfl, rfl, rfl, by decide +kernel, rfl, by decide +kernel, by decide +kernel⟩
abbrev s_check_depth : Stmt := topS 14
theorem sc_check_depth : FnScope ["depth", "most"] ["depth", "most"] (defScope s_check_depth) := ⟨rfl, rfl, rfl, by decide +kernel, rfl, by decide +kernel, by decide +kernel⟩
abbrev s_least_sample : Stmt := topS 16
theorem sc_least_sample : FnScope ["depth"] ["depth"] (defScope s_least_sample) := ⟨rfl, rfl, rfl, by decide +kernel, rfl, by decide +kernel, by decide +kernel⟩
abbrev s_greatest_sample : Stmt := topS 17
theorem sc_greatest_sample : FnScope ["depth"] ["depth"] (defScope s_greatest_sample) := ⟨rfl, rfl, rfl, by decide +kernel, rfl, by decide +kernel, by decide +kernel⟩
abbrev s_wrapped : Stmt := topS 18
theorem sc_wrapped : FnScope ["number", "depth", "half"] ["number", "depth"] (defScope s_wrapped) := ⟨rfl, rfl, rfl, by decide +kernel, rfl, by decide +kernel, by decide +kernel⟩
abbrev s_is_samples : Stmt := topS 19
theorem sc_is_samples : FnScope ["value", "depth", "low", "high", "sample"] ["value", "depth"] (defScope s_is_samples) := ⟨rfl, rfl, rfl, by decide +kernel, rfl, by decide +kernel, by decide +kernel⟩
abbrev s_Guesser___init__ : Stmt := inClass (topS 25) 0
theorem sc_Guesser___init__ : FnScope ["self", "weights", "shift", "weight"] ["self", "weights", "shift"] (defScope s_Guesser___init__) := ⟨rfl, rfl, rfl, by decide +kernel, rfl, by decide +kernel, by decide +kernel⟩
abbrev s_Guesser_weights : Stmt := inClass (topS 25) 1
theorem sc_Guesser_weights : FnScope ["self"] ["self"] (defScope s_Guesser_weights) := ⟨rfl, rfl, rfl, by decide +kernel, rfl, by decide +kernel, by decide +kernel⟩
abbrev s_Guesser_shift : Stmt := inClass (topS 25) 2
theorem sc_Guesser_shift : FnScope ["self"] ["self"] (defScope s_Guesser_shift) := ⟨rfl, rfl, rfl, by decide +kernel, rfl, by decide +kernel, by decide +kernel⟩
abbrev s_Guesser_order : Stmt := inClass (topS 25) 3
theorem sc_Guesser_order : FnScope ["self"] ["self"] (defScope s_Guesser_order) := ⟨rfl, rfl, rfl, by decide +kernel, rfl, by decide +kernel, by decide +kernel⟩
abbrev s_Guesser___eq__ : Stmt := inClass (topS 25) 4
theorem sc_Guesser___eq__ : FnScope ["self", "other"] ["self", "other"] (defScope s_Guesser___eq__) := ⟨rfl, rfl, rfl, by decide +kernel, rfl, by decide +kernel, by decide +kernel⟩
abbrev s_check_guesser : Stmt := topS 26
theorem sc_check_guesser : FnScope ["guesser"] ["guesser"] (defScope s_check_guesser) := ⟨rfl, rfl, rfl, by decide +kernel, rfl, by decide +kernel, by decide +kernel⟩
abbrev s_check_samples : Stmt := topS 27
theorem sc_check_samples : FnScope ["row", "depth"] ["row", "depth"] (defScope s_check_samples) := ⟨rfl, rfl, rfl, by decide +kernel, rfl, by decide +kernel, by decide +kernel⟩
abbrev s_weighed : Stmt := topS 28
theorem sc_weighed : FnScope ["weights", "row", "at", "total", "ahead", "weight"] ["weights", "row", "at"] (defScope s_weighed) := ⟨rfl, rfl, rfl, by decide +kernel, rfl, by decide +kernel, by decide +kernel⟩
abbrev s_guess : Stmt := topS 29
theorem sc_guess : FnScope ["guesser", "before"] ["guesser", "before"] (defScope s_guess) := ⟨rfl, rfl, rfl, by decide +kernel, rfl, by decide +kernel, by decide +kernel⟩
abbrev s_steps : Stmt := topS 30
theorem sc_steps : FnScope ["order", "at"] ["order"] (defScope s_steps) := ⟨rfl, rfl, rfl, by decide +kernel, rfl, by decide +kernel, by decide +kernel⟩
abbrev s_unwrapped_rests : Stmt := topS 31
theorem sc_unwrapped_rests : FnScope ["guesser", "row", "weights", "shift", "order", "behind", "at"] ["guesser", "row"] (defScope s_unwrapped_rests) := ⟨rfl, rfl, rfl, by decide +kernel, rfl, by decide +kernel, by decide +kernel⟩
abbrev s_rests : Stmt := topS 32
theorem sc_rests : FnScope ["guesser", "depth", "row", "rest"] ["guesser", "depth", "row"] (defScope s_rests) := ⟨rfl, rfl, rfl, by decide +kernel, rfl, by decide +kernel, by decide +kernel⟩
abbrev s_row_of : Stmt := topS 33
theorem sc_row_of : FnScope ["guesser", "depth", "rests", "weights", "shift", "order", "row", "at"] ["guesser", "depth", "rests"] (defScope s_row_of) := ⟨rfl, rfl, rfl, by decide +kernel, rfl, by decide +kernel, by decide +kernel⟩
abbrev s_plain_rests : Stmt := topS 34
theorem sc_plain_rests : FnScope ["guesser", "row"] ["guesser", "row"] (defScope s_plain_rests) := ⟨rfl, rfl, rfl, by decide +kernel, rfl, by decide +kernel, by decide +kernel⟩
abbrev s__law_cell : Stmt := topS 36
theorem sc__law_cell : FnScope ["_law_script", "_law_index"] ["_law_script", "_law_index"] (defScope s__law_cell) := ⟨rfl, rfl, rfl, by decide +kernel, rfl, by decide +kernel, by decide +kernel⟩
abbrev s__law_hash : Stmt := topS 37
theorem sc__law_hash : FnScope ["_law_seed", "_law_index", "_law_mixed"] ["_law_seed", "_law_index"] (defScope s__law_hash) := ⟨rfl, rfl, rfl, by decide +kernel, rfl, by decide +kernel, by decide +kernel⟩
abbrev s__law_generator : Stmt := topS 38
theorem sc__law_generator : FnScope ["_law_script", "_law_index", "_law_seed"] ["_law_script", "_law_index"] (defScope s__law_generator) := ⟨rfl, rfl, rfl, by decide +kernel, rfl, by decide +kernel, by decide +kernel⟩
abbrev s__law_random : Stmt := topS 39
theorem sc__law_random : FnScope ["_law_generator_here", "_law_bound", "_law_drawn", "_law_turn"] ["_law_generator_here", "_law_bound"] (defScope s__law_random) := ⟨rfl, rfl, rfl, by decide +kernel, rfl, by decide +kernel, by decide +kernel⟩
abbrev s__law_wrapped : Stmt := topS 40
theorem sc__law_wrapped : FnScope ["_law_number", "_law_depth"] ["_law_number", "_law_depth"] (defScope s__law_wrapped) := ⟨rfl, rfl, rfl, by decide +kernel, rfl, by decide +kernel, by decide +kernel⟩
abbrev s__law_sample : Stmt := topS 41
theorem sc__law_sample : FnScope ["_law_generator_here", "_law_depth", "_law_low"] ["_law_generator_here", "_law_depth"] (defScope s__law_sample) := ⟨rfl, rfl, rfl, by decide +kernel, rfl, by decide +kernel, by decide +kernel⟩
abbrev s__law_row : Stmt := topS 42
theorem sc__law_row : FnScope ["_law_generator_here", "_law_depth", "_law_many", "_law_place"] ["_law_generator_here", "_law_depth", "_law_many"] (defScope s__law_row) := ⟨rfl, rfl, rfl, by decide +kernel, rfl, by decide +kernel, by decide +kernel⟩
abbrev s__law_weights : Stmt := topS 43
theorem sc__law_weights : FnScope ["_law_generator_here", "_law_many", "_law_found", "_law_number", "_law_great", "_law_kind"] ["_law_generator_here", "_law_many"] (defScope s__law_weights) := ⟨rfl, rfl, rfl, by decide +kernel, rfl, by decide +kernel, by decide +kernel⟩
abbrev s__law_guess : Stmt := topS 44
theorem sc__law_guess : FnScope ["_law_weights_here", "_law_shift", "_law_before", "_law_total", "_law_number"] ["_law_weights_here", "_law_shift", "_law_before"] (defScope s__law_guess) := ⟨rfl, rfl, rfl, by decide +kernel, rfl, by decide +kernel, by decide +kernel⟩
abbrev s__law_all_rows : Stmt := topS 45
theorem sc__law_all_rows : FnScope ["_law_depth", "_law_many", "_law_found", "_law_place", "_law_longer", "_law_row_here", "_law_sample_here"] ["_law_depth", "_law_many"] (defScope s__law_all_rows) := ⟨rfl, rfl, rfl, by decide +kernel, rfl, by decide +kernel, by decide +kernel⟩
abbrev s__law_rests_of : Stmt := topS 46
theorem sc__law_rests_of : FnScope ["_law_weights_here", "_law_shift", "_law_row_here", "_law_found", "_law_place", "_law_told"] ["_law_weights_here", "_law_shift", "_law_row_here"] (defScope s__law_rests_of) := ⟨rfl, rfl, rfl, by decide +kernel, rfl, by decide +kernel, by decide +kernel⟩
abbrev s__law_right : Stmt := topS 47
theorem sc__law_right : FnScope ["_law_generator_here", "_law_guesser", "_law_weights_here", "_law_shift", "_law_depth", "_law_row_here", "_law_due", "_law_given", "_law_told", "_law_back", "_law_great", "_law_item", "_law_place"] ["_law_generator_here", "_law_guesser", "_law_weights_here", "_law_shift"] (defScope s__law_right) := ⟨rfl, rfl, rfl, by decide +kernel, rfl, by decide +kernel, by decide +kernel⟩
abbrev s__law_all_right : Stmt := topS 48
theorem sc__law_all_right : FnScope ["_law_generator_here", "_law_guesser", "_law_depth", "_law_many", "_law_rows", "_law_told", "_law_row_here"] ["_law_generator_here", "_law_guesser"] (defScope s__law_all_right) := ⟨rfl, rfl, rfl, by decide +kernel, rfl, by decide +kernel, by decide +kernel⟩
abbrev s__law_steps_right : Stmt := topS 49
theorem sc__law_steps_right : FnScope ["_law_generator_here", "_law_order", "_law_row_here", "_law_due", "_law_turn", "_law_made", "_law_place", "_law_at"] ["_law_generator_here"] (defScope s__law_steps_right) := ⟨rfl, rfl, rfl, by decide +kernel, rfl, by decide +kernel, by decide +kernel⟩
abbrev s_law : Stmt := topS 50
theorem sc_law : FnScope ["_law_script", "_law_index", "_law_generator_here", "_law_weights_here", "_law_shift", "_law_given", "_law_guesser"] ["_law_script"] (defScope s_law) := ⟨rfl, rfl, rfl, by decide +kernel, rfl, by decide +kernel, by decide +kernel⟩
structure Tx (K : PySem.W.Frag) (mg : Str → Option Value) where
  C_Guesser : Addr
  cl_Guesser : Cls K C_Guesser
  gC_Guesser : mg "Guesser" = some (.ref C_Guesser)
  is_Guesser : PySem.W.findIn K (.ref C_Guesser) "__class__" = some (some (.builtin "object.__class__")) ∧ PySem.W.specialIn K (.builtin "object.__class__") "__get__" = some (some (.builtin "getset_descriptor.__get__")) ∧ PySem.W.takesIn K (.builtin "object.__class__") = some true ∧ PySem.W.mroIn K C_Guesser (.type "object") = some true
  n_Guesser__weights : NoAttr K C_Guesser "_weights"
  n_Guesser__shift : NoAttr K C_Guesser "_shift"
  ne_Guesser : PySem.W.findIn K (.ref C_Guesser) "__ne__" = some (some (.builtin "object.__ne__"))
  ty_Guesser : PySem.W.typeIn K (.ref C_Guesser) = some (.type "type")
  a_is_number : Addr
  d_is_number : FuncData
  f_is_number : Fun K "is_number" "is_number" s_is_number a_is_number d_is_number
  b_is_number : Binds K d_is_number ["value"] []
  g_is_number : mg "is_number" = some (.ref a_is_number)
  a_is_within : Addr
  d_is_within : FuncData
  f_is_within : Fun K "is_within" "is_within" s_is_within a_is_within d_is_within
  b_is_within : Binds K d_is_within ["value", "low", "high"] []
  g_is_within : mg "is_within" = some (.ref a_is_within)
  a_is_numbers : Addr
  d_is_numbers : FuncData
  f_is_numbers : Fun K "is_numbers" "is_numbers" s_is_numbers a_is_numbers d_is_numbers
  b_is_numbers : Binds K d_is_numbers ["value"] []
  g_is_numbers : mg "is_numbers" = some (.ref a_is_numbers)
  a_check_within : Addr
  d_check_within : FuncData
  f_check_within : Fun K "check_within" "check_within" s_check_within a_check_within d_check_within
  b_check_within : Binds K d_check_within ["number", "low", "high"] []
  g_check_within : mg "check_within" = some (.ref a_check_within)
  a_check_depth : Addr
  d_check_depth : FuncData
  f_check_depth : Fun K "check_depth" "check_depth" s_check_depth a_check_depth d_check_depth
  b_check_depth : Binds K d_check_depth ["depth", "most"] []
  g_check_depth : mg "check_depth" = some (.ref a_check_depth)
  a_least_sample : Addr
  d_least_sample : FuncData
  f_least_sample : Fun K "least_sample" "least_sample" s_least_sample a_least_sample d_least_sample
  b_least_sample : Binds K d_least_sample ["depth"] []
  g_least_sample : mg "least_sample" = some (.ref a_least_sample)
  a_greatest_sample : Addr
  d_greatest_sample : FuncData
  f_greatest_sample : Fun K "greatest_sample" "greatest_sample" s_greatest_sample a_greatest_sample d_greatest_sample
  b_greatest_sample : Binds K d_greatest_sample ["depth"] []
  g_greatest_sample : mg "greatest_sample" = some (.ref a_greatest_sample)
  a_wrapped : Addr
  d_wrapped : FuncData
  f_wrapped : Fun K "wrapped" "wrapped" s_wrapped a_wrapped d_wrapped
  b_wrapped : Binds K d_wrapped ["number", "depth"] []
  g_wrapped : mg "wrapped" = some (.ref a_wrapped)
  a_is_samples : Addr
  d_is_samples : FuncData
  f_is_samples : Fun K "is_samples" "is_samples" s_is_samples a_is_samples d_is_samples
  b_is_samples : Binds K d_is_samples ["value", "depth"] []
  g_is_samples : mg "is_samples" = some (.ref a_is_samples)
  a_Guesser___init__ : Addr
  d_Guesser___init__ : FuncData
  f_Guesser___init__ : Fun K "__init__" "Guesser.__init__" s_Guesser___init__ a_Guesser___init__ d_Guesser___init__
  b_Guesser___init__ : Binds K d_Guesser___init__ ["self", "weights", "shift"] []
  mk_Guesser : Mk K C_Guesser a_Guesser___init__
  a_Guesser_weights : Addr
  d_Guesser_weights : FuncData
  f_Guesser_weights : Fun K "weights" "Guesser.weights" s_Guesser_weights a_Guesser_weights d_Guesser_weights
  b_Guesser_weights : Binds K d_Guesser_weights ["self"] []
  me_Guesser_weights : Meth K C_Guesser "weights" a_Guesser_weights
  a_Guesser_shift : Addr
  d_Guesser_shift : FuncData
  f_Guesser_shift : Fun K "shift" "Guesser.shift" s_Guesser_shift a_Guesser_shift d_Guesser_shift
  b_Guesser_shift : Binds K d_Guesser_shift ["self"] []
  me_Guesser_shift : Meth K C_Guesser "shift" a_Guesser_shift
  a_Guesser_order : Addr
  d_Guesser_order : FuncData
  f_Guesser_order : Fun K "order" "Guesser.order" s_Guesser_order a_Guesser_order d_Guesser_order
  b_Guesser_order : Binds K d_Guesser_order ["self"] []
  me_Guesser_order : Meth K C_Guesser "order" a_Guesser_order
  a_Guesser___eq__ : Addr
  d_Guesser___eq__ : FuncData
  f_Guesser___eq__ : Fun K "__eq__" "Guesser.__eq__" s_Guesser___eq__ a_Guesser___eq__ d_Guesser___eq__
  b_Guesser___eq__ : Binds K d_Guesser___eq__ ["self", "other"] []
  q_Guesser : PySem.W.findIn K (.ref C_Guesser) "__eq__" = some (some (.ref a_Guesser___eq__)) ∧ PySem.W.isFn K (.ref a_Guesser___eq__) = true
  a_check_guesser : Addr
  d_check_guesser : FuncData
  f_check_guesser : Fun K "check_guesser" "check_guesser" s_check_guesser a_check_guesser d_check_guesser
  b_check_guesser : Binds K d_check_guesser ["guesser"] []
  g_check_guesser : mg "check_guesser" = some (.ref a_check_guesser)
  a_check_samples : Addr
  d_check_samples : FuncData
  f_check_samples : Fun K "check_samples" "check_samples" s_check_samples a_check_samples d_check_samples
  b_check_samples : Binds K d_check_samples ["row", "depth"] []
  g_check_samples : mg "check_samples" = some (.ref a_check_samples)
  a_weighed : Addr
  d_weighed : FuncData
  f_weighed : Fun K "weighed" "weighed" s_weighed a_weighed d_weighed
  b_weighed : Binds K d_weighed ["weights", "row", "at"] []
  g_weighed : mg "weighed" = some (.ref a_weighed)
  a_guess : Addr
  d_guess : FuncData
  f_guess : Fun K "guess" "guess" s_guess a_guess d_guess
  b_guess : Binds K d_guess ["guesser", "before"] []
  g_guess : mg "guess" = some (.ref a_guess)
  a_steps : Addr
  d_steps : FuncData
  f_steps : Fun K "steps" "steps" s_steps a_steps d_steps
  b_steps : Binds K d_steps ["order"] []
  g_steps : mg "steps" = some (.ref a_steps)
  a_unwrapped_rests : Addr
  d_unwrapped_rests : FuncData
  f_unwrapped_rests : Fun K "unwrapped_rests" "unwrapped_rests" s_unwrapped_rests a_unwrapped_rests d_unwrapped_rests
  b_unwrapped_rests : Binds K d_unwrapped_rests ["guesser", "row"] []
  g_unwrapped_rests : mg "unwrapped_rests" = some (.ref a_unwrapped_rests)
  a_rests : Addr
  d_rests : FuncData
  f_rests : Fun K "rests" "rests" s_rests a_rests d_rests
  b_rests : Binds K d_rests ["guesser", "depth", "row"] []
  g_rests : mg "rests" = some (.ref a_rests)
  a_row_of : Addr
  d_row_of : FuncData
  f_row_of : Fun K "row_of" "row_of" s_row_of a_row_of d_row_of
  b_row_of : Binds K d_row_of ["guesser", "depth", "rests"] []
  g_row_of : mg "row_of" = some (.ref a_row_of)
  a_plain_rests : Addr
  d_plain_rests : FuncData
  f_plain_rests : Fun K "plain_rests" "plain_rests" s_plain_rests a_plain_rests d_plain_rests
  b_plain_rests : Binds K d_plain_rests ["guesser", "row"] []
  g_plain_rests : mg "plain_rests" = some (.ref a_plain_rests)
  a__law_cell : Addr
  d__law_cell : FuncData
  f__law_cell : Fun K "_law_cell" "_law_cell" s__law_cell a__law_cell d__law_cell
  b__law_cell : Binds K d__law_cell ["_law_script", "_law_index"] []
  g__law_cell : mg "_law_cell" = some (.ref a__law_cell)
  a__law_hash : Addr
  d__law_hash : FuncData
  f__law_hash : Fun K "_law_hash" "_law_hash" s__law_hash a__law_hash d__law_hash
  b__law_hash : Binds K d__law_hash ["_law_seed", "_law_index"] []
  g__law_hash : mg "_law_hash" = some (.ref a__law_hash)
  a__law_generator : Addr
  d__law_generator : FuncData
  f__law_generator : Fun K "_law_generator" "_law_generator" s__law_generator a__law_generator d__law_generator
  b__law_generator : Binds K d__law_generator ["_law_script", "_law_index"] []
  g__law_generator : mg "_law_generator" = some (.ref a__law_generator)
  a__law_random : Addr
  d__law_random : FuncData
  f__law_random : Fun K "_law_random" "_law_random" s__law_random a__law_random d__law_random
  b__law_random : Binds K d__law_random ["_law_generator_here", "_law_bound"] []
  g__law_random : mg "_law_random" = some (.ref a__law_random)
  a__law_wrapped : Addr
  d__law_wrapped : FuncData
  f__law_wrapped : Fun K "_law_wrapped" "_law_wrapped" s__law_wrapped a__law_wrapped d__law_wrapped
  b__law_wrapped : Binds K d__law_wrapped ["_law_number", "_law_depth"] []
  g__law_wrapped : mg "_law_wrapped" = some (.ref a__law_wrapped)
  a__law_sample : Addr
  d__law_sample : FuncData
  f__law_sample : Fun K "_law_sample" "_law_sample" s__law_sample a__law_sample d__law_sample
  b__law_sample : Binds K d__law_sample ["_law_generator_here", "_law_depth"] []
  g__law_sample : mg "_law_sample" = some (.ref a__law_sample)
  a__law_row : Addr
  d__law_row : FuncData
  f__law_row : Fun K "_law_row" "_law_row" s__law_row a__law_row d__law_row
  b__law_row : Binds K d__law_row ["_law_generator_here", "_law_depth", "_law_many"] []
  g__law_row : mg "_law_row" = some (.ref a__law_row)
  a__law_weights : Addr
  d__law_weights : FuncData
  f__law_weights : Fun K "_law_weights" "_law_weights" s__law_weights a__law_weights d__law_weights
  b__law_weights : Binds K d__law_weights ["_law_generator_here", "_law_many"] []
  g__law_weights : mg "_law_weights" = some (.ref a__law_weights)
  a__law_guess : Addr
  d__law_guess : FuncData
  f__law_guess : Fun K "_law_guess" "_law_guess" s__law_guess a__law_guess d__law_guess
  b__law_guess : Binds K d__law_guess ["_law_weights_here", "_law_shift", "_law_before"] []
  g__law_guess : mg "_law_guess" = some (.ref a__law_guess)
  a__law_all_rows : Addr
  d__law_all_rows : FuncData
  f__law_all_rows : Fun K "_law_all_rows" "_law_all_rows" s__law_all_rows a__law_all_rows d__law_all_rows
  b__law_all_rows : Binds K d__law_all_rows ["_law_depth", "_law_many"] []
  g__law_all_rows : mg "_law_all_rows" = some (.ref a__law_all_rows)
  a__law_rests_of : Addr
  d__law_rests_of : FuncData
  f__law_rests_of : Fun K "_law_rests_of" "_law_rests_of" s__law_rests_of a__law_rests_of d__law_rests_of
  b__law_rests_of : Binds K d__law_rests_of ["_law_weights_here", "_law_shift", "_law_row_here"] []
  g__law_rests_of : mg "_law_rests_of" = some (.ref a__law_rests_of)
  a__law_right : Addr
  d__law_right : FuncData
  f__law_right : Fun K "_law_right" "_law_right" s__law_right a__law_right d__law_right
  b__law_right : Binds K d__law_right ["_law_generator_here", "_law_guesser", "_law_weights_here", "_law_shift"] []
  g__law_right : mg "_law_right" = some (.ref a__law_right)
  a__law_all_right : Addr
  d__law_all_right : FuncData
  f__law_all_right : Fun K "_law_all_right" "_law_all_right" s__law_all_right a__law_all_right d__law_all_right
  b__law_all_right : Binds K d__law_all_right ["_law_generator_here", "_law_guesser"] []
  g__law_all_right : mg "_law_all_right" = some (.ref a__law_all_right)
  a__law_steps_right : Addr
  d__law_steps_right : FuncData
  f__law_steps_right : Fun K "_law_steps_right" "_law_steps_right" s__law_steps_right a__law_steps_right d__law_steps_right
  b__law_steps_right : Binds K d__law_steps_right ["_law_generator_here"] []
  g__law_steps_right : mg "_law_steps_right" = some (.ref a__law_steps_right)
  a_law : Addr
  d_law : FuncData
  f_law : Fun K "law" "law" s_law a_law d_law
  b_law : Binds K d_law ["_law_script"] []
  g_law : mg "law" = some (.ref a_law)
  t_MOST_WEIGHTS : Tok
  c_MOST_WEIGHTS : mg "MOST_WEIGHTS" = some (.int 8 t_MOST_WEIGHTS)
  t_GREATEST_WEIGHT : Tok
  c_GREATEST_WEIGHT : mg "GREATEST_WEIGHT" = some (.int 32768 t_GREATEST_WEIGHT)
  t_GREATEST_SHIFT : Tok
  c_GREATEST_SHIFT : mg "GREATEST_SHIFT" = some (.int 15 t_GREATEST_SHIFT)
  t_GREATEST_DEPTH : Tok
  c_GREATEST_DEPTH : mg "GREATEST_DEPTH" = some (.int 32 t_GREATEST_DEPTH)
  m_all : mg "all" = none
  m_bool : mg "bool" = none
  m_enumerate : mg "enumerate" = none
  m_int : mg "int" = none
  m_isinstance : mg "isinstance" = none
  m_len : mg "len" = none
  m_list : mg "list" = none
  m_max : mg "max" = none
  m_range : mg "range" = none
  m_repr : mg "repr" = none
  m_sorted : mg "sorted" = none
  m_sum : mg "sum" = none
  mt_comb : mg "comb" = some (.builtin "math.comb")
end K10

set_option Elab.async false
set_option linter.all false
set_option maxRecDepth 100000
set_option maxHeartbeats 4000000
namespace K10
open PySem PySem.Spec PyProof.Rows L2 Evl WS M50 M10
theorem ksw : ¬ (("_shift" : Str) = "_weights") := by decide +kernel
theorem kws : ¬ (("_weights" : Str) = "_shift") := by decide +kernel
def Wb (m : Int) (n : Nat) (ws : List Int) : Prop := ws.length ≤ n ∧ ∀ x ∈ ws, -m ≤ x ∧ x ≤ m
/-- a guesser's attributes -/
def gf (d : Addr) (s : Nat) : List (Str × V) := putF "_shift" (.int (s : Int)) (putF "_weights" (.ref d) [])
theorem gf_w (d : Addr) (s : Nat) : (gf d s).lookup ("_weights" : Str) = some (.ref d) := by
  unfold gf
  rw [lookup_putF, if_neg kws, lookup_putF, if_pos rfl]
theorem gf_s (d : Addr) (s : Nat) : (gf d s).lookup ("_shift" : Str) = some (.int (s : Int)) := by
  unfold gf
  rw [lookup_putF, if_pos rfl]
theorem gf_no (d : Addr) (s : Nat) {m : Str} (h1 : ¬ m = "_shift") (h2 : ¬ m = "_weights") : (gf d s).lookup m = none := by
  unfold gf
  rw [lookup_putF, if_neg h1, lookup_putF, if_neg h2]
  all_goals rfl
/-- a list of ints at a -/
def Li (H : Hp) (a : Addr) (ns : List Int) : Prop := H a = some (.lst (ns.map V.int))
theorem Li.ex {H H' : Hp} {a : Addr} {ns : List Int} (h : Li H a ns) (e : Ex H H') : Li H' a ns := e _ _ h
theorem Li.sq {K : PySem.W.Frag} {H : Hp} {a : Addr} {ns : List Int} (h : Li H a ns) : SqL K H a (ns.map V.int) := sq_of h
/-- a guesser at p -/
structure Gu {K : PySem.W.Frag} {mg : Str → Option Value} (T : Tx K mg) (H : Hp) (p : Addr) (ws : List Int) (s : Nat) : Prop where
  ob : ∃ dx d, H p = some (.ins T.C_Guesser dx (gf d s)) ∧ Li H d ws
  wb : Wb 32768 8 ws
  sh : s ≤ 15
theorem Gu.ex {K : PySem.W.Frag} {mg : Str → Option Value} {T : Tx K mg} {H H' : Hp} {p : Addr} {ws : List Int} {s : Nat} (h : Gu T H p ws s) (e : Ex H H') : Gu T H' p ws s := by
  obtain ⟨⟨dx, d, h1, h2⟩, w, l⟩ := h
  exact ⟨⟨dx, d, e _ _ h1, h2.ex e⟩, w, l⟩
/-- a guesser whose list was not there -/
structure GuN {K : PySem.W.Frag} {mg : Str → Option Value} (T : Tx K mg) (H0 H : Hp) (p : Addr) (ws : List Int) (s : Nat) : Prop where
  ob : ∃ dx d, H p = some (.ins T.C_Guesser dx (gf d s)) ∧ Li H d ws ∧ H0 d = none
  wb : Wb 32768 8 ws
  sh : s ≤ 15
theorem GuN.gu {K : PySem.W.Frag} {mg : Str → Option Value} {T : Tx K mg} {H0 H : Hp} {p : Addr} {ws : List Int} {s : Nat} (h : GuN T H0 H p ws s) : Gu T H p ws s := by
  obtain ⟨⟨dx, d, h1, h2, _⟩, w, l⟩ := h
  exact ⟨⟨dx, d, h1, h2⟩, w, l⟩
theorem GuN.old {K : PySem.W.Frag} {mg : Str → Option Value} {T : Tx K mg} {H0 H1 H : Hp} {p : Addr} {ws : List Int} {s : Nat} (h : GuN T H1 H p ws s) (e : ∀ b, H1 b = none → H0 b = none) : GuN T H0 H p ws s := by
  obtain ⟨⟨dx, d, h1, h2, h3⟩, w, l⟩ := h
  exact ⟨⟨dx, d, h1, h2, e _ h3⟩, w, l⟩
/-- a guesser that draws at g leave as it is -/
structure GuG {K : PySem.W.Frag} {mg : Str → Option Value} (T : Tx K mg) (H : Hp) (g p : Addr) (ws : List Int) (s : Nat) : Prop where
  ob : ∃ dx d, H p = some (.ins T.C_Guesser dx (gf d s)) ∧ Li H d ws ∧ d ≠ g
  wb : Wb 32768 8 ws
  sh : s ≤ 15
  ne : p ≠ g
theorem GuG.gu {K : PySem.W.Frag} {mg : Str → Option Value} {T : Tx K mg} {H : Hp} {g p : Addr} {ws : List Int} {s : Nat} (h : GuG T H g p ws s) : Gu T H p ws s := by
  obtain ⟨⟨dx, d, h1, h2, _⟩, w, l, _⟩ := h
  exact ⟨⟨dx, d, h1, h2⟩, w, l⟩
theorem GuG.exB {K : PySem.W.Frag} {mg : Str → Option Value} {T : Tx K mg} {H H' : Hp} {g p : Addr} {ws : List Int} {s : Nat} (h : GuG T H g p ws s) (e : ExB g H H') : GuG T H' g p ws s := by
  obtain ⟨⟨dx, d, h1, h2, h3⟩, w, l, n⟩ := h
  exact ⟨⟨dx, d, e _ _ n h1, e _ _ h3 h2, h3⟩, w, l, n⟩
theorem GuN.guG {K : PySem.W.Frag} {mg : Str → Option Value} {T : Tx K mg} {H0 H : Hp} {g p : Addr} {ws : List Int} {s : Nat} {o : HO} (h : GuN T H0 H p ws s) (hg : H0 g = some o) (n : p ≠ g) : GuG T H g p ws s := by
  obtain ⟨⟨dx, d, h1, h2, h3⟩, w, l⟩ := h
  exact ⟨⟨dx, d, h1, h2, fun z => by rw [z, hg] at h3; cases h3⟩, w, l, n⟩
section
variable {K : PySem.W.Frag} {mg : Str → Option Value}
def sp_is_number (T : Tx K mg) : Sp := fun vs H Q _ => ∃ i, vs = [.int i] ∧ RetV (.bl true) H Q
def sp_is_within (T : Tx K mg) : Sp := fun vs H Q _ => ∃ i j k, vs = [.int i, .int j, .int k] ∧ j ≤ i ∧ i ≤ k ∧ RetV (.bl true) H Q
def sp_is_numbers (T : Tx K mg) : Sp := fun vs H Q _ => ∃ a ns, vs = [.ref a] ∧ Li H a ns ∧ ns.length ≤ 1000 ∧ RetV (.bl true) H Q
def sp_check_within (T : Tx K mg) : Sp := fun vs H Q _ => ∃ i j k, vs = [.int i, .int j, .int k] ∧ j ≤ i ∧ i ≤ k ∧ RetV .non H Q
def sp_check_depth (T : Tx K mg) : Sp := fun vs H Q _ => ∃ i j, vs = [.int i, .int j] ∧ 1 ≤ i ∧ i ≤ j ∧ RetV .non H Q
def sp_least_sample (T : Tx K mg) : Sp := fun vs H Q _ => ∃ d : Nat, vs = [.int (d : Int)] ∧ 1 ≤ d ∧ d ≤ 32 ∧ RetV (.int (-(2 ^ (d - 1)))) H Q
def sp_greatest_sample (T : Tx K mg) : Sp := fun vs H Q _ => ∃ d : Nat, vs = [.int (d : Int)] ∧ 1 ≤ d ∧ d ≤ 32 ∧ RetV (.int (2 ^ (d - 1) - 1)) H Q
def sp_wrapped (T : Tx K mg) : Sp := fun vs H Q _ => ∃ z, ∃ d : Nat, vs = [.int z, .int (d : Int)] ∧ 1 ≤ d ∧ d ≤ 32 ∧ RetV (.int (wr d z)) H Q
def sp_is_samples (T : Tx K mg) : Sp := fun vs H Q _ => ∃ a row, ∃ d : Nat, vs = [.ref a, .int (d : Int)] ∧ 1 ≤ d ∧ d ≤ 32 ∧ Li H a row ∧ row.length ≤ 1000 ∧ M10.Smp d row ∧ RetV (.bl true) H Q
def sp_check_samples (T : Tx K mg) : Sp := fun vs H Q _ => ∃ a row, ∃ d : Nat, vs = [.ref a, .int (d : Int)] ∧ 1 ≤ d ∧ d ≤ 32 ∧ Li H a row ∧ row.length ≤ 1000 ∧ M10.Smp d row ∧ RetV .non H Q
def sp_Guesser___init__ (T : Tx K mg) : Sp := fun vs H Q _ => ∃ p dx a ws, ∃ s : Nat, vs = [.ref p, .ref a, .int (s : Int)] ∧ H p = some (.ins T.C_Guesser dx []) ∧ Li H a ws ∧ Wb 32768 8 ws ∧ s ≤ 15 ∧
  ∀ H', GuN T H H' p ws s → (∀ b o, b ≠ p → H b = some o → H' b = some o) → Q .non H'
def sp_Guesser_weights (T : Tx K mg) : Sp := fun vs H Q _ => ∃ p ws s, vs = [.ref p] ∧ Gu T H p ws s ∧ RetL (ws.map V.int) H Q
def sp_Guesser_shift (T : Tx K mg) : Sp := fun vs H Q _ => ∃ p ws s, vs = [.ref p] ∧ Gu T H p ws s ∧ RetV (.int (s : Int)) H Q
def sp_Guesser_order (T : Tx K mg) : Sp := fun vs H Q _ => ∃ p ws s, vs = [.ref p] ∧ Gu T H p ws s ∧ RetV (.int (ws.length : Int)) H Q
def EqG (T : Tx K mg) (H : Hp) (ws : List Int) (s : Nat) (y : V) (b : Bool) : Prop := (∃ q vs t, y = .ref q ∧ Gu T H q vs t ∧ b = (decide (ws = vs) && decide (s = t))) ∨ ∃ a xs, y = .ref a ∧ H a = some (.lst xs) ∧ b = false
def sp_Guesser___eq__ (T : Tx K mg) : Sp := fun vs H Q _ => ∃ p ws s y b, vs = [.ref p, y] ∧ Gu T H p ws s ∧ EqG T H ws s y b ∧ RetV (.bl b) H Q
def sp_check_guesser (T : Tx K mg) : Sp := fun vs H Q _ => ∃ p ws s, vs = [.ref p] ∧ Gu T H p ws s ∧ RetV .non H Q
def sp_weighed (T : Tx K mg) : Sp := fun vs H Q _ => ∃ a b ws row, ∃ n : Nat, vs = [.ref a, .ref b, .int (n : Int)] ∧ Li H a ws ∧ Wb 32768 8 ws ∧ Li H b row ∧ n ≤ row.length ∧ row.length ≤ 1000 ∧ ws.length ≤ n ∧ RetV (.int (wsum row n ws 0)) H Q
theorem Gu.isi {T : Tx K mg} {H : Hp} {p : Addr} {ws : List Int} {s : Nat} (h : Gu T H p ws s) {te : TE} {σ : L2.St} (he : Ev te σ H (.ref p)) : Ev (tCB (rIsi K) (tCons te (tCons (tC (.ref T.C_Guesser)) tNil))) σ H (.bl true) := by
  obtain ⟨⟨dx, d, h1, _⟩, _, _⟩ := h
  exact ev_isiC he h1 T.cl_Guesser T.is_Guesser
theorem list_no {T : Tx K mg} : PySem.W.kitOne K (.type "list") (.ref T.C_Guesser) = some false := by
  have hm := T.is_Guesser.2.2.2
  unfold PySem.W.mroIn at hm
  obtain ⟨cd, hc, _⟩ := Option.bind_eq_some_iff.mp hm
  unfold PySem.W.kitOne PySem.W.kitCls
  show (if (Value.type "list" == Value.ref T.C_Guesser) = true then some true else if ((W.clsIn K T.C_Guesser).isSome && W.typeIn K (Value.ref T.C_Guesser) == some (Value.type "type")) = true then W.subIn K (Value.type "list") (Value.ref T.C_Guesser) else none) = some false
  rw [T.ty_Guesser, hc, sub_list]
  simp
theorem Gu.shiftE {T : Tx K mg} {H : Hp} {p : Addr} {ws : List Int} {s : Nat} (h : Gu T H p ws s) {te : TE} {σ : L2.St} {E : XK} (he : Ev te σ H (.ref p)) : Ev (tMeth T.C_Guesser "shift" (sp_Guesser_shift T) [] E te tNil) σ H (.int (s : Int)) := by
  obtain ⟨dx, d, h1, _⟩ := h.ob
  exact ev_meth0 he h1 (gf_no _ _ (by decide +kernel) (by decide +kernel)) (spv fun H1 e Q q E => ⟨p, ws, s, rfl, h.ex e, q⟩)
theorem Gu.orderE {T : Tx K mg} {H : Hp} {p : Addr} {ws : List Int} {s : Nat} (h : Gu T H p ws s) {te : TE} {σ : L2.St} {E : XK} (he : Ev te σ H (.ref p)) : Ev (tMeth T.C_Guesser "order" (sp_Guesser_order T) [] E te tNil) σ H (.int (ws.length : Int)) := by
  obtain ⟨dx, d, h1, _⟩ := h.ob
  exact ev_meth0 he h1 (gf_no _ _ (by decide +kernel) (by decide +kernel)) (spv fun H1 e Q q E => ⟨p, ws, s, rfl, h.ex e, q⟩)
theorem Gu.weightsE {T : Tx K mg} {H : Hp} {p : Addr} {ws : List Int} {s : Nat} (h : Gu T H p ws s) {te : TE} {σ : L2.St} {E : XK} (he : Ev te σ H (.ref p)) : EvL (tMeth T.C_Guesser "weights" (sp_Guesser_weights T) [] E te tNil) σ H (ws.map V.int) := by
  obtain ⟨dx, d, h1, _⟩ := h.ob
  exact el_meth0 he h1 (gf_no _ _ (by decide +kernel) (by decide +kernel)) fun H1 e Q q E => ⟨p, ws, s, rfl, h.ex e, q⟩
end
theorem shl1 {m : Nat} (hm : m ≤ 1000) : CShl 1 (m : Int) := shl_ok (n := 2) (j := m) (by decide) (by omega)
theorem one_p (k : Nat) : (1 : Int) * 2 ^ (k : Int).toNat = 2 ^ k := by rw [Int.one_mul, Int.toNat_natCast]
section
variable {σ : L2.St} {H : Hp} {te : TE} {D : Ends} {tz : TS} {g : TG}
theorem q_par3 {i j l : Nat} {tr : TA} (k : tr σ H fun vs H1 => ∃ u v w, vs = [u, v, w] ∧ tz D (((σ.set i (some u)).set j (some v)).set l (some w)) H1) : tSeq (tPar3 i j l tr) tz D σ H := k
theorem q_gin (k : te σ H fun x H1 => g x σ H1 fun σ2 H2 => tz D σ2 H2) : tSeq (tAsg te g) tz D σ H := k
end
theorem pt_truthK {X : Cx} {K : PySem.W.Frag} {a : Expr} {ta : TE} (hK : X.K = K) (ha : PE X a ta) (he : ∀ whole, isTrue a X.env whole = (do let v ← whole; standAt a.pos; holding [v] (truthy v))) : PT X a (fun σ H Q => ta σ H fun x H' => ∃ k, TruV K x H' k ∧ Q k H') := by
  subst hK
  exact pt_truth ha he
theorem rv_mask {H : Hp} {i y : Int} {k : Nat} (h : y = 2 ^ k - 1) : RV (fun x y H Q => ∃ (i : Int) (k : Nat), x = .int i ∧ y = .int (2 ^ k - 1) ∧ Q (.int (i % 2 ^ k)) H) (.int i) (.int y) H (.int (i % 2 ^ k)) := fun H1 e Q q => ⟨i, k, rfl, by rw [h], q H1 (Ex.refl H1)⟩
theorem wsum_drop (row : List Int) (n : Nat) {ws : List Int} {i : Nat} {x : Int} (h : ws[i]? = some x) : wsum row n (ws.drop i) i = x * row.getD (n - 1 - i) 0 + wsum row n (ws.drop (i + 1)) (i + 1) := by
  obtain ⟨hl, e⟩ := List.getElem?_eq_some_iff.mp h
  rw [List.drop_eq_getElem_cons hl, e]
  rfl
section
variable {P : Program} {w : World} {K : PySem.W.Frag} {mg : Str → Option Value} {base : Heap}
theorem ok_is_number (T : Tx K mg) : FnOk P w K mg base CX0 1 T.a_is_number T.d_is_number ["value"] (sp_is_number T) := by
  refine T.f_is_number.ok (k := 0) sc_is_number (fun vs H Q E h => ?_) (fun cdv A outer s H vs Q E hr h => ?_)
  · obtain ⟨i, rfl, _⟩ := h
    rfl
  · obtain ⟨i, rfl, q⟩ := h
    refine ⟨_,       (pss_one (ps_ret (pe_and (pe_callB (id := "isinstance") (r := rIsi K) call_isi (by rfl) T.m_isinstance (by decide +kernel) (pa_cons (pv 0) (pa_cons (pe_bltn (by rfl) T.m_int (v := .ty "int") (by decide +kernel) rfl) pa_nil))) (pe_one (pe_not (pe_callB (id := "isinstance") (r := rIsi K) call_isi (by rfl) T.m_isinstance (by decide +kernel) (pa_cons (pv 0) (pa_cons (pe_bltn (by rfl) T.m_bool (v := .ty "bool") (by decide +kernel) rfl) pa_nil)))))))), ?_⟩
    exact s_ret (ev_andV (ev_isiI (b := true) (ev_var rfl) (by decide +kernel)) fun _ => ev_notV (ev_isiI (b := false) (ev_var rfl) (by decide +kernel))) q
theorem ok_is_within (T : Tx K mg) : FnOk P w K mg base CX0 2 T.a_is_within T.d_is_within ["value", "low", "high"] (sp_is_within T) := by
  refine T.f_is_within.ok (k := 1) sc_is_within (fun vs H Q E h => ?_) (fun cdv A outer s H vs Q E hr h => ?_)
  · obtain ⟨i, j, k, rfl, _⟩ := h
    rfl
  · obtain ⟨i, j, k, rfl, h1, h2, q⟩ := h
    refine ⟨_,       (pss_one (ps_ret (pe_and (pe_call (ok_is_number T) hr (by rfl) T.g_is_number T.f_is_number.kp T.b_is_number .nil pass0 (pa_cons (pv 0) pa_nil)) (pe_one (pe_chain op_le op_le (pv 1) (pv 0) (pv 2)))))), ?_⟩
    refine s_ret (ev_is (ev_andV (ev_call (ea_cons (ev_var rfl) ea_nil) (spv fun H1 e Q q E => ⟨i, rfl, q⟩)) fun _ => ev_chain (ev_var rfl) (ev_var rfl) rv_I0 (ev_var rfl) rv_I0) ?_) q
    rw [decide_eq_true h1, decide_eq_true h2]
    rfl
theorem ok_is_numbers (T : Tx K mg) : FnOk P w K mg base CX0 2 T.a_is_numbers T.d_is_numbers ["value"] (sp_is_numbers T) := by
  refine T.f_is_numbers.ok (k := 1) sc_is_numbers (fun vs H Q E h => ?_) (fun cdv A outer s H vs Q E hr h => ?_)
  · obtain ⟨a, fs, rfl, _⟩ := h
    rfl
  · obtain ⟨a, fs, rfl, hf, hl, q⟩ := h
    refine ⟨_,       (pss_one (ps_ret (pe_and (pe_callB (id := "isinstance") (r := rIsi K) call_isi (by rfl) T.m_isinstance (by decide +kernel) (pa_cons (pv 0) (pa_cons (pe_bltn (by rfl) T.m_list (v := .ty "list") (by decide +kernel) rfl) pa_nil))) (pe_one (pe_callB (id := "all") (r := rAll K) (cr_all rfl) (by rfl) T.m_all (by decide +kernel) (pa_cons (pe_lc (own := [("item", 1)]) (g := gName 1) (tt := tYes) rfl sc_is_numbers.nd (pi_list (pv 0)) (blkOk_by (own := [("item", 1)]) (N := ["value", "item"]) (sc := defScope s_is_numbers) (by decide +kernel)) (fun _ _ _ _ _ => (pg_name (i := 1) sc_is_numbers.nd rfl (by first | exact Or.inl rfl | exact Or.inr rfl))) (fun _ _ _ _ _ => pts_nil) (fun _ _ _ _ _ => (pe_call (ok_is_number T) hr (by rfl) T.g_is_number T.f_is_number.kp T.b_is_number .nil pass0 (pa_cons (pv 1) pa_nil)))) pa_nil)))))), ?_⟩
    refine s_ret (ev_is (ev_andV (ev_isiL (b := true) (ev_var rfl) hf (by decide +kernel)) fun _ => ev_allN (bs := fs.map fun _ => true) ?_) ?_) q
    · rw [List.map_map]
      exact el_map (0 : Int) (V.bl ∘ fun _ => true) (ev_var rfl) hf.sq (by omega) (fun _ => rfl) (fun x H1 e hx => ev_call (ea_cons (ev_var rfl) ea_nil) (spv fun H1 e Q q E => ⟨x, rfl, q⟩))
    · have : (fs.map fun _ => true).all id = true := by simp
      rw [this]
      rfl
theorem ok_check_within (T : Tx K mg) : FnOk P w K mg base CX0 3 T.a_check_within T.d_check_within ["number", "low", "high"] (sp_check_within T) := by
  refine T.f_check_within.ok (k := 2) sc_check_within (fun vs H Q E h => ?_) (fun cdv A outer s H vs Q E hr h => ?_)
  · obtain ⟨i, j, k, rfl, _⟩ := h
    rfl
  · obtain ⟨i, j, k, rfl, h1, h2, q⟩ := h
    refine ⟨_,       (pss_one (ps_if (pt_not (pt_val (pe_call (ok_is_within T) hr (by rfl) T.g_is_within T.f_is_within.kp T.b_is_within .nil pass0 (pa_cons (pv 0) (pa_cons (pv 1) (pa_cons (pv 2) pa_nil)))))) 
        (pss_one ps_never) pss_nil)), ?_⟩
    exact s_when (et_not (et_B (ev_call (ea_cons (ev_var rfl) (ea_cons (ev_var rfl) (ea_cons (ev_var rfl) ea_nil))) (spv fun H1 e Q q E => ⟨i, j, k, rfl, h1, h2, q⟩)))) (fun z => by cases z) (fun _ => q)
theorem ok_check_depth (T : Tx K mg) : FnOk P w K mg base CX0 3 T.a_check_depth T.d_check_depth ["depth", "most"] (sp_check_depth T) := by
  refine T.f_check_depth.ok (k := 2) sc_check_depth (fun vs H Q E h => ?_) (fun cdv A outer s H vs Q E hr h => ?_)
  · obtain ⟨i, j, rfl, _⟩ := h
    rfl
  · obtain ⟨i, j, rfl, h1, h2, q⟩ := h
    refine ⟨_,       (pss_one (ps_if (pt_not (pt_val (pe_call (ok_is_within T) hr (by rfl) T.g_is_within T.f_is_within.kp T.b_is_within .nil pass0 (pa_cons (pv 0) (pa_cons pe_int (pa_cons (pv 1) pa_nil)))))) 
        (pss_one ps_never) pss_nil)), ?_⟩
    exact s_when (et_not (et_B (ev_call (ea_cons (ev_var rfl) (ea_cons ev_c (ea_cons (ev_var rfl) ea_nil))) (spv fun H1 e Q q E => ⟨i, 1, j, rfl, h1, h2, q⟩)))) (fun z => by cases z) (fun _ => q)
theorem ok_least_sample (T : Tx K mg) : FnOk P w K mg base CX0 1 T.a_least_sample T.d_least_sample ["depth"] (sp_least_sample T) := by
  refine T.f_least_sample.ok (k := 0) sc_least_sample (fun vs H Q E h => ?_) (fun cdv A outer s H vs Q E hr h => ?_)
  · obtain ⟨d, rfl, _⟩ := h
    rfl
  · obtain ⟨d, rfl, h1, h2, q⟩ := h
    refine ⟨_,       (pss_one (ps_ret (pe_un un_neg (pe_op op_shlW pe_int (pe_op op_sub (pv 0) pe_int))))), ?_⟩
    refine s_ret (ev_is (ev_un (ev_op ev_c (ev_op (ev_var rfl) ev_c rv_I0) (rv_I ?_)) ru_neg) ?_) q
    · rw [show (d : Int) - 1 = ((d - 1 : Nat) : Int) by omega]
      exact shl1 (by omega)
    · rw [show (d : Int) - 1 = ((d - 1 : Nat) : Int) by omega, one_p]
theorem ok_greatest_sample (T : Tx K mg) : FnOk P w K mg base CX0 1 T.a_greatest_sample T.d_greatest_sample ["depth"] (sp_greatest_sample T) := by
  refine T.f_greatest_sample.ok (k := 0) sc_greatest_sample (fun vs H Q E h => ?_) (fun cdv A outer s H vs Q E hr h => ?_)
  · obtain ⟨d, rfl, _⟩ := h
    rfl
  · obtain ⟨d, rfl, h1, h2, q⟩ := h
    refine ⟨_,       (pss_one (ps_ret (pe_op op_sub (pe_op op_shlW pe_int (pe_op op_sub (pv 0) pe_int)) pe_int))), ?_⟩
    refine s_ret (ev_is (ev_op (ev_op ev_c (ev_op (ev_var rfl) ev_c rv_I0) (rv_I ?_)) ev_c rv_I0) ?_) q
    · rw [show (d : Int) - 1 = ((d - 1 : Nat) : Int) by omega]
      exact shl1 (by omega)
    · rw [show (d : Int) - 1 = ((d - 1 : Nat) : Int) by omega, one_p]
theorem ok_wrapped (T : Tx K mg) : FnOk P w K mg base CX0 1 T.a_wrapped T.d_wrapped ["number", "depth"] (sp_wrapped T) := by
  refine T.f_wrapped.ok (k := 0) sc_wrapped (fun vs H Q E h => ?_) (fun cdv A outer s H vs Q E hr h => ?_)
  · obtain ⟨z, d, rfl, _⟩ := h
    rfl
  · obtain ⟨z, d, rfl, h1, h2, q⟩ := h
    refine ⟨_,       (pss_cons (ps_set (i := 2) sc_wrapped.nd rfl (by first | exact Or.inl rfl | exact Or.inr rfl) (pe_op op_shlW pe_int (pe_op op_sub (pv 1) pe_int))) 
      (pss_one (ps_ret (pe_op op_sub (pe_op op_andM (pe_op op_add (pv 0) (pv 2)) (pe_op op_sub (pe_op op_shlW pe_int (pv 1)) pe_int)) (pv 2))))), ?_⟩
    refine q_asg (v := .int (2 ^ (d - 1))) (ev_is (ev_op ev_c (ev_op (ev_var rfl) ev_c rv_I0) (rv_I ?_)) ?_) fun H1 e1 => ?_
    · rw [show (d : Int) - 1 = ((d - 1 : Nat) : Int) by omega]
      exact shl1 (by omega)
    · rw [show (d : Int) - 1 = ((d - 1 : Nat) : Int) by omega, one_p]
    refine s_ret (ev_op (ev_op (ev_op (ev_var rfl) (ev_var rfl) rv_I0) (ev_is (v := .int (1 * 2 ^ (d : Int).toNat - 1)) (ev_op (ev_op ev_c (ev_var rfl) (rv_I (shl1 (by omega)))) ev_c rv_I0) rfl) (rv_mask (k := d) (by rw [one_p]))) (ev_var rfl) rv_I0) fun H2 e2 => ?_
    exact q H2 (e1.trans e2)
theorem ok_is_samples (T : Tx K mg) : FnOk P w K mg base CX0 2 T.a_is_samples T.d_is_samples ["value", "depth"] (sp_is_samples T) := by
  refine T.f_is_samples.ok (k := 1) sc_is_samples (fun vs H Q E h => ?_) (fun cdv A outer s H vs Q E hr h => ?_)
  · obtain ⟨a, row, d, rfl, _⟩ := h
    rfl
  · obtain ⟨a, row, d, rfl, h1, h2, ha, hl, hs, q⟩ := h
    refine ⟨_,       (pss_cons (ps_if (pt_not (pt_val (pe_callB (id := "isinstance") (r := rIsi K) call_isi (by rfl) T.m_isinstance (by decide +kernel) (pa_cons (pv 0) (pa_cons (pe_bltn (by rfl) T.m_list (v := .ty "list") (by decide +kernel) rfl) pa_nil))))) 
        (pss_one (ps_ret pe_bl)) pss_nil) 
      (pss_cons (ps_asg (pe_tup (pa_cons (pe_call (ok_least_sample T) hr (by rfl) T.g_least_sample T.f_least_sample.kp T.b_least_sample .nil pass0 (pa_cons (pv 1) pa_nil)) (pa_cons (pe_call (ok_greatest_sample T) hr (by rfl) T.g_greatest_sample T.f_greatest_sample.kp T.b_greatest_sample .nil pass0 (pa_cons (pv 1) pa_nil)) pa_nil))) (pg_tup rfl (pgs_cons (pg_name (i := 2) sc_is_samples.nd rfl (by first | exact Or.inl rfl | exact Or.inr rfl)) (pgs_cons (pg_name (i := 3) sc_is_samples.nd rfl (by first | exact Or.inl rfl | exact Or.inr rfl)) pgs_nil)))) 
      (pss_one (ps_ret (pe_callB (id := "all") (r := rAll K) (cr_all rfl) (by rfl) T.m_all (by decide +kernel) (pa_cons (pe_lc (own := [("sample", 4)]) (g := gName 4) (tt := tYes) rfl sc_is_samples.nd (pi_list (pv 0)) (blkOk_by (own := [("sample", 4)]) (N := ["value", "depth", "low", "high", "sample"]) (sc := defScope s_is_samples) (by decide +kernel)) (fun _ _ _ _ _ => (pg_name (i := 4) sc_is_samples.nd rfl (by first | exact Or.inl rfl | exact Or.inr rfl))) (fun _ _ _ _ _ => pts_nil) (fun _ _ _ _ _ => (pe_and (pe_call (ok_is_number T) hr (by rfl) T.g_is_number T.f_is_number.kp T.b_is_number .nil pass0 (pa_cons (pv 4) pa_nil)) (pe_one (pe_chain op_le op_le (pv 2) (pv 4) (pv 3)))))) pa_nil)))))), ?_⟩
    refine q_when (b := false) (et_not (a := true) (et_B (ev_isiL (b := true) (ev_var rfl) ha (by decide +kernel)))) (fun z => by cases z) fun _ H1 e1 => ?_
    refine q_gin (tup_in (ta_consV (v := .int (-(2 ^ (d - 1)))) (ev_call (ea_cons (ev_var rfl) ea_nil) (spv fun H2 e Q q E => ⟨d, rfl, h1, h2, q⟩)) fun H2 e2 => ta_consV (v := .int (2 ^ (d - 1) - 1)) (ev_call (ea_cons (ev_var rfl) ea_nil) (spv fun H2 e Q q E => ⟨d, rfl, h1, h2, q⟩)) fun H3 e3 => ta_nil ⟨by show 2 ≤ sizeLine; decide, fun pt hpt => ?_⟩))
    have x4 := Ex.new (o := .tup [V.int (-(2 ^ (d - 1))), V.int (2 ^ (d - 1) - 1)]) hpt
    refine ⟨pt, _, rfl, st_of upd_same, rfl, _, _, rfl, _, _, rfl, rfl, ?_⟩
    have e13 := ((e1.trans e2).trans e3).trans x4
    refine s_ret (ev_is (ev_allN (K := K) (bs := row.map fun _ => true) ?_) (by simp)) fun H4 e4 => q H4 (e13.trans e4)
    rw [List.map_map]
    refine el_map (0 : Int) (V.bl ∘ fun _ => true) (ev_var rfl) (ha.ex e13).sq (by omega) (fun _ => rfl) (fun x H1 e hx => ?_)
    have hx := hs x hx
    exact ev_is (ev_andV (a := true) (ev_call (ea_cons (ev_var rfl) ea_nil) (spv fun H1 e Q q E => ⟨x, rfl, q⟩)) fun _ => ev_chain (ev_var rfl) (ev_var rfl) rv_I0 (ev_var rfl) rv_I0) (by rw [decide_eq_true hx.1, decide_eq_true hx.2]; rfl)
theorem ok_check_samples (T : Tx K mg) : FnOk P w K mg base CX0 3 T.a_check_samples T.d_check_samples ["row", "depth"] (sp_check_samples T) := by
  refine T.f_check_samples.ok (k := 2) sc_check_samples (fun vs H Q E h => ?_) (fun cdv A outer s H vs Q E hr h => ?_)
  · obtain ⟨a, row, d, rfl, _⟩ := h
    rfl
  · obtain ⟨a, row, d, rfl, h1, h2, ha, hl, hs, q⟩ := h
    refine ⟨_,       (pss_one (ps_if (pt_not (pt_val (pe_call (ok_is_samples T) hr (by rfl) T.g_is_samples T.f_is_samples.kp T.b_is_samples .nil pass0 (pa_cons (pv 0) (pa_cons (pv 1) pa_nil))))) 
        (pss_one ps_never) pss_nil)), ?_⟩
    exact s_when (b := false) (et_not (a := true) (et_B (ev_call (ea_cons (ev_var rfl) (ea_cons (ev_var rfl) ea_nil)) (spv fun H1 e Q q E => ⟨a, row, d, rfl, h1, h2, ha.ex e, hl, hs, q⟩)))) (fun z => by cases z) (fun _ => q)
theorem ok_Guesser___init__ (T : Tx K mg) : FnOk P w K mg base CX0 4 T.a_Guesser___init__ T.d_Guesser___init__ ["self", "weights", "shift"] (sp_Guesser___init__ T) := by
  refine T.f_Guesser___init__.ok (k := 3) sc_Guesser___init__ (fun vs H Q E h => ?_) (fun cdv A outer s H vs Q E hr h => ?_)
  · obtain ⟨p, dx, a, ws, s, rfl, _⟩ := h
    rfl
  · obtain ⟨p, dx, a, ws, s, rfl, hp, ha, hw, hs, q⟩ := h
    refine ⟨_,       (pss_cons (ps_if (PW.pt (pw_or (pt_not (pt_val (pe_callB (id := "isinstance") (r := rIsi K) call_isi (by rfl) T.m_isinstance (by decide +kernel) (pa_cons (pv 1) (pa_cons (pe_bltn (by rfl) T.m_list (v := .ty "list") (by decide +kernel) rfl) pa_nil))))) (pw_or1 (pt_cmpR op_gt (pe_callB (id := "len") (r := rLenS K) call_len_seq (by rfl) T.m_len PySem.boot_len (pa_cons (pv 1) pa_nil)) (pe_glob (v := .int 8) rfl T.c_MOST_WEIGHTS ⟨_, rfl⟩) (nomark _))))) 
        (pss_one ps_never) pss_nil) 
      (pss_cons (ps_for PassesOwn.never rfl (pi_list (pv 1)) (pg_name (i := 3) sc_Guesser___init__.nd rfl (by first | exact Or.inl rfl | exact Or.inr rfl)) 
        (pss_one (ps_if (pt_not (pt_val (pe_call (ok_is_within T) (hr.mono (by decide)) (by rfl) T.g_is_within T.f_is_within.kp T.b_is_within .nil pass0 (pa_cons (pv 3) (pa_cons (pe_un un_neg (pe_glob (v := .int 32768) rfl T.c_GREATEST_WEIGHT ⟨_, rfl⟩)) (pa_cons (pe_glob (v := .int 32768) rfl T.c_GREATEST_WEIGHT ⟨_, rfl⟩) pa_nil)))))) 
          (pss_one ps_never) pss_nil))) 
      (pss_cons (ps_expr (pe_call (ok_check_within T) hr (by rfl) T.g_check_within T.f_check_within.kp T.b_check_within .nil pass0 (pa_cons (pv 2) (pa_cons pe_int (pa_cons (pe_glob (v := .int 15) rfl T.c_GREATEST_SHIFT ⟨_, rfl⟩) pa_nil))))) 
      (pss_cons (ps_fld (pv 0) (pe_callTy (T := "list") (r := rListS K) call_list_of (by rfl) T.m_list (by decide +kernel) (pa_cons (pv 1) pa_nil)) rfl) 
      (pss_one (ps_fld (pv 0) (pv 2) rfl)))))), ?_⟩
    refine q_when (b := false) (et_or (a := false) (et_not (a := true) (et_B (ev_isiL (b := true) (ev_var rfl) ha (by decide +kernel)))) fun _ => et_is (et_test (ev_op (ev_len (K := K) (ev_var rfl) ha.sq) ev_c rv_I0)) ?_) (fun z => by cases z) (fun _ H1 e1 => ?_)
    · have := hw.1
      rw [List.length_map]
      exact decide_eq_false (by omega)
    refine q_forLn (xs := ws.map V.int) (K := K) (ev_var rfl) (ha.ex e1).sq (fun i σ' H' => ∃ y, σ' = [some (.ref p), some (.ref a), some (.int (s : Int)), y] ∧ Ex H H') (fun H2 e2 => ⟨none, rfl, e1.trans e2⟩) (fun i σ' H' _ hP => ?_) (fun i x σ' H' hx hP => ?_) (fun σ' H' hP => ?_)
    · obtain ⟨y, _, e⟩ := hP
      exact (ha.ex e).sq
    · obtain ⟨y, rfl, e⟩ := hP
      have hm := List.mem_of_getElem? hx
      obtain ⟨z, hz, rfl⟩ := List.mem_map.mp hm
      have := hw.2 z hz
      exact s_when (b := false) (et_not (a := true) (et_B (ev_call (ea_cons (ev_var rfl) (ea_cons (ev_un ev_c ru_neg) (ea_cons ev_c ea_nil))) (spv fun H1 e Q q E => ⟨z, -32768, 32768, rfl, by omega, by omega, q⟩)))) (fun z => by cases z) (fun _ H2 e2 => ⟨_, rfl, e.trans e2⟩)
    obtain ⟨y, rfl, e⟩ := hP
    refine q_drop (ev_call (ea_cons (ev_var rfl) (ea_cons ev_c (ea_cons ev_c ea_nil))) (spv fun H1 e Q q E => ⟨(s : Int), 0, 15, rfl, by omega, by omega, q⟩)) fun H2 e2 => ?_
    have e02 := e.trans e2
    -- self._weights = list(weights)
    refine ⟨.ref a, rfl, a, _, rfl, Or.inl (ha.ex e02).sq, fun d hd => ?_⟩
    have npd : p ≠ d := ne_of_none (e02 _ _ hp) hd
    refine ⟨.ref p, rfl, p, T.C_Guesser, dx, [], rfl, by rw [upd_ne npd]; exact e02 _ _ hp, T.cl_Guesser, T.n_Guesser__weights, by show 0 < 1000; decide, ?_⟩
    refine ⟨.int (s : Int), rfl, .ref p, rfl, p, T.C_Guesser, dx, _, rfl, upd_same, T.cl_Guesser, T.n_Guesser__shift, by show 1 < 1000; decide, ?_⟩
    refine q _ ⟨⟨dx, d, upd_same, ?_, fresh_back e02 hd⟩, hw, hs⟩ fun b o hb h => ?_
    · show _ = _
      rw [upd_ne npd.symm, upd_ne npd.symm, upd_same]
    · rw [upd_ne hb, upd_ne hb, upd_ne (ne_of_none (e02 _ _ h) hd)]
      exact e02 _ _ h
theorem ok_Guesser_weights (T : Tx K mg) : FnOk P w K mg base CX0 1 T.a_Guesser_weights T.d_Guesser_weights ["self"] (sp_Guesser_weights T) := by
  refine T.f_Guesser_weights.ok (k := 0) sc_Guesser_weights (fun vs H Q E h => ?_) (fun cdv A outer s H vs Q E hr h => ?_)
  · obtain ⟨p, ws, s, rfl, _⟩ := h
    rfl
  · obtain ⟨p, ws, s, rfl, hg, q⟩ := h
    obtain ⟨dx, d, h1, h2⟩ := hg.ob
    refine ⟨_,       (pss_one (ps_ret (pe_callTy (T := "list") (r := rListS K) call_list_of (by rfl) T.m_list (by decide +kernel) (pa_cons (pe_fld (pv 0) rfl) pa_nil)))), ?_⟩
    exact s_retL (el_list (K := K) (ev_fld (ev_var rfl) h1 T.cl_Guesser T.n_Guesser__weights (gf_w _ _)) h2.sq) q
theorem ok_Guesser_shift (T : Tx K mg) : FnOk P w K mg base CX0 1 T.a_Guesser_shift T.d_Guesser_shift ["self"] (sp_Guesser_shift T) := by
  refine T.f_Guesser_shift.ok (k := 0) sc_Guesser_shift (fun vs H Q E h => ?_) (fun cdv A outer s H vs Q E hr h => ?_)
  · obtain ⟨p, ws, s, rfl, _⟩ := h
    rfl
  · obtain ⟨p, ws, s, rfl, hg, q⟩ := h
    obtain ⟨dx, d, h1, h2⟩ := hg.ob
    refine ⟨_,       (pss_one (ps_ret (pe_fld (pv 0) rfl))), ?_⟩
    exact s_ret (ev_fld (ev_var rfl) h1 T.cl_Guesser T.n_Guesser__shift (gf_s _ _)) q
theorem ok_Guesser_order (T : Tx K mg) : FnOk P w K mg base CX0 1 T.a_Guesser_order T.d_Guesser_order ["self"] (sp_Guesser_order T) := by
  refine T.f_Guesser_order.ok (k := 0) sc_Guesser_order (fun vs H Q E h => ?_) (fun cdv A outer s H vs Q E hr h => ?_)
  · obtain ⟨p, ws, s, rfl, _⟩ := h
    rfl
  · obtain ⟨p, ws, s, rfl, hg, q⟩ := h
    obtain ⟨dx, d, h1, h2⟩ := hg.ob
    refine ⟨_,       (pss_one (ps_ret (pe_callB (id := "len") (r := rLenS K) call_len_seq (by rfl) T.m_len PySem.boot_len (pa_cons (pe_fld (pv 0) rfl) pa_nil)))), ?_⟩
    refine s_ret (ev_len (K := K) (ev_fld (ev_var rfl) h1 T.cl_Guesser T.n_Guesser__weights (gf_w _ _)) h2.sq) ?_
    rw [List.length_map]
    exact q
theorem ok_Guesser___eq__ (T : Tx K mg) : FnOk P w K mg base CX0 1 T.a_Guesser___eq__ T.d_Guesser___eq__ ["self", "other"] (sp_Guesser___eq__ T) := by
  refine T.f_Guesser___eq__.ok (k := 0) sc_Guesser___eq__ (fun vs H Q E h => ?_) (fun cdv A outer s H vs Q E hr h => ?_)
  · obtain ⟨p, ws, s, y, b, rfl, _⟩ := h
    rfl
  · obtain ⟨p, ws, s, y, b, rfl, g1, hy, q⟩ := h
    obtain ⟨dx, d, h1, h2⟩ := g1.ob
    refine ⟨_,       (pss_one (ps_ret (pe_and (pe_callB (id := "isinstance") (r := rIsi K) call_isi (by rfl) T.m_isinstance (by decide +kernel) (pa_cons (pv 1) (pa_cons (pe_glob (v := .ref T.C_Guesser) rfl T.gC_Guesser rfl) pa_nil))) (pe_and (pe_cmpR (op_eqD hr.units) (pe_fld (pv 0) rfl) (pe_fld (pv 1) rfl) (nomark _)) (pe_one (pe_cmpR op_eq (pe_fld (pv 0) rfl) (pe_fld (pv 1) rfl) (nomark _))))))), ?_⟩
    rcases hy with ⟨r, vs, t, rfl, g2, rfl⟩ | ⟨a, xs, rfl, ha, rfl⟩
    · obtain ⟨dy, d', h3, h4⟩ := g2.ob
      refine s_ret (ev_is (ev_andV (b := decide (ws = vs) && decide (s = t)) (g2.isi (ev_var rfl)) fun _ => ev_is (ev_andV (ev_op (ev_fld (ev_var rfl) h1 T.cl_Guesser T.n_Guesser__weights (gf_w _ _)) (ev_fld (ev_var rfl) h3 T.cl_Guesser T.n_Guesser__weights (gf_w _ _)) (rv_eqI (K := K) h2.sq h4.sq)) fun _ => ev_op (ev_fld (ev_var rfl) h1 T.cl_Guesser T.n_Guesser__shift (gf_s _ _)) (ev_fld (ev_var rfl) h3 T.cl_Guesser T.n_Guesser__shift (gf_s _ _)) (rv_eq rfl)) ?_) rfl) q
      congr 2
      refine decide_eq_decide.mpr ⟨fun h => by have := V.int.inj h; omega, fun h => by rw [h]⟩
    · refine s_ret (v := .bl false) (ev_is (ev_andV (a := false) (b := false) ?_ fun z => by cases z) rfl) q
      exact fun H1 e Q q => ⟨.ref a, rfl, .ref a, .ref T.C_Guesser, .type "list", .ref T.C_Guesser, false, rfl, ClsV.own T.C_Guesser, TyX.base (TyOf.lst (e _ _ ha)), list_no, q H1 (Ex.refl H1)⟩
theorem ok_check_guesser (T : Tx K mg) : FnOk P w K mg base CX0 1 T.a_check_guesser T.d_check_guesser ["guesser"] (sp_check_guesser T) := by
  refine T.f_check_guesser.ok (k := 0) sc_check_guesser (fun vs H Q E h => ?_) (fun cdv A outer s H vs Q E hr h => ?_)
  · obtain ⟨p, ws, s, rfl, _⟩ := h
    rfl
  · obtain ⟨p, ws, s, rfl, hg, q⟩ := h
    refine ⟨_,       (pss_one (ps_if (pt_not (pt_val (pe_callB (id := "isinstance") (r := rIsi K) call_isi (by rfl) T.m_isinstance (by decide +kernel) (pa_cons (pv 0) (pa_cons (pe_glob (v := .ref T.C_Guesser) rfl T.gC_Guesser rfl) pa_nil))))) 
        (pss_one ps_never) pss_nil)), ?_⟩
    exact s_when (b := false) (et_not (a := true) (et_B (hg.isi (ev_var rfl)))) (fun z => by cases z) (fun _ => q)
theorem ok_weighed (T : Tx K mg) : FnOk P w K mg base CX0 1 T.a_weighed T.d_weighed ["weights", "row", "at"] (sp_weighed T) := by
  refine T.f_weighed.ok (k := 0) sc_weighed (fun vs H Q E h => ?_) (fun cdv A outer s H vs Q E hr h => ?_)
  · obtain ⟨a, b, ws, row, n, rfl, _⟩ := h
    rfl
  · obtain ⟨a, b, ws, row, n, rfl, ha, hw, hb, hnr, hr1, hl, q⟩ := h
    refine ⟨_,       (pss_cons (ps_set (i := 3) sc_weighed.nd rfl (by first | exact Or.inl rfl | exact Or.inr rfl) pe_int) 
      (pss_cons (ps_for PassesOwn.never rfl (pi_enum (by rfl) T.m_enumerate (pa_cons (pv 0) pa_nil)) (pg_tup rfl (pgs_cons (pg_name (i := 4) sc_weighed.nd rfl (by first | exact Or.inl rfl | exact Or.inr rfl)) (pgs_cons (pg_name (i := 5) sc_weighed.nd rfl (by first | exact Or.inl rfl | exact Or.inr rfl)) pgs_nil))) 
        (pss_one (ps_aug (i := 3) sc_weighed.nd rfl (by first | exact Or.inl rfl | exact Or.inr rfl) (pe_op op_mul (pv 5) (pe_ix (r := rIxL K) ix_list (pv 1) (pe_op op_sub (pe_op op_sub (pv 2) pe_int) (pv 4)) (fun _ _ => rfl))) ip_add))) 
      (pss_one (ps_ret (pv 3))))), ?_⟩
    refine q_asg ev_c fun H1 e1 => ?_
    refine s_forEnum (D := { nx := _, rt := Q, bk := _, ct := _ }) (K := K) (xs := ws.map V.int) (ea_cons (ev_var rfl) ea_nil) (ha.ex e1).sq (fun i σ' H' => ∃ (t : Int) (y4 y5 : Option V), σ' = [some (.ref a), some (.ref b), some (.int (n : Int)), some (.int t), y4, y5] ∧ Ex H H' ∧ t + wsum row n (ws.drop i) i = wsum row n ws 0) (fun H2 e2 => ⟨0, none, none, rfl, e1.trans e2, by rw [List.drop_zero, Int.zero_add]⟩) (fun i σ' H' _ hP => ?_) (fun i x σ' H' hx hP T' hT => ?_) (fun σ' H' hP => ?_)
    · obtain ⟨t, y4, y5, _, e, _⟩ := hP
      exact (ha.ex e).sq
    · obtain ⟨t, y4, y5, rfl, e, ht⟩ := hP
      rw [List.getElem?_map] at hx
      cases hq : ws[i]? with
      | none => rw [hq] at hx; cases hx
      | some z =>
        rw [hq] at hx
        have ez : V.int z = x := Option.some.inj hx
        subst ez
        have hi := (List.getElem?_eq_some_iff.mp hq).1
        have hz := hw.2 z (List.mem_of_getElem? hq)
        have eT := e.trans (Ex.new (o := .tup [V.int (i : Int), V.int z]) hT)
        refine ⟨T', [V.int (i : Int), V.int z], rfl, Or.inl (Or.inl upd_same), rfl, V.int (i : Int), [V.int z], rfl, V.int z, [], rfl, rfl, ?_⟩
        have hrow : row[n - 1 - i]? = some (row.getD (n - 1 - i) 0) := by
          rw [List.getD_eq_getElem?_getD, List.getElem?_eq_getElem (by omega)]
          rfl
        refine s_aug (f := fun i j => i + j) rfl (ev_op (ev_var rfl) (ev_op (ev_var rfl) (ev_op (ev_op (ev_var rfl) ev_c rv_I0) (ev_var rfl) rv_I0) (rv_ixL (K := K) (v := .int (row.getD (n - 1 - i) 0)) (hb.ex eT).sq (at_of (j := n - 1 - i) (by omega) (by rw [List.getElem?_map, hrow]; rfl)))) (rv_I (Or.inl ⟨by omega, by omega⟩))) fun H2 e2 => ?_
        refine ⟨_, some (V.int (i : Int)), some (V.int z), rfl, eT.trans e2, ?_⟩
        rw [← ht, wsum_drop row n hq]
        omega
    · obtain ⟨t, y4, y5, rfl, e, ht⟩ := hP
      rw [List.length_map, List.drop_length] at ht
      have ht : t + 0 = wsum row n ws 0 := ht
      refine s_ret (ev_var rfl) fun H3 e3 => ?_
      have : t = wsum row n ws 0 := by omega
      subst this
      exact q H3 (e.trans e3)
end
end K10

set_option Elab.async false
set_option linter.all false
set_option maxRecDepth 100000
set_option maxHeartbeats 4000000
set_option exponentiation.threshold 3000
namespace K10
open PySem PySem.Spec PyProof.Rows L2 Evl WS M50 M10
open PySem.W (mcComb)
section
variable {σ : L2.St} {H : Hp} {ta tb te tl : TE} {D : Ends} {tz : TS} {K : PySem.W.Frag} {t : TT}
/-- [f(i) for i in range(lo, hi)] -/
theorem el_mapR2 {a : TA} {j : Nat} {vs : List Nat} {lo n : Nat} {hi : Int} (f : Nat → Int) (h : EvA a σ H [.int (lo : Int), .int hi]) (hh : (hi - lo).toNat = n) (hb : lo ≤ 40000 ∧ 0 ≤ hi ∧ hi ≤ 40000) (hw : ∀ x, wipe ((wipe σ vs).set j (some x)) vs = wipe σ vs)
    (he : ∀ (i : Nat) H1, Ex H H1 → i < n → Ev te ((wipe σ vs).set j (some (.int ((lo + i : Nat) : Int)))) H1 (.int (f i))) : EvL (tLc (iRng2 a) (gName j) tYes te vs) σ H (((List.range n).map f).map V.int) := fun H0 e Q q => h H0 e _ fun H1 e1 => by
  refine ⟨_, _, rfl, by omega, fun D hD => ?_⟩
  rw [hh]
  refine lc_range (lo := (lo : Int)) (n := n) (fun i H' => Ex H1 H' ∧ H' D = some (.lst (((List.range i).map f).map V.int))) ⟨Ex.new hD, upd_same⟩ (fun i H' hi p' => ?_) (fun H' p' => q D H' (fresh_back e1 hD) (e1.trans p'.1) p'.2)
  obtain ⟨e2, ha⟩ := p'
  refine ⟨hw _, ?_⟩
  unfold tYes
  dsimp only
  rw [if_pos rfl]
  have ec : (lo : Int) + (i : Int) = ((lo + i : Nat) : Int) := by omega
  show te ((wipe σ vs).set j (some (.int ((lo : Int) + (i : Int))))) H' _
  rw [ec]
  refine ev_use (he i H' ((e.trans e1).trans e2) hi) fun H4 e4 => ⟨_, e4 _ _ ha, sz_lt (by rw [List.length_map, List.length_map, List.length_range]; omega), Ex.mut (e2.trans e4) hD, ?_⟩
  rw [upd_same, List.range_succ, List.map_append, List.map_append]
  rfl
/-- [f(x) for x in a new list] -/
theorem el_mapN {j : Nat} {vs : List Nat} {α : Type} (d : α) {xs : List α} {c : α → V} (f : α → V) (h : EvL tl σ H (xs.map c)) (hz : xs.length ≤ 40000) (hw : ∀ x, wipe ((wipe σ vs).set j (some x)) vs = wipe σ vs)
    (he : ∀ (x : α) H1, Ex H H1 → x ∈ xs → Ev te ((wipe σ vs).set j (some (c x))) H1 (f x)) : EvL (tLc (iList K tl) (gName j) tYes te vs) σ H (xs.map f) := by
  rw [← given_map xs d f]
  have hl : (xs.map c).length = xs.length := List.length_map _
  rw [← hl]
  refine el_lcNL (fun _ => true) _ h (by rw [hl]; exact hz) hw (fun i x H1 e hi => fun H2 _ Q q => q H2 (Ex.refl H2)) (fun i x H1 e hi _ => ?_)
  rw [List.getElem?_map] at hi
  cases hq : xs[i]? with
  | none => rw [hq] at hi; cases hi
  | some y =>
    rw [hq] at hi
    have ey : c y = x := Option.some.inj hi
    rw [← ey, List.getD_eq_getElem?_getD, hq]
    exact he y H1 e (List.mem_of_getElem? hq)
theorem et_odd {n : Nat} (ha : Ev ta σ H (.int (n : Int))) (hb : Ev tb σ H (.int 1)) : EvT (fun σ H Q => tOp (fun x y H Q => ∃ n : Nat, x = .int (n : Int) ∧ y = .int 1 ∧ Q (.int ((n % 2 : Nat) : Int)) H) ta tb σ H fun x H' => ∃ k, TruV K x H' k ∧ Q k H') σ H (decide (n % 2 = 1)) := fun H1 e Q q =>
  ha H1 e _ fun H2 e2 => hb H2 (e.trans e2) _ fun H3 e3 => ⟨n, rfl, rfl, _, (show decide (n % 2 = 1) = (((n % 2 : Nat) : Int) != 0) from by
    rcases Nat.mod_two_eq_zero_or_one n with z | z
    · rw [z]; rfl
    · rw [z]; rfl), q H3 (e2.trans e3)⟩
end
theorem take_cut (xs : List Int) (n : Nat) : cutV (xs.map V.int) none (some (n : Int)) = (xs.take n).map V.int := by
  unfold cutV
  rw [HT.sIx_none, HT.sIx_nat, List.length_map]
  rw [List.drop_zero, Nat.sub_zero, ← List.map_take]
  congr 1
  by_cases c : n ≤ xs.length
  · rw [Nat.min_eq_left c]
  · rw [Nat.min_eq_right (by omega), List.take_of_length_le (Nat.le_refl _), List.take_of_length_le (by omega)]
theorem stw_all : ((List.range 9).all fun o => ((List.range o).all fun i => let z := if (1 + i) % 2 = 1 then PySem.W.mcComb (o : Int) ((1 + i : Nat) : Int) else -PySem.W.mcComb (o : Int) ((1 + i : Nat) : Int); decide (-32768 ≤ z) && decide (z ≤ 32768))) = true := by decide +kernel
def stw (o : Nat) : List Int := (List.range o).map fun i => if (1 + i) % 2 = 1 then PySem.W.mcComb (o : Int) ((1 + i : Nat) : Int) else -PySem.W.mcComb (o : Int) ((1 + i : Nat) : Int)
theorem stw_wb {o : Nat} (h : o ≤ 8) : Wb 32768 8 (stw o) := by
  refine ⟨by unfold stw; rw [List.length_map, List.length_range]; exact h, fun x hx => ?_⟩
  unfold stw at hx
  obtain ⟨i, hi, rfl⟩ := List.mem_map.mp hx
  have k := List.all_eq_true.mp (List.all_eq_true.mp stw_all o (List.mem_range.mpr (by omega))) i hi
  dsimp only at k
  rw [Bool.and_eq_true] at k
  exact ⟨of_decide_eq_true k.1, of_decide_eq_true k.2⟩
section
variable {K : PySem.W.Frag} {mg : Str → Option Value}
def sp_unwrapped_rests (T : Tx K mg) : Sp := fun vs H Q _ => ∃ p b ws s row, vs = [.ref p, .ref b] ∧ Gu T H p ws s ∧ Li H b row ∧ row.length ≤ 1000 ∧ RetL ((ur ws s row).map V.int) H Q
def sp_rests (T : Tx K mg) : Sp := fun vs H Q _ => ∃ p b ws s row, ∃ d : Nat, vs = [.ref p, .int (d : Int), .ref b] ∧ 1 ≤ d ∧ d ≤ 32 ∧ Gu T H p ws s ∧ Li H b row ∧ row.length ≤ 1000 ∧ M10.Smp d row ∧ RetL ((rst ws s d row).map V.int) H Q
def sp_row_of (T : Tx K mg) : Sp := fun vs H Q _ => ∃ p b ws s rs, ∃ d : Nat, vs = [.ref p, .int (d : Int), .ref b] ∧ 1 ≤ d ∧ d ≤ 32 ∧ Gu T H p ws s ∧ Li H b rs ∧ rs.length ≤ 1000 ∧ M10.Smp d rs ∧ RetL ((ru ws s d rs rs.length).map V.int) H Q
def sp_plain_rests (T : Tx K mg) : Sp := fun vs H Q _ => ∃ p b ws s row, vs = [.ref p, .ref b] ∧ Gu T H p ws s ∧ Li H b row ∧ row.length ≤ 1000 ∧ RetL ((ur ws s row).map V.int) H Q
def sp_guess (T : Tx K mg) : Sp := fun vs H Q _ => ∃ p b ws s row, vs = [.ref p, .ref b] ∧ Gu T H p ws s ∧ Li H b row ∧ row.length ≤ 1000 ∧ ws.length ≤ row.length ∧ RetV (.int (wsum row row.length ws 0 / 2 ^ s)) H Q
def sp_steps (T : Tx K mg) : Sp := fun vs H Q _ => ∃ o : Nat, vs = [.int (o : Int)] ∧ o ≤ 8 ∧ ∀ p H2, H p = none → Ex H H2 → Gu T H2 p (stw o) 0 → Q (.ref p) H2
/-- Guesser(a list, a shift) -/
theorem gu_make {T : Tx K mg} {σ : L2.St} {H : Hp} {ta : TA} {a : Addr} {ws : List Int} {s : Nat} {E : XK} {Q : VK} (he : EvA ta σ H [.ref a, .int (s : Int)]) (ha : Li H a ws) (hw : Wb 32768 8 ws) (hs : s ≤ 15)
    (k : ∀ x H2, H x = none → Ex H H2 → GuN T H H2 x ws s → Q (.ref x) H2) : tMake T.C_Guesser (sp_Guesser___init__ T) [] E ta σ H Q :=
  he H (Ex.refl H) _ fun H1 e1 x dx hx hdx ne => by
    have l1 := ha.ex e1
    have n1 : a ≠ x := ne_of_none l1 hx
    have n2 : a ≠ dx := ne_of_none l1 hdx
    refine ⟨x, dx, a, ws, s, rfl, upd_same, ?_, hw, hs, fun H' g kp => ⟨rfl, k x H' (fresh_back e1 hx) (fun b o h => ?_) (g.old fun b hb => fresh_back e1 (by
      by_cases c1 : b = x
      · rw [c1, upd_same] at hb; cases hb
      · rw [upd_ne c1] at hb
        by_cases c2 : b = dx
        · rw [c2, upd_same] at hb; cases hb
        · rw [upd_ne c2] at hb; exact hb))⟩⟩
    · show _ = _
      rw [upd_ne n1, upd_ne n2]
      exact l1
    · have h1 := e1 b o h
      have hb : b ≠ x := ne_of_none h1 hx
      have hb2 : b ≠ dx := ne_of_none h1 hdx
      exact kp b o hb (by rw [upd_ne hb, upd_ne hb2]; exact h1)
/-- Guesser(a new list, a shift) -/
theorem gu_makeN {T : Tx K mg} {σ : L2.St} {H : Hp} {ta tb : TE} {ws : List Int} {s : Nat} {E : XK} {Q : VK} (hl : EvL ta σ H (ws.map V.int)) (hb : ∀ H1, Ex H H1 → Ev tb σ H1 (.int (s : Int))) (hw : Wb 32768 8 ws) (hs : s ≤ 15)
    (k : ∀ x H2, H x = none → Ex H H2 → GuN T H H2 x ws s → Q (.ref x) H2) : tMake T.C_Guesser (sp_Guesser___init__ T) [] E (tCons ta (tCons tb tNil)) σ H Q := by
  refine ta_consL hl fun a H1 ha e1 ka => ta_consV (hb H1 e1) fun H2 e2 => ?_
  have := gu_make (T := T) (σ := σ) (H := H2) (ta := tCons (tC (.ref a)) (tCons (tC (.int (s : Int))) tNil)) (E := E) (Q := Q) (ea_cons ev_c (ea_cons ev_c ea_nil)) (e2 _ _ ka) hw hs fun x H3 hx e3 g => k x H3 (fresh_back (e1.trans e2) hx) ((e1.trans e2).trans e3) (g.old fun b hb => fresh_back (e1.trans e2) hb)
  exact this
end
section
variable {P : Program} {w : World} {K : PySem.W.Frag} {mg : Str → Option Value} {base : Heap}
theorem ok_unwrapped_rests (T : Tx K mg) : FnOk P w K mg base CX0 2 T.a_unwrapped_rests T.d_unwrapped_rests ["guesser", "row"] (sp_unwrapped_rests T) := by
  refine T.f_unwrapped_rests.ok (k := 1) sc_unwrapped_rests (fun vs H Q E h => ?_) (fun cdv A outer s H vs Q E hr h => ?_)
  · obtain ⟨p, b, ws, s, row, rfl, _⟩ := h
    rfl
  · obtain ⟨p, b, ws, s, row, rfl, hg, hb, hl, q⟩ := h
    refine ⟨_,       (pss_cons (ps_asg (pe_tup (pa_cons (pe_meth0 (pv 0) T.cl_Guesser T.me_Guesser_weights (ok_Guesser_weights T) hr T.b_Guesser_weights .nil pass0) (pa_cons (pe_meth0 (pv 0) T.cl_Guesser T.me_Guesser_shift (ok_Guesser_shift T) hr T.b_Guesser_shift .nil pass0) (pa_cons (pe_meth0 (pv 0) T.cl_Guesser T.me_Guesser_order (ok_Guesser_order T) hr T.b_Guesser_order .nil pass0) pa_nil)))) (pg_tup rfl (pgs_cons (pg_name (i := 2) sc_unwrapped_rests.nd rfl (by first | exact Or.inl rfl | exact Or.inr rfl)) (pgs_cons (pg_name (i := 3) sc_unwrapped_rests.nd rfl (by first | exact Or.inl rfl | exact Or.inr rfl)) (pgs_cons (pg_name (i := 4) sc_unwrapped_rests.nd rfl (by first | exact Or.inl rfl | exact Or.inr rfl)) pgs_nil))))) 
      (pss_cons (ps_setLc (i := 5) (own := [("at", 6)]) (g := gName 6) (tt := tYes) rfl sc_unwrapped_rests.nd rfl rfl (sw_true rfl rfl rfl (by decide +kernel)) (pi_range2 rfl T.m_range (pa_cons (pv 4) (pa_cons (pe_callB (id := "len") (r := rLenS K) call_len_seq (by rfl) T.m_len PySem.boot_len (pa_cons (pv 1) pa_nil)) pa_nil))) (blkOk_by (own := [("at", 6)]) (N := ["guesser", "row", "weights", "shift", "order", "behind", "at"]) (sc := defScope s_unwrapped_rests) (by decide +kernel)) (fun _ _ _ _ _ => (pg_name (i := 6) sc_unwrapped_rests.nd rfl (by first | exact Or.inl rfl | exact Or.inr rfl))) (fun _ _ _ _ _ => pts_nil) (fun _ _ _ _ _ => (pe_op op_sub (pe_ix (r := rIxL K) ix_list (pv 1) (pv 6) (fun _ _ => rfl)) (pe_op op_shr (pe_call (ok_weighed T) hr (by rfl) T.g_weighed T.f_weighed.kp T.b_weighed .nil pass0 (pa_cons (pv 2) (pa_cons (pv 1) (pa_cons (pv 6) pa_nil)))) (pv 3))))) 
      (pss_one (ps_ret (pe_op op_cat (pe_slice (r := rSlL K) sl_list (pv 1) po_none (po_some (pv 4))) (pv 5)))))), ?_⟩
    have hw8 := hg.wb.1
    refine q_gin (tup_in (ta_consL (hg.weightsE (ev_var rfl)) fun pw H1 hpw e1 k1 => ta_consV ((hg.ex e1).shiftE (ev_var rfl)) fun H2 e2 => ta_consV ((hg.ex (e1.trans e2)).orderE (ev_var rfl)) fun H3 e3 => ta_nil ⟨by show 3 ≤ sizeLine; decide, fun pt hpt => ?_⟩))
    have x4 := Ex.new (o := .tup [V.ref pw, V.int (s : Int), V.int (ws.length : Int)]) hpt
    refine ⟨pt, _, rfl, st_of upd_same, rfl, _, _, rfl, _, _, rfl, _, _, rfl, rfl, ?_⟩
    have e14 := ((e1.trans e2).trans e3).trans x4
    have kw : Li _ pw ws := ((e2.trans e3).trans x4) _ _ k1
    refine q_asgL (el_mapR2 (n := ((row.length : Int) - (ws.length : Int)).toNat) (fun i => row.getD (ws.length + i) 0 - wsum row (ws.length + i) ws 0 / 2 ^ s) (ea_cons (ev_var rfl) (ea_cons (ev_is (ev_len (K := K) (ev_var rfl) (hb.ex e14).sq) (by rw [List.length_map])) ea_nil)) rfl (by omega) (fun _ => rfl) fun i H5 e5 hi => ?_) fun pb H5 hpb e5 k5 => ?_
    · have hin : ws.length + i < row.length := by omega
      have hrow : (row.map V.int)[ws.length + i]? = some (V.int (row.getD (ws.length + i) 0)) := by
        rw [List.getElem?_map, List.getD_eq_getElem?_getD, List.getElem?_eq_getElem hin]
        rfl
      refine ev_is (ev_op (ev_op (ev_var rfl) (ev_var rfl) (rv_ixL (K := K) (hb.ex (e14.trans e5)).sq (atI_nat hrow))) (ev_op (ev_call (ea_cons (ev_var rfl) (ea_cons (ev_var rfl) (ea_cons (ev_var rfl) ea_nil))) (spv fun H6 e6 Q q E => ⟨pw, b, ws, row, ws.length + i, rfl, (kw.ex e5).ex e6, hg.wb, (hb.ex (e14.trans e5)).ex e6, by omega, hl, by omega, q⟩)) (ev_var rfl) (rv_I (Int.natCast_nonneg s))) rv_I0) ?_
      rw [Int.toNat_natCast]
    · have h5 := el_sl (K := K) (te := tVar 1) (σ := [some (.ref p), some (.ref b), some (.ref pw), some (.int (s : Int)), some (.int (ws.length : Int)), some (.ref pb), none]) (ev_var rfl) (lo := none) (hi := some (ws.length : Int)) eo_none (eo_some (te := tVar 4) (ev_var rfl)) (hb.ex (e14.trans e5)).sq
      rw [take_cut] at h5
      refine s_retL (el_catLV h5 (ev_var rfl) k5 (by rw [List.length_map, List.length_take, List.length_map, List.length_map, List.length_range]; omega)) fun pr H6 hpr e6 k6 => ?_
      refine q pr H6 (fresh_back (e14.trans e5) hpr) ((e14.trans e5).trans e6) ?_
      rw [k6, ur_cut, List.map_append]
theorem ok_rests (T : Tx K mg) : FnOk P w K mg base CX0 4 T.a_rests T.d_rests ["guesser", "depth", "row"] (sp_rests T) := by
  refine T.f_rests.ok (k := 3) sc_rests (fun vs H Q E h => ?_) (fun cdv A outer s H vs Q E hr h => ?_)
  · obtain ⟨p, b, ws, s, row, d, rfl, _⟩ := h
    rfl
  · obtain ⟨p, b, ws, s, row, d, rfl, h1, h2, hg, hb, hl, hs, q⟩ := h
    refine ⟨_,       (pss_cons (ps_expr (pe_call (ok_check_guesser T) (hr.mono (by decide)) (by rfl) T.g_check_guesser T.f_check_guesser.kp T.b_check_guesser .nil pass0 (pa_cons (pv 0) pa_nil))) 
      (pss_cons (ps_expr (pe_call (ok_check_depth T) hr (by rfl) T.g_check_depth T.f_check_depth.kp T.b_check_depth .nil pass0 (pa_cons (pv 1) (pa_cons (pe_glob (v := .int 32) rfl T.c_GREATEST_DEPTH ⟨_, rfl⟩) pa_nil)))) 
      (pss_cons (ps_expr (pe_call (ok_check_samples T) hr (by rfl) T.g_check_samples T.f_check_samples.kp T.b_check_samples .nil pass0 (pa_cons (pv 2) (pa_cons (pv 1) pa_nil)))) 
      (pss_one (ps_ret (pe_lc (own := [("rest", 3)]) (g := gName 3) (tt := tYes) rfl sc_rests.nd (pi_list (pe_call (ok_unwrapped_rests T) (hr.mono (by decide)) (by rfl) T.g_unwrapped_rests T.f_unwrapped_rests.kp T.b_unwrapped_rests .nil pass0 (pa_cons (pv 0) (pa_cons (pv 2) pa_nil)))) (blkOk_by (own := [("rest", 3)]) (N := ["guesser", "depth", "row", "rest"]) (sc := defScope s_rests) (by decide +kernel)) (fun _ _ _ _ _ => (pg_name (i := 3) sc_rests.nd rfl (by first | exact Or.inl rfl | exact Or.inr rfl))) (fun _ _ _ _ _ => pts_nil) (fun _ _ _ _ _ => (pe_call (ok_wrapped T) (hr.mono (by decide)) (by rfl) T.g_wrapped T.f_wrapped.kp T.b_wrapped .nil pass0 (pa_cons (pv 3) (pa_cons (pv 1) pa_nil)))))))))), ?_⟩
    refine q_drop (ev_call (ea_cons (ev_var rfl) ea_nil) (spv fun H1 e Q q E => ⟨p, ws, s, rfl, hg.ex e, q⟩)) fun H1 e1 => ?_
    refine q_drop (ev_call (ea_cons (ev_var rfl) (ea_cons ev_c ea_nil)) (spv fun H2 e Q q E => ⟨d, 32, rfl, by omega, by omega, q⟩)) fun H2 e2 => ?_
    refine q_drop (ev_call (ea_cons (ev_var rfl) (ea_cons (ev_var rfl) ea_nil)) (spv fun H3 e Q q E => ⟨b, row, d, rfl, h1, h2, hb.ex ((e1.trans e2).trans e), hl, hs, q⟩)) fun H3 e3 => ?_
    have e13 := (e1.trans e2).trans e3
    rw [rst_ur, List.map_map] at q
    refine s_retL (el_mapN (K := K) (0 : Int) (xs := ur ws s row) (V.int ∘ wr d) (el_callR (ea_cons (ev_var rfl) (ea_cons (ev_var rfl) ea_nil)) fun H4 e4 Q k E => ⟨p, b, ws, s, row, rfl, (hg.ex e13).ex e4, (hb.ex e13).ex e4, hl, k⟩) (by unfold ur; rw [List.length_map, List.length_range]; omega) (fun _ => rfl) fun z H4 e4 hz => ev_call (ea_cons (ev_var rfl) (ea_cons (ev_var rfl) ea_nil)) (spv fun H5 e5 Q q E => ⟨z, d, rfl, h1, h2, q⟩)) fun pr H4 hpr e4 k4 => q pr H4 (fresh_back e13 hpr) (e13.trans e4) k4
theorem ok_guess (T : Tx K mg) : FnOk P w K mg base CX0 3 T.a_guess T.d_guess ["guesser", "before"] (sp_guess T) := by
  refine T.f_guess.ok (k := 2) sc_guess (fun vs H Q E h => ?_) (fun cdv A outer s H vs Q E hr h => ?_)
  · obtain ⟨p, b, ws, s, row, rfl, _⟩ := h
    rfl
  · obtain ⟨p, b, ws, s, row, rfl, hg, hb, hr1, hl, q⟩ := h
    refine ⟨_,       (pss_cons (ps_expr (pe_call (ok_check_guesser T) (hr.mono (by decide)) (by rfl) T.g_check_guesser T.f_check_guesser.kp T.b_check_guesser .nil pass0 (pa_cons (pv 0) pa_nil))) 
      (pss_cons (ps_if (PW.pt (pw_or (pt_not (pt_val (pe_call (ok_is_numbers T) hr (by rfl) T.g_is_numbers T.f_is_numbers.kp T.b_is_numbers .nil pass0 (pa_cons (pv 1) pa_nil)))) (pw_or1 (pt_cmpR op_lt (pe_callB (id := "len") (r := rLenS K) call_len_seq (by rfl) T.m_len PySem.boot_len (pa_cons (pv 1) pa_nil)) (pe_meth0 (pv 0) T.cl_Guesser T.me_Guesser_order (ok_Guesser_order T) (hr.mono (by decide)) T.b_Guesser_order .nil pass0) (nomark _))))) 
        (pss_one ps_never) pss_nil) 
      (pss_one (ps_ret (pe_op op_shr (pe_call (ok_weighed T) (hr.mono (by decide)) (by rfl) T.g_weighed T.f_weighed.kp T.b_weighed .nil pass0 (pa_cons (pe_meth0 (pv 0) T.cl_Guesser T.me_Guesser_weights (ok_Guesser_weights T) (hr.mono (by decide)) T.b_Guesser_weights .nil pass0) (pa_cons (pv 1) (pa_cons (pe_callB (id := "len") (r := rLenS K) call_len_seq (by rfl) T.m_len PySem.boot_len (pa_cons (pv 1) pa_nil)) pa_nil)))) (pe_meth0 (pv 0) T.cl_Guesser T.me_Guesser_shift (ok_Guesser_shift T) (hr.mono (by decide)) T.b_Guesser_shift .nil pass0)))))), ?_⟩
    refine q_drop (ev_call (ea_cons (ev_var rfl) ea_nil) (spv fun H1 e Q q E => ⟨p, ws, s, rfl, hg.ex e, q⟩)) fun H1 e1 => ?_
    refine q_when (b := false) (et_or (a := false) (et_not (a := true) (et_B (ev_call (ea_cons (ev_var rfl) ea_nil) (spv fun H2 e Q q E => ⟨b, row, rfl, (hb.ex e1).ex e, hr1, q⟩)))) fun _ => et_is (et_test (ev_op (ev_len (K := K) (ev_var rfl) (hb.ex e1).sq) ((hg.ex e1).orderE (ev_var rfl)) rv_I0)) ?_) (fun z => by cases z) (fun _ H2 e2 => ?_)
    · rw [List.length_map]
      exact decide_eq_false (by omega)
    have e12 := e1.trans e2
    -- weighed(guesser.weights(), before, len(before)) >> guesser.shift()
    refine ev_use (te := tOp (rI _ _) (tCall _ _ _ _) _) (v := .int (wsum row row.length ws 0 / 2 ^ s)) ?_ fun H3 e3 => q H3 (e12.trans e3)
    refine ev_is (ev_op (x := .int (wsum row row.length ws 0)) (fun H3 e3 Q' q' => ?_) ((hg.ex e12).shiftE (ev_var rfl)) (rv_I (Int.natCast_nonneg s))) (by show V.int (_ / 2 ^ (s : Int).toNat) = _; rw [Int.toNat_natCast])
    have e13 := e12.trans e3
    refine ta_consL ((hg.ex e13).weightsE (ev_var rfl)) fun pw H4 hpw e4 kw => ?_
    have e14 := e13.trans e4
    refine ta_consV (ev_var rfl) fun H5 e5 => ?_
    refine ta_consV (ev_len (K := K) (ev_var rfl) (hb.ex (e14.trans e5)).sq) fun H6 e6 => ?_
    have e16 := (e14.trans e5).trans e6
    exact ⟨pw, b, ws, row, row.length, by rw [List.length_map]; rfl, e6 _ _ (e5 _ _ kw), hg.wb, hb.ex e16, Nat.le_refl _, hr1, hl, fun H7 e7 => q' H7 (((e4.trans e5).trans e6).trans e7)⟩
theorem ok_plain_rests (T : Tx K mg) : FnOk P w K mg base CX0 3 T.a_plain_rests T.d_plain_rests ["guesser", "row"] (sp_plain_rests T) := by
  refine T.f_plain_rests.ok (k := 2) sc_plain_rests (fun vs H Q E h => ?_) (fun cdv A outer s H vs Q E hr h => ?_)
  · obtain ⟨p, b, ws, s, row, rfl, _⟩ := h
    rfl
  · obtain ⟨p, b, ws, s, row, rfl, hg, hb, hl, q⟩ := h
    refine ⟨_,       (pss_cons (ps_expr (pe_call (ok_check_guesser T) (hr.mono (by decide)) (by rfl) T.g_check_guesser T.f_check_guesser.kp T.b_check_guesser .nil pass0 (pa_cons (pv 0) pa_nil))) 
      (pss_cons (ps_if (pt_not (pt_val (pe_call (ok_is_numbers T) hr (by rfl) T.g_is_numbers T.f_is_numbers.kp T.b_is_numbers .nil pass0 (pa_cons (pv 1) pa_nil)))) 
        (pss_one ps_never) pss_nil) 
      (pss_one (ps_ret (pe_call (ok_unwrapped_rests T) hr (by rfl) T.g_unwrapped_rests T.f_unwrapped_rests.kp T.b_unwrapped_rests .nil pass0 (pa_cons (pv 0) (pa_cons (pv 1) pa_nil))))))), ?_⟩
    refine q_drop (ev_call (ea_cons (ev_var rfl) ea_nil) (spv fun H1 e Q q E => ⟨p, ws, s, rfl, hg.ex e, q⟩)) fun H1 e1 => ?_
    refine q_when (b := false) (et_not (a := true) (et_B (ev_call (ea_cons (ev_var rfl) ea_nil) (spv fun H2 e Q q E => ⟨b, row, rfl, (hb.ex e1).ex e, hl, q⟩)))) (fun z => by cases z) fun _ H2 e2 => ?_
    have e12 := e1.trans e2
    exact s_retL (el_callR (ea_cons (ev_var rfl) (ea_cons (ev_var rfl) ea_nil)) fun H4 e4 Q k E => ⟨p, b, ws, s, row, rfl, (hg.ex e12).ex e4, (hb.ex e12).ex e4, hl, k⟩) fun pr H4 hpr e4 k4 => q pr H4 (fresh_back e12 hpr) (e12.trans e4) k4
theorem ok_row_of (T : Tx K mg) : FnOk P w K mg base CX0 4 T.a_row_of T.d_row_of ["guesser", "depth", "rests"] (sp_row_of T) := by
  refine T.f_row_of.ok (k := 3) sc_row_of (fun vs H Q E h => ?_) (fun cdv A outer s H vs Q E hr h => ?_)
  · obtain ⟨p, b, ws, s, rs, d, rfl, _⟩ := h
    rfl
  · obtain ⟨p, b, ws, s, rs, d, rfl, h1, h2, hg, hb, hl, hs, q⟩ := h
    refine ⟨_,       (pss_cons (ps_expr (pe_call (ok_check_guesser T) (hr.mono (by decide)) (by rfl) T.g_check_guesser T.f_check_guesser.kp T.b_check_guesser .nil pass0 (pa_cons (pv 0) pa_nil))) 
      (pss_cons (ps_expr (pe_call (ok_check_depth T) hr (by rfl) T.g_check_depth T.f_check_depth.kp T.b_check_depth .nil pass0 (pa_cons (pv 1) (pa_cons (pe_glob (v := .int 32) rfl T.c_GREATEST_DEPTH ⟨_, rfl⟩) pa_nil)))) 
      (pss_cons (ps_expr (pe_call (ok_check_samples T) hr (by rfl) T.g_check_samples T.f_check_samples.kp T.b_check_samples .nil pass0 (pa_cons (pv 2) (pa_cons (pv 1) pa_nil)))) 
      (pss_cons (ps_par3 (i := 3) (j := 4) (l := 5) (by rfl) sc_row_of.nd rfl rfl rfl (by decide) (by decide) (by decide) rfl rfl rfl (pa_cons (pe_meth0 (pv 0) T.cl_Guesser T.me_Guesser_weights (ok_Guesser_weights T) (hr.mono (by decide)) T.b_Guesser_weights .nil pass0) (pa_cons (pe_meth0 (pv 0) T.cl_Guesser T.me_Guesser_shift (ok_Guesser_shift T) (hr.mono (by decide)) T.b_Guesser_shift .nil pass0) (pa_cons (pe_meth0 (pv 0) T.cl_Guesser T.me_Guesser_order (ok_Guesser_order T) (hr.mono (by decide)) T.b_Guesser_order .nil pass0) pa_nil))) (by rfl)) 
      (pss_cons (ps_set (i := 6) sc_row_of.nd rfl (by first | exact Or.inl rfl | exact Or.inr rfl) (pe_slice (r := rSlL K) sl_list (pv 2) po_none (po_some (pv 5)))) 
      (pss_cons (ps_for PassesOwn.never rfl (pi_range2 rfl T.m_range (pa_cons (pv 5) (pa_cons (pe_callB (id := "len") (r := rLenS K) call_len_seq (by rfl) T.m_len PySem.boot_len (pa_cons (pv 2) pa_nil)) pa_nil))) (pg_name (i := 7) sc_row_of.nd rfl (by first | exact Or.inl rfl | exact Or.inr rfl)) 
        (pss_one (ps_expr (pe_bm PySem.F.plainAttrs_list PySem.F.slot_list_append PySem.F.type_list_append mt_append (pv 6) (pa_cons (pe_call (ok_wrapped T) (hr.mono (by decide)) (by rfl) T.g_wrapped T.f_wrapped.kp T.b_wrapped .nil pass0 (pa_cons (pe_op op_add (pe_ix (r := rIxL K) ix_list (pv 2) (pv 7) (fun _ _ => rfl)) (pe_op op_shr (pe_call (ok_weighed T) (hr.mono (by decide)) (by rfl) T.g_weighed T.f_weighed.kp T.b_weighed .nil pass0 (pa_cons (pv 3) (pa_cons (pv 6) (pa_cons (pv 7) pa_nil)))) (pv 4))) (pa_cons (pv 1) pa_nil))) pa_nil))))) 
      (pss_one (ps_ret (pv 6))))))))), ?_⟩
    have hw8 := hg.wb.1
    refine q_drop (ev_call (ea_cons (ev_var rfl) ea_nil) (spv fun H1 e Q q E => ⟨p, ws, s, rfl, hg.ex e, q⟩)) fun H1 e1 => ?_
    refine q_drop (ev_call (ea_cons (ev_var rfl) (ea_cons ev_c ea_nil)) (spv fun H2 e Q q E => ⟨d, 32, rfl, by omega, by omega, q⟩)) fun H2 e2 => ?_
    refine q_drop (ev_call (ea_cons (ev_var rfl) (ea_cons (ev_var rfl) ea_nil)) (spv fun H3 e Q q E => ⟨b, rs, d, rfl, h1, h2, hb.ex ((e1.trans e2).trans e), hl, hs, q⟩)) fun H3 e3 => ?_
    have e13 := (e1.trans e2).trans e3
    have hg3 := hg.ex e13
    refine q_par3 (ta_consL (hg3.weightsE (ev_var rfl)) fun pw H4 hpw e4 k4 => ta_consV ((hg3.ex e4).shiftE (ev_var rfl)) fun H5 e5 => ta_consV ((hg3.ex (e4.trans e5)).orderE (ev_var rfl)) fun H6 e6 => ta_nil ⟨_, _, _, rfl, ?_⟩)
    have e16 := ((e13.trans e4).trans e5).trans e6
    have kw : Li H6 pw ws := (e5.trans e6) _ _ k4
    have h5 := el_sl (K := K) (te := tVar 2) (σ := [some (.ref p), some (.int (d : Int)), some (.ref b), some (.ref pw), some (.int (s : Int)), some (.int (ws.length : Int)), none, none]) (ev_var rfl) (lo := none) (hi := some (ws.length : Int)) eo_none (eo_some (te := tVar 5) (ev_var rfl)) (hb.ex e16).sq
    rw [take_cut] at h5
    refine q_asgL h5 fun pr H7 hpr e7 k7 => ?_
    have hpr0 := fresh_back e16 hpr
    have hmin : rs.take ws.length = ru ws s d rs (min ws.length rs.length) := by
      rw [ru_cut ws s d rs _ (by omega) (by omega)]
      by_cases c : ws.length ≤ rs.length
      · rw [Nat.min_eq_left c]
      · rw [Nat.min_eq_right (by omega), List.take_of_length_le (by omega), List.take_of_length_le (Nat.le_refl _)]
    refine q_forR2 (lo := (ws.length : Int)) (n := (rs.length : Int)) (ea_cons (ev_var rfl) (ea_cons (ev_is (ev_len (K := K) (ev_var rfl) (hb.ex (e16.trans e7)).sq) (by rw [List.length_map])) ea_nil)) (by omega)
      (fun i σ' H' => ∃ y7, σ' = [some (.ref p), some (.int (d : Int)), some (.ref b), some (.ref pw), some (.int (s : Int)), some (.int (ws.length : Int)), some (.ref pr), y7] ∧ Ex H H' ∧ Ex H6 H' ∧ H' pr = some (.lst ((ru ws s d rs (min ws.length rs.length + i)).map V.int)))
      (fun H8 e8 => ⟨none, rfl, (e16.trans e7).trans e8, e7.trans e8, by rw [e8 _ _ k7, hmin]; rfl⟩) (fun i σ' H' hi hP => ?_) (fun σ' H' hP => ?_)
    · obtain ⟨y7, rfl, e, e6', kr⟩ := hP
      have hmn : min ws.length rs.length = ws.length := Nat.min_eq_left (by omega)
      rw [hmn] at kr
      have hin : ws.length + i < rs.length := by omega
      have hat : (rs.map V.int)[ws.length + i]? = some (V.int (rs.getD (ws.length + i) 0)) := by
        rw [List.getElem?_map, List.getD_eq_getElem?_getD, List.getElem?_eq_getElem hin]
        rfl
      have ei : (ws.length : Int) + (i : Int) = ((ws.length + i : Nat) : Int) := by omega
      refine s_app (v := .int (wr d (rs.getD (ws.length + i) 0 + wsum (ru ws s d rs (ws.length + i)) (ws.length + i) ws 0 / 2 ^ s))) kr (ev_var rfl) (ev_call (vs := [.int (rs.getD (ws.length + i) 0 + wsum (ru ws s d rs (ws.length + i)) (ws.length + i) ws 0 / 2 ^ s), .int (d : Int)]) (ea_cons (ev_is (ev_op (ev_op (ev_var rfl) (ev_var rfl) (rv_ixL (K := K) (hb.ex e).sq (by rw [ei]; exact atI_nat hat))) (ev_op (ev_call (ea_cons (ev_var rfl) (ea_cons (ev_var rfl) (ea_cons (ev_is (w := .int ((ws.length + i : Nat) : Int)) (ev_var rfl) (by rw [ei])) ea_nil))) (spv fun H8 e8 Q q E => ⟨pw, pr, ws, _, ws.length + i, rfl, (e6'.trans e8) _ _ kw, hg.wb, e8 _ _ kr, by rw [ru_len]; exact Nat.le_refl _, by rw [ru_len]; omega, by omega, q⟩)) (ev_var rfl) (rv_I (Int.natCast_nonneg s))) rv_I0) (by rw [Int.toNat_natCast])) (ea_cons (ev_var rfl) ea_nil)) (spv fun H8 e8 Q q E => ⟨_, d, rfl, h1, h2, q⟩)) (by rw [List.length_map, ru_len]; omega) fun H8 e8 => ?_
      refine ⟨_, rfl, Ex.mut (e.trans e8) hpr0, Ex.mut (e6'.trans e8) hpr, ?_⟩
      rw [upd_same, hmn, ← Nat.add_assoc, ru_step (by omega), List.map_append]
      rfl
    · obtain ⟨y7, rfl, e, e6', kr⟩ := hP
      have : min ws.length rs.length + ((rs.length : Int) - (ws.length : Int)).toNat = rs.length := by omega
      rw [this] at kr
      exact s_ret (ev_var rfl) fun H8 e8 => q pr H8 hpr0 (e.trans e8) (e8 _ _ kr)
theorem ok_steps (T : Tx K mg) : FnOk P w K mg base CX0 6 T.a_steps T.d_steps ["order"] (sp_steps T) := by
  refine T.f_steps.ok (k := 5) sc_steps (fun vs H Q E h => ?_) (fun cdv A outer s H vs Q E hr h => ?_)
  · obtain ⟨o, rfl, _⟩ := h
    rfl
  · obtain ⟨o, rfl, ho, q⟩ := h
    refine ⟨_,       (pss_cons (ps_expr (pe_call (ok_check_within T) (hr.mono (by decide)) (by rfl) T.g_check_within T.f_check_within.kp T.b_check_within .nil pass0 (pa_cons (pv 0) (pa_cons pe_int (pa_cons (pe_glob (v := .int 8) rfl T.c_MOST_WEIGHTS ⟨_, rfl⟩) pa_nil))))) 
      (pss_one (ps_ret (pe_make T.mk_Guesser (ok_Guesser___init__ T) hr (by rfl) T.gC_Guesser T.b_Guesser___init__ .nil pass0 (pa_cons (pe_lc (own := [("at", 1)]) (g := gName 1) (tt := tYes) rfl sc_steps.nd (pi_range2 rfl T.m_range (pa_cons pe_int (pa_cons (pe_op op_add (pv 0) pe_int) pa_nil))) (blkOk_by (own := [("at", 1)]) (N := ["order", "at"]) (sc := defScope s_steps) (by decide +kernel)) (fun _ _ _ _ _ => (pg_name (i := 1) sc_steps.nd rfl (by first | exact Or.inl rfl | exact Or.inr rfl))) (fun _ _ _ _ _ => pts_nil) (fun _ _ _ _ _ => (pe_ifExp (pt_truthK (K := K) rfl (pe_op op_odd (pv 1) pe_int) (by intro _; rfl)) (pe_callBfun cr_comb (by rfl) T.mt_comb (pa_cons (pv 0) (pa_cons (pv 1) pa_nil))) (pe_un un_neg (pe_callBfun cr_comb (by rfl) T.mt_comb (pa_cons (pv 0) (pa_cons (pv 1) pa_nil))))))) (pa_cons pe_int pa_nil)))))), ?_⟩
    refine q_drop (ev_call (ea_cons (ev_var rfl) (ea_cons ev_c (ea_cons ev_c ea_nil))) (spv fun H1 e Q q E => ⟨(o : Int), 0, 8, rfl, by omega, by omega, q⟩)) fun H1 e1 => ?_
    refine r_in (gu_makeN (ws := stw o) (s := 0) (el_mapR2 (lo := 1) (n := o) (fun i => if (1 + i) % 2 = 1 then PySem.W.mcComb (o : Int) ((1 + i : Nat) : Int) else -PySem.W.mcComb (o : Int) ((1 + i : Nat) : Int)) (ea_cons ev_c (ea_cons (ev_op (ev_var rfl) ev_c rv_I0) ea_nil)) (by omega) (by omega) (fun _ => rfl) fun i H2 e2 hi => ?_) (fun H2 e2 => ev_c) (stw_wb ho) (by decide) fun x H2 hx e2 g => q x H2 (fresh_back e1 hx) (e1.trans e2) g.gu)
    refine ev_if (b := decide ((1 + i) % 2 = 1)) (et_odd (ev_var rfl) ev_c) (fun z => ?_) (fun z => ?_)
    · refine ev_is (ev_comb (ev_var rfl) (ev_var rfl) (by omega) (by omega) (by omega)) ?_
      rw [if_pos (of_decide_eq_true z)]
    · refine ev_is (ev_un (ev_comb (ev_var rfl) (ev_var rfl) (by omega) (by omega) (by omega)) ru_neg) ?_
      rw [if_neg (of_decide_eq_false z)]
end
end K10

set_option Elab.async false
set_option linter.all false
set_option maxRecDepth 100000
set_option maxHeartbeats 4000000
namespace K10
open PySem PySem.Spec PyProof.Rows L2 Evl WS M50 M10
def cellV (ns : List Int) (k : Nat) : Int := if k < ns.length then ns.getD k 0 else (ns.take 1).sum.fmod 1000003
def mixA (s i : Int) : Int := (s * 1103515245 + 7919 * i * i + i + 1).fmod 2147483647
def mixB (s i : Int) : Int := (mixA s i * mixA s i + 69621).fmod 2147483629
def hashV (s i : Int) : Int := (mixB s i * 48271).fmod 2147483587
section
variable {K : PySem.W.Frag} {mg : Str → Option Value}
def sp__law_cell (T : Tx K mg) : Sp := fun vs H Q _ => ∃ a, ∃ ns : List Int, ∃ k : Nat, vs = [.ref a, .int (k : Int)] ∧ SqL K H a (ns.map V.int) ∧ ns.length ≤ 63 ∧ RetV (.int (cellV ns k)) H Q
def sp__law_hash (T : Tx K mg) : Sp := fun vs H Q _ => ∃ s i : Int, vs = [.int s, .int i] ∧ (0 ≤ s ∧ s < 2147483648) ∧ (0 ≤ i ∧ i ≤ 1000000000000) ∧ RetV (.int (hashV s i)) H Q
def sp__law_generator (T : Tx K mg) : Sp := fun vs H Q _ => ∃ a, ∃ ns : List Int, ∃ k : Nat, vs = [.ref a, .int (k : Int)] ∧ SqL K H a (ns.map V.int) ∧ ns.length ≤ 63 ∧ k ≤ 1000 ∧ ∀ p H2, H p = none → Ex H H2 → Gs H2 p (1000 * k) → Q (.ref p) H2
def sp__law_random (T : Tx K mg) : Sp := fun vs H Q _ => ∃ g, ∃ n : Int, ∃ C : Nat, vs = [.ref g, .int n] ∧ Gs H g C ∧ C ≤ 1000000000 ∧ 1 ≤ n ∧ n ≤ 1000000000000 ∧
  ∀ z H2, 0 ≤ z → z < n → Gs H2 g (C + 4) → ExB g H H2 → Q (.int z) H2
def sp__law_wrapped (T : Tx K mg) : Sp := fun vs H Q _ => ∃ z, ∃ d : Nat, vs = [.int z, .int (d : Int)] ∧ 1 ≤ d ∧ d ≤ 32 ∧ RetV (.int (wr d z)) H Q
def sp__law_sample (T : Tx K mg) : Sp := fun vs H Q _ => ∃ g, ∃ d C : Nat, vs = [.ref g, .int (d : Int)] ∧ Gs H g C ∧ C ≤ 100000000 ∧ 1 ≤ d ∧ d ≤ 32 ∧ ∀ z H2, -(2 ^ (d - 1)) ≤ z ∧ z ≤ 2 ^ (d - 1) - 1 → Gs H2 g (C + 8) → ExB g H H2 → Q (.int z) H2
def sp__law_row (T : Tx K mg) : Sp := fun vs H Q _ => ∃ g, ∃ d n C : Nat, vs = [.ref g, .int (d : Int), .int (n : Int)] ∧ Gs H g C ∧ C ≤ 10000000 ∧ 1 ≤ d ∧ d ≤ 32 ∧ n ≤ 100 ∧ ∀ p row H2, H p = none → Li H2 p row → row.length = n → M10.Smp d row → Gs H2 g (C + 1000) → ExB g H H2 → Q (.ref p) H2
def sp__law_guess (T : Tx K mg) : Sp := fun vs H Q _ => ∃ a b ws row, ∃ s : Nat, vs = [.ref a, .int (s : Int), .ref b] ∧ Li H a ws ∧ Wb 32768 8 ws ∧ s ≤ 15 ∧ Li H b row ∧ row.length ≤ 1000 ∧ ws.length ≤ row.length ∧ RetV (.int (wsum row row.length ws 0 / 2 ^ s)) H Q
def sp__law_rests_of (T : Tx K mg) : Sp := fun vs H Q _ => ∃ a b ws row, ∃ s : Nat, vs = [.ref a, .int (s : Int), .ref b] ∧ Li H a ws ∧ Wb 32768 8 ws ∧ s ≤ 15 ∧ Li H b row ∧ row.length ≤ 1000 ∧ RetL ((ur ws s row).map V.int) H Q
def sp__law_all_rows (T : Tx K mg) : Sp := fun vs H Q _ => ∃ d n : Nat, vs = [.int (d : Int), .int (n : Int)] ∧ 1 ≤ d ∧ d ≤ 3 ∧ n ≤ 3 ∧ ∀ p H2, H p = none → Ex H H2 → LL H2 p (allr d n) → Q (.ref p) H2
def sp__law_weights (T : Tx K mg) : Sp := fun vs H Q _ => ∃ g, ∃ n C : Nat, vs = [.ref g, .int (n : Int)] ∧ Gs H g C ∧ n ≤ 100 ∧ C ≤ 100000000 ∧ ∀ p ws H2, H p = none → Li H2 p ws → Wb 32768 n ws → Gs H2 g (C + 2000) → ExB g H H2 → Q (.ref p) H2
theorem rnd_use {T : Tx K mg} {σ : L2.St} {H : Hp} {ta tb : TE} {g : Addr} {n : Int} {C : Nat} {E : XK} {Q : VK} (ha : Ev ta σ H (.ref g)) (hb : Ev tb σ H (.int n)) (hg : Gs H g C) (hC : C ≤ 1000000000) (h1 : 1 ≤ n) (h2 : n ≤ 1000000000000)
    (k : ∀ z H2, 0 ≤ z → z < n → Gs H2 g (C + 4) → ExB g H H2 → Q (.int z) H2) : tCall (sp__law_random T) [] E (tCons ta (tCons tb tNil)) σ H Q :=
  ha H (Ex.refl H) _ fun H1 e1 => hb H1 e1 _ fun H2 e2 => ⟨g, n, C, rfl, hg.ex (e1.trans e2), hC, h1, h2, fun z H3 a b c d => k z H3 a b c ((ExB.of (e1.trans e2)).trans d)⟩
end
section
variable {K : PySem.W.Frag} {σ : L2.St} {H : Hp} {ta tb te tl : TE} {D : Ends} {tz tu : TS} {tr : TA}
theorem r_in' (k : te σ H fun x H1 => D.rt x H1) : tRet te D σ H := k
/-- [row + [i] for i in range(lo, hi)] -/
theorem longer_use2 {lo hi : Int} {r : List Int} {a : Addr} {i1 j : Nat} {ws : List Nat} {n : Nat} {Q : VK} (hn : n ≤ 10000) (hr : r.length ≤ 100) (h : EvA tr σ H [.int lo, .int hi]) (hlo : -100000 ≤ lo ∧ lo ≤ 100000) (hhi : hi = lo + (n : Int)) (ha : H a = some (.lst (r.map V.int)))
    (hw : ∀ y, wipe ((wipe σ ws).set j (some y)) ws = wipe σ ws) (hx : ∀ y, ((wipe σ ws).set j (some y))[i1]? = some (some (.ref a))) (hj : ∀ y, ((wipe σ ws).set j (some y))[j]? = some (some y))
    (k : ∀ D H', H D = none → Ex H H' → LL H' D ((List.range n).map fun i : Nat => r ++ [lo + (i : Int)]) → Q (.ref D) H') : tLc (iRng2 tr) (gName j) tYes (tOp rCat (tVar i1) (tLst (tCons (tVar j) tNil))) ws σ H Q := by
  refine h H (Ex.refl H) _ fun H1 e1 => ⟨_, _, rfl, by omega, fun D hD => ?_⟩
  have hD0 := fresh_back e1 hD
  rw [show (hi - lo).toNat = n by omega]
  refine lc_range (lo := lo) (n := n) (fun i H' => Ex H1 H' ∧ ∃ acc : List V, H' D = some (.lst acc) ∧ acc.length = i ∧ ∀ (t : Nat) (v : V), acc[t]? = some v → ∃ u, v = V.ref u ∧ u ≠ D ∧ H' u = some (HO.lst ((r ++ [lo + (t : Int)]).map V.int)))
    ⟨Ex.new hD, [], upd_same, rfl, fun n v hv => by simp at hv⟩ (fun i H' hi p' => ?_) (fun H' p' => ?_)
  · obtain ⟨e, acc, ha', hl, hacc⟩ := p'
    refine ⟨hw _, ?_⟩
    unfold tYes
    dsimp only
    rw [if_pos rfl]
    show tOp rCat (tVar i1) (tLst (tCons (tVar j) tNil)) ((wipe σ ws).set j (some (.int (lo + (i : Int))))) H' _
    refine el_use (el_catVL (a := a) (xs := r.map V.int) (zs := [V.int (lo + (i : Int))]) (ev_var (hx _)) ((e1.trans e) _ _ ha) (el_lst (ea_cons (ev_var (hj _)) ea_nil) (by show 1 ≤ 100000; decide)) (by rw [List.length_map]; show r.length + 1 ≤ 100000; omega)) fun u H2 hu e2 ku => ?_
    have uD : u ≠ D := fun z => by rw [z, ha'] at hu; cases hu
    refine ⟨acc, e2 _ _ ha', sz_lt (by omega), Ex.mut (e.trans e2) hD, acc ++ [.ref u], upd_same, by rw [List.length_append, hl]; rfl, fun t v hv => ?_⟩
    by_cases hn : t < acc.length
    · rw [List.getElem?_append_left hn] at hv
      obtain ⟨z, rfl, hz1, hz3⟩ := hacc t v hv
      exact ⟨z, rfl, hz1, by rw [upd_ne hz1]; exact e2 _ _ hz3⟩
    · rw [List.getElem?_append_right (by omega)] at hv
      cases hd : t - acc.length with
      | zero =>
        rw [hd] at hv
        cases hv
        have : t = i := by omega
        subst this
        exact ⟨u, rfl, uD, by rw [upd_ne uD, List.map_append]; exact ku⟩
      | succ m => rw [hd] at hv; simp at hv
  · obtain ⟨e, acc, ha', hl, hacc⟩ := p'
    refine k D H' hD0 (e1.trans e) ⟨acc, ha', by rw [hl, List.length_map, List.length_range], fun t s hs => ?_⟩
    rw [List.getElem?_map] at hs
    have ht : t < n := by
      by_cases c : t < n
      · exact c
      · rw [List.getElem?_eq_none (by rw [List.length_range]; omega)] at hs; cases hs
    rw [List.getElem?_range ht] at hs
    cases hs
    have hv : acc[t]? = some (acc[t]'(by omega)) := List.getElem?_eq_getElem (by omega)
    obtain ⟨u, hu, _, h3⟩ := hacc t _ hv
    exact ⟨u, by rw [hv, hu], h3⟩
theorem s_in {i : Nat} (k : te σ H fun x H1 => D.nx (σ.set i (some x)) H1) : tAsg te (gName i) D σ H := k
end
theorem pow8 {d n : Nat} (hd : d ≤ 3) (hn : n ≤ 3) : (2 ^ d) ^ n ≤ 512 := by
  have h1 : 2 ^ d ≤ 8 := Nat.pow_le_pow_right (n := 2) (by decide) hd
  have h2 : (2 ^ d) ^ n ≤ 8 ^ n := Nat.pow_le_pow_left h1 n
  have h3 : 8 ^ n ≤ 8 ^ 3 := Nat.pow_le_pow_right (by decide) hn
  omega
theorem wsum_drop' (row : List Int) (n : Nat) (ws : List Int) (i : Nat) (x : Int) (h : ws[i]? = some x) : wsum row n (ws.drop i) i = x * row.getD (n - 1 - i) 0 + wsum row n (ws.drop (i + 1)) (i + 1) := wsum_drop row n h
section
variable {P : Program} {w : World} {K : PySem.W.Frag} {mg : Str → Option Value} {base : Heap}
theorem ok__law_cell (T : Tx K mg) : FnOk P w K mg base CX0 1 T.a__law_cell T.d__law_cell ["_law_script", "_law_index"] (sp__law_cell T) := by
  refine T.f__law_cell.ok (k := 0) sc__law_cell (fun vs H Q E h => ?_) (fun cdv A outer s H vs Q E hr h => ?_)
  · obtain ⟨a, ns, k, rfl, _⟩ := h
    rfl
  · obtain ⟨a, ns, k, rfl, hs, hl, q⟩ := h
    refine ⟨_,       (pss_cons (ps_if (pt_cmpR op_lt (pv 1) (pe_callB (id := "len") (r := rLenS K) call_len_seq (by rfl) T.m_len PySem.boot_len (pa_cons (pv 0) pa_nil)) (nomark _)) 
        (pss_one (ps_ret (pe_ix (r := rIxL K) ix_list (pv 0) (pv 1) (fun _ _ => rfl)))) pss_nil) 
      (pss_one (ps_ret (pe_op op_modN (pe_callB (id := "sum") (r := rSum K) (cr_sum rfl) (by rfl) T.m_sum (by decide +kernel) (pa_cons (pe_slice (r := rSlL K) sl_list (pv 0) po_none (po_some pe_int)) pa_nil)) pe_int)))), ?_⟩
    refine q_when (et_test (ev_op (ev_var rfl) (ev_len (K := K) (ev_var rfl) hs) rv_I0)) (fun z H1 e1 => ?_) (fun z H1 e1 => ?_)
    · have hz : (k : Int) < ((ns.map V.int).length : Int) := of_decide_eq_true z
      rw [List.length_map] at hz
      have hk : k < ns.length := by omega
      refine s_ret (ev_op (ev_var rfl) (ev_var rfl) (rv_ixL (K := K) (v := .int (cellV ns k)) (ex_l e1 hs) ?_)) fun H2 e2 => q H2 (e1.trans e2)
      refine atI_nat ?_
      rw [List.getElem?_map, List.getElem?_eq_getElem hk]
      unfold cellV
      rw [if_pos hk, List.getD_eq_getElem?_getD, List.getElem?_eq_getElem hk] <;> rfl
    · have hz : ¬ (k : Int) < ((ns.map V.int).length : Int) := of_decide_eq_false z
      rw [List.length_map] at hz
      have hk : ¬ k < ns.length := by omega
      refine s_ret (ev_is (ev_op (ev_sumN (K := K) (ns := ns.take 1) ?_) ev_c (rv_I (by decide))) ?_) fun H2 e2 => q H2 (e1.trans e2)
      · have k1 := el_sl (σ := start ["_law_script", "_law_index"] [V.ref a, V.int (k : Int)]) (K := K) (te := tVar 0) (ev_var rfl) eo_none (eo_some (te := tC (.int 1)) ev_c) (ex_l e1 hs)
        have ec : cutV (ns.map V.int) none (some 1) = (ns.take 1).map V.int := by
          unfold cutV
          rw [HT.sIx_none, show HT.sIx (ns.map V.int).length (ns.map V.int).length (some 1) = min 1 (ns.map V.int).length from HT.sIx_nat _ _ 1]
          cases ns with
          | nil => rfl
          | cons x r => simp
        rw [ec] at k1
        exact k1
      · unfold cellV
        rw [if_neg hk]
theorem ok__law_hash (T : Tx K mg) : FnOk P w K mg base CX0 1 T.a__law_hash T.d__law_hash ["_law_seed", "_law_index"] (sp__law_hash T) := by
  refine T.f__law_hash.ok (k := 0) sc__law_hash (fun vs H Q E h => ?_) (fun cdv A outer s H vs Q E hr h => ?_)
  · obtain ⟨s, i, rfl, _⟩ := h
    rfl
  · obtain ⟨s, i, rfl, ⟨s0, s1⟩, ⟨i0, i1⟩, q⟩ := h
    refine ⟨_,       (pss_cons (ps_set (i := 2) sc__law_hash.nd rfl (by first | exact Or.inl rfl | exact Or.inr rfl) (pe_op op_modN (pe_callTy call_int1 (by rfl) T.m_int (by decide +kernel) (pa_cons (pe_op op_add (pe_op op_add (pe_op op_add (pe_op op_mul (pv 0) pe_int) (pe_op op_mul (pe_op op_mul pe_int (pv 1)) (pv 1))) (pv 1)) pe_int) pa_nil)) pe_int)) 
      (pss_cons (ps_set (i := 2) sc__law_hash.nd rfl (by first | exact Or.inl rfl | exact Or.inr rfl) (pe_op op_modN (pe_callTy call_int1 (by rfl) T.m_int (by decide +kernel) (pa_cons (pe_op op_add (pe_op op_mul (pv 2) (pv 2)) pe_int) pa_nil)) pe_int)) 
      (pss_one (ps_ret (pe_op op_modN (pe_callTy call_int1 (by rfl) T.m_int (by decide +kernel) (pa_cons (pe_op op_mul (pv 2) pe_int) pa_nil)) pe_int))))), ?_⟩
    have hA := fmod_in (s * 1103515245 + 7919 * i * i + i + 1) 2147483647 (by decide)
    have hB := fmod_in (mixA s i * mixA s i + 69621) 2147483629 (by decide)
    refine q_asg (v := .int (mixA s i)) (ev_op (ev_int (ev_op (ev_op (ev_op (ev_op (ev_var rfl) ev_c (rv_I (Or.inr ⟨by decide, by decide⟩))) (ev_op (ev_op ev_c (ev_var rfl) (rv_I (Or.inl ⟨by decide, by decide⟩))) (ev_var rfl) (rv_I (Or.inr ⟨by omega, by omega⟩))) rv_I0) (ev_var rfl) rv_I0) ev_c rv_I0)) ev_c (rv_I (by decide))) fun H1 e1 => ?_
    have hA' : 0 ≤ mixA s i ∧ mixA s i < 2147483647 := hA
    refine q_asg (v := .int (mixB s i)) (ev_op (ev_int (ev_op (ev_op (ev_var rfl) (ev_var rfl) (rv_I (Or.inl ⟨by omega, by omega⟩))) ev_c rv_I0)) ev_c (rv_I (by decide))) fun H2 e2 => ?_
    refine s_ret (v := .int (hashV s i)) (ev_op (ev_int (ev_op (ev_var rfl) ev_c (rv_I (Or.inr ⟨by decide, by decide⟩)))) ev_c (rv_I (by decide))) fun H3 e3 => q H3 ((e1.trans e2).trans e3)
theorem ok__law_generator (T : Tx K mg) : FnOk P w K mg base CX0 2 T.a__law_generator T.d__law_generator ["_law_script", "_law_index"] (sp__law_generator T) := by
  refine T.f__law_generator.ok (k := 1) sc__law_generator (fun vs H Q E h => ?_) (fun cdv A outer s H vs Q E hr h => ?_)
  · obtain ⟨a, ns, k, rfl, _⟩ := h
    rfl
  · obtain ⟨a, ns, k, rfl, hs, hl, hk, q⟩ := h
    refine ⟨_,       (pss_cons (ps_set (i := 2) sc__law_generator.nd rfl (by first | exact Or.inl rfl | exact Or.inr rfl) (pe_call (ok__law_cell T) hr (by rfl) T.g__law_cell T.f__law_cell.kp T.b__law_cell .nil pass0 (pa_cons (pv 0) (pa_cons (pv 1) pa_nil)))) 
      (pss_one (ps_ret (pe_lst (pa_cons (pe_op op_modN (pe_callTy call_int1 (by rfl) T.m_int (by decide +kernel) (pa_cons (pe_callB (id := "max") (call_max2 rfl) (by rfl) T.m_max (by decide +kernel) (pa_cons (pe_op op_sub (pv 2) (pe_op op_powW pe_int pe_int)) (pa_cons pe_int pa_nil))) pa_nil)) (pe_op op_powW (pe_op op_powW pe_int pe_int) pe_int)) (pa_cons (pe_op op_modN (pe_callTy call_int1 (by rfl) T.m_int (by decide +kernel) (pa_cons (pv 2) pa_nil)) pe_int) (pa_cons (pe_op op_mul pe_int (pv 1)) pa_nil))))))), ?_⟩
    refine q_asg (ev_call (ea_cons (ev_var rfl) (ea_cons (ev_var rfl) ea_nil)) (spv fun H1 e Q q E => ⟨a, ns, k, rfl, ex_l e hs, hl, q⟩)) fun H1 e1 => ?_
    generalize cellV ns k = seed
    refine s_retL (el_lst (ea_cons (ev_op (ev_int (ev_max2 (ev_op (ev_var rfl) (ev_op ev_c ev_c (rv_I ⟨by decide, by decide +kernel⟩)) rv_I0) ev_c)) (ev_op (ev_op ev_c ev_c (rv_I ⟨by decide, by decide +kernel⟩)) ev_c (rv_I ⟨by decide, by decide +kernel⟩)) (rv_I (by decide +kernel))) (ea_cons (ev_op (ev_int (ev_var rfl)) ev_c (rv_I (by decide))) (ea_cons (ev_op ev_c (ev_var rfl) (rv_I (Or.inl ⟨by decide, by decide⟩))) ea_nil))) (by show 3 ≤ 100000; decide)) fun p H2 hp e2 h2 => ?_
    refine q p H2 (fresh_back e1 hp) (e1.trans e2) ⟨_, _, _, h2, (fmod_in _ _ (by decide +kernel)).1, ?_, ?_, ?_⟩
    · have := fmod_in seed 2147483647 (by decide)
      omega
    · omega
    · omega
theorem ok__law_random (T : Tx K mg) : FnOk P w K mg base CX0 2 T.a__law_random T.d__law_random ["_law_generator_here", "_law_bound"] (sp__law_random T) := by
  refine T.f__law_random.ok (k := 1) sc__law_random (fun vs H Q E h => ?_) (fun cdv A outer s H vs Q E hr h => ?_)
  · obtain ⟨g, n, C, rfl, _⟩ := h
    rfl
  · obtain ⟨g, n, C, rfl, hg, hC, hn1, hn2, q⟩ := h
    obtain ⟨A0, B, c, hg, hA, hB, hc0, hc1⟩ := hg
    refine ⟨_,       (pss_cons (ps_if (pt_cmpR op_gt (pe_ix (r := rIxL K) ix_list (pv 0) pe_int (fun _ _ => rfl)) pe_int (nomark _)) 
        (pss_cons (ps_set (i := 2) sc__law_random.nd rfl (by first | exact Or.inl rfl | exact Or.inr rfl) (pe_op op_modN (pe_callTy call_int1 (by rfl) T.m_int (by decide +kernel) (pa_cons (pe_ix (r := rIxL K) ix_list (pv 0) pe_int (fun _ _ => rfl)) pa_nil)) (pv 1))) 
        (pss_cons (ps_asg (pe_op op_fdivW (pe_ix (r := rIxL K) ix_list (pv 0) pe_int (fun _ _ => rfl)) (pv 1)) (pg_sub (pv 0) pe_int set_list)) 
        (pss_one (ps_ret (pv 2))))) pss_nil) 
      (pss_cons (ps_set (i := 2) sc__law_random.nd rfl (by first | exact Or.inl rfl | exact Or.inr rfl) pe_int) 
      (pss_cons (ps_for PassesOwn.never rfl (pi_range1 rfl T.m_range (pa_cons (pe_op op_add pe_int (pe_op op_fdiv (pe_bits (pv 1)) pe_int)) pa_nil)) (pg_name (i := 3) sc__law_random.nd rfl (by first | exact Or.inl rfl | exact Or.inr rfl)) 
        (pss_cons (ps_asg (pe_op op_add (pe_ix (r := rIxL K) ix_list (pv 0) pe_int (fun _ _ => rfl)) pe_int) (pg_sub (pv 0) pe_int set_list)) 
        (pss_one (ps_set (i := 2) sc__law_random.nd rfl (by first | exact Or.inl rfl | exact Or.inr rfl) (pe_op op_add (pe_op op_mul (pv 2) pe_int) (pe_call (ok__law_hash T) hr (by rfl) T.g__law_hash T.f__law_hash.kp T.b__law_hash .nil pass0 (pa_cons (pe_ix (r := rIxL K) ix_list (pv 0) pe_int (fun _ _ => rfl)) (pa_cons (pe_ix (r := rIxL K) ix_list (pv 0) pe_int (fun _ _ => rfl)) pa_nil)))))))) 
      (pss_one (ps_ret (pe_op op_modN (pe_callTy call_int1 (by rfl) T.m_int (by decide +kernel) (pa_cons (pv 2) pa_nil)) (pv 1))))))), ?_⟩
    refine q_when (b := decide (0 < A0)) (et_test (ev_op (ev_op (ev_var rfl) ev_c (rv_ixL (K := K) (sq_of hg) (atI_nat (j := 0) rfl))) ev_c rv_I0)) (fun z H1 e1 => ?_) (fun z H1 e1 => ?_)
    · have g1 := e1 _ _ hg
      refine q_asg (ev_op (ev_int (ev_op (ev_var rfl) ev_c (rv_ixL (K := K) (sq_of g1) (atI_nat (j := 0) rfl)))) (ev_var rfl) (rv_I (show n ≠ 0 by omega))) fun H2 e2 => ?_
      have g2 := e2 _ _ g1
      refine q_setL (j := 0) (v := .int (A0 / n)) g2 (ev_op (ev_op (ev_var rfl) ev_c (rv_ixL (K := K) (sq_of g2) (atI_nat (j := 0) rfl))) (ev_var rfl) (rv_I (wide_div (b := 64) (by omega) (by omega) (by decide) (by decide)))) (ev_var rfl) ev_c (by show 0 < 3; decide) fun H3 e3 => ?_
      have hm := fmod_in A0 n (by omega)
      refine s_ret (ev_var rfl) fun H4 e4 => q _ H4 hm.1 hm.2 ⟨A0 / n, B, c, e4 _ _ upd_same, Int.ediv_nonneg hA (by omega), hB, hc0, by omega⟩ ?_
      exact ((ExB.of ((e1.trans e2).trans e3)).upd).trans (ExB.of e4)
    · refine q_asg ev_c fun H2 e2 => ?_
      have hbits : Builtin.Int.intBits n ≤ 40 := PyProof.Rows.intBits_le (k := 40) (show n.natAbs < 2 ^ 40 by omega)
      refine q_forR1 (n := 1 + ((Builtin.Int.intBits n : Nat) : Int) / 30) (ea_cons (ev_op ev_c (ev_op (ev_bits (ev_var rfl)) ev_c (rv_I ⟨by decide, by decide⟩)) rv_I0) ea_nil) (by omega)
        (fun i σ' H' => ∃ d y3, σ' = [some (.ref g), some (.int n), some (.int d), y3] ∧ ExB g H H' ∧ H' g = some (.lst [.int A0, .int B, .int (c + (i : Int))])) (fun H3 e3 => ⟨0, none, rfl, ExB.of ((e1.trans e2).trans e3), by
          rw [((e1.trans e2).trans e3) _ _ hg, show c + ((0 : Nat) : Int) = c by omega]⟩) (fun i σ' H' hi hP => ?_) (fun σ' H' hP => ?_)
      · obtain ⟨d, y3, rfl, hE, hg'⟩ := hP
        refine q_setL (j := 2) (v := .int (c + (i : Int) + 1)) hg' (ev_op (ev_op (ev_var rfl) ev_c (rv_ixL (K := K) (sq_of hg') (atI_nat (j := 2) rfl))) ev_c rv_I0) (ev_var rfl) ev_c (by show 2 < 3; decide) fun H3 e3 => ?_
        have g3 : (upd H3 g (.lst [.int A0, .int B, .int (c + (i : Int) + 1)])) g = some (.lst [.int A0, .int B, .int (c + (i : Int) + 1)]) := upd_same
        refine s_asg (ev_op (ev_op (ev_var rfl) ev_c (rv_I (Or.inr ⟨by decide, by decide⟩))) (ev_call (ea_cons (ev_op (ev_var rfl) ev_c (rv_ixL (K := K) (sq_of g3) (atI_nat (j := 1) rfl))) (ea_cons (ev_op (ev_var rfl) ev_c (rv_ixL (K := K) (sq_of g3) (atI_nat (j := 2) rfl))) ea_nil)) (spv fun H1 e Q q E => ⟨B, c + (i : Int) + 1, rfl, hB, by omega, q⟩)) rv_I0) fun H4 e4 => ?_
        refine ⟨_, _, rfl, (hE.trans (ExB.of e3)).upd.trans (ExB.of e4), ?_⟩
        rw [e4 _ _ g3, show c + (i : Int) + 1 = c + ((i + 1 : Nat) : Int) by omega]
      · obtain ⟨d, y3, rfl, hE, hg'⟩ := hP
        have hm := fmod_in d n (by omega)
        refine s_ret (ev_op (ev_int (ev_var rfl)) (ev_var rfl) (rv_I (show n ≠ 0 by omega))) fun H4 e4 => q _ H4 hm.1 hm.2 ⟨A0, B, _, e4 _ _ hg', hA, hB, by omega, by omega⟩ (hE.trans (ExB.of e4))
theorem ok__law_weights (T : Tx K mg) : FnOk P w K mg base CX0 3 T.a__law_weights T.d__law_weights ["_law_generator_here", "_law_many"] (sp__law_weights T) := by
  refine T.f__law_weights.ok (k := 2) sc__law_weights (fun vs H Q E h => ?_) (fun cdv A outer s H vs Q E hr h => ?_)
  · obtain ⟨g, n, C, rfl, _⟩ := h
    rfl
  · obtain ⟨g, n, C, rfl, hg, hn, hC, q⟩ := h
    refine ⟨_,       (pss_cons (ps_set (i := 2) sc__law_weights.nd rfl (by first | exact Or.inl rfl | exact Or.inr rfl) (pe_lst pa_nil)) 
      (pss_cons (ps_for PassesOwn.never rfl (pi_range1 rfl T.m_range (pa_cons (pv 1) pa_nil)) (pg_name (i := 3) sc__law_weights.nd rfl (by first | exact Or.inl rfl | exact Or.inr rfl)) 
        (pss_cons (ps_par (i := 4) (j := 5) (by rfl) sc__law_weights.nd rfl rfl (by decide) rfl rfl (pa_cons (pe_op op_sub (pe_call (ok__law_random T) hr (by rfl) T.g__law_random T.f__law_random.kp T.b__law_random .nil pass0 (pa_cons (pv 0) (pa_cons (pe_op op_add (pe_op op_powW pe_int pe_int) pe_int) pa_nil))) (pe_op op_powW pe_int pe_int)) (pa_cons (pe_call (ok__law_random T) hr (by rfl) T.g__law_random T.f__law_random.kp T.b__law_random .nil pass0 (pa_cons (pv 0) (pa_cons pe_int pa_nil))) pa_nil)) (by rfl)) 
        (pss_one (ps_expr (pe_bm PySem.F.plainAttrs_list PySem.F.slot_list_append PySem.F.type_list_append mt_append (pv 2) (pa_cons (pe_ix (r := rIxL K) ix_list (pe_lst (pa_cons (pe_op op_sub (pe_call (ok__law_random T) hr (by rfl) T.g__law_random T.f__law_random.kp T.b__law_random .nil pass0 (pa_cons (pv 0) (pa_cons pe_int pa_nil))) pe_int) (pa_cons (pe_op op_sub (pe_call (ok__law_random T) hr (by rfl) T.g__law_random T.f__law_random.kp T.b__law_random .nil pass0 (pa_cons (pv 0) (pa_cons pe_int pa_nil))) pe_int) (pa_cons pe_int (pa_cons (pv 4) pa_nil))))) (pv 5) (fun _ _ => rfl)) pa_nil)))))) 
      (pss_one (ps_ret (pv 2))))), ?_⟩
    obtain ⟨og, hog⟩ := hg.some
    refine q_asgL (xs := (([] : List Int)).map V.int) (el_lst ea_nil (by decide)) fun l H1 hl e1 kl => ?_
    have lg : l ≠ g := fun h => by rw [h, hog] at hl; cases hl
    refine q_forR1 (n := (n : Int)) (ea_cons (ev_var rfl) ea_nil) (by omega)
      (fun i σ' H' => ∃ (ws : List Int) (y3 y4 y5 : Option V), σ' = [some (.ref g), some (.int (n : Int)), some (.ref l), y3, y4, y5] ∧ ExB g H H' ∧ Li H' l ws ∧ Wb 32768 i ws ∧ Gs H' g (C + 16 * i)) (fun H2 e2 => ⟨[], none, none, none, rfl, ExB.of (e1.trans e2), e2 _ _ kl, ⟨Nat.le_refl _, fun x hx => absurd hx List.not_mem_nil⟩, hg.ex (e1.trans e2)⟩) (fun i σ' H' hi hP => ?_) (fun σ' H' hP => ?_)
    · obtain ⟨ws, y3, y4, y5, rfl, hE, hL, hW, hg'⟩ := hP
      have hwl := hW.1
      refine q_par (ta_in (top_in (rnd_use (n := 65537) (ev_var rfl) (ev_op (ev_op ev_c ev_c (rv_I ⟨by decide, by decide +kernel⟩)) ev_c rv_I0) hg' (by omega) (by decide) (by decide) fun z H2 z0 z1 hg2 E2 => ?_)))
      refine ev_use (ev_op ev_c ev_c (rv_I ⟨by decide, by decide +kernel⟩)) fun H3 e3 => ?_
      refine ⟨_, _, rfl, rfl, ?_⟩
      refine ta_in (rnd_use (n := 4) (ev_var rfl) ev_c (hg2.ex e3) (by omega) (by decide) (by decide) fun kind H4 k0 k1 hg4 E4 => ?_)
      refine ⟨_, _, rfl, ?_⟩
      have hE4 : ExB g H H4 := (hE.trans (E2.trans (ExB.of e3))).trans E4
      have hL4 : H4 l = some (.lst (ws.map V.int)) := E4 l _ lg (e3 _ _ (E2 l _ lg hL))
      refine ⟨.ref l, rfl, Or.inl ⟨rfl, _, Or.inl (Or.inl hL4)⟩, ?_⟩
      refine ta_in (top_in ?_)
      refine tl_lst (ta_in (top_in (rnd_use (n := 9) (ev_var rfl) ev_c hg4 (by omega) (by decide) (by decide) fun a H5 a0 a1 hg5 E5 => ?_)))
      refine ⟨_, _, rfl, rfl, ?_⟩
      refine ta_in (top_in (rnd_use (n := 5) (ev_var rfl) ev_c hg5 (by omega) (by decide) (by decide) fun b H6 b0 b1 hg6 E6 => ?_))
      refine ⟨_, _, rfl, rfl, _, rfl, ?_⟩
      refine ⟨by show 4 ≤ sizeLine; decide, fun lp hlp => ?_⟩
      have hL6 : H6 l = some (.lst (ws.map V.int)) := E6 l _ lg (E5 l _ lg hL4)
      have e7 := Ex.new (o := .lst [V.int (a - 4), V.int (b - 2), V.int 0, V.int (z - 2 ^ (15 : Int).toNat)]) hlp
      have e15 : (2 : Int) ^ (15 : Int).toNat = 32768 := by decide
      obtain ⟨x, hx, hx0, hx1⟩ : ∃ x : Int, atI [V.int (a - 4), V.int (b - 2), V.int 0, V.int (z - 2 ^ (15 : Int).toNat)] kind = some (.int x) ∧ -32768 ≤ x ∧ x ≤ 32768 := by
        have hk : kind = 0 ∨ kind = 1 ∨ kind = 2 ∨ kind = 3 := by omega
        rcases hk with rfl | rfl | rfl | rfl
        · exact ⟨_, rfl, by omega, by omega⟩
        · exact ⟨_, rfl, by omega, by omega⟩
        · exact ⟨_, rfl, by omega, by omega⟩
        · exact ⟨_, rfl, by omega, by omega⟩
      refine ⟨.int kind, rfl, lp, _, kind, .int x, rfl, rfl, Or.inl (Or.inl upd_same), hx, ?_⟩
      refine ⟨l, ws.map V.int, .int x, rfl, rfl, e7 _ _ hL6, ?_, ?_⟩
      · rw [List.length_map]
        exact sz_lt (by omega)
      · have n9 : ExB g H H6 := (hE4.trans E5).trans E6
        refine ⟨ws ++ [x], _, _, _, rfl, ?_, ?_, ⟨?_, ?_⟩, ?_⟩
        · refine fun c o nc h => ?_
          have hcl : c ≠ l := fun e => by rw [e, hl] at h; cases h
          rw [upd_ne hcl]
          exact e7 c o (n9 c o nc h)
        · show _ = _
          rw [upd_same, List.map_append]
          rfl
        · rw [List.length_append]
          show ws.length + 1 ≤ i + 1
          omega
        · intro u hu
          rcases List.mem_append.mp hu with h | h
          · exact hW.2 u h
          · rw [List.mem_singleton] at h
            rw [h]
            exact ⟨hx0, hx1⟩
        · obtain ⟨A0, B0, c0, w1, w2, w3, w4, w5⟩ := hg6
          refine ⟨A0, B0, c0, ?_, w2, w3, w4, by omega⟩
          rw [upd_ne (Ne.symm lg)]
          exact e7 _ _ w1
    · obtain ⟨ws, y3, y4, y5, rfl, hE, hL, hW, hg'⟩ := hP
      have hW : Wb 32768 n ws := by
        rw [Int.toNat_natCast] at hW
        exact hW
      refine s_ret (ev_var rfl) fun H3 e3 => q l ws H3 hl (hL.ex e3) hW ((hg'.ex e3).mono (by omega)) (hE.trans (ExB.of e3))
theorem ok__law_wrapped (T : Tx K mg) : FnOk P w K mg base CX0 1 T.a__law_wrapped T.d__law_wrapped ["_law_number", "_law_depth"] (sp__law_wrapped T) := by
  refine T.f__law_wrapped.ok (k := 0) sc__law_wrapped (fun vs H Q E h => ?_) (fun cdv A outer s H vs Q E hr h => ?_)
  · obtain ⟨z, d, rfl, _⟩ := h
    rfl
  · obtain ⟨z, d, rfl, h1, h2, q⟩ := h
    refine ⟨_,       (pss_cons (ps_set (i := 0) sc__law_wrapped.nd rfl (by first | exact Or.inl rfl | exact Or.inr rfl) (pe_op op_modN (pv 0) (pe_op op_shlW pe_int (pv 1)))) 
      (pss_one (ps_ret (pe_ifExp (pt_cmpR op_ge (pv 0) (pe_op op_shlW pe_int (pe_op op_sub (pv 1) pe_int)) (nomark _)) (pe_op op_sub (pv 0) (pe_op op_shlW pe_int (pv 1))) (pv 0))))), ?_⟩
    rw [← lw_wr h1] at q
    have hp := half_pos d
    have h2d := two_half h1
    have ed : (d : Int) - 1 = ((d - 1 : Nat) : Int) := by omega
    refine q_asg (v := .int (z.fmod (2 ^ d))) (ev_is (ev_op (ev_var rfl) (ev_op ev_c (ev_var rfl) (rv_I (shl1 (by omega)))) (rv_I (by rw [one_p]; omega))) (by rw [one_p])) fun H1 e1 => ?_
    refine s_ret (v := .int (lw d z)) (ev_if (b := decide (2 ^ (d - 1) ≤ z.fmod (2 ^ d))) (et_is (et_test (ev_op (ev_var rfl) (ev_op ev_c (ev_op (ev_var rfl) ev_c rv_I0) (rv_I (by rw [ed]; exact shl1 (by omega)))) rv_I0)) (by rw [ed, one_p])) (fun y => ?_) (fun y => ?_)) fun H2 e2 => q H2 (e1.trans e2)
    · have := of_decide_eq_true y
      refine ev_is (ev_op (ev_var rfl) (ev_op ev_c (ev_var rfl) (rv_I (shl1 (by omega)))) rv_I0) ?_
      rw [one_p]
      unfold lw
      rw [if_pos this]
    · have := of_decide_eq_false y
      refine ev_is (ev_var rfl) ?_
      unfold lw
      rw [if_neg this]
theorem ok__law_sample (T : Tx K mg) : FnOk P w K mg base CX0 3 T.a__law_sample T.d__law_sample ["_law_generator_here", "_law_depth"] (sp__law_sample T) := by
  refine T.f__law_sample.ok (k := 2) sc__law_sample (fun vs H Q E h => ?_) (fun cdv A outer s H vs Q E hr h => ?_)
  · obtain ⟨g, d, C, rfl, _⟩ := h
    rfl
  · obtain ⟨g, d, C, rfl, hg, hC, h1, h2, q⟩ := h
    refine ⟨_,       (pss_cons (ps_set (i := 2) sc__law_sample.nd rfl (by first | exact Or.inl rfl | exact Or.inr rfl) (pe_un un_neg (pe_op op_shlW pe_int (pe_op op_sub (pv 1) pe_int)))) 
      (pss_one (ps_ret (pe_ix (r := rIxL K) ix_list (pe_lst (pa_cons (pv 2) (pa_cons (pe_op op_sub (pe_op op_shlW pe_int (pe_op op_sub (pv 1) pe_int)) pe_int) (pa_cons pe_int (pa_cons (pe_op op_add (pv 2) (pe_call (ok__law_random T) hr (by rfl) T.g__law_random T.f__law_random.kp T.b__law_random .nil pass0 (pa_cons (pv 0) (pa_cons (pe_op op_shlW pe_int (pv 1)) pa_nil)))) pa_nil))))) (pe_call (ok__law_random T) hr (by rfl) T.g__law_random T.f__law_random.kp T.b__law_random .nil pass0 (pa_cons (pv 0) (pa_cons pe_int pa_nil))) (fun _ _ => rfl))))), ?_⟩
    have hp := half_pos d
    have h2d := two_half h1
    have p31 : (2 : Int) ^ (d - 1) ≤ 2147483648 := by
      have : (2 : Nat) ^ (d - 1) ≤ 2 ^ 31 := Nat.pow_le_pow_right (by decide) (by omega)
      have e : ((2 ^ (d - 1) : Nat) : Int) = 2 ^ (d - 1) := by rw [Int.natCast_pow]; rfl
      have e31 : (2 : Nat) ^ 31 = 2147483648 := by decide
      omega
    have ed : (d : Int) - 1 = ((d - 1 : Nat) : Int) := by omega
    have sh : ∀ {σ : L2.St} {H : Hp}, σ[1]? = some (some (.int (d : Int))) → Ev (tOp (rI CShl fun i j => .int (i * 2 ^ j.toNat)) (tC (.int 1)) (tOp (rI0 fun i j => .int (i - j)) (tVar 1) (tC (.int 1)))) σ H (.int (2 ^ (d - 1))) := fun h => ev_is (ev_op ev_c (ev_op (ev_var h) ev_c rv_I0) (rv_I (by rw [ed]; exact shl1 (by omega)))) (by rw [ed, one_p])
    refine q_asg (v := .int (-(2 ^ (d - 1)))) (ev_un (sh rfl) ru_neg) fun H1 e1 => ?_
    refine r_in' (top_in2 (tl_lst (ta_consV (ev_var rfl) fun H2 e2 => ta_consV (v := .int (2 ^ (d - 1) - 1)) (ev_op (sh rfl) ev_c rv_I0) fun H3 e3 => ta_consV ev_c fun H4 e4 => ta_in (top_in2 (ev_use (ev_var rfl) fun H5 e5 => rnd_use (n := 2 ^ d) (ev_var rfl) (ev_is (ev_op ev_c (ev_var rfl) (rv_I (shl1 (by omega)))) (by rw [one_p])) (((((hg.ex e1).ex e2).ex e3).ex e4).ex e5) (by omega) (by omega) (by omega) fun z H6 z0 z1 hg6 E6 => ⟨_, z, rfl, rfl, ta_nil ⟨by show 4 ≤ sizeLine; decide, fun pl hpl => ?_⟩⟩)))))
    have x7 := Ex.new (o := .lst [V.int (-(2 ^ (d - 1))), V.int (2 ^ (d - 1) - 1), V.int 0, V.int (-(2 ^ (d - 1)) + z)]) hpl
    obtain ⟨og, hog⟩ := hg6.some
    have npl : pl ≠ g := fun c => by rw [c, hog] at hpl; cases hpl
    refine rnd_use (n := 4) (ev_var rfl) ev_c (hg6.ex x7) (by omega) (by decide) (by decide) fun i H8 i0 i1 hg8 E8 => ?_
    obtain ⟨x, hx, hx0, hx1⟩ : ∃ x : Int, atI [V.int (-(2 ^ (d - 1))), V.int (2 ^ (d - 1) - 1), V.int 0, V.int (-(2 ^ (d - 1)) + z)] i = some (.int x) ∧ -(2 ^ (d - 1)) ≤ x ∧ x ≤ 2 ^ (d - 1) - 1 := by
      have hk : i = 0 ∨ i = 1 ∨ i = 2 ∨ i = 3 := by omega
      rcases hk with rfl | rfl | rfl | rfl
      · exact ⟨_, rfl, by omega, by omega⟩
      · exact ⟨_, rfl, by omega, by omega⟩
      · exact ⟨_, rfl, by omega, by omega⟩
      · exact ⟨_, rfl, by omega, by omega⟩
    refine ⟨pl, _, i, .int x, rfl, rfl, sq_of (E8 _ _ npl upd_same), hx, ?_⟩
    exact q x H8 ⟨hx0, hx1⟩ (hg8.mono (by omega)) ((((ExB.of ((((e1.trans e2).trans e3).trans e4).trans e5)).trans E6).trans (ExB.of x7)).trans E8)
theorem ok__law_row (T : Tx K mg) : FnOk P w K mg base CX0 4 T.a__law_row T.d__law_row ["_law_generator_here", "_law_depth", "_law_many"] (sp__law_row T) := by
  refine T.f__law_row.ok (k := 3) sc__law_row (fun vs H Q E h => ?_) (fun cdv A outer s H vs Q E hr h => ?_)
  · obtain ⟨g, d, n, C, rfl, _⟩ := h
    rfl
  · obtain ⟨g, d, n, C, rfl, hg, hC, h1, h2, hn, q⟩ := h
    refine ⟨_,       (pss_one (ps_ret (pe_lc (own := [("_law_place", 3)]) (g := gName 3) (tt := tYes) rfl sc__law_row.nd (pi_range1 rfl T.m_range (pa_cons (pv 2) pa_nil)) (blkOk_by (own := [("_law_place", 3)]) (N := ["_law_generator_here", "_law_depth", "_law_many", "_law_place"]) (sc := defScope s__law_row) (by decide +kernel)) (fun _ _ _ _ _ => (pg_name (i := 3) sc__law_row.nd rfl (by first | exact Or.inl rfl | exact Or.inr rfl))) (fun _ _ _ _ _ => pts_nil) (fun _ _ _ _ _ => (pe_call (ok__law_sample T) hr (by rfl) T.g__law_sample T.f__law_sample.kp T.b__law_sample .nil pass0 (pa_cons (pv 0) (pa_cons (pv 1) pa_nil))))))), ?_⟩
    refine r_in' (ints_use (fun z => -(2 ^ (d - 1)) ≤ z ∧ z ≤ 2 ^ (d - 1) - 1) (n := n) (d := 8) (ea_cons (ev_var rfl) ea_nil) hn (fun _ => rfl) hg (fun i H' R hi hG hE k => ?_) fun p H' zs hp hl hz hk hG hE => q p zs H' hp hk hl hz (hG.mono (by omega)) hE)
    exact tcall_in (ta_consV (ev_var rfl) fun H1 e1 => ta_consV (ev_var rfl) fun H2 e2 => ta_nil ⟨g, d, _, rfl, (hG.ex e1).ex e2, by omega, h1, h2, fun z H3 hz hg3 E3 => k z H3 hz hg3 ((ExB.of (e1.trans e2)).trans E3)⟩)
theorem ok__law_guess (T : Tx K mg) : FnOk P w K mg base CX0 1 T.a__law_guess T.d__law_guess ["_law_weights_here", "_law_shift", "_law_before"] (sp__law_guess T) := by
  refine T.f__law_guess.ok (k := 0) sc__law_guess (fun vs H Q E h => ?_) (fun cdv A outer s H vs Q E hr h => ?_)
  · obtain ⟨a, b, ws, row, s, rfl, _⟩ := h
    rfl
  · obtain ⟨a, b, ws, row, s, rfl, ha, hw, hs, hb, hr1, hl, q⟩ := h
    refine ⟨_,       (pss_cons (ps_set (i := 3) sc__law_guess.nd rfl (by first | exact Or.inl rfl | exact Or.inr rfl) pe_int) 
      (pss_cons (ps_for PassesOwn.never rfl (pi_range1 rfl T.m_range (pa_cons (pe_callB (id := "len") (r := rLenS K) call_len_seq (by rfl) T.m_len PySem.boot_len (pa_cons (pv 0) pa_nil)) pa_nil)) (pg_name (i := 4) sc__law_guess.nd rfl (by first | exact Or.inl rfl | exact Or.inr rfl)) 
        (pss_one (ps_set (i := 3) sc__law_guess.nd rfl (by first | exact Or.inl rfl | exact Or.inr rfl) (pe_op op_add (pv 3) (pe_op op_mul (pe_ix (r := rIxL K) ix_list (pv 0) (pv 4) (fun _ _ => rfl)) (pe_ix (r := rIxL K) ix_list (pv 2) (pe_op op_sub (pe_op op_sub (pe_callB (id := "len") (r := rLenS K) call_len_seq (by rfl) T.m_len PySem.boot_len (pa_cons (pv 2) pa_nil)) pe_int) (pv 4)) (fun _ _ => rfl))))))) 
      (pss_one (ps_ret (pe_op op_fdivW (pv 3) (pe_op op_shlW pe_int (pv 1))))))), ?_⟩
    have hw8 := hw.1
    refine q_asg ev_c fun H1 e1 => ?_
    refine q_forR1 (n := (ws.length : Int)) (ea_cons (ev_is (ev_len (K := K) (ev_var rfl) (ha.ex e1).sq) (by rw [List.length_map])) ea_nil) (by omega)
      (fun i σ' H' => ∃ t y4, σ' = [some (.ref a), some (.int (s : Int)), some (.ref b), some (.int t), y4] ∧ Ex H H' ∧ t + wsum row row.length (ws.drop i) i = wsum row row.length ws 0) (fun H2 e2 => ⟨0, none, rfl, e1.trans e2, by rw [List.drop_zero, Int.zero_add]⟩) (fun i σ' H' hi hP => ?_) (fun σ' H' hP => ?_)
    · obtain ⟨t, y4, rfl, e, ht⟩ := hP
      have hin : i < ws.length := by omega
      have hz := hw.2 ws[i] (List.getElem_mem hin)
      have hws : (ws.map V.int)[i]? = some (V.int ws[i]) := by rw [List.getElem?_map, List.getElem?_eq_getElem hin]; rfl
      have hrow : (row.map V.int)[row.length - 1 - i]? = some (V.int (row.getD (row.length - 1 - i) 0)) := by
        rw [List.getElem?_map, List.getD_eq_getElem?_getD, List.getElem?_eq_getElem (by omega)]
        rfl
      refine s_asg (ev_op (ev_var rfl) (ev_op (ev_op (ev_var rfl) (ev_var rfl) (rv_ixL (K := K) (ha.ex e).sq (atI_nat hws))) (ev_op (ev_var rfl) (ev_op (ev_op (ev_is (ev_len (K := K) (ev_var rfl) (hb.ex e).sq) (by rw [List.length_map])) ev_c rv_I0) (ev_var rfl) rv_I0) (rv_ixL (K := K) (hb.ex e).sq (at_of (j := row.length - 1 - i) (by omega) hrow))) (rv_I (Or.inl ⟨by omega, by omega⟩))) rv_I0) fun H2 e2 => ?_
      refine ⟨_, _, rfl, e.trans e2, ?_⟩
      rw [← ht, wsum_drop' row row.length ws i ws[i] (List.getElem?_eq_getElem hin)]
      omega
    · obtain ⟨t, y4, rfl, e, ht⟩ := hP
      rw [Int.toNat_natCast, List.drop_length] at ht
      have ht : t + 0 = wsum row row.length ws 0 := ht
      have p2 : (0 : Int) < 2 ^ s := Int.pow_pos (by decide)
      refine s_ret (ev_is (w := .int (wsum row row.length ws 0 / 2 ^ s)) (ev_op (ev_var rfl) (ev_op ev_c (ev_var rfl) (rv_I (shl1 (by omega)))) (rv_I (wide_div (b := 40) (by rw [one_p]; omega) ?_ (by decide) (by decide)))) ?_) fun H3 e3 => q H3 (e.trans e3)
      · rw [one_p, Int.natAbs_pow]
        exact Nat.lt_of_le_of_lt (Nat.pow_le_pow_right (by decide) hs) (by decide)
      · rw [one_p, ← ht, Int.add_zero]
theorem ok__law_rests_of (T : Tx K mg) : FnOk P w K mg base CX0 2 T.a__law_rests_of T.d__law_rests_of ["_law_weights_here", "_law_shift", "_law_row_here"] (sp__law_rests_of T) := by
  refine T.f__law_rests_of.ok (k := 1) sc__law_rests_of (fun vs H Q E h => ?_) (fun cdv A outer s H vs Q E hr h => ?_)
  · obtain ⟨a, b, ws, row, s, rfl, _⟩ := h
    rfl
  · obtain ⟨a, b, ws, row, s, rfl, ha, hw, hs, hb, hr1, q⟩ := h
    refine ⟨_,       (pss_cons (ps_set (i := 3) sc__law_rests_of.nd rfl (by first | exact Or.inl rfl | exact Or.inr rfl) (pe_lst pa_nil)) 
      (pss_cons (ps_for PassesOwn.never rfl (pi_range1 rfl T.m_range (pa_cons (pe_callB (id := "len") (r := rLenS K) call_len_seq (by rfl) T.m_len PySem.boot_len (pa_cons (pv 2) pa_nil)) pa_nil)) (pg_name (i := 4) sc__law_rests_of.nd rfl (by first | exact Or.inl rfl | exact Or.inr rfl)) 
        (pss_cons (ps_set (i := 5) sc__law_rests_of.nd rfl (by first | exact Or.inl rfl | exact Or.inr rfl) (pe_ifExp (pt_cmpR op_lt (pv 4) (pe_callB (id := "len") (r := rLenS K) call_len_seq (by rfl) T.m_len PySem.boot_len (pa_cons (pv 0) pa_nil)) (nomark _)) pe_int (pe_call (ok__law_guess T) hr (by rfl) T.g__law_guess T.f__law_guess.kp T.b__law_guess .nil pass0 (pa_cons (pv 0) (pa_cons (pv 1) (pa_cons (pe_slice (r := rSlL K) sl_list (pv 2) po_none (po_some (pv 4))) pa_nil)))))) 
        (pss_one (ps_expr (pe_bm PySem.F.plainAttrs_list PySem.F.slot_list_append PySem.F.type_list_append mt_append (pv 3) (pa_cons (pe_op op_sub (pe_ix (r := rIxL K) ix_list (pv 2) (pv 4) (fun _ _ => rfl)) (pv 5)) pa_nil)))))) 
      (pss_one (ps_ret (pv 3))))), ?_⟩
    refine q_asgL (xs := []) (el_lst ea_nil (by decide)) fun pf H1 hpf e1 k1 => ?_
    refine q_forR1 (n := (row.length : Int)) (ea_cons (ev_is (ev_len (K := K) (ev_var rfl) (hb.ex e1).sq) (by rw [List.length_map])) ea_nil) (by omega)
      (fun i σ' H' => ∃ y4 y5, σ' = [some (.ref a), some (.int (s : Int)), some (.ref b), some (.ref pf), y4, y5] ∧ Ex H H' ∧ H' pf = some (.lst (((List.range i).map fun i => row.getD i 0 - gs ws s row i).map V.int))) (fun H2 e2 => ⟨none, none, rfl, e1.trans e2, e2 _ _ k1⟩) (fun i σ' H' hi hP => ?_) (fun σ' H' hP => ?_)
    · obtain ⟨y4, y5, rfl, e, kf⟩ := hP
      have hin : i < row.length := by omega
      have hrow : (row.map V.int)[i]? = some (V.int (row.getD i 0)) := by
        rw [List.getElem?_map, List.getD_eq_getElem?_getD, List.getElem?_eq_getElem hin]
        rfl
      refine q_asg (v := .int (gs ws s row i)) (ev_if (b := decide ((i : Int) < (ws.length : Int))) (et_is (et_test (ev_op (ev_var rfl) (ev_len (K := K) (ev_var rfl) (ha.ex e).sq) rv_I0)) (by rw [List.length_map])) (fun z => ?_) (fun z => ?_)) fun H2 e2 => ?_
      · have := of_decide_eq_true z
        refine ev_is ev_c ?_
        unfold gs
        rw [if_pos (by omega)]
      · have := of_decide_eq_false z
        intro H2 e2 Q' k'
        have h5 := el_sl (K := K) (te := tVar 2) (σ := [some (.ref a), some (.int (s : Int)), some (.ref b), some (.ref pf), some (.int (i : Int)), y5]) (ev_var rfl) (lo := none) (hi := some (i : Int)) eo_none (eo_some (te := tVar 4) (ev_var rfl)) (hb.ex e).sq
        rw [take_cut] at h5
        refine tcall_in (ta_consV (ev_var rfl) fun H3 e3 => ta_consV (ev_var rfl) fun H4 e4 => ta_consL (h5.mono ((e2.trans e3).trans e4)) fun pr H5 hpr e5 k5 => ta_nil ⟨a, pr, ws, row.take i, s, rfl, (((ha.ex e).ex e2).ex e3).ex e4 |>.ex e5, hw, hs, k5, by rw [List.length_take]; omega, by rw [List.length_take]; omega, fun H6 e6 => ?_⟩)
        have hlt : (row.take i).length = i := by rw [List.length_take]; omega
        rw [hlt, wsum_pre row i i (Nat.le_refl _) (by omega) ws (by omega)]
        have : gs ws s row i = wsum row i ws 0 / 2 ^ s := by
          unfold gs
          rw [if_neg (by omega)]
        rw [← this]
        exact k' H6 (((e3.trans e4).trans e5).trans e6)
      · refine s_app (v := .int (row.getD i 0 - gs ws s row i)) (e2 _ _ kf) (ev_var rfl) (ev_op (ev_op (ev_var rfl) (ev_var rfl) (rv_ixL (K := K) (hb.ex (e.trans e2)).sq (atI_nat hrow))) (ev_var rfl) rv_I0) (by rw [List.length_map, List.length_map, List.length_range]; omega) fun H3 e3 => ?_
        refine ⟨_, _, rfl, Ex.mut ((e.trans e2).trans e3) hpf, ?_⟩
        rw [upd_same, List.range_succ, List.map_append, List.map_append]
        rfl
    · obtain ⟨y4, y5, rfl, e, kf⟩ := hP
      rw [Int.toNat_natCast] at kf
      exact s_ret (ev_var rfl) fun H3 e3 => q pf H3 hpf (e.trans e3) (e3 _ _ kf)
theorem ok__law_all_rows (T : Tx K mg) : FnOk P w K mg base CX0 1 T.a__law_all_rows T.d__law_all_rows ["_law_depth", "_law_many"] (sp__law_all_rows T) := by
  refine T.f__law_all_rows.ok (k := 0) sc__law_all_rows (fun vs H Q E h => ?_) (fun cdv A outer s H vs Q E hr h => ?_)
  · obtain ⟨d, n, rfl, _⟩ := h
    rfl
  · obtain ⟨d, n, rfl, h1, h2, h3, q⟩ := h
    refine ⟨_,       (pss_cons (ps_set (i := 2) sc__law_all_rows.nd rfl (by first | exact Or.inl rfl | exact Or.inr rfl) (pe_lst (pa_cons (pe_lst pa_nil) pa_nil))) 
      (pss_cons (ps_for PassesOwn.never rfl (pi_range1 rfl T.m_range (pa_cons (pv 1) pa_nil)) (pg_name (i := 3) sc__law_all_rows.nd rfl (by first | exact Or.inl rfl | exact Or.inr rfl)) 
        (pss_cons (ps_set (i := 4) sc__law_all_rows.nd rfl (by first | exact Or.inl rfl | exact Or.inr rfl) (pe_lst pa_nil)) 
        (pss_cons (ps_for PassesOwn.never rfl (pi_list (pv 2)) (pg_name (i := 5) sc__law_all_rows.nd rfl (by first | exact Or.inl rfl | exact Or.inr rfl)) 
          (pss_one (ps_set (i := 4) sc__law_all_rows.nd rfl (by first | exact Or.inl rfl | exact Or.inr rfl) (pe_op op_cat (pv 4) (pe_lc (own := [("_law_sample_here", 6)]) (g := gName 6) (tt := tYes) rfl sc__law_all_rows.nd (pi_range2 rfl T.m_range (pa_cons (pe_un un_neg (pe_op op_shlW pe_int (pe_op op_sub (pv 0) pe_int))) (pa_cons (pe_op op_shlW pe_int (pe_op op_sub (pv 0) pe_int)) pa_nil))) (blkOk_by (own := [("_law_sample_here", 6)]) (N := ["_law_depth", "_law_many", "_law_found", "_law_place", "_law_longer", "_law_row_here", "_law_sample_here"]) (sc := defScope s__law_all_rows) (by decide +kernel)) (fun _ _ _ _ _ => (pg_name (i := 6) sc__law_all_rows.nd rfl (by first | exact Or.inl rfl | exact Or.inr rfl))) (fun _ _ _ _ _ => pts_nil) (fun _ _ _ _ _ => (pe_op op_cat (pv 5) (pe_lst (pa_cons (pv 6) pa_nil))))))))) 
        (pss_one (ps_set (i := 2) sc__law_all_rows.nd rfl (by first | exact Or.inl rfl | exact Or.inr rfl) (pv 4)))))) 
      (pss_one (ps_ret (pv 2))))), ?_⟩
    refine q_in (ta_consL (el_lst ea_nil (by decide)) fun p1 H1 hp1 e1 k1 => ta_nil ⟨sz_of (by show 1 ≤ 100000; decide), fun p hp => ?_⟩)
    have hp0 := fresh_back e1 hp
    have ed : (d : Int) - 1 = ((d - 1 : Nat) : Int) := by omega
    have p8 : (2 : Int) ^ (d - 1) ≤ 4 ∧ (0 : Int) < 2 ^ (d - 1) := by
      have : d = 1 ∨ d = 2 ∨ d = 3 := by omega
      rcases this with h | h | h <;> subst h <;> decide
    have pd : ((2 ^ d : Nat) : Int) = 2 * 2 ^ (d - 1) := by
      have : d = 1 ∨ d = 2 ∨ d = 3 := by omega
      rcases this with h | h | h <;> subst h <;> decide
    have p2d : 2 ^ d ≤ 10000 := by
      have : d = 1 ∨ d = 2 ∨ d = 3 := by omega
      rcases this with h | h | h <;> subst h <;> decide
    refine q_forR1 (n := (n : Int)) (ea_cons (ev_var rfl) ea_nil) (by omega)
      (fun i σ' H' => ∃ u y3 y4 y5 y6, σ' = [some (.int (d : Int)), some (.int (n : Int)), some (.ref u), y3, y4, y5, y6] ∧ Ex H H' ∧ H u = none ∧ LL H' u (allr d i)) (fun H3 e3 => ⟨p, none, none, none, none, rfl, (e1.trans (Ex.new hp)).trans e3, hp0, [.ref p1], e3 _ _ upd_same, rfl, fun i r hr => ?_⟩) (fun i σ' H' hi hP => ?_) (fun σ' H' hP => ?_)
    · cases i with
      | zero =>
        cases hr
        exact ⟨p1, rfl, e3 _ _ (Ex.new hp _ _ k1)⟩
      | succ i => cases hr
    · obtain ⟨u, y3, y4, y5, y6, rfl, e, hu, hL⟩ := hP
      refine q_asgL (xs := []) (el_lst ea_nil (by decide)) fun p2 H4 hp2 e4 k4 => ?_
      obtain ⟨vs, hv1, hv2⟩ := hL.ex e4
      refine q_forLn (K := K) (xs := vs) (ev_var rfl) (sq_of hv1) (fun j σ2 H2 => ∃ l y5 y6, σ2 = [some (.int (d : Int)), some (.int (n : Int)), some (.ref u), some (.int (i : Int)), some (.ref l), y5, y6] ∧ Ex H4 H2 ∧ H l = none ∧ LL H2 l (((allr d i).take j).flatMap fun r => (samples d).map fun x => r ++ [x]))
        (fun H5 e5 => ⟨p2, y5, y6, rfl, e5, fresh_back e hp2, [], e5 _ _ k4, Lv.nil⟩) (fun j σ2 H2 _ h => by obtain ⟨_, _, _, _, e, _⟩ := h; exact sq_of (e _ _ hv1)) (fun j x σ2 H2 hx h => ?_) (fun σ2 H2 h => ?_)
      · obtain ⟨l, y5, y6, rfl, e5, hl, zs, hz1, hz2⟩ := h
        obtain ⟨a, r, rfl, hri, har⟩ := hv2.get hx
        have hrm : r ∈ allr d i := List.mem_of_getElem? hri
        have hr1 := (allr_row d i r hrm).1
        refine s_in (top_in2 (ev_use (v := .ref l) (ev_var rfl) fun Ha ea => longer_use2 (lo := -(2 ^ (d - 1))) (hi := 2 ^ (d - 1)) (r := r) (a := a) (n := 2 ^ d) p2d (by omega) (ea_cons (ev_is (ev_un (ev_op ev_c (ev_op (ev_var rfl) ev_c rv_I0) (rv_I (by rw [ed]; exact shl1 (by omega)))) ru_neg) (by rw [ed, one_p])) (ea_cons (ev_is (ev_op ev_c (ev_op (ev_var rfl) ev_c rv_I0) (rv_I (by rw [ed]; exact shl1 (by omega)))) (by rw [ed, one_p])) ea_nil)) (by omega) (by omega) (ea _ _ (e5 _ _ har)) (fun _ => rfl) (fun _ => rfl) (fun _ => rfl) fun Dd Hd hD eD hLL => ?_))
        have es : ((List.range (2 ^ d)).map fun i : Nat => r ++ [-(2 ^ (d - 1)) + (i : Int)]) = (samples d).map fun x => r ++ [x] := by
          unfold samples
          rw [List.map_map]
          rfl
        rw [es] at hLL
        obtain ⟨ws, hw1, hw2⟩ := hLL
        have hsum : zs.length + ws.length ≤ 10000 := by
          have h1 : (((allr d i).take (j + 1)).flatMap fun r => (samples d).map fun x => r ++ [x]).length ≤ (allr d (i + 1)).length := by
            have e7 : allr d (i + 1) = ((allr d i).take (j + 1)).flatMap (fun r => (samples d).map fun x => r ++ [x]) ++ ((allr d i).drop (j + 1)).flatMap (fun r => (samples d).map fun x => r ++ [x]) := by
              rw [← List.flatMap_append, List.take_append_drop]
              rfl
            rw [e7, List.length_append]
            omega
          have h2 : (allr d (i + 1)).length ≤ 512 := by
            rw [allr_len]
            exact pow8 h2 (by omega)
          rw [List.take_succ, hri, List.flatMap_append, List.length_append] at h1
          have h3 : ((some r).toList.flatMap fun r => (samples d).map fun x => r ++ [x]).length = ws.length := by
            rw [hw2.1]
            simp
          rw [h3, ← hz2.1] at h1
          omega
        refine ⟨l, Dd, zs, ws, rfl, rfl, (ea.trans eD) _ _ hz1, hw1, sz_of (by omega), fun p3 hp3 => ?_⟩
        have e6 := Ex.new (o := .lst (zs ++ ws)) hp3
        have e46 := ((e5.trans ea).trans eD).trans e6
        refine ⟨p3, _, _, rfl, e46, fresh_back (((e.trans e4).trans e5).trans (ea.trans eD)) hp3, zs ++ ws, upd_same, ?_⟩
        rw [List.take_succ, hri, List.flatMap_append]
        have h3 : ((some r).toList.flatMap fun r => (samples d).map fun x => r ++ [x]) = (samples d).map fun x => r ++ [x] := by simp
        rw [h3]
        exact (hz2.ex ((ea.trans eD).trans e6)).app (hw2.ex e6)
      · obtain ⟨l, y5, y6, rfl, e5, hl, hLL⟩ := h
        rw [hv2.1, List.take_length] at hLL
        exact s_asg (ev_var rfl) fun H6 e6 => ⟨l, _, _, _, _, rfl, ((e.trans e4).trans e5).trans e6, hl, hLL.ex e6⟩
    · obtain ⟨u, y3, y4, y5, y6, rfl, e, hu, hL⟩ := hP
      rw [Int.toNat_natCast] at hL
      exact s_ret (ev_var rfl) fun H4 e4 => q u H4 hu (e.trans e4) (hL.ex e4)
end
end K10

set_option Elab.async false
set_option linter.all false
set_option maxRecDepth 100000
set_option maxHeartbeats 4000000
namespace K10
open PySem PySem.Spec PyProof.Rows L2 Evl WS M50 M10
theorem co_stw : ((List.range 9).all fun o => decide (co o = ((stw o).map fun y => -y).reverse ++ [1])) = true := by decide +kernel
theorem steps_ok {o : Nat} (ho : o ≤ 8) (row : List Int) (hl : o ≤ row.length) : (ur (stw o) 0 row).drop o = (List.range (row.length - o)).map (Df (fun t => row.getD t 0) o) := by
  have hw : (stw o).length = o := by unfold stw; rw [List.length_map, List.length_range]
  rw [ur_cut, hw, List.drop_append_of_le_length (by rw [List.length_take]; omega)]
  rw [List.drop_of_length_le (by rw [List.length_take]; omega), List.nil_append]
  rw [show ((row.length : Int) - (o : Int)).toNat = row.length - o by omega]
  apply List.map_congr_left
  intro i hi
  have hi := List.mem_range.mp hi
  have k := of_decide_eq_true (List.all_eq_true.mp co_stw o (List.mem_range.mpr (by omega)))
  rw [Df_lin, k, lin_app, List.length_reverse, List.length_map, hw, ← List.map_reverse, lin_neg, wsum_lin row (o + i) i (stw o) 0 (by omega), show i + o = o + i by omega]
  simp
  omega
theorem drop_cut (xs : List Int) (n : Nat) : cutV (xs.map V.int) (some (n : Int)) none = (xs.drop n).map V.int := by
  unfold cutV
  rw [HT.sIx_none, HT.sIx_nat, List.length_map, List.map_drop]
  by_cases c : n ≤ xs.length
  · rw [Nat.min_eq_left c, List.take_of_length_le (by rw [List.length_drop, List.length_map]; omega)]
  · rw [Nat.min_eq_right (by omega), List.drop_of_length_le (by rw [List.length_map]; omega), List.drop_of_length_le (by rw [List.length_map]; omega)]
    simp
theorem gs_old {H : Hp} {g a : Addr} {C : Nat} (h : Gs H g C) (ha : H a = none) : a ≠ g := fun c => by
  obtain ⟨o, ho⟩ := h.some
  rw [c, ho] at ha
  cases ha
section
variable {K : PySem.W.Frag} {σ : L2.St} {H : Hp} {ta tb te tl : TE} {D : Ends} {tz tu : TS} {tr : TA} {g : TG}
theorem ev_reprL {xs : List V} (h : EvL te σ H xs) (hs : xs.all isSc = true) (sh : (PyData.list (xs.map sD)).showable = true) (nd : (PyData.list (xs.map sD)).hasDict = false) (dp : (PyData.list (xs.map sD)).depth ≤ 50) (sz : (PyData.list (xs.map sD)).shown.length ≤ sizeLine) :
    Ev (tCB (rRepr K) (tCons te tNil)) σ H (.str (PyData.list (xs.map sD)).shown) := fun H1 e Q q =>
  h H1 e _ fun p H2 _ e2 h2 => ⟨p, _, rfl, .lst (sq_of h2) (dpAll_sc hs), sh, nd, dp, sz, q H2 e2⟩
theorem ev_reprV {a : Addr} {xs : List V} (h : Ev te σ H (.ref a)) (ha : H a = some (.lst xs)) (hs : xs.all isSc = true) (sh : (PyData.list (xs.map sD)).showable = true) (nd : (PyData.list (xs.map sD)).hasDict = false) (dp : (PyData.list (xs.map sD)).depth ≤ 50) (sz : (PyData.list (xs.map sD)).shown.length ≤ sizeLine) :
    Ev (tCB (rRepr K) (tCons te tNil)) σ H (.str (PyData.list (xs.map sD)).shown) := fun H1 e Q q =>
  h H1 e _ fun H2 e2 => ⟨a, _, rfl, .lst (sq_of (e2 _ _ (e _ _ ha))) (dpAll_sc hs), sh, nd, dp, sz, q H2 e2⟩
theorem layAll_str : ∀ ss : List Str, (∀ s ∈ ss, PyData.strOk s = true) → PyData.canLayAll0 (ss.map PyData.str) = true
  | [], _ => rfl
  | s :: r, h => by
    rw [List.map_cons, PyData.canLayAll0, PyData.canLay0, h s List.mem_cons_self, layAll_str r fun x hx => h x (List.mem_cons_of_mem _ hx)]
    rfl
theorem depthAll_str : ∀ ss : List Str, PyData.depthAll (ss.map PyData.str) = 0
  | [] => rfl
  | s :: r => by
    rw [List.map_cons, PyData.depthAll, PyData.depth, depthAll_str r]
    rfl
theorem shaped_str {ss : List Str} (h : ∀ s ∈ ss, PyData.strOk s = true) : SeqAt.shaped (.list (ss.map PyData.str)) = true := by
  unfold SeqAt.shaped
  rw [PyData.canLay0, layAll_str ss h, PyData.depth, depthAll_str]
  rfl
theorem dpAll_str : ∀ ss : List Str, DpAll K H (ss.map V.str) (ss.map PyData.str)
  | [] => .nil
  | s :: r => .cons (.str s) (dpAll_str r)
theorem rv_eqStr {a b : Addr} {ss : List Str} (ha : H a = some (.lst (ss.map V.str))) (hb : H b = some (.lst (ss.map V.str))) (h : ∀ s ∈ ss, PyData.strOk s = true) : RV (rEqD K) (.ref a) (.ref b) H (.bl true) := fun H1 e Q q =>
  ⟨.list (ss.map PyData.str), .list (ss.map PyData.str), .lst (sq_of (e _ _ ha)) (dpAll_str ss), .lst (sq_of (e _ _ hb)) (dpAll_str ss), shaped_str h, shaped_str h, by
    rw [SeqAt.eqv_refl _ (SeqAt.canLay_of_shaped (shaped_str h))]
    exact q H1 (Ex.refl H1)⟩
end
section
variable {K : PySem.W.Frag} {mg : Str → Option Value}
def sp__law_all_right (T : Tx K mg) : Sp := fun vs H Q _ => ∃ g p ws s, ∃ C : Nat, vs = [.ref g, .ref p] ∧ Gs H g C ∧ C ≤ 10000000 ∧ GuG T H g p ws s ∧ ∀ H2, Gs H2 g (C + 1000) → ExB g H H2 → Q (.bl true) H2
def sp__law_steps_right (T : Tx K mg) : Sp := fun vs H Q _ => ∃ g, ∃ C : Nat, vs = [.ref g] ∧ Gs H g C ∧ C ≤ 10000000 ∧ ∀ H2, Gs H2 g (C + 1000) → ExB g H H2 → Q (.bl true) H2
end
section
variable {P : Program} {w : World} {K : PySem.W.Frag} {mg : Str → Option Value} {base : Heap}
theorem ok__law_all_right (T : Tx K mg) : FnQ P w K mg base 5 T.a__law_all_right T.d__law_all_right ["_law_generator_here", "_law_guesser"] (sp__law_all_right T) := by
  refine okQ T.f__law_all_right (k := 4) sc__law_all_right (fun vs H Q E h => ?_) (fun cdv A outer s H vs Q E hq hr h => ?_)
  · obtain ⟨g, p, ws, s, C, rfl, _⟩ := h
    rfl
  · obtain ⟨g, p, ws, s, C, rfl, hg, hC, hG, q⟩ := h
    refine ⟨_,       (pss_cons (ps_asg (pe_tup (pa_cons (pe_op op_add pe_int (pe_call (ok__law_random T) (hr.mono (by decide)) (by rfl) T.g__law_random T.f__law_random.kp T.b__law_random .nil pass0 (pa_cons (pv 0) (pa_cons pe_int pa_nil)))) (pa_cons (pe_op op_add pe_int (pe_call (ok__law_random T) (hr.mono (by decide)) (by rfl) T.g__law_random T.f__law_random.kp T.b__law_random .nil pass0 (pa_cons (pv 0) (pa_cons pe_int pa_nil)))) pa_nil))) (pg_tup rfl (pgs_cons (pg_name (i := 2) sc__law_all_right.nd rfl (by first | exact Or.inl rfl | exact Or.inr rfl)) (pgs_cons (pg_name (i := 3) sc__law_all_right.nd rfl (by first | exact Or.inl rfl | exact Or.inr rfl)) pgs_nil)))) 
      (pss_cons (ps_set (i := 4) sc__law_all_right.nd rfl (by first | exact Or.inl rfl | exact Or.inr rfl) (pe_call (ok__law_all_rows T) (hr.mono (by decide)) (by rfl) T.g__law_all_rows T.f__law_all_rows.kp T.b__law_all_rows .nil pass0 (pa_cons (pv 2) (pa_cons (pv 3) pa_nil)))) 
      (pss_cons (ps_setLc (i := 5) (own := [("_law_row_here", 6)]) (g := gName 6) (tt := tYes) rfl sc__law_all_right.nd rfl rfl (sw_true rfl rfl rfl (by decide +kernel)) (pi_list (pv 4)) (blkOk_by (own := [("_law_row_here", 6)]) (N := ["_law_generator_here", "_law_guesser", "_law_depth", "_law_many", "_law_rows", "_law_told", "_law_row_here"]) (sc := defScope s__law_all_right) (by decide +kernel)) (fun _ _ _ _ _ => (pg_name (i := 6) sc__law_all_right.nd rfl (by first | exact Or.inl rfl | exact Or.inr rfl))) (fun _ _ _ _ _ => pts_nil) (fun _ _ _ _ _ => (pe_callB (id := "repr") (r := rRepr K) (cr_repr hq hr.units) (by rfl) T.m_repr (by decide +kernel) (pa_cons (pe_call (ok_rests T) hr (by rfl) T.g_rests T.f_rests.kp T.b_rests .nil pass0 (pa_cons (pv 1) (pa_cons (pv 2) (pa_cons (pv 6) pa_nil)))) pa_nil)))) 
      (pss_one (ps_ret (pe_cmpR (op_eqD hr.units) (pe_callB (id := "sorted") (r := rSortedSA K) cr_sortedSA (by rfl) T.m_sorted (by decide +kernel) (pa_cons (pv 5) pa_nil)) (pe_callB (id := "sorted") (r := rSortedSA K) cr_sortedSA (by rfl) T.m_sorted (by decide +kernel) (pa_cons (pe_lc (own := [("_law_row_here", 6)]) (g := gName 6) (tt := tYes) rfl sc__law_all_right.nd (pi_list (pv 4)) (blkOk_by (own := [("_law_row_here", 6)]) (N := ["_law_generator_here", "_law_guesser", "_law_depth", "_law_many", "_law_rows", "_law_told", "_law_row_here"]) (sc := defScope s__law_all_right) (by decide +kernel)) (fun _ _ _ _ _ => (pg_name (i := 6) sc__law_all_right.nd rfl (by first | exact Or.inl rfl | exact Or.inr rfl))) (fun _ _ _ _ _ => pts_nil) (fun _ _ _ _ _ => (pe_callB (id := "repr") (r := rRepr K) (cr_repr hq hr.units) (by rfl) T.m_repr (by decide +kernel) (pa_cons (pv 6) pa_nil)))) pa_nil)) (nomark _))))))), ?_⟩
    refine q_gin (tup_in (ta_in (top_in2 (ev_use ev_c fun H1 e1 => rnd_use (n := 2) (ev_var rfl) ev_c (hg.ex e1) (by omega) (by decide) (by decide) fun z1 H2 z10 z11 hg2 E2 => ⟨1, z1, rfl, rfl, ?_⟩))))
    obtain ⟨d0, rfl⟩ := Int.eq_ofNat_of_zero_le z10
    dsimp only
    rw [show (1 : Int) + (d0 : Int) = ((1 + d0 : Nat) : Int) by omega]
    refine ta_in (top_in2 (ev_use ev_c fun H3 e3 => rnd_use (n := 3) (ev_var rfl) ev_c (hg2.ex e3) (by omega) (by decide) (by decide) fun z2 H4 z20 z21 hg4 E4 => ⟨1, z2, rfl, rfl, ta_nil ⟨by show 2 ≤ sizeLine; decide, fun pt hpt => ?_⟩⟩))
    obtain ⟨n0, rfl⟩ := Int.eq_ofNat_of_zero_le z20
    dsimp only at hpt ⊢
    rw [show (1 : Int) + (n0 : Int) = ((1 + n0 : Nat) : Int) by omega]
    have hd : 1 ≤ 1 + d0 ∧ 1 + d0 ≤ 2 := by omega
    have hn : 1 ≤ 1 + n0 ∧ 1 + n0 ≤ 3 := by omega
    generalize 1 + d0 = d at hd ⊢
    generalize 1 + n0 = n at hn ⊢
    have x5 := Ex.new (o := .tup [V.int (d : Int), V.int (n : Int)]) hpt
    refine ⟨pt, _, rfl, st_of upd_same, rfl, _, _, rfl, _, _, rfl, rfl, ?_⟩
    have E5 : ExB g H (upd H4 pt (.tup [V.int (d : Int), V.int (n : Int)])) := (((ExB.of e1).trans E2).trans (ExB.of e3)).trans (E4.trans (ExB.of x5))
    have hg5 := hg4.ex x5
    generalize (upd H4 pt (.tup [V.int (d : Int), V.int (n : Int)])) = H5 at E5 hg5 ⊢
    have G5 := (hG.exB E5).gu
    refine q_in (tcall_in (ta_consV (ev_var rfl) fun H6 e6 => ta_consV (ev_var rfl) fun H7 e7 => ta_nil ⟨d, n, rfl, hd.1, by omega, hn.2, fun pl H8 hpl e8 hLL => ?_⟩))
    have e58 := (e6.trans e7).trans e8
    have hlen : (allr d n).length ≤ 512 := by rw [allr_len]; exact pow8 (by omega) hn.2
    have sm : ∀ r ∈ allr d n, M10.Smp d r := fun r hr x hx => by
      have := (allr_row d n r hr).2 x hx
      have h2 := two_half hd.1
      omega
    refine q_asgL (el_mapLL (K := K) (fun r => V.str (tx (rst ws s d r))) (ev_var rfl) hLL (by omega) (fun _ => rfl) fun u r H9 e9 hr hu => ?_) fun pd H9 hpd e9 k9 => ?_
    · have hm : rst ws s d r ∈ allr d n := (rst_all ⟨hd.1, by omega⟩ ws s n).mem_iff.mp (List.mem_map.mpr ⟨r, hr, rfl⟩)
      obtain ⟨t1, t2, t3, t4, _⟩ := tx_of hd hn hm
      have hrl := (allr_row d n r hr).1
      exact ev_reprL (K := K) (xs := (rst ws s d r).map V.int) (el_callR (ea_cons (ev_var rfl) (ea_cons (ev_var rfl) (ea_cons (ev_var rfl) ea_nil))) fun H10 e10 Q k E => ⟨p, u, ws, s, r, d, rfl, hd.1, by omega, (G5.ex (e58.trans e9)).ex e10, e10 _ _ hu, by omega, sm r hr, k⟩) (ints_sc _) t1 t2 t3 (sz_of (by have := t4; show (dat (rst ws s d r)).shown.length ≤ 100000; omega))
    · have ek : ((allr d n).map fun r => V.str (tx (rst ws s d r))) = (((allr d n).map (rst ws s d)).map tx).map V.str := by
        rw [List.map_map, List.map_map]
        rfl
      rw [ek] at k9
      have hp : srt (((allr d n).map (rst ws s d)).map tx) = srt ((allr d n).map tx) := srt_perm ((rst_all ⟨hd.1, by omega⟩ ws s n).map tx)
      refine s_ret (ev_opLL (xs := (srt (((allr d n).map (rst ws s d)).map tx)).map V.str) (ys := (srt ((allr d n).map tx)).map V.str) (el_sortedSAv (K := K) (ev_var rfl) (sq_of k9)) (el_sortedSA (K := K) (ss := (allr d n).map tx) ?_) fun a b H10 ha hb _ => ?_) fun H11 e11 => q H11 ((hg5.ex ((e58.trans e9).trans e11)).mono (by omega)) (E5.trans (ExB.of ((e58.trans e9).trans e11)))
      · rw [List.map_map]
        refine el_mapLL (K := K) (V.str ∘ tx) (ev_var rfl) (hLL.ex e9) (by omega) (fun _ => rfl) fun u r H10 e10 hr hu => ?_
        obtain ⟨t1, t2, t3, t4, _⟩ := tx_of hd hn hr
        exact ev_reprV (K := K) (xs := r.map V.int) (ev_var rfl) hu (ints_sc r) t1 t2 t3 (sz_of (by have := t4; show (dat r).shown.length ≤ 100000; omega))
      · rw [hp] at ha
        exact rv_eqStr (K := K) ha hb fun x hx => by
          obtain ⟨r, hr, rfl⟩ := List.mem_map.mp ((srt_ok _).1.mem_iff.mp hx)
          exact (tx_of hd hn hr).2.2.2.2
theorem ok__law_steps_right (T : Tx K mg) : FnOk P w K mg base CX0 7 T.a__law_steps_right T.d__law_steps_right ["_law_generator_here"] (sp__law_steps_right T) := by
  refine T.f__law_steps_right.ok (k := 6) sc__law_steps_right (fun vs H Q E h => ?_) (fun cdv A outer s H vs Q E hr h => ?_)
  · obtain ⟨g, C, rfl, _⟩ := h
    rfl
  · obtain ⟨g, C, rfl, hg, hC, q⟩ := h
    refine ⟨_,       (pss_cons (ps_set (i := 1) sc__law_steps_right.nd rfl (by first | exact Or.inl rfl | exact Or.inr rfl) (pe_call (ok__law_random T) (hr.mono (by decide)) (by rfl) T.g__law_random T.f__law_random.kp T.b__law_random .nil pass0 (pa_cons (pv 0) (pa_cons pe_int pa_nil)))) 
      (pss_cons (ps_setLc (i := 2) (own := [("_law_place", 6)]) (g := gName 6) (tt := tYes) rfl sc__law_steps_right.nd rfl rfl (sw_true rfl rfl rfl (by decide +kernel)) (pi_range1 rfl T.m_range (pa_cons (pe_op op_add (pe_op op_add (pv 1) pe_int) (pe_call (ok__law_random T) (hr.mono (by decide)) (by rfl) T.g__law_random T.f__law_random.kp T.b__law_random .nil pass0 (pa_cons (pv 0) (pa_cons pe_int pa_nil)))) pa_nil)) (blkOk_by (own := [("_law_place", 6)]) (N := ["_law_generator_here", "_law_order", "_law_row_here", "_law_due", "_law_turn", "_law_made", "_law_place", "_law_at"]) (sc := defScope s__law_steps_right) (by decide +kernel)) (fun _ _ _ _ _ => (pg_name (i := 6) sc__law_steps_right.nd rfl (by first | exact Or.inl rfl | exact Or.inr rfl))) (fun _ _ _ _ _ => pts_nil) (fun _ _ _ _ _ => (pe_op op_sub (pe_call (ok__law_random T) (hr.mono (by decide)) (by rfl) T.g__law_random T.f__law_random.kp T.b__law_random .nil pass0 (pa_cons (pv 0) (pa_cons pe_int pa_nil))) pe_int))) 
      (pss_cons (ps_set (i := 3) sc__law_steps_right.nd rfl (by first | exact Or.inl rfl | exact Or.inr rfl) (pe_callTy (T := "list") (r := rListS K) call_list_of (by rfl) T.m_list (by decide +kernel) (pa_cons (pv 2) pa_nil))) 
      (pss_cons (ps_for PassesOwn.never rfl (pi_range1 rfl T.m_range (pa_cons (pv 1) pa_nil)) (pg_name (i := 4) sc__law_steps_right.nd rfl (by first | exact Or.inl rfl | exact Or.inr rfl)) 
        (pss_one (ps_set (i := 3) sc__law_steps_right.nd rfl (by first | exact Or.inl rfl | exact Or.inr rfl) (pe_lc (own := [("_law_at", 7)]) (g := gName 7) (tt := tYes) rfl sc__law_steps_right.nd (pi_range1 rfl T.m_range (pa_cons (pe_op op_sub (pe_callB (id := "len") (r := rLenS K) call_len_seq (by rfl) T.m_len PySem.boot_len (pa_cons (pv 3) pa_nil)) pe_int) pa_nil)) (blkOk_by (own := [("_law_at", 7)]) (N := ["_law_generator_here", "_law_order", "_law_row_here", "_law_due", "_law_turn", "_law_made", "_law_place", "_law_at"]) (sc := defScope s__law_steps_right) (by decide +kernel)) (fun _ _ _ _ _ => (pg_name (i := 7) sc__law_steps_right.nd rfl (by first | exact Or.inl rfl | exact Or.inr rfl))) (fun _ _ _ _ _ => pts_nil) (fun _ _ _ _ _ => (pe_op op_sub (pe_ix (r := rIxL K) ix_list (pv 3) (pe_op op_add (pv 7) pe_int) (fun _ _ => rfl)) (pe_ix (r := rIxL K) ix_list (pv 3) (pv 7) (fun _ _ => rfl)))))))) 
      (pss_cons (ps_set (i := 5) sc__law_steps_right.nd rfl (by first | exact Or.inl rfl | exact Or.inr rfl) (pe_call (ok_steps T) hr (by rfl) T.g_steps T.f_steps.kp T.b_steps .nil pass0 (pa_cons (pv 1) pa_nil))) 
      (pss_one (ps_ret (pe_and (pe_cmpR (op_eqD hr.units) (pe_slice (r := rSlL K) sl_list (pe_call (ok_plain_rests T) (hr.mono (by decide)) (by rfl) T.g_plain_rests T.f_plain_rests.kp T.b_plain_rests .nil pass0 (pa_cons (pv 5) (pa_cons (pv 2) pa_nil))) (po_some (pv 1)) po_none) (pv 3) (nomark _)) (pe_and (pe_cmpR op_eq (pe_meth0 (pv 5) T.cl_Guesser T.me_Guesser_order (ok_Guesser_order T) (hr.mono (by decide)) T.b_Guesser_order .nil pass0) (pv 1) (nomark _)) (pe_one (pe_cmpR op_eq (pe_meth0 (pv 5) T.cl_Guesser T.me_Guesser_shift (ok_Guesser_shift T) (hr.mono (by decide)) T.b_Guesser_shift .nil pass0) pe_int (nomark _)))))))))))), ?_⟩
    refine q_in (rnd_use (n := 9) (ev_var rfl) ev_c hg (by omega) (by decide) (by decide) fun z1 H1 z10 z11 hg1 E1 => ?_)
    obtain ⟨o, rfl⟩ := Int.eq_ofNat_of_zero_le z10
    have ho : o ≤ 8 := by omega
    refine q_in (lcR1_in (ta_in (top_in2 (ev_use (ev_op (ev_var rfl) ev_c rv_I0) fun H2 e2 => rnd_use (n := 4) (ev_var rfl) ev_c (hg1.ex e2) (by omega) (by decide) (by decide) fun z2 H3 z20 z21 hg3 E3 => ⟨_, z2, rfl, rfl, ta_nil ⟨_, rfl, by omega, by omega, ?_⟩⟩))))
    obtain ⟨x, rfl⟩ := Int.eq_ofNat_of_zero_le z20
    rw [show ((o : Int) + 1 + (x : Int)).toNat = o + 1 + x by omega]
    refine ints_body (fun z => -100 ≤ z ∧ z ≤ 100) (n := o + 1 + x) (d := 4) (by omega) (fun _ => rfl) hg3 (fun i H' R hi hG hE k => ?_) fun pr H4 row hpr hlen hz k4 hg4 E4 => ?_
    · exact top_in2 (rnd_use (n := 201) (ev_var rfl) ev_c hG (by omega) (by decide) (by decide) fun z H5 z0 z1 hG5 E5 => ev_use ev_c fun H6 e6 => ⟨z, 100, rfl, rfl, k (z - 100) H6 (by omega) (hG5.ex e6) (E5.trans (ExB.of e6))⟩)
    have EH : ExB g H H4 := ((E1.trans (ExB.of e2)).trans E3).trans E4
    have Lr : Li H4 pr row := k4
    refine q_asgL (el_list (K := K) (ev_var rfl) Lr.sq) fun pd H5 hpd e5 k5 => ?_
    have hDf : row = (List.range (row.length - 0)).map (Df (fun t => row.getD t 0) 0) := by
      apply List.ext_getElem?
      intro i
      rw [List.getElem?_map]
      by_cases c : i < row.length
      · rw [List.getElem?_range (by omega), List.getElem?_eq_getElem c]
        show _ = some (row.getD i 0)
        rw [List.getD_eq_getElem?_getD, List.getElem?_eq_getElem c]
        rfl
      · rw [List.getElem?_eq_none (by omega), List.getElem?_eq_none (by rw [List.length_range]; omega)]
        rfl
    refine q_forR1 (n := (o : Int)) (ea_cons (ev_var rfl) ea_nil) (by omega)
      (fun t σ' H' => ∃ y4 pd, σ' = [some (.ref g), some (.int (o : Int)), some (.ref pr), some (.ref pd), y4, none, none, none] ∧ Ex H4 H' ∧ H' pd = some (.lst (((List.range (row.length - t)).map (Df (fun t => row.getD t 0) t)).map V.int)))
      (fun H6 e6 => ⟨none, pd, rfl, e5.trans e6, by rw [e6 _ _ k5, ← hDf]⟩) (fun t σ' H' ht hP => ?_) (fun σ' H' hP => ?_)
    · obtain ⟨y4, pd, rfl, e, kd⟩ := hP
      have hln : (((List.range (row.length - t)).map (Df (fun t => row.getD t 0) t)).map V.int).length = row.length - t := by rw [List.length_map, List.length_map, List.length_range]
      have hat : ∀ i, i < row.length - t → (((List.range (row.length - t)).map (Df (fun t => row.getD t 0) t)).map V.int)[i]? = some (V.int (Df (fun t => row.getD t 0) t i)) := fun i hi => by
        rw [List.getElem?_map, List.getElem?_map, List.getElem?_range hi]
        rfl
      refine s_asgL (xs := ((List.range (row.length - (t + 1))).map (Df (fun t => row.getD t 0) (t + 1))).map V.int) ?_ fun p2 H6 hp2 e6 k6 => ⟨_, p2, rfl, e.trans e6, k6⟩
      rw [List.map_map]
      refine el_mapR (n := row.length - (t + 1)) (V.int ∘ Df (fun t => row.getD t 0) (t + 1)) (ea_cons (ev_is (ev_op (ev_len (K := K) (ev_var rfl) (sq_of kd)) ev_c rv_I0) (by rw [hln]; congr 1; omega)) ea_nil) (by omega) (fun _ => rfl) (fun i H7 e7 hi => ?_)
      exact ev_op (ev_op (ev_var rfl) (ev_is (w := .int ((i + 1 : Nat) : Int)) (ev_op (ev_var rfl) ev_c rv_I0) rfl) (rv_ixL (K := K) (sq_of (e7 _ _ kd)) (atI_nat (hat (i + 1) (by omega))))) (ev_op (ev_var rfl) (ev_var rfl) (rv_ixL (K := K) (sq_of (e7 _ _ kd)) (atI_nat (hat i (by omega))))) rv_I0
    · obtain ⟨y4, pd, rfl, e, kd⟩ := hP
      rw [Int.toNat_natCast] at kd
      refine q_in (tcall_in (ta_consV (ev_var rfl) fun H6 e6 => ta_nil ⟨o, rfl, ho, fun x H7 hx e7 gx => ?_⟩))
      have e47 := (e.trans e6).trans e7
      have hso := steps_ok ho row (by omega)
      have hw : (stw o).length = o := by unfold stw; rw [List.length_map, List.length_range]
      refine s_ret (v := .bl true) (ev_andV (a := true) (b := true) (ev_is (ev_opL1 (xs := ((ur (stw o) 0 row).drop o).map V.int) ?_ (fun H8 _ => ev_var rfl) fun p8 H8 hp8 e8 => rv_eqI (K := K) (ns := (ur (stw o) 0 row).drop o) (ms := (List.range (row.length - o)).map (Df (fun t => row.getD t 0) o)) (sq_of hp8) (sq_of (e8 _ _ (e7 _ _ (e6 _ _ kd))))) (by rw [hso]; simp)) fun _ => ev_andV (a := true) (b := true) (ev_is (ev_op (gx.orderE (ev_var rfl)) (ev_var rfl) (rv_eq rfl)) (by rw [hw]; simp)) fun _ => ev_is (ev_op (gx.shiftE (ev_var rfl)) ev_c (rv_eq rfl)) rfl) fun H8 e8 => q H8 ((hg4.ex (e47.trans e8)).mono (by omega)) (EH.trans (ExB.of (e47.trans e8)))
      rw [← drop_cut]
      exact el_slN (K := K) (xs := (ur (stw o) 0 row).map V.int) (el_callR (ea_cons (ev_var rfl) (ea_cons (ev_var rfl) ea_nil)) fun H8 e8 Q k E => ⟨x, pr, stw o, 0, row, rfl, gx.ex e8, Lr.ex (e47.trans e8), by omega, k⟩) (fun H8 e8 => eo_some (ev_var rfl)) (fun H8 e8 => eo_none)
end
end K10

set_option Elab.async false
set_option linter.all false
set_option maxRecDepth 100000
set_option maxHeartbeats 4000000
namespace K10
open PySem PySem.Spec PyProof.Rows L2 Evl WS M50 M10
def sp__law_right {K : PySem.W.Frag} {mg : Str → Option Value} (T : Tx K mg) : Sp := fun vs H Q _ => ∃ g p a ws, ∃ s C : Nat, vs = [.ref g, .ref p, .ref a, .int (s : Int)] ∧ Gs H g C ∧ C ≤ 9000000 ∧ GuG T H g p ws s ∧ Li H a ws ∧ a ≠ g ∧ ∀ H2, Gs H2 g (C + 10000) → ExB g H H2 → Q (.bl true) H2
theorem pickD (i : Nat) (h : i < 7) : ∃ d : Nat, 1 ≤ d ∧ d ≤ 32 ∧ [V.int 1, V.int 2, V.int 4, V.int 8, V.int 16, V.int 24, V.int 32][i]? = some (V.int (d : Int)) := by
  match i, h with
  | 0, _ => exact ⟨1, by decide, by decide, rfl⟩
  | 1, _ => exact ⟨2, by decide, by decide, rfl⟩
  | 2, _ => exact ⟨4, by decide, by decide, rfl⟩
  | 3, _ => exact ⟨8, by decide, by decide, rfl⟩
  | 4, _ => exact ⟨16, by decide, by decide, rfl⟩
  | 5, _ => exact ⟨24, by decide, by decide, rfl⟩
  | 6, _ => exact ⟨32, by decide, by decide, rfl⟩
theorem Li.exB {H H' : Hp} {g a : Addr} {ns : List Int} (h : Li H a ns) (n : a ≠ g) (E : ExB g H H') : Li H' a ns := E _ _ n h
theorem rst_smp {ws : List Int} {s d : Nat} (h : 1 ≤ d) (row : List Int) : M10.Smp d (rst ws s d row) := fun x hx => by
  unfold rst at hx
  obtain ⟨i, _, rfl⟩ := List.mem_map.mp hx
  exact wr_smp h _
section
variable {P : Program} {w : World} {K : PySem.W.Frag} {mg : Str → Option Value} {base : Heap}
theorem ok__law_right (T : Tx K mg) : FnOk P w K mg base CX0 5 T.a__law_right T.d__law_right ["_law_generator_here", "_law_guesser", "_law_weights_here", "_law_shift"] (sp__law_right T) := by
  refine T.f__law_right.ok (k := 4) sc__law_right (fun vs H Q E h => ?_) (fun cdv A outer s H vs Q E hr h => ?_)
  · obtain ⟨g, p, a, ws, s, C, rfl, _⟩ := h
    rfl
  · obtain ⟨g, p, a, ws, s, C, rfl, hg, hC, hG, hA, ag, q⟩ := h
    refine ⟨_,       (pss_cons (ps_set (i := 4) sc__law_right.nd rfl (by first | exact Or.inl rfl | exact Or.inr rfl) (pe_ix (r := rIxL K) ix_list (pe_lst (pa_cons pe_int (pa_cons pe_int (pa_cons pe_int (pa_cons pe_int (pa_cons pe_int (pa_cons pe_int (pa_cons pe_int pa_nil)))))))) (pe_call (ok__law_random T) (hr.mono (by decide)) (by rfl) T.g__law_random T.f__law_random.kp T.b__law_random .nil pass0 (pa_cons (pv 0) (pa_cons pe_int pa_nil))) (fun _ _ => rfl))) 
      (pss_cons (ps_set (i := 5) sc__law_right.nd rfl (by first | exact Or.inl rfl | exact Or.inr rfl) (pe_call (ok__law_row T) hr (by rfl) T.g__law_row T.f__law_row.kp T.b__law_row .nil pass0 (pa_cons (pv 0) (pa_cons (pv 4) (pa_cons (pe_call (ok__law_random T) (hr.mono (by decide)) (by rfl) T.g__law_random T.f__law_random.kp T.b__law_random .nil pass0 (pa_cons (pv 0) (pa_cons pe_int pa_nil))) pa_nil))))) 
      (pss_cons (ps_setLc (i := 6) (own := [("_law_item", 11)]) (g := gName 11) (tt := tYes) rfl sc__law_right.nd rfl rfl (sw_true rfl rfl rfl (by decide +kernel)) (pi_list (pe_call (ok__law_rests_of T) (hr.mono (by decide)) (by rfl) T.g__law_rests_of T.f__law_rests_of.kp T.b__law_rests_of .nil pass0 (pa_cons (pv 2) (pa_cons (pv 3) (pa_cons (pv 5) pa_nil))))) (blkOk_by (own := [("_law_item", 11)]) (N := ["_law_generator_here", "_law_guesser", "_law_weights_here", "_law_shift", "_law_depth", "_law_row_here", "_law_due", "_law_given", "_law_told", "_law_back", "_law_great", "_law_item", "_law_place"]) (sc := defScope s__law_right) (by decide +kernel)) (fun _ _ _ _ _ => (pg_name (i := 11) sc__law_right.nd rfl (by first | exact Or.inl rfl | exact Or.inr rfl))) (fun _ _ _ _ _ => pts_nil) (fun _ _ _ _ _ => (pe_call (ok__law_wrapped T) (hr.mono (by decide)) (by rfl) T.g__law_wrapped T.f__law_wrapped.kp T.b__law_wrapped .nil pass0 (pa_cons (pv 11) (pa_cons (pv 4) pa_nil))))) 
      (pss_cons (ps_set (i := 7) sc__law_right.nd rfl (by first | exact Or.inl rfl | exact Or.inr rfl) (pe_callTy (T := "list") (r := rListS K) call_list_of (by rfl) T.m_list (by decide +kernel) (pa_cons (pv 5) pa_nil))) 
      (pss_cons (ps_set (i := 8) sc__law_right.nd rfl (by first | exact Or.inl rfl | exact Or.inr rfl) (pe_call (ok_rests T) hr (by rfl) T.g_rests T.f_rests.kp T.b_rests .nil pass0 (pa_cons (pv 1) (pa_cons (pv 4) (pa_cons (pv 7) pa_nil))))) 
      (pss_cons (ps_if (PW.pt (pw_or (pt_cmpR (op_neD hr.units) (pv 8) (pv 6) (nomark _)) (pw_or (pt_cmpR (op_neD hr.units) (pv 7) (pv 5) (nomark _)) (pw_or1 (pt_cmpR (op_neD hr.units) (pe_call (ok_row_of T) hr (by rfl) T.g_row_of T.f_row_of.kp T.b_row_of .nil pass0 (pa_cons (pv 1) (pa_cons (pv 4) (pa_cons (pv 8) pa_nil)))) (pv 5) (nomark _)))))) 
        (pss_one (ps_ret pe_bl)) pss_nil) 
      (pss_cons (ps_expr (pe_bm PySem.F.plainAttrs_list PySem.F.slot_list_append PySem.F.type_list_append mt_append (pv 7) (pa_cons pe_non pa_nil))) 
      (pss_cons (ps_expr (pe_bm PySem.F.plainAttrs_list PySem.F.slot_list_append PySem.F.type_list_append mt_append (pv 8) (pa_cons pe_non pa_nil))) 
      (pss_cons (ps_set (i := 9) sc__law_right.nd rfl (by first | exact Or.inl rfl | exact Or.inr rfl) (pe_call (ok_row_of T) hr (by rfl) T.g_row_of T.f_row_of.kp T.b_row_of .nil pass0 (pa_cons (pv 1) (pa_cons (pv 4) (pa_cons (pv 5) pa_nil))))) 
      (pss_cons (ps_if (PW.pt (pw_or (pt_cmpR (op_neD hr.units) (pe_call (ok_rests T) hr (by rfl) T.g_rests T.f_rests.kp T.b_rests .nil pass0 (pa_cons (pv 1) (pa_cons (pv 4) (pa_cons (pv 9) pa_nil)))) (pv 5) (nomark _)) (pw_or1 (pt_cmpR (op_neD hr.units) (pe_call (ok_rests T) hr (by rfl) T.g_rests T.f_rests.kp T.b_rests .nil pass0 (pa_cons (pv 1) (pa_cons (pv 4) (pa_cons (pv 5) pa_nil)))) (pv 6) (nomark _))))) 
        (pss_one (ps_ret pe_bl)) pss_nil) 
      (pss_cons (ps_setLc (i := 10) (own := [("_law_place", 12)]) (g := gName 12) (tt := tYes) rfl sc__law_right.nd rfl rfl (sw_true rfl rfl rfl (by decide +kernel)) (pi_range1 rfl T.m_range (pa_cons (pe_op op_add (pe_callB (id := "len") (r := rLenS K) call_len_seq (by rfl) T.m_len PySem.boot_len (pa_cons (pv 2) pa_nil)) (pe_call (ok__law_random T) (hr.mono (by decide)) (by rfl) T.g__law_random T.f__law_random.kp T.b__law_random .nil pass0 (pa_cons (pv 0) (pa_cons pe_int pa_nil)))) pa_nil)) (blkOk_by (own := [("_law_place", 12)]) (N := ["_law_generator_here", "_law_guesser", "_law_weights_here", "_law_shift", "_law_depth", "_law_row_here", "_law_due", "_law_given", "_law_told", "_law_back", "_law_great", "_law_item", "_law_place"]) (sc := defScope s__law_right) (by decide +kernel)) (fun _ _ _ _ _ => (pg_name (i := 12) sc__law_right.nd rfl (by first | exact Or.inl rfl | exact Or.inr rfl))) (fun _ _ _ _ _ => pts_nil) (fun _ _ _ _ _ => (pe_op op_sub (pe_call (ok__law_random T) (hr.mono (by decide)) (by rfl) T.g__law_random T.f__law_random.kp T.b__law_random .nil pass0 (pa_cons (pv 0) (pa_cons (pe_op op_powW pe_int pe_int) pa_nil))) (pe_op op_mul pe_int (pe_op op_powW pe_int pe_int))))) 
      (pss_cons (ps_if (pt_cmpR op_ne (pe_call (ok_guess T) (hr.mono (by decide)) (by rfl) T.g_guess T.f_guess.kp T.b_guess .nil pass0 (pa_cons (pv 1) (pa_cons (pv 10) pa_nil))) (pe_call (ok__law_guess T) (hr.mono (by decide)) (by rfl) T.g__law_guess T.f__law_guess.kp T.b__law_guess .nil pass0 (pa_cons (pv 2) (pa_cons (pv 3) (pa_cons (pv 10) pa_nil)))) (nomark _)) 
        (pss_one (ps_ret pe_bl)) pss_nil) 
      (pss_one (ps_ret (pe_cmpR (op_eqD hr.units) (pe_call (ok_plain_rests T) (hr.mono (by decide)) (by rfl) T.g_plain_rests T.f_plain_rests.kp T.b_plain_rests .nil pass0 (pa_cons (pv 1) (pa_cons (pv 10) pa_nil))) (pe_call (ok__law_rests_of T) (hr.mono (by decide)) (by rfl) T.g__law_rests_of T.f__law_rests_of.kp T.b__law_rests_of .nil pass0 (pa_cons (pv 2) (pa_cons (pv 3) (pa_cons (pv 10) pa_nil)))) (nomark _)))))))))))))))), ?_⟩
    have hwb := hG.wb
    have hw8 := hwb.1
    have hs15 := hG.sh
    obtain ⟨og, hog⟩ := hg.some
    refine q_in (top_in (el_use (el_lst (ea_cons ev_c (ea_cons ev_c (ea_cons ev_c (ea_cons ev_c (ea_cons ev_c (ea_cons ev_c (ea_cons ev_c ea_nil))))))) (by show 7 ≤ 100000; decide)) fun pm H1 hpm e1 k1 => rnd_use (n := 7) (ev_var rfl) ev_c (hg.ex e1) (by omega) (by decide) (by decide) fun z1 H2 z10 z11 hg2 E2 => ?_))
    obtain ⟨i1, rfl⟩ := Int.eq_ofNat_of_zero_le z10
    obtain ⟨d, d1, d2, hdi⟩ := pickD i1 (by omega)
    have npm : pm ≠ g := gs_old hg hpm
    refine ⟨pm, _, _, .int (d : Int), rfl, rfl, sq_of (E2 _ _ npm k1), atI_nat hdi, ?_⟩
    refine q_in (tcall_in (ta_consV (ev_var rfl) fun H3 e3 => ta_consV (ev_var rfl) fun H4 e4 => ta_in (rnd_use (n := 10) (ev_var rfl) ev_c ((hg2.ex e3).ex e4) (by omega) (by decide) (by decide) fun z2 H5 z20 z21 hg5 E5 => ?_)))
    obtain ⟨n, rfl⟩ := Int.eq_ofNat_of_zero_le z20
    refine ta_nil ⟨g, d, n, _, rfl, hg5, by omega, d1, d2, by omega, fun pr row H6 hpr Lr hrl hsm hg6 E6 => ?_⟩
    have E06 : ExB g H H6 := ((((ExB.of e1).trans E2).trans (ExB.of (e3.trans e4))).trans E5).trans E6
    have npr : pr ≠ g := gs_old hg5 hpr
    have G6 := hG.exB E06
    have A6 := hA.exB ag E06
    refine q_asgL (xs := (rst ws s d row).map V.int) ?_ fun pd H7 hpd e7 k7 => ?_
    · rw [rst_ur, List.map_map]
      exact el_mapN (K := K) (0 : Int) (xs := ur ws s row) (V.int ∘ wr d) (el_callR (ea_cons (ev_var rfl) (ea_cons (ev_var rfl) (ea_cons (ev_var rfl) ea_nil))) fun H8 e8 Q k E => ⟨a, pr, ws, row, s, rfl, A6.ex e8, hwb, hs15, Lr.ex e8, by omega, k⟩) (by unfold ur; rw [List.length_map, List.length_range]; omega) (fun _ => rfl) fun z H8 e8 hz => ev_call (ea_cons (ev_var rfl) (ea_cons (ev_var rfl) ea_nil)) (spv fun H9 e9 Q q E => ⟨z, d, rfl, d1, d2, q⟩)
    refine q_asgL (el_list (K := K) (ev_var rfl) (Lr.ex e7).sq) fun pg H8 hpg e8 k8 => ?_
    have e68 := e7.trans e8
    refine q_asgL (el_callR (ea_cons (ev_var rfl) (ea_cons (ev_var rfl) (ea_cons (ev_var rfl) ea_nil))) fun H9 e9 Q k E => ⟨p, pg, ws, s, row, d, rfl, d1, d2, ((G6.gu).ex e68).ex e9, e9 _ _ k8, by omega, hsm, k⟩) fun pt H9 hpt e9 k9 => ?_
    have e79 := e8.trans e9
    have e69 := e7.trans e79
    have L9 := Lr.ex e69
    have g9 : Li H9 pg row := e9 _ _ k8
    have d9 : Li H9 pd (rst ws s d row) := e79 _ _ k7
    have t9 : Li H9 pt (rst ws s d row) := k9
    have hbr := back_row (ws := ws) (s := s) d1 hsm row.length (Nat.le_refl _)
    rw [List.take_length] at hbr
    have rl : (rst ws s d row).length = row.length := rst_len ws s d row
    refine q_when (b := false) (et_is (et_or (b := false) (et_test (ev_op (ev_var rfl) (ev_var rfl) (rv_neI (K := K) (ns := rst ws s d row) (ms := rst ws s d row) t9.sq d9.sq))) fun _ => et_is (et_or (b := false) (et_test (ev_op (ev_var rfl) (ev_var rfl) (rv_neI (K := K) (ns := row) (ms := row) g9.sq L9.sq))) fun _ => et_is (et_test (ev_opL1 (xs := (ru ws s d (rst ws s d row) (rst ws s d row).length).map V.int) (el_callR (ea_cons (ev_var rfl) (ea_cons (ev_var rfl) (ea_cons (ev_var rfl) ea_nil))) fun H10 e10 Q k E => ⟨p, pt, ws, s, rst ws s d row, d, rfl, d1, d2, ((G6.gu).ex e69).ex e10, t9.ex e10, by omega, rst_smp d1 row, k⟩) (fun H10 _ => ev_var rfl) fun u H10 hu e10 => rv_neI (K := K) (ns := ru ws s d (rst ws s d row) (rst ws s d row).length) (ms := row) (sq_of hu) (L9.ex e10).sq)) (by rw [rl, hbr]; simp)) (by simp)) (by simp)) (fun z => by cases z) fun _ H10 e10 => ?_
    refine q_app (v := .non) (e10 _ _ g9) (ev_var rfl) ev_c (by rw [List.length_map]; omega) fun H11 e11 => ?_
    have m7 : Ex H7 (upd H11 pg (.lst (row.map V.int ++ [V.non]))) := Ex.mut (e79.trans (e10.trans e11)) hpg
    have ntg : pt ≠ pg := fun z => by rw [z, k8] at hpt; cases hpt
    have t11 : (upd H11 pg (.lst (row.map V.int ++ [V.non]))) pt = some (.lst ((rst ws s d row).map V.int)) := by rw [upd_ne ntg]; exact e11 _ _ (e10 _ _ t9)
    generalize (upd H11 pg (.lst (row.map V.int ++ [V.non]))) = H12 at m7 t11 ⊢
    refine q_app (v := .non) t11 (ev_var rfl) ev_c (by rw [List.length_map]; omega) fun H13 e13 => ?_
    have hpt7 : H7 pt = none := fresh_back e8 hpt
    have m7' : Ex H7 (upd H13 pt (.lst ((rst ws s d row).map V.int ++ [V.non]))) := Ex.mut (m7.trans e13) hpt7
    generalize (upd H13 pt (.lst ((rst ws s d row).map V.int ++ [V.non]))) = H14 at m7' ⊢
    have e614 := e7.trans m7'
    have L14 := Lr.ex e614
    have d14 : Li H14 pd (rst ws s d row) := m7' _ _ k7
    have Gu14 := (G6.gu).ex e614
    refine q_asgL (el_callR (ea_cons (ev_var rfl) (ea_cons (ev_var rfl) (ea_cons (ev_var rfl) ea_nil))) fun H15 e15 Q k E => ⟨p, pr, ws, s, row, d, rfl, d1, d2, Gu14.ex e15, L14.ex e15, by omega, hsm, k⟩) fun pb H15 hpb e15 k15 => ?_
    have b15 : Li H15 pb (ru ws s d row row.length) := k15
    have bsm : M10.Smp d (ru ws s d row row.length) := ru_smp d1 hsm row.length (Nat.le_refl _)
    have hbb := back_rests (ws := ws) (s := s) d1 hsm
    refine q_when (b := false) (et_is (et_or (b := false) (et_is (et_test (ev_opL1 (xs := (rst ws s d (ru ws s d row row.length)).map V.int) (el_callR (ea_cons (ev_var rfl) (ea_cons (ev_var rfl) (ea_cons (ev_var rfl) ea_nil))) fun H16 e16 Q k E => ⟨p, pb, ws, s, ru ws s d row row.length, d, rfl, d1, d2, (Gu14.ex e15).ex e16, b15.ex e16, by rw [ru_len]; omega, bsm, k⟩) (fun H16 _ => ev_var rfl) fun u H16 hu e16 => rv_neI (K := K) (ns := rst ws s d (ru ws s d row row.length)) (ms := row) (sq_of hu) ((L14.ex e15).ex e16).sq)) (by rw [hbb])) fun _ => et_is (et_test (ev_opL1 (xs := (rst ws s d row).map V.int) (el_callR (ea_cons (ev_var rfl) (ea_cons (ev_var rfl) (ea_cons (ev_var rfl) ea_nil))) fun H16 e16 Q k E => ⟨p, pr, ws, s, row, d, rfl, d1, d2, (Gu14.ex e15).ex e16, (L14.ex e15).ex e16, by omega, hsm, k⟩) (fun H16 _ => ev_var rfl) fun u H16 hu e16 => rv_neI (K := K) (ns := rst ws s d row) (ms := rst ws s d row) (sq_of hu) ((d14.ex e15).ex e16).sq)) (by simp)) (by simp)) (fun z => by cases z) fun _ H16 e16 => ?_
    have e616 := (e614.trans e15).trans e16
    have hg16 := hg6.ex e616
    have G16 := G6.exB (ExB.of e616)
    have A16 := A6.ex e616
    refine q_in (lcR1_in (ta_in (top_in2 (ev_use (ev_is (w := .int (ws.length : Int)) (ev_len (K := K) (ev_var rfl) A16.sq) (by rw [List.length_map])) fun H17 e17 => rnd_use (n := 4) (ev_var rfl) ev_c (hg16.ex e17) (by omega) (by decide) (by decide) fun z3 H18 z30 z31 hg18 E18 => ⟨_, z3, rfl, rfl, ta_nil ⟨_, rfl, by omega, by omega, ?_⟩⟩))))
    obtain ⟨x, rfl⟩ := Int.eq_ofNat_of_zero_le z30
    rw [show ((ws.length : Int) + (x : Int)).toNat = ws.length + x by omega]
    refine ints_body (fun z => -1000000000 ≤ z ∧ z ≤ 1000000000) (n := ws.length + x) (d := 4) (by omega) (fun _ => rfl) hg18 (fun i H' R hi hG' hE k => ?_) fun pg2 H19 great hpg2 hgl hgz k19 hg19 E19 => ?_
    · refine top_in2 (rnd_use (n := 1000000000) (ev_var rfl) (ev_op ev_c ev_c (rv_I ⟨by decide, by decide +kernel⟩)) hG' (by omega) (by decide) (by decide) fun z H5 z0 z1 hG5 E5 => ev_use (ev_op ev_c (ev_op ev_c ev_c (rv_I ⟨by decide, by decide +kernel⟩)) (rv_I (Or.inl ⟨by decide, by decide⟩))) fun H6 e6 => ⟨z, _, rfl, rfl, ?_⟩)
      have e5 : (5 : Int) * 10 ^ (8 : Int).toNat = 500000000 := by decide
      exact k _ H6 (by rw [e5]; omega) (hG5.ex e6) (E5.trans (ExB.of e6))
    have E619 : ExB g H6 H19 := ((ExB.of (e616.trans e17)).trans E18).trans E19
    have G19 := (G6.exB E619).gu
    have A19 := A6.exB ag E619
    have L19 : Li H19 pg2 great := k19
    have glen : ws.length ≤ great.length := by omega
    refine q_when (b := false) (et_is (et_test (ev_op (ev_call (ea_cons (ev_var rfl) (ea_cons (ev_var rfl) ea_nil)) (spv fun H20 e20 Q q E => ⟨p, pg2, ws, s, great, rfl, G19.ex e20, L19.ex e20, by omega, glen, q⟩)) (ev_call (ea_cons (ev_var rfl) (ea_cons (ev_var rfl) (ea_cons (ev_var rfl) ea_nil))) (spv fun H20 e20 Q q E => ⟨a, pg2, ws, great, s, rfl, A19.ex e20, hwb, hs15, L19.ex e20, by omega, glen, q⟩)) (rv_ne rfl))) (by simp)) (fun z => by cases z) fun _ H20 e20 => ?_
    exact s_ret (v := .bl true) (ev_is (ev_opLL (xs := (ur ws s great).map V.int) (ys := (ur ws s great).map V.int) (el_callR (ea_cons (ev_var rfl) (ea_cons (ev_var rfl) ea_nil)) fun H21 e21 Q k E => ⟨p, pg2, ws, s, great, rfl, G19.ex (e20.trans e21), L19.ex (e20.trans e21), by omega, k⟩) (el_callR (ea_cons (ev_var rfl) (ea_cons (ev_var rfl) (ea_cons (ev_var rfl) ea_nil))) fun H21 e21 Q k E => ⟨a, pg2, ws, great, s, rfl, A19.ex (e20.trans e21), hwb, hs15, L19.ex (e20.trans e21), by omega, k⟩) fun u v H21 hu hv _ => rv_eqI (K := K) (ns := ur ws s great) (ms := ur ws s great) (sq_of hu) (sq_of hv)) (by simp)) fun H21 e21 => q H21 (((hg19.ex e20).ex e21).mono (by omega)) (((E06.trans E619)).trans (ExB.of (e20.trans e21)))
end
end K10

set_option Elab.async false
set_option linter.all false
set_option maxRecDepth 100000
set_option maxHeartbeats 4000000
namespace K10
open PySem PySem.Spec PyProof.Rows L2 Evl WS M50 M10
def sp_law (K : PySem.W.Frag) : Sp := fun vs H Q _ => ∃ a, ∃ ns : List Int, vs = [.ref a] ∧ SqL K H a (ns.map V.int) ∧ ns.length ≤ 63 ∧ ∀ H', Q (.bl true) H'
section
variable {K : PySem.W.Frag} {mg : Str → Option Value} {σ : L2.St} {H : Hp} {ta tb te tl : TE} {D : Ends} {tz tu : TS} {tr : TA} {tt : TT}
/-- guesser == something -/
theorem own_eq {T : Tx K mg} {H : Hp} {p : Addr} {ws : List Int} {s : Nat} {y : V} {b neg : Bool} {E : XK} {Q : VK} (hm : Gu T H p ws s) (hy : EqG T H ws s y b) (q : ∀ H', Ex H H' → Q (.bl (if neg then !b else b)) H') :
    rOwn K T.C_Guesser (sp_Guesser___eq__ T) E neg (.ref p) y H Q := by
  obtain ⟨dx, d, h1, _⟩ := hm.ob
  refine ⟨p, dx, _, rfl, h1, ?_, p, ws, s, y, b, rfl, hm, hy, fun H' e => ⟨b, rfl, q H' e⟩⟩
  rcases hy with ⟨r, vs, t, rfl, g2, _⟩ | ⟨a, xs, rfl, ha, _⟩
  · obtain ⟨dy, d', h3, _⟩ := g2.ob
    exact ⟨.ref T.C_Guesser, TyX.base (TyOf.ins h3 T.cl_Guesser T.is_Guesser.1 T.is_Guesser.2.1 T.is_Guesser.2.2.1 T.is_Guesser.2.2.2), notFirst_self K _⟩
  · exact rhs_list ha
def EvE (T : Tx K mg) (te : TE) (σ : L2.St) (H : Hp) (ws : List Int) (s : Nat) (b : Bool) : Prop := ∀ H1, Ex H H1 → ∀ Q : VK, (∀ y H2, Ex H1 H2 → EqG T H2 ws s y b → Q y H2) → te σ H1 Q
theorem et_own {T : Tx K mg} {p : Addr} {ws : List Int} {s : Nat} {b neg : Bool} (ha : Ev ta σ H (.ref p)) (hg : Gu T H p ws s) (hy : EvE T te σ H ws s b) : EvT (tTest (tOp (rOwn K T.C_Guesser (sp_Guesser___eq__ T) E0 neg) ta te)) σ H (if neg then !b else b) := fun H1 e Q q =>
  ha H1 e _ fun H2 e2 => hy H2 (e.trans e2) _ fun y H3 e3 hE => own_eq (hg.ex ((e.trans e2).trans e3)) hE fun H4 e4 => ⟨_, rfl, q H4 ((e2.trans e3).trans e4)⟩
theorem ee_make {T : Tx K mg} {a : Addr} {ws vs : List Int} {s t : Nat} (he : EvA tr σ H [.ref a, .int (t : Int)]) (ha : Li H a vs) (hw : Wb 32768 8 vs) (ht : t ≤ 15) : EvE T (tMake T.C_Guesser (sp_Guesser___init__ T) [] E0 tr) σ H ws s (decide (ws = vs) && decide (s = t)) := fun H1 e Q q =>
  gu_make (fun H2 e2 => he H2 (e.trans e2)) (ha.ex e) hw ht fun x H2 hx e2 g => q _ H2 e2 (Or.inl ⟨x, vs, t, rfl, g.gu, rfl⟩)
theorem ee_makeN {T : Tx K mg} {ws vs : List Int} {s t : Nat} (hl : EvL ta σ H (vs.map V.int)) (hb : Ev tb σ H (.int (t : Int))) (hw : Wb 32768 8 vs) (ht : t ≤ 15) : EvE T (tMake T.C_Guesser (sp_Guesser___init__ T) [] E0 (tCons ta (tCons tb tNil))) σ H ws s (decide (ws = vs) && decide (s = t)) := fun H1 e Q q =>
  gu_makeN (hl.mono e) (fun H2 e2 => hb.mono (e.trans e2)) hw ht fun x H2 hx e2 g => q _ H2 e2 (Or.inl ⟨x, vs, t, rfl, g.gu, rfl⟩)
theorem ee_lst {T : Tx K mg} {a : Addr} {ws : List Int} {xs : List V} {s : Nat} (h : Ev te σ H (.ref a)) (ha : H a = some (.lst xs)) : EvE T te σ H ws s false := fun H1 e Q q => h H1 e _ fun H2 e2 => q _ H2 e2 (Or.inr ⟨a, xs, rfl, e2 _ _ (e _ _ ha), rfl⟩)
theorem q_or2 (h1 : EvT tt σ H false) (k : ∀ H1, Ex H H1 → te σ H1 fun x H2 => ∃ c, x = .bl c ∧ (if (!c) = true then tu { D with nx := tz D } σ H2 else tNext { D with nx := tz D } σ H2)) : tSeq (tIfS (tOr tt (tNot (tB te))) tu tNext) tz D σ H :=
  h1 H (Ex.refl H) _ fun H1 e => k H1 e
theorem unless_ok {p : Prop} (h : tz D σ H) : ∃ c, V.bl true = .bl c ∧ (if (!c) = true then p else tNext { D with nx := tz D } σ H) := ⟨true, rfl, by rw [if_neg (by decide)]; exact h⟩
theorem s_unless2 {te2 : TE} (k : te σ H fun x H1 => ∃ c, x = .bl c ∧ (if (!c) = true then (if true = true then tu D σ H1 else tNext D σ H1) else te2 σ H1 fun y H2 => ∃ c', y = .bl c' ∧ (if (!c') = true then tu D σ H2 else tNext D σ H2))) :
    tIfS (tOr (tNot (tB te)) (tNot (tB te2))) tu tNext D σ H := k
/-- a new list gets one more -/
theorem q_appN {xs : List V} {v : V} (hl : EvL ta σ H xs) (hv : ∀ H1, Ex H H1 → Ev te σ H1 v) (hz : xs.length < 100000) (k : ∀ H1, Ex H H1 → tz D σ H1) : tSeq (tDrop (tBM K "list" rAppend ta (tCons te tNil))) tz D σ H :=
  hl H (Ex.refl H) _ fun p H1 hp e1 k1 => ⟨Or.inl ⟨rfl, xs, sq_of k1⟩, hv H1 e1 H1 (Ex.refl H1) _ fun H2 e2 => ⟨p, xs, v, rfl, rfl, e2 _ _ k1, sz_lt hz, k _ (Ex.mut (e1.trans e2) hp)⟩⟩
end
theorem neApp (ws : List Int) : decide (ws = ws ++ [0]) = false := decide_eq_false fun h => by
  have := congrArg List.length h
  rw [List.length_append] at this
  simp at this
section
variable {P : Program} {w : World} {K : PySem.W.Frag} {mg : Str → Option Value} {base : Heap}
theorem ok_law (T : Tx K mg) : FnQ P w K mg base 8 T.a_law T.d_law ["_law_script"] (sp_law K) := by
  refine okQ T.f_law (k := 7) sc_law (fun vs H Q E h => ?_) (fun cdv A outer s H vs Q E hq hr h => ?_)
  · obtain ⟨a, ns, rfl, _⟩ := h
    rfl
  · obtain ⟨a, ns, rfl, hS, hl, q⟩ := h
    refine ⟨_,       (pss_cons (ps_for PassesOwn.never rfl (pi_range1 rfl T.m_range (pa_cons pe_int pa_nil)) (pg_name (i := 1) sc_law.nd rfl (by first | exact Or.inl rfl | exact Or.inr rfl)) 
        (pss_cons (ps_set (i := 2) sc_law.nd rfl (by first | exact Or.inl rfl | exact Or.inr rfl) (pe_call (ok__law_generator T) (hr.mono (by decide)) (by rfl) T.g__law_generator T.f__law_generator.kp T.b__law_generator .nil pass0 (pa_cons (pv 0) (pa_cons (pv 1) pa_nil)))) 
        (pss_cons (ps_par (i := 3) (j := 4) (by rfl) sc_law.nd rfl rfl (by decide) rfl rfl (pa_cons (pe_call (ok__law_weights T) (hr.mono (by decide)) (by rfl) T.g__law_weights T.f__law_weights.kp T.b__law_weights .nil pass0 (pa_cons (pv 2) (pa_cons (pe_call (ok__law_random T) (hr.mono (by decide)) (by rfl) T.g__law_random T.f__law_random.kp T.b__law_random .nil pass0 (pa_cons (pv 2) (pa_cons pe_int pa_nil))) pa_nil))) (pa_cons (pe_call (ok__law_random T) (hr.mono (by decide)) (by rfl) T.g__law_random T.f__law_random.kp T.b__law_random .nil pass0 (pa_cons (pv 2) (pa_cons pe_int pa_nil))) pa_nil)) (by rfl)) 
        (pss_cons (ps_set (i := 5) sc_law.nd rfl (by first | exact Or.inl rfl | exact Or.inr rfl) (pe_callTy (T := "list") (r := rListS K) call_list_of (by rfl) T.m_list (by decide +kernel) (pa_cons (pv 3) pa_nil))) 
        (pss_cons (ps_set (i := 6) sc_law.nd rfl (by first | exact Or.inl rfl | exact Or.inr rfl) (pe_make T.mk_Guesser (ok_Guesser___init__ T) (hr.mono (by decide)) (by rfl) T.gC_Guesser T.b_Guesser___init__ .nil pass0 (pa_cons (pv 5) (pa_cons (pv 4) pa_nil)))) 
        (pss_cons (ps_expr (pe_bm PySem.F.plainAttrs_list PySem.F.slot_list_append PySem.F.type_list_append mt_append (pv 5) (pa_cons pe_int pa_nil))) 
        (pss_cons (ps_if (PW.pt (pw_or (pt_cmpR (op_neD hr.units) (pe_meth0 (pv 6) T.cl_Guesser T.me_Guesser_weights (ok_Guesser_weights T) (hr.mono (by decide)) T.b_Guesser_weights .nil pass0) (pv 3) (nomark _)) (pw_or (pt_cmpR op_ne (pe_meth0 (pv 6) T.cl_Guesser T.me_Guesser_shift (ok_Guesser_shift T) (hr.mono (by decide)) T.b_Guesser_shift .nil pass0) (pv 4) (nomark _)) (pw_or1 (pt_cmpR op_ne (pe_meth0 (pv 6) T.cl_Guesser T.me_Guesser_order (ok_Guesser_order T) (hr.mono (by decide)) T.b_Guesser_order .nil pass0) (pe_callB (id := "len") (r := rLenS K) call_len_seq (by rfl) T.m_len PySem.boot_len (pa_cons (pv 3) pa_nil)) (nomark _)))))) 
          (pss_one (ps_ret pe_bl)) pss_nil) 
        (pss_cons (ps_expr (pe_bm PySem.F.plainAttrs_list PySem.F.slot_list_append PySem.F.type_list_append mt_append (pe_meth0 (pv 6) T.cl_Guesser T.me_Guesser_weights (ok_Guesser_weights T) (hr.mono (by decide)) T.b_Guesser_weights .nil pass0) (pa_cons pe_int pa_nil))) 
        (pss_cons (ps_if (PW.pt (pw_or (pt_cmpR (op_ownNe (C := T.C_Guesser) (ok_Guesser___eq__ T) T.q_Guesser.1 T.ne_Guesser T.is_Guesser.2.2.2 T.q_Guesser.2 T.b_Guesser___eq__ pass0 (hr.mono (by decide))) (pv 6) (pe_make T.mk_Guesser (ok_Guesser___init__ T) (hr.mono (by decide)) (by rfl) T.gC_Guesser T.b_Guesser___init__ .nil pass0 (pa_cons (pv 3) (pa_cons (pv 4) pa_nil))) (nomark _)) (pw_or (pt_cmpR (op_own (C := T.C_Guesser) (ok_Guesser___eq__ T) T.q_Guesser.1 T.q_Guesser.2 T.b_Guesser___eq__ pass0 (hr.mono (by decide))) (pv 6) (pe_make T.mk_Guesser (ok_Guesser___init__ T) (hr.mono (by decide)) (by rfl) T.gC_Guesser T.b_Guesser___init__ .nil pass0 (pa_cons (pv 3) (pa_cons (pe_op op_add (pv 4) pe_int) pa_nil))) (nomark _)) (pw_or1 (pt_cmpR (op_own (C := T.C_Guesser) (ok_Guesser___eq__ T) T.q_Guesser.1 T.q_Guesser.2 T.b_Guesser___eq__ pass0 (hr.mono (by decide))) (pv 6) (pv 3) (nomark _)))))) 
          (pss_one (ps_ret pe_bl)) pss_nil) 
        (pss_cons (ps_if (PW.pt (pw_or (pt_cmpR (op_own (C := T.C_Guesser) (ok_Guesser___eq__ T) T.q_Guesser.1 T.q_Guesser.2 T.b_Guesser___eq__ pass0 (hr.mono (by decide))) (pv 6) (pe_make T.mk_Guesser (ok_Guesser___init__ T) (hr.mono (by decide)) (by rfl) T.gC_Guesser T.b_Guesser___init__ .nil pass0 (pa_cons (pe_op op_cat (pv 3) (pe_lst (pa_cons pe_int pa_nil))) (pa_cons (pv 4) pa_nil))) (nomark _)) (pw_or1 (pt_not (pt_val (pe_call (ok__law_right T) (hr.mono (by decide)) (by rfl) T.g__law_right T.f__law_right.kp T.b__law_right .nil pass0 (pa_cons (pv 2) (pa_cons (pv 6) (pa_cons (pv 3) (pa_cons (pv 4) pa_nil)))))))))) 
          (pss_one (ps_ret pe_bl)) pss_nil) 
        (pss_one (ps_if (PW.pt (pw_or (pt_not (pt_val (pe_callQ (ok__law_all_right T) hq (hr.mono (by decide)) (by rfl) T.g__law_all_right T.f__law_all_right.kp T.b__law_all_right (pa_cons (pv 2) (pa_cons (pv 6) pa_nil))))) (pw_or1 (pt_not (pt_val (pe_call (ok__law_steps_right T) hr (by rfl) T.g__law_steps_right T.f__law_steps_right.kp T.b__law_steps_right .nil pass0 (pa_cons (pv 2) pa_nil))))))) 
          (pss_one (ps_ret pe_bl)) pss_nil)))))))))))) 
      (pss_one (ps_ret pe_bl))), ?_⟩
    refine q_forR1 (n := 3) (ea_cons ev_c ea_nil) (by decide) (fun i σ' H' => ∃ y1 y2 y3 y4 y5 y6, σ' = [some (.ref a), y1, y2, y3, y4, y5, y6] ∧ Ex H H') (fun H1 e1 => ⟨none, none, none, none, none, none, rfl, e1⟩) (fun i σ' H' hi hP => ?_) (fun σ' H' hP => ?_)
    · obtain ⟨y1, y2, y3, y4, y5, y6, rfl, e⟩ := hP
      refine q_in (tcall_in (ta_consV (ev_var rfl) fun Ha ea => ta_consV (ev_var rfl) fun Hb eb => ta_nil ⟨a, ns, i, rfl, ex_l ((e.trans ea).trans eb) hS, hl, by omega, fun g H1 hg0 e1 hg1 => ?_⟩))
      have hgn := fresh_back ((e.trans ea).trans eb) hg0
      refine q_par (ta_in (tcall_in (ta_consV (ev_var rfl) fun H2 e2 => ta_in (rnd_use (n := 5) (ev_var rfl) ev_c (hg1.ex e2) (by omega) (by decide) (by decide) fun z H3 z0 z1 hg3 E3 => ?_))))
      obtain ⟨n, rfl⟩ := Int.eq_ofNat_of_zero_le z0
      refine ta_nil ⟨g, n, _, rfl, hg3, by omega, by omega, fun pw ws H4 hpw Lw hWb hg4 E4 => ?_⟩
      refine ta_in (rnd_use (n := 5) (ev_var rfl) ev_c hg4 (by omega) (by decide) (by decide) fun z2 H5 z20 z21 hg5 E5 => ta_nil ⟨_, _, rfl, ?_⟩)
      obtain ⟨s, rfl⟩ := Int.eq_ofNat_of_zero_le z20
      have npw : pw ≠ g := gs_old hg3 hpw
      have Lw5 : Li H5 pw ws := Lw.exB npw E5
      have wl := hWb.1
      have hW8 : Wb 32768 8 ws := ⟨by omega, hWb.2⟩
      have E15 : ExB g H1 H5 := (((ExB.of e2).trans E3).trans E4).trans E5
      refine q_asgL (el_list (K := K) (ev_var rfl) Lw5.sq) fun pg H6 hpg e6 k6 => ?_
      refine q_in (gu_make (ws := ws) (s := s) (ea_cons (ev_var rfl) (ea_cons (ev_var rfl) ea_nil)) k6 hW8 (by omega) fun p H7 hp e7 gn => ?_)
      have k7 := e7 _ _ k6
      refine q_app k7 (ev_var rfl) ev_c (by rw [List.length_map]; omega) fun H8 e8 => ?_
      have m59 : Ex H5 (upd H8 pg (.lst (ws.map V.int ++ [V.int 7]))) := Ex.mut ((e6.trans e7).trans e8) hpg
      have X79 : ExB pg H7 (upd H8 pg (.lst (ws.map V.int ++ [V.int 7]))) := (ExB.of e8).upd
      generalize (upd H8 pg (.lst (ws.map V.int ++ [V.int 7]))) = H9 at m59 X79 ⊢
      have hG9 : GuG T H9 g p ws s := by
        obtain ⟨⟨dx, d, o1, o2, o3⟩, wb, sh⟩ := gn
        obtain ⟨og, hog⟩ := (hg5.ex e6).some
        have n1 : p ≠ pg := fun z => by rw [z, k6] at hp; cases hp
        have n2 : d ≠ pg := fun z => by rw [z, k6] at o3; cases o3
        have n3 : d ≠ g := fun z => by rw [z, hog] at o3; cases o3
        have n4 : p ≠ g := fun z => by rw [z, hog] at hp; cases hp
        exact ⟨⟨dx, d, X79 _ _ n1 o1, X79 _ _ n2 o2, n3⟩, wb, sh, n4⟩
      have L9 : Li H9 pw ws := Lw5.ex m59
      have hg9 := hg5.ex m59
      refine q_when (b := false) (et_is (et_or (b := false) (et_test (ev_opL1 (xs := ws.map V.int) (hG9.gu.weightsE (ev_var rfl)) (fun _ _ => ev_var rfl) fun u H10 hu e10 => rv_neI (K := K) (ns := ws) (ms := ws) (sq_of hu) (L9.ex e10).sq)) fun _ => et_is (et_or (b := false) (et_test (ev_op (hG9.gu.shiftE (ev_var rfl)) (ev_var rfl) (rv_ne rfl))) fun _ => et_is (et_test (ev_op (hG9.gu.orderE (ev_var rfl)) (ev_is (w := .int (ws.length : Int)) (ev_len (K := K) (ev_var rfl) L9.sq) (by rw [List.length_map])) (rv_ne rfl))) (by simp)) (by simp)) (by simp)) (fun z => by cases z) fun _ H10 e10 => ?_
      have hG10 := hG9.exB (g := g) (ExB.of e10)
      refine q_appN (xs := ws.map V.int) (hG10.gu.weightsE (ev_var rfl)) (fun _ _ => ev_c) (by rw [List.length_map]; omega) fun H11 e11 => ?_
      have e911 := e10.trans e11
      have hG11 := hG9.exB (g := g) (ExB.of e911)
      have L11 := L9.ex e911
      refine q_when (b := false) (et_is (et_or (b := false) (et_own (neg := true) (ev_var rfl) hG11.gu (ee_make (s := s) (t := s) (ws := ws) (ea_cons (ev_var rfl) (ea_cons (ev_var rfl) ea_nil)) L11 hW8 (by omega))) fun _ => et_is (et_or (b := false) (et_own (neg := false) (ev_var rfl) hG11.gu (ee_make (s := s) (t := s + 1) (ws := ws) (ea_cons (ev_var rfl) (ea_cons (ev_is (w := .int ((s + 1 : Nat) : Int)) (ev_op (ev_var rfl) ev_c rv_I0) rfl) ea_nil)) L11 hW8 (by omega))) fun _ => et_is (et_own (neg := false) (ev_var rfl) hG11.gu (ee_lst (ev_var rfl) L11)) rfl) (by simp)) (by simp)) (fun z => by cases z) fun _ H12 e12 => ?_
      have hG12 := hG11.exB (g := g) (ExB.of e12)
      have L12 := L11.ex e12
      refine q_or2 (et_is (et_own (neg := false) (ev_var rfl) hG12.gu (ee_makeN (s := s) (t := s) (ws := ws) (vs := ws ++ [0]) (by rw [List.map_append]; exact el_catVL (ev_var rfl) L12 (el_lst (ea_cons ev_c ea_nil) (by show 1 ≤ 100000; decide)) (by rw [List.length_map]; show ws.length + 1 ≤ 100000; omega)) (ev_var rfl) ⟨by rw [List.length_append]; show ws.length + 1 ≤ 8; omega, fun x hx => by
        rcases List.mem_append.mp hx with h | h
        · exact hWb.2 x h
        · rw [List.mem_singleton.mp h]; decide⟩ (by omega))) (by rw [neApp]; rfl)) fun H13 e13 => ?_
      have e913 := (e911.trans e12).trans e13
      refine tcall_in (ta_consV (ev_var rfl) fun H14 e14 => ta_consV (ev_var rfl) fun H15 e15 => ta_consV (ev_var rfl) fun H16 e16 => ta_consV (ev_var rfl) fun H17 e17 => ta_nil ⟨g, p, pw, ws, s, _, rfl, hg9.ex (e913.trans (((e14.trans e15).trans e16).trans e17)), by omega, hG9.exB (ExB.of (e913.trans (((e14.trans e15).trans e16).trans e17))), L9.ex (e913.trans (((e14.trans e15).trans e16).trans e17)), npw, fun H18 hg18 E18 => unless_ok ?_⟩)
      have E918 : ExB g H9 H18 := (ExB.of (e913.trans (((e14.trans e15).trans e16).trans e17))).trans E18
      have hG18 := hG9.exB E918
      refine s_unless2 (tcall_in (ta_consV (ev_var rfl) fun H19 e19 => ta_consV (ev_var rfl) fun H20 e20 => ta_nil ⟨g, p, ws, s, _, rfl, hg18.ex (e19.trans e20), by omega, hG18.exB (ExB.of (e19.trans e20)), fun H21 hg21 E21 => ⟨true, rfl, ?_⟩⟩))
      rw [if_neg (by decide)]
      refine tcall_in (ta_consV (ev_var rfl) fun H22 e22 => ta_nil ⟨g, _, rfl, hg21.ex e22, by omega, fun H23 hg23 E23 => ⟨true, rfl, ?_⟩⟩)
      rw [if_neg (by decide)]
      have EE : ExB g H1 H23 := (((E15.trans (ExB.of m59)).trans E918).trans ((ExB.of (e19.trans e20)).trans E21)).trans ((ExB.of e22).trans E23)
      refine ⟨_, _, _, _, _, _, rfl, fun b o hb => ?_⟩
      have nb : b ≠ g := fun z => by rw [z, hgn] at hb; cases hb
      exact EE b o nb (e1 _ _ (eb _ _ (ea _ _ (e _ _ hb))))
    · obtain ⟨y1, y2, y3, y4, y5, y6, rfl, e⟩ := hP
      exact s_ret ev_c fun H1 e1 => q H1
end
end K10

set_option Elab.async false
set_option linter.all false
set_option maxRecDepth 100000
set_option maxHeartbeats 4000000
namespace K10
open PySem PySem.Spec PyProof.Rows L2 Evl WS M50 M10
theorem all_mk {l : PySem.W.OpenLaw} {w : World} {K : PySem.W.Frag} {h : Heap} {mg : Str → Option Value} {fa f1 f2 f3 f4 f5 f6 f7 f8 f9 f10 f11 f12 f13 f14 f15 f16 f17 f18 f19 f20 f21 f22 f23 f24 f25 f26 f27 f28 f29 f30 f31 f32 f33 f34 f35 f36 f37 f38 C_Guesser : Addr} (X : K.In h) (G : h.Ns mainGlobals mg) (hfa : mg "law" = some (.ref fa))
    {od1 an1 od2 an2 od3 an3 od4 an4 od5 an5 od6 an6 od7 an7 od8 an8 od9 an9 od10 an10 od11 an11 od12 an12 od13 an13 od14 an14 od15 an15 od16 an16 od17 an17 od18 an18 od19 an19 od20 an20 od21 an21 od22 an22 od23 an23 od24 an24 od25 an25 od26 an26 od27 an27 od28 an28 od29 an29 od30 an30 od31 an31 od32 an32 od33 an33 od34 an34 od35 an35 od36 an36 od37 an37 od38 an38 : Option Addr} {sl1 sl2 sl3 sl4 sl5 sl6 sl7 sl8 sl9 sl10 sl11 sl12 sl13 sl14 sl15 sl16 sl17 sl18 sl19 sl20 sl21 sl22 sl23 sl24 sl25 sl26 sl27 sl28 sl29 sl30 sl31 sl32 sl33 sl34 sl35 sl36 sl37 sl38 : Array (Option Value)} {oc1 kV1 dc1 pm1 cd1 ct1 oc2 kV2 dc2 pm2 cd2 ct2 oc3 kV3 dc3 pm3 cd3 ct3 oc4 kV4 dc4 pm4 cd4 ct4 oc5 kV5 dc5 pm5 cd5 ct5 oc6 kV6 dc6 pm6 cd6 ct6 oc7 kV7 dc7 pm7 cd7 ct7 oc8 kV8 dc8 pm8 cd8 ct8 oc9 kV9 dc9 pm9 cd9 ct9 oc10 kV10 dc10 pm10 cd10 ct10 oc11 kV11 dc11 pm11 cd11 ct11 oc12 kV12 dc12 pm12 cd12 ct12 oc13 kV13 dc13 pm13 cd13 ct13 oc14 kV14 dc14 pm14 cd14 ct14 oc15 kV15 dc15 pm15 cd15 ct15 oc16 kV16 dc16 pm16 cd16 ct16 oc17 kV17 dc17 pm17 cd17 ct17 oc18 kV18 dc18 pm18 cd18 ct18 oc19 kV19 dc19 pm19 cd19 ct19 oc20 kV20 dc20 pm20 cd20 ct20 oc21 kV21 dc21 pm21 cd21 ct21 oc22 kV22 dc22 pm22 cd22 ct22 oc23 kV23 dc23 pm23 cd23 ct23 oc24 kV24 dc24 pm24 cd24 ct24 oc25 kV25 dc25 pm25 cd25 ct25 oc26 kV26 dc26 pm26 cd26 ct26 oc27 kV27 dc27 pm27 cd27 ct27 oc28 kV28 dc28 pm28 cd28 ct28 oc29 kV29 dc29 pm29 cd29 ct29 oc30 kV30 dc30 pm30 cd30 ct30 oc31 kV31 dc31 pm31 cd31 ct31 oc32 kV32 dc32 pm32 cd32 ct32 oc33 kV33 dc33 pm33 cd33 ct33 oc34 kV34 dc34 pm34 cd34 ct34 oc35 kV35 dc35 pm35 cd35 ct35 oc36 kV36 dc36 pm36 cd36 ct36 oc37 kV37 dc37 pm37 cd37 ct37 oc38 kV38 dc38 pm38 cd38 ct38 : Value}
    {t_MOST_WEIGHTS t_GREATEST_WEIGHT t_GREATEST_SHIFT t_GREATEST_DEPTH : Tok}
    (gC_Guesser : PySem.W.nsIn K mainGlobals "Guesser" = some (some (.ref C_Guesser)))
    (pg_Guesser : PySem.W.plainGet K C_Guesser Str.empty = true)
    (hd_Guesser : PySem.W.hasDictIn K C_Guesser = true)
    (po_Guesser : PySem.W.plainOver K C_Guesser = true)
    (sa_Guesser : PySem.W.findIn K (.ref C_Guesser) "__setattr__" = some (some (.builtin "object.__setattr__")))
    (mk_Guesser : PySem.W.makesIn K C_Guesser = true)
    (kc_Guesser : PySem.W.keepIn K (.ref C_Guesser) = true)
    (ha_Guesser : PySem.W.findIn K (.ref C_Guesser) "__class__" = some (some (.builtin "object.__class__")))
    (hn_Guesser : PySem.W.specialIn K (.builtin "object.__class__") "__get__" = some (some (.builtin "getset_descriptor.__get__")))
    (ht_Guesser : PySem.W.takesIn K (.builtin "object.__class__") = some true)
    (hm_Guesser : PySem.W.mroIn K C_Guesser (.type "object") = some true)
    (n_Guesser__weights : PySem.W.findIn K (.ref C_Guesser) "_weights" = some none)
    (n_Guesser__shift : PySem.W.findIn K (.ref C_Guesser) "_shift" = some none)
    (ne_Guesser : PySem.W.findIn K (.ref C_Guesser) "__ne__" = some (some (.builtin "object.__ne__")))
    (ty_Guesser : PySem.W.typeIn K (.ref C_Guesser) = some (.type "type"))
    (a1 : PySem.W.nsIn K mainGlobals "is_number" = some (some (.ref f1)))
    (l1 : K.lookup f1 = some ⟨oc1, od1, .func (PySem.W.fnOf "is_number" "is_number" (defArgs s_is_number) (defBody s_is_number) (defScope s_is_number) .none kV1 dc1 pm1 an1 cd1 ct1), sl1⟩)
    (e1 : PySem.W.codeIn K cd1 "is_number" = true)
    (k1 : PySem.W.keepIn K (.ref f1) = true)
    (a2 : PySem.W.nsIn K mainGlobals "is_within" = some (some (.ref f2)))
    (l2 : K.lookup f2 = some ⟨oc2, od2, .func (PySem.W.fnOf "is_within" "is_within" (defArgs s_is_within) (defBody s_is_within) (defScope s_is_within) .none kV2 dc2 pm2 an2 cd2 ct2), sl2⟩)
    (e2 : PySem.W.codeIn K cd2 "is_within" = true)
    (k2 : PySem.W.keepIn K (.ref f2) = true)
    (a3 : PySem.W.nsIn K mainGlobals "is_numbers" = some (some (.ref f3)))
    (l3 : K.lookup f3 = some ⟨oc3, od3, .func (PySem.W.fnOf "is_numbers" "is_numbers" (defArgs s_is_numbers) (defBody s_is_numbers) (defScope s_is_numbers) .none kV3 dc3 pm3 an3 cd3 ct3), sl3⟩)
    (e3 : PySem.W.codeIn K cd3 "is_numbers" = true)
    (k3 : PySem.W.keepIn K (.ref f3) = true)
    (a4 : PySem.W.nsIn K mainGlobals "check_within" = some (some (.ref f4)))
    (l4 : K.lookup f4 = some ⟨oc4, od4, .func (PySem.W.fnOf "check_within" "check_within" (defArgs s_check_within) (defBody s_check_within) (defScope s_check_within) .none kV4 dc4 pm4 an4 cd4 ct4), sl4⟩)
    (e4 : PySem.W.codeIn K cd4 "check_within" = true)
    (k4 : PySem.W.keepIn K (.ref f4) = true)
    (a5 : PySem.W.nsIn K mainGlobals "check_depth" = some (some (.ref f5)))
    (l5 : K.lookup f5 = some ⟨oc5, od5, .func (PySem.W.fnOf "check_depth" "check_depth" (defArgs s_check_depth) (defBody s_check_depth) (defScope s_check_depth) .none kV5 dc5 pm5 an5 cd5 ct5), sl5⟩)
    (e5 : PySem.W.codeIn K cd5 "check_depth" = true)
    (k5 : PySem.W.keepIn K (.ref f5) = true)
    (a6 : PySem.W.nsIn K mainGlobals "least_sample" = some (some (.ref f6)))
    (l6 : K.lookup f6 = some ⟨oc6, od6, .func (PySem.W.fnOf "least_sample" "least_sample" (defArgs s_least_sample) (defBody s_least_sample) (defScope s_least_sample) .none kV6 dc6 pm6 an6 cd6 ct6), sl6⟩)
    (e6 : PySem.W.codeIn K cd6 "least_sample" = true)
    (k6 : PySem.W.keepIn K (.ref f6) = true)
    (a7 : PySem.W.nsIn K mainGlobals "greatest_sample" = some (some (.ref f7)))
    (l7 : K.lookup f7 = some ⟨oc7, od7, .func (PySem.W.fnOf "greatest_sample" "greatest_sample" (defArgs s_greatest_sample) (defBody s_greatest_sample) (defScope s_greatest_sample) .none kV7 dc7 pm7 an7 cd7 ct7), sl7⟩)
    (e7 : PySem.W.codeIn K cd7 "greatest_sample" = true)
    (k7 : PySem.W.keepIn K (.ref f7) = true)
    (a8 : PySem.W.nsIn K mainGlobals "wrapped" = some (some (.ref f8)))
    (l8 : K.lookup f8 = some ⟨oc8, od8, .func (PySem.W.fnOf "wrapped" "wrapped" (defArgs s_wrapped) (defBody s_wrapped) (defScope s_wrapped) .none kV8 dc8 pm8 an8 cd8 ct8), sl8⟩)
    (e8 : PySem.W.codeIn K cd8 "wrapped" = true)
    (k8 : PySem.W.keepIn K (.ref f8) = true)
    (a9 : PySem.W.nsIn K mainGlobals "is_samples" = some (some (.ref f9)))
    (l9 : K.lookup f9 = some ⟨oc9, od9, .func (PySem.W.fnOf "is_samples" "is_samples" (defArgs s_is_samples) (defBody s_is_samples) (defScope s_is_samples) .none kV9 dc9 pm9 an9 cd9 ct9), sl9⟩)
    (e9 : PySem.W.codeIn K cd9 "is_samples" = true)
    (k9 : PySem.W.keepIn K (.ref f9) = true)
    (a10 : PySem.W.findIn K (.ref C_Guesser) "__init__" = some (some (.ref f10)))
    (i10 : PySem.W.isFn K (.ref f10) = true)
    (l10 : K.lookup f10 = some ⟨oc10, od10, .func (PySem.W.fnOf "__init__" "Guesser.__init__" (defArgs s_Guesser___init__) (defBody s_Guesser___init__) (defScope s_Guesser___init__) .none kV10 dc10 pm10 an10 cd10 ct10), sl10⟩)
    (e10 : PySem.W.codeIn K cd10 "Guesser.__init__" = true)
    (k10 : PySem.W.keepIn K (.ref f10) = true)
    (a11 : PySem.W.findIn K (.ref C_Guesser) "weights" = some (some (.ref f11)))
    (i11 : PySem.W.isFn K (.ref f11) = true)
    (l11 : K.lookup f11 = some ⟨oc11, od11, .func (PySem.W.fnOf "weights" "Guesser.weights" (defArgs s_Guesser_weights) (defBody s_Guesser_weights) (defScope s_Guesser_weights) .none kV11 dc11 pm11 an11 cd11 ct11), sl11⟩)
    (e11 : PySem.W.codeIn K cd11 "Guesser.weights" = true)
    (k11 : PySem.W.keepIn K (.ref f11) = true)
    (a12 : PySem.W.findIn K (.ref C_Guesser) "shift" = some (some (.ref f12)))
    (i12 : PySem.W.isFn K (.ref f12) = true)
    (l12 : K.lookup f12 = some ⟨oc12, od12, .func (PySem.W.fnOf "shift" "Guesser.shift" (defArgs s_Guesser_shift) (defBody s_Guesser_shift) (defScope s_Guesser_shift) .none kV12 dc12 pm12 an12 cd12 ct12), sl12⟩)
    (e12 : PySem.W.codeIn K cd12 "Guesser.shift" = true)
    (k12 : PySem.W.keepIn K (.ref f12) = true)
    (a13 : PySem.W.findIn K (.ref C_Guesser) "order" = some (some (.ref f13)))
    (i13 : PySem.W.isFn K (.ref f13) = true)
    (l13 : K.lookup f13 = some ⟨oc13, od13, .func (PySem.W.fnOf "order" "Guesser.order" (defArgs s_Guesser_order) (defBody s_Guesser_order) (defScope s_Guesser_order) .none kV13 dc13 pm13 an13 cd13 ct13), sl13⟩)
    (e13 : PySem.W.codeIn K cd13 "Guesser.order" = true)
    (k13 : PySem.W.keepIn K (.ref f13) = true)
    (a14 : PySem.W.findIn K (.ref C_Guesser) "__eq__" = some (some (.ref f14)))
    (i14 : PySem.W.isFn K (.ref f14) = true)
    (l14 : K.lookup f14 = some ⟨oc14, od14, .func (PySem.W.fnOf "__eq__" "Guesser.__eq__" (defArgs s_Guesser___eq__) (defBody s_Guesser___eq__) (defScope s_Guesser___eq__) .none kV14 dc14 pm14 an14 cd14 ct14), sl14⟩)
    (e14 : PySem.W.codeIn K cd14 "Guesser.__eq__" = true)
    (k14 : PySem.W.keepIn K (.ref f14) = true)
    (a15 : PySem.W.nsIn K mainGlobals "check_guesser" = some (some (.ref f15)))
    (l15 : K.lookup f15 = some ⟨oc15, od15, .func (PySem.W.fnOf "check_guesser" "check_guesser" (defArgs s_check_guesser) (defBody s_check_guesser) (defScope s_check_guesser) .none kV15 dc15 pm15 an15 cd15 ct15), sl15⟩)
    (e15 : PySem.W.codeIn K cd15 "check_guesser" = true)
    (k15 : PySem.W.keepIn K (.ref f15) = true)
    (a16 : PySem.W.nsIn K mainGlobals "check_samples" = some (some (.ref f16)))
    (l16 : K.lookup f16 = some ⟨oc16, od16, .func (PySem.W.fnOf "check_samples" "check_samples" (defArgs s_check_samples) (defBody s_check_samples) (defScope s_check_samples) .none kV16 dc16 pm16 an16 cd16 ct16), sl16⟩)
    (e16 : PySem.W.codeIn K cd16 "check_samples" = true)
    (k16 : PySem.W.keepIn K (.ref f16) = true)
    (a17 : PySem.W.nsIn K mainGlobals "weighed" = some (some (.ref f17)))
    (l17 : K.lookup f17 = some ⟨oc17, od17, .func (PySem.W.fnOf "weighed" "weighed" (defArgs s_weighed) (defBody s_weighed) (defScope s_weighed) .none kV17 dc17 pm17 an17 cd17 ct17), sl17⟩)
    (e17 : PySem.W.codeIn K cd17 "weighed" = true)
    (k17 : PySem.W.keepIn K (.ref f17) = true)
    (a18 : PySem.W.nsIn K mainGlobals "guess" = some (some (.ref f18)))
    (l18 : K.lookup f18 = some ⟨oc18, od18, .func (PySem.W.fnOf "guess" "guess" (defArgs s_guess) (defBody s_guess) (defScope s_guess) .none kV18 dc18 pm18 an18 cd18 ct18), sl18⟩)
    (e18 : PySem.W.codeIn K cd18 "guess" = true)
    (k18 : PySem.W.keepIn K (.ref f18) = true)
    (a19 : PySem.W.nsIn K mainGlobals "steps" = some (some (.ref f19)))
    (l19 : K.lookup f19 = some ⟨oc19, od19, .func (PySem.W.fnOf "steps" "steps" (defArgs s_steps) (defBody s_steps) (defScope s_steps) .none kV19 dc19 pm19 an19 cd19 ct19), sl19⟩)
    (e19 : PySem.W.codeIn K cd19 "steps" = true)
    (k19 : PySem.W.keepIn K (.ref f19) = true)
    (a20 : PySem.W.nsIn K mainGlobals "unwrapped_rests" = some (some (.ref f20)))
    (l20 : K.lookup f20 = some ⟨oc20, od20, .func (PySem.W.fnOf "unwrapped_rests" "unwrapped_rests" (defArgs s_unwrapped_rests) (defBody s_unwrapped_rests) (defScope s_unwrapped_rests) .none kV20 dc20 pm20 an20 cd20 ct20), sl20⟩)
    (e20 : PySem.W.codeIn K cd20 "unwrapped_rests" = true)
    (k20 : PySem.W.keepIn K (.ref f20) = true)
    (a21 : PySem.W.nsIn K mainGlobals "rests" = some (some (.ref f21)))
    (l21 : K.lookup f21 = some ⟨oc21, od21, .func (PySem.W.fnOf "rests" "rests" (defArgs s_rests) (defBody s_rests) (defScope s_rests) .none kV21 dc21 pm21 an21 cd21 ct21), sl21⟩)
    (e21 : PySem.W.codeIn K cd21 "rests" = true)
    (k21 : PySem.W.keepIn K (.ref f21) = true)
    (a22 : PySem.W.nsIn K mainGlobals "row_of" = some (some (.ref f22)))
    (l22 : K.lookup f22 = some ⟨oc22, od22, .func (PySem.W.fnOf "row_of" "row_of" (defArgs s_row_of) (defBody s_row_of) (defScope s_row_of) .none kV22 dc22 pm22 an22 cd22 ct22), sl22⟩)
    (e22 : PySem.W.codeIn K cd22 "row_of" = true)
    (k22 : PySem.W.keepIn K (.ref f22) = true)
    (a23 : PySem.W.nsIn K mainGlobals "plain_rests" = some (some (.ref f23)))
    (l23 : K.lookup f23 = some ⟨oc23, od23, .func (PySem.W.fnOf "plain_rests" "plain_rests" (defArgs s_plain_rests) (defBody s_plain_rests) (defScope s_plain_rests) .none kV23 dc23 pm23 an23 cd23 ct23), sl23⟩)
    (e23 : PySem.W.codeIn K cd23 "plain_rests" = true)
    (k23 : PySem.W.keepIn K (.ref f23) = true)
    (a24 : PySem.W.nsIn K mainGlobals "_law_cell" = some (some (.ref f24)))
    (l24 : K.lookup f24 = some ⟨oc24, od24, .func (PySem.W.fnOf "_law_cell" "_law_cell" (defArgs s__law_cell) (defBody s__law_cell) (defScope s__law_cell) .none kV24 dc24 pm24 an24 cd24 ct24), sl24⟩)
    (e24 : PySem.W.codeIn K cd24 "_law_cell" = true)
    (k24 : PySem.W.keepIn K (.ref f24) = true)
    (a25 : PySem.W.nsIn K mainGlobals "_law_hash" = some (some (.ref f25)))
    (l25 : K.lookup f25 = some ⟨oc25, od25, .func (PySem.W.fnOf "_law_hash" "_law_hash" (defArgs s__law_hash) (defBody s__law_hash) (defScope s__law_hash) .none kV25 dc25 pm25 an25 cd25 ct25), sl25⟩)
    (e25 : PySem.W.codeIn K cd25 "_law_hash" = true)
    (k25 : PySem.W.keepIn K (.ref f25) = true)
    (a26 : PySem.W.nsIn K mainGlobals "_law_generator" = some (some (.ref f26)))
    (l26 : K.lookup f26 = some ⟨oc26, od26, .func (PySem.W.fnOf "_law_generator" "_law_generator" (defArgs s__law_generator) (defBody s__law_generator) (defScope s__law_generator) .none kV26 dc26 pm26 an26 cd26 ct26), sl26⟩)
    (e26 : PySem.W.codeIn K cd26 "_law_generator" = true)
    (k26 : PySem.W.keepIn K (.ref f26) = true)
    (a27 : PySem.W.nsIn K mainGlobals "_law_random" = some (some (.ref f27)))
    (l27 : K.lookup f27 = some ⟨oc27, od27, .func (PySem.W.fnOf "_law_random" "_law_random" (defArgs s__law_random) (defBody s__law_random) (defScope s__law_random) .none kV27 dc27 pm27 an27 cd27 ct27), sl27⟩)
    (e27 : PySem.W.codeIn K cd27 "_law_random" = true)
    (k27 : PySem.W.keepIn K (.ref f27) = true)
    (a28 : PySem.W.nsIn K mainGlobals "_law_wrapped" = some (some (.ref f28)))
    (l28 : K.lookup f28 = some ⟨oc28, od28, .func (PySem.W.fnOf "_law_wrapped" "_law_wrapped" (defArgs s__law_wrapped) (defBody s__law_wrapped) (defScope s__law_wrapped) .none kV28 dc28 pm28 an28 cd28 ct28), sl28⟩)
    (e28 : PySem.W.codeIn K cd28 "_law_wrapped" = true)
    (k28 : PySem.W.keepIn K (.ref f28) = true)
    (a29 : PySem.W.nsIn K mainGlobals "_law_sample" = some (some (.ref f29)))
    (l29 : K.lookup f29 = some ⟨oc29, od29, .func (PySem.W.fnOf "_law_sample" "_law_sample" (defArgs s__law_sample) (defBody s__law_sample) (defScope s__law_sample) .none kV29 dc29 pm29 an29 cd29 ct29), sl29⟩)
    (e29 : PySem.W.codeIn K cd29 "_law_sample" = true)
    (k29 : PySem.W.keepIn K (.ref f29) = true)
    (a30 : PySem.W.nsIn K mainGlobals "_law_row" = some (some (.ref f30)))
    (l30 : K.lookup f30 = some ⟨oc30, od30, .func (PySem.W.fnOf "_law_row" "_law_row" (defArgs s__law_row) (defBody s__law_row) (defScope s__law_row) .none kV30 dc30 pm30 an30 cd30 ct30), sl30⟩)
    (e30 : PySem.W.codeIn K cd30 "_law_row" = true)
    (k30 : PySem.W.keepIn K (.ref f30) = true)
    (a31 : PySem.W.nsIn K mainGlobals "_law_weights" = some (some (.ref f31)))
    (l31 : K.lookup f31 = some ⟨oc31, od31, .func (PySem.W.fnOf "_law_weights" "_law_weights" (defArgs s__law_weights) (defBody s__law_weights) (defScope s__law_weights) .none kV31 dc31 pm31 an31 cd31 ct31), sl31⟩)
    (e31 : PySem.W.codeIn K cd31 "_law_weights" = true)
    (k31 : PySem.W.keepIn K (.ref f31) = true)
    (a32 : PySem.W.nsIn K mainGlobals "_law_guess" = some (some (.ref f32)))
    (l32 : K.lookup f32 = some ⟨oc32, od32, .func (PySem.W.fnOf "_law_guess" "_law_guess" (defArgs s__law_guess) (defBody s__law_guess) (defScope s__law_guess) .none kV32 dc32 pm32 an32 cd32 ct32), sl32⟩)
    (e32 : PySem.W.codeIn K cd32 "_law_guess" = true)
    (k32 : PySem.W.keepIn K (.ref f32) = true)
    (a33 : PySem.W.nsIn K mainGlobals "_law_all_rows" = some (some (.ref f33)))
    (l33 : K.lookup f33 = some ⟨oc33, od33, .func (PySem.W.fnOf "_law_all_rows" "_law_all_rows" (defArgs s__law_all_rows) (defBody s__law_all_rows) (defScope s__law_all_rows) .none kV33 dc33 pm33 an33 cd33 ct33), sl33⟩)
    (e33 : PySem.W.codeIn K cd33 "_law_all_rows" = true)
    (k33 : PySem.W.keepIn K (.ref f33) = true)
    (a34 : PySem.W.nsIn K mainGlobals "_law_rests_of" = some (some (.ref f34)))
    (l34 : K.lookup f34 = some ⟨oc34, od34, .func (PySem.W.fnOf "_law_rests_of" "_law_rests_of" (defArgs s__law_rests_of) (defBody s__law_rests_of) (defScope s__law_rests_of) .none kV34 dc34 pm34 an34 cd34 ct34), sl34⟩)
    (e34 : PySem.W.codeIn K cd34 "_law_rests_of" = true)
    (k34 : PySem.W.keepIn K (.ref f34) = true)
    (a35 : PySem.W.nsIn K mainGlobals "_law_right" = some (some (.ref f35)))
    (l35 : K.lookup f35 = some ⟨oc35, od35, .func (PySem.W.fnOf "_law_right" "_law_right" (defArgs s__law_right) (defBody s__law_right) (defScope s__law_right) .none kV35 dc35 pm35 an35 cd35 ct35), sl35⟩)
    (e35 : PySem.W.codeIn K cd35 "_law_right" = true)
    (k35 : PySem.W.keepIn K (.ref f35) = true)
    (a36 : PySem.W.nsIn K mainGlobals "_law_all_right" = some (some (.ref f36)))
    (l36 : K.lookup f36 = some ⟨oc36, od36, .func (PySem.W.fnOf "_law_all_right" "_law_all_right" (defArgs s__law_all_right) (defBody s__law_all_right) (defScope s__law_all_right) .none kV36 dc36 pm36 an36 cd36 ct36), sl36⟩)
    (e36 : PySem.W.codeIn K cd36 "_law_all_right" = true)
    (k36 : PySem.W.keepIn K (.ref f36) = true)
    (a37 : PySem.W.nsIn K mainGlobals "_law_steps_right" = some (some (.ref f37)))
    (l37 : K.lookup f37 = some ⟨oc37, od37, .func (PySem.W.fnOf "_law_steps_right" "_law_steps_right" (defArgs s__law_steps_right) (defBody s__law_steps_right) (defScope s__law_steps_right) .none kV37 dc37 pm37 an37 cd37 ct37), sl37⟩)
    (e37 : PySem.W.codeIn K cd37 "_law_steps_right" = true)
    (k37 : PySem.W.keepIn K (.ref f37) = true)
    (a38 : PySem.W.nsIn K mainGlobals "law" = some (some (.ref f38)))
    (l38 : K.lookup f38 = some ⟨oc38, od38, .func (PySem.W.fnOf "law" "law" (defArgs s_law) (defBody s_law) (defScope s_law) .none kV38 dc38 pm38 an38 cd38 ct38), sl38⟩)
    (e38 : PySem.W.codeIn K cd38 "law" = true)
    (k38 : PySem.W.keepIn K (.ref f38) = true)
    (c_MOST_WEIGHTS : PySem.W.nsIn K mainGlobals "MOST_WEIGHTS" = some (some (.int 8 t_MOST_WEIGHTS)))
    (c_GREATEST_WEIGHT : PySem.W.nsIn K mainGlobals "GREATEST_WEIGHT" = some (some (.int 32768 t_GREATEST_WEIGHT)))
    (c_GREATEST_SHIFT : PySem.W.nsIn K mainGlobals "GREATEST_SHIFT" = some (some (.int 15 t_GREATEST_SHIFT)))
    (c_GREATEST_DEPTH : PySem.W.nsIn K mainGlobals "GREATEST_DEPTH" = some (some (.int 32 t_GREATEST_DEPTH)))
    (z_all : PySem.W.nsIn K mainGlobals "all" = some none)
    (z_bool : PySem.W.nsIn K mainGlobals "bool" = some none)
    (z_enumerate : PySem.W.nsIn K mainGlobals "enumerate" = some none)
    (z_int : PySem.W.nsIn K mainGlobals "int" = some none)
    (z_isinstance : PySem.W.nsIn K mainGlobals "isinstance" = some none)
    (z_len : PySem.W.nsIn K mainGlobals "len" = some none)
    (z_list : PySem.W.nsIn K mainGlobals "list" = some none)
    (z_max : PySem.W.nsIn K mainGlobals "max" = some none)
    (z_range : PySem.W.nsIn K mainGlobals "range" = some none)
    (z_repr : PySem.W.nsIn K mainGlobals "repr" = some none)
    (z_sorted : PySem.W.nsIn K mainGlobals "sorted" = some none)
    (z_sum : PySem.W.nsIn K mainGlobals "sum" = some none)
    (y_comb : PySem.W.nsIn K mainGlobals "comb" = some (some (.builtin "math.comb"))) :
    ∃ fd : FuncData, (∀ (s : Shared) (v : Value), BindsTo s fd ⟨[v], []⟩ [("_law_script", v)]) ∧ ∀ base : Heap, K.In base → base.Ns mainGlobals mg → FnQ l.prog w K mg base 8 fa fd ["_law_script"] (sp_law K) := by
  have e := hfa.symm.trans (PySem.W.mg_of X G a38)
  cases e
  have F1 := fun_mk (st := s_is_number) l1 e1 k1
  have b1 := F1.binds (ps := ["value"]) fun _ _ _ _ _ _ us hl => match us, hl with | [_], _ => rfl
  have F2 := fun_mk (st := s_is_within) l2 e2 k2
  have b2 := F2.binds (ps := ["value", "low", "high"]) fun _ _ _ _ _ _ us hl => match us, hl with | [_, _, _], _ => rfl
  have F3 := fun_mk (st := s_is_numbers) l3 e3 k3
  have b3 := F3.binds (ps := ["value"]) fun _ _ _ _ _ _ us hl => match us, hl with | [_], _ => rfl
  have F4 := fun_mk (st := s_check_within) l4 e4 k4
  have b4 := F4.binds (ps := ["number", "low", "high"]) fun _ _ _ _ _ _ us hl => match us, hl with | [_, _, _], _ => rfl
  have F5 := fun_mk (st := s_check_depth) l5 e5 k5
  have b5 := F5.binds (ps := ["depth", "most"]) fun _ _ _ _ _ _ us hl => match us, hl with | [_, _], _ => rfl
  have F6 := fun_mk (st := s_least_sample) l6 e6 k6
  have b6 := F6.binds (ps := ["depth"]) fun _ _ _ _ _ _ us hl => match us, hl with | [_], _ => rfl
  have F7 := fun_mk (st := s_greatest_sample) l7 e7 k7
  have b7 := F7.binds (ps := ["depth"]) fun _ _ _ _ _ _ us hl => match us, hl with | [_], _ => rfl
  have F8 := fun_mk (st := s_wrapped) l8 e8 k8
  have b8 := F8.binds (ps := ["number", "depth"]) fun _ _ _ _ _ _ us hl => match us, hl with | [_, _], _ => rfl
  have F9 := fun_mk (st := s_is_samples) l9 e9 k9
  have b9 := F9.binds (ps := ["value", "depth"]) fun _ _ _ _ _ _ us hl => match us, hl with | [_, _], _ => rfl
  have F10 := fun_mk (st := s_Guesser___init__) l10 e10 k10
  have b10 := F10.binds (ps := ["self", "weights", "shift"]) fun _ _ _ _ _ _ us hl => match us, hl with | [_, _, _], _ => rfl
  have F11 := fun_mk (st := s_Guesser_weights) l11 e11 k11
  have b11 := F11.binds (ps := ["self"]) fun _ _ _ _ _ _ us hl => match us, hl with | [_], _ => rfl
  have F12 := fun_mk (st := s_Guesser_shift) l12 e12 k12
  have b12 := F12.binds (ps := ["self"]) fun _ _ _ _ _ _ us hl => match us, hl with | [_], _ => rfl
  have F13 := fun_mk (st := s_Guesser_order) l13 e13 k13
  have b13 := F13.binds (ps := ["self"]) fun _ _ _ _ _ _ us hl => match us, hl with | [_], _ => rfl
  have F14 := fun_mk (st := s_Guesser___eq__) l14 e14 k14
  have b14 := F14.binds (ps := ["self", "other"]) fun _ _ _ _ _ _ us hl => match us, hl with | [_, _], _ => rfl
  have F15 := fun_mk (st := s_check_guesser) l15 e15 k15
  have b15 := F15.binds (ps := ["guesser"]) fun _ _ _ _ _ _ us hl => match us, hl with | [_], _ => rfl
  have F16 := fun_mk (st := s_check_samples) l16 e16 k16
  have b16 := F16.binds (ps := ["row", "depth"]) fun _ _ _ _ _ _ us hl => match us, hl with | [_, _], _ => rfl
  have F17 := fun_mk (st := s_weighed) l17 e17 k17
  have b17 := F17.binds (ps := ["weights", "row", "at"]) fun _ _ _ _ _ _ us hl => match us, hl with | [_, _, _], _ => rfl
  have F18 := fun_mk (st := s_guess) l18 e18 k18
  have b18 := F18.binds (ps := ["guesser", "before"]) fun _ _ _ _ _ _ us hl => match us, hl with | [_, _], _ => rfl
  have F19 := fun_mk (st := s_steps) l19 e19 k19
  have b19 := F19.binds (ps := ["order"]) fun _ _ _ _ _ _ us hl => match us, hl with | [_], _ => rfl
  have F20 := fun_mk (st := s_unwrapped_rests) l20 e20 k20
  have b20 := F20.binds (ps := ["guesser", "row"]) fun _ _ _ _ _ _ us hl => match us, hl with | [_, _], _ => rfl
  have F21 := fun_mk (st := s_rests) l21 e21 k21
  have b21 := F21.binds (ps := ["guesser", "depth", "row"]) fun _ _ _ _ _ _ us hl => match us, hl with | [_, _, _], _ => rfl
  have F22 := fun_mk (st := s_row_of) l22 e22 k22
  have b22 := F22.binds (ps := ["guesser", "depth", "rests"]) fun _ _ _ _ _ _ us hl => match us, hl with | [_, _, _], _ => rfl
  have F23 := fun_mk (st := s_plain_rests) l23 e23 k23
  have b23 := F23.binds (ps := ["guesser", "row"]) fun _ _ _ _ _ _ us hl => match us, hl with | [_, _], _ => rfl
  have F24 := fun_mk (st := s__law_cell) l24 e24 k24
  have b24 := F24.binds (ps := ["_law_script", "_law_index"]) fun _ _ _ _ _ _ us hl => match us, hl with | [_, _], _ => rfl
  have F25 := fun_mk (st := s__law_hash) l25 e25 k25
  have b25 := F25.binds (ps := ["_law_seed", "_law_index"]) fun _ _ _ _ _ _ us hl => match us, hl with | [_, _], _ => rfl
  have F26 := fun_mk (st := s__law_generator) l26 e26 k26
  have b26 := F26.binds (ps := ["_law_script", "_law_index"]) fun _ _ _ _ _ _ us hl => match us, hl with | [_, _], _ => rfl
  have F27 := fun_mk (st := s__law_random) l27 e27 k27
  have b27 := F27.binds (ps := ["_law_generator_here", "_law_bound"]) fun _ _ _ _ _ _ us hl => match us, hl with | [_, _], _ => rfl
  have F28 := fun_mk (st := s__law_wrapped) l28 e28 k28
  have b28 := F28.binds (ps := ["_law_number", "_law_depth"]) fun _ _ _ _ _ _ us hl => match us, hl with | [_, _], _ => rfl
  have F29 := fun_mk (st := s__law_sample) l29 e29 k29
  have b29 := F29.binds (ps := ["_law_generator_here", "_law_depth"]) fun _ _ _ _ _ _ us hl => match us, hl with | [_, _], _ => rfl
  have F30 := fun_mk (st := s__law_row) l30 e30 k30
  have b30 := F30.binds (ps := ["_law_generator_here", "_law_depth", "_law_many"]) fun _ _ _ _ _ _ us hl => match us, hl with | [_, _, _], _ => rfl
  have F31 := fun_mk (st := s__law_weights) l31 e31 k31
  have b31 := F31.binds (ps := ["_law_generator_here", "_law_many"]) fun _ _ _ _ _ _ us hl => match us, hl with | [_, _], _ => rfl
  have F32 := fun_mk (st := s__law_guess) l32 e32 k32
  have b32 := F32.binds (ps := ["_law_weights_here", "_law_shift", "_law_before"]) fun _ _ _ _ _ _ us hl => match us, hl with | [_, _, _], _ => rfl
  have F33 := fun_mk (st := s__law_all_rows) l33 e33 k33
  have b33 := F33.binds (ps := ["_law_depth", "_law_many"]) fun _ _ _ _ _ _ us hl => match us, hl with | [_, _], _ => rfl
  have F34 := fun_mk (st := s__law_rests_of) l34 e34 k34
  have b34 := F34.binds (ps := ["_law_weights_here", "_law_shift", "_law_row_here"]) fun _ _ _ _ _ _ us hl => match us, hl with | [_, _, _], _ => rfl
  have F35 := fun_mk (st := s__law_right) l35 e35 k35
  have b35 := F35.binds (ps := ["_law_generator_here", "_law_guesser", "_law_weights_here", "_law_shift"]) fun _ _ _ _ _ _ us hl => match us, hl with | [_, _, _, _], _ => rfl
  have F36 := fun_mk (st := s__law_all_right) l36 e36 k36
  have b36 := F36.binds (ps := ["_law_generator_here", "_law_guesser"]) fun _ _ _ _ _ _ us hl => match us, hl with | [_, _], _ => rfl
  have F37 := fun_mk (st := s__law_steps_right) l37 e37 k37
  have b37 := F37.binds (ps := ["_law_generator_here"]) fun _ _ _ _ _ _ us hl => match us, hl with | [_], _ => rfl
  have F38 := fun_mk (st := s_law) l38 e38 k38
  have b38 := F38.binds (ps := ["_law_script"]) fun _ _ _ _ _ _ us hl => match us, hl with | [_], _ => rfl
  exact ⟨_, fun s v => .of_eq rfl, fun base _ _ => ok_law { C_Guesser := C_Guesser, cl_Guesser := ⟨pg_Guesser, hd_Guesser, po_Guesser, sa_Guesser⟩, gC_Guesser := PySem.W.mg_of X G gC_Guesser, is_Guesser := ⟨ha_Guesser, hn_Guesser, ht_Guesser, hm_Guesser⟩, n_Guesser__weights := n_Guesser__weights, n_Guesser__shift := n_Guesser__shift, ne_Guesser := ne_Guesser, ty_Guesser := ty_Guesser, a_is_number := f1, d_is_number := _, f_is_number := F1, b_is_number := b1, g_is_number := PySem.W.mg_of X G a1, a_is_within := f2, d_is_within := _, f_is_within := F2, b_is_within := b2, g_is_within := PySem.W.mg_of X G a2, a_is_numbers := f3, d_is_numbers := _, f_is_numbers := F3, b_is_numbers := b3, g_is_numbers := PySem.W.mg_of X G a3, a_check_within := f4, d_check_within := _, f_check_within := F4, b_check_within := b4, g_check_within := PySem.W.mg_of X G a4, a_check_depth := f5, d_check_depth := _, f_check_depth := F5, b_check_depth := b5, g_check_depth := PySem.W.mg_of X G a5, a_least_sample := f6, d_least_sample := _, f_least_sample := F6, b_least_sample := b6, g_least_sample := PySem.W.mg_of X G a6, a_greatest_sample := f7, d_greatest_sample := _, f_greatest_sample := F7, b_greatest_sample := b7, g_greatest_sample := PySem.W.mg_of X G a7, a_wrapped := f8, d_wrapped := _, f_wrapped := F8, b_wrapped := b8, g_wrapped := PySem.W.mg_of X G a8, a_is_samples := f9, d_is_samples := _, f_is_samples := F9, b_is_samples := b9, g_is_samples := PySem.W.mg_of X G a9, a_Guesser___init__ := f10, d_Guesser___init__ := _, f_Guesser___init__ := F10, b_Guesser___init__ := b10, mk_Guesser := ⟨mk_Guesser, a10, i10, kc_Guesser⟩, a_Guesser_weights := f11, d_Guesser_weights := _, f_Guesser_weights := F11, b_Guesser_weights := b11, me_Guesser_weights := ⟨a11, i11, k11⟩, a_Guesser_shift := f12, d_Guesser_shift := _, f_Guesser_shift := F12, b_Guesser_shift := b12, me_Guesser_shift := ⟨a12, i12, k12⟩, a_Guesser_order := f13, d_Guesser_order := _, f_Guesser_order := F13, b_Guesser_order := b13, me_Guesser_order := ⟨a13, i13, k13⟩, a_Guesser___eq__ := f14, d_Guesser___eq__ := _, f_Guesser___eq__ := F14, b_Guesser___eq__ := b14, q_Guesser := ⟨a14, i14⟩, a_check_guesser := f15, d_check_guesser := _, f_check_guesser := F15, b_check_guesser := b15, g_check_guesser := PySem.W.mg_of X G a15, a_check_samples := f16, d_check_samples := _, f_check_samples := F16, b_check_samples := b16, g_check_samples := PySem.W.mg_of X G a16, a_weighed := f17, d_weighed := _, f_weighed := F17, b_weighed := b17, g_weighed := PySem.W.mg_of X G a17, a_guess := f18, d_guess := _, f_guess := F18, b_guess := b18, g_guess := PySem.W.mg_of X G a18, a_steps := f19, d_steps := _, f_steps := F19, b_steps := b19, g_steps := PySem.W.mg_of X G a19, a_unwrapped_rests := f20, d_unwrapped_rests := _, f_unwrapped_rests := F20, b_unwrapped_rests := b20, g_unwrapped_rests := PySem.W.mg_of X G a20, a_rests := f21, d_rests := _, f_rests := F21, b_rests := b21, g_rests := PySem.W.mg_of X G a21, a_row_of := f22, d_row_of := _, f_row_of := F22, b_row_of := b22, g_row_of := PySem.W.mg_of X G a22, a_plain_rests := f23, d_plain_rests := _, f_plain_rests := F23, b_plain_rests := b23, g_plain_rests := PySem.W.mg_of X G a23, a__law_cell := f24, d__law_cell := _, f__law_cell := F24, b__law_cell := b24, g__law_cell := PySem.W.mg_of X G a24, a__law_hash := f25, d__law_hash := _, f__law_hash := F25, b__law_hash := b25, g__law_hash := PySem.W.mg_of X G a25, a__law_generator := f26, d__law_generator := _, f__law_generator := F26, b__law_generator := b26, g__law_generator := PySem.W.mg_of X G a26, a__law_random := f27, d__law_random := _, f__law_random := F27, b__law_random := b27, g__law_random := PySem.W.mg_of X G a27, a__law_wrapped := f28, d__law_wrapped := _, f__law_wrapped := F28, b__law_wrapped := b28, g__law_wrapped := PySem.W.mg_of X G a28, a__law_sample := f29, d__law_sample := _, f__law_sample := F29, b__law_sample := b29, g__law_sample := PySem.W.mg_of X G a29, a__law_row := f30, d__law_row := _, f__law_row := F30, b__law_row := b30, g__law_row := PySem.W.mg_of X G a30, a__law_weights := f31, d__law_weights := _, f__law_weights := F31, b__law_weights := b31, g__law_weights := PySem.W.mg_of X G a31, a__law_guess := f32, d__law_guess := _, f__law_guess := F32, b__law_guess := b32, g__law_guess := PySem.W.mg_of X G a32, a__law_all_rows := f33, d__law_all_rows := _, f__law_all_rows := F33, b__law_all_rows := b33, g__law_all_rows := PySem.W.mg_of X G a33, a__law_rests_of := f34, d__law_rests_of := _, f__law_rests_of := F34, b__law_rests_of := b34, g__law_rests_of := PySem.W.mg_of X G a34, a__law_right := f35, d__law_right := _, f__law_right := F35, b__law_right := b35, g__law_right := PySem.W.mg_of X G a35, a__law_all_right := f36, d__law_all_right := _, f__law_all_right := F36, b__law_all_right := b36, g__law_all_right := PySem.W.mg_of X G a36, a__law_steps_right := f37, d__law_steps_right := _, f__law_steps_right := F37, b__law_steps_right := b37, g__law_steps_right := PySem.W.mg_of X G a37, a_law := fa, d_law := _, f_law := F38, b_law := b38, g_law := PySem.W.mg_of X G a38, t_MOST_WEIGHTS := t_MOST_WEIGHTS, c_MOST_WEIGHTS := PySem.W.mg_of X G c_MOST_WEIGHTS, t_GREATEST_WEIGHT := t_GREATEST_WEIGHT, c_GREATEST_WEIGHT := PySem.W.mg_of X G c_GREATEST_WEIGHT, t_GREATEST_SHIFT := t_GREATEST_SHIFT, c_GREATEST_SHIFT := PySem.W.mg_of X G c_GREATEST_SHIFT, t_GREATEST_DEPTH := t_GREATEST_DEPTH, c_GREATEST_DEPTH := PySem.W.mg_of X G c_GREATEST_DEPTH, m_all := PySem.W.mg_none_of X G z_all, m_bool := PySem.W.mg_none_of X G z_bool, m_enumerate := PySem.W.mg_none_of X G z_enumerate, m_int := PySem.W.mg_none_of X G z_int, m_isinstance := PySem.W.mg_none_of X G z_isinstance, m_len := PySem.W.mg_none_of X G z_len, m_list := PySem.W.mg_none_of X G z_list, m_max := PySem.W.mg_none_of X G z_max, m_range := PySem.W.mg_none_of X G z_range, m_repr := PySem.W.mg_none_of X G z_repr, m_sorted := PySem.W.mg_none_of X G z_sorted, m_sum := PySem.W.mg_none_of X G z_sum, mt_comb := PySem.W.mg_of X G y_comb }⟩
end K10
open PySem PySem.W PyProof.Rows
set_option maxHeartbeats 0 in
theorem PySem.Challenge.cw_wholesound_k10_guesses_and_rests_holds : PySem.Challenge.rw_wholesound_k10_guesses_and_rests.Holds := by
  w_on; o_law; k_head; (case hw => w_witness2)
  k_fill
  refine WS.walk_ofQ (l := PySem.Challenge.rw_wholesound_k10_guesses_and_rests) (n := 63) (k := 8) (x := "_law_script") (sp := fun w => K10.sp_law _) rfl (by decide) rfl ⟨rfl, by decide, by decide⟩ (fun w h Y => PySem.W.kIn_of Y) ?F (fun _ _ a ns hl _ hS => ⟨a, ns, rfl, hS, hl, fun _ => rfl⟩)
  case F =>
    intro w mg fa h KX G hmg
    refine' K10.all_mk KX G hmg ?gC_Guesser ?pg_Guesser ?hd_Guesser ?po_Guesser ?sa_Guesser ?mk_Guesser ?kc_Guesser ?ha_Guesser ?hn_Guesser ?ht_Guesser ?hm_Guesser ?n_Guesser__weights ?n_Guesser__shift ?ne_Guesser ?ty_Guesser ?a1 ?l1 ?e1 ?k1 ?a2 ?l2 ?e2 ?k2 ?a3 ?l3 ?e3 ?k3 ?a4 ?l4 ?e4 ?k4 ?a5 ?l5 ?e5 ?k5 ?a6 ?l6 ?e6 ?k6 ?a7 ?l7 ?e7 ?k7 ?a8 ?l8 ?e8 ?k8 ?a9 ?l9 ?e9 ?k9 ?a10 ?i10 ?l10 ?e10 ?k10 ?a11 ?i11 ?l11 ?e11 ?k11 ?a12 ?i12 ?l12 ?e12 ?k12 ?a13 ?i13 ?l13 ?e13 ?k13 ?a14 ?i14 ?l14 ?e14 ?k14 ?a15 ?l15 ?e15 ?k15 ?a16 ?l16 ?e16 ?k16 ?a17 ?l17 ?e17 ?k17 ?a18 ?l18 ?e18 ?k18 ?a19 ?l19 ?e19 ?k19 ?a20 ?l20 ?e20 ?k20 ?a21 ?l21 ?e21 ?k21 ?a22 ?l22 ?e22 ?k22 ?a23 ?l23 ?e23 ?k23 ?a24 ?l24 ?e24 ?k24 ?a25 ?l25 ?e25 ?k25 ?a26 ?l26 ?e26 ?k26 ?a27 ?l27 ?e27 ?k27 ?a28 ?l28 ?e28 ?k28 ?a29 ?l29 ?e29 ?k29 ?a30 ?l30 ?e30 ?k30 ?a31 ?l31 ?e31 ?k31 ?a32 ?l32 ?e32 ?k32 ?a33 ?l33 ?e33 ?k33 ?a34 ?l34 ?e34 ?k34 ?a35 ?l35 ?e35 ?k35 ?a36 ?l36 ?e36 ?k36 ?a37 ?l37 ?e37 ?k37 ?a38 ?l38 ?e38 ?k38 ?c_MOST_WEIGHTS ?c_GREATEST_WEIGHT ?c_GREATEST_SHIFT ?c_GREATEST_DEPTH ?z_all ?z_bool ?z_enumerate ?z_int ?z_isinstance ?z_len ?z_list ?z_max ?z_range ?z_repr ?z_sorted ?z_sum ?y_comb
    (case gC_Guesser => k_is); (case pg_Guesser => k_is); (case hd_Guesser => k_is); (case po_Guesser => k_is); (case sa_Guesser => k_is); (case mk_Guesser => k_is)
    (case kc_Guesser => k_is); (case ha_Guesser => k_is); (case hn_Guesser => k_is); (case ht_Guesser => k_is); (case hm_Guesser => k_is); (case n_Guesser__weights => k_is)
    (case n_Guesser__shift => k_is); (case ne_Guesser => k_is); (case ty_Guesser => k_is); (case a1 => k_is); (case l1 => k_is); (case e1 => k_is)
    (case k1 => k_is); (case a2 => k_is); (case l2 => k_is); (case e2 => k_is); (case k2 => k_is); (case a3 => k_is)
    (case l3 => k_is); (case e3 => k_is); (case k3 => k_is); (case a4 => k_is); (case l4 => k_is); (case e4 => k_is)
    (case k4 => k_is); (case a5 => k_is); (case l5 => k_is); (case e5 => k_is); (case k5 => k_is); (case a6 => k_is)
    (case l6 => k_is); (case e6 => k_is); (case k6 => k_is); (case a7 => k_is); (case l7 => k_is); (case e7 => k_is)
    (case k7 => k_is); (case a8 => k_is); (case l8 => k_is); (case e8 => k_is); (case k8 => k_is); (case a9 => k_is)
    (case l9 => k_is); (case e9 => k_is); (case k9 => k_is); (case a10 => k_is); (case i10 => k_is); (case l10 => k_is)
    (case e10 => k_is); (case k10 => k_is); (case a11 => k_is); (case i11 => k_is); (case l11 => k_is); (case e11 => k_is)
    (case k11 => k_is); (case a12 => k_is); (case i12 => k_is); (case l12 => k_is); (case e12 => k_is); (case k12 => k_is)
    (case a13 => k_is); (case i13 => k_is); (case l13 => k_is); (case e13 => k_is); (case k13 => k_is); (case a14 => k_is)
    (case i14 => k_is); (case l14 => k_is); (case e14 => k_is); (case k14 => k_is); (case a15 => k_is); (case l15 => k_is)
    (case e15 => k_is); (case k15 => k_is); (case a16 => k_is); (case l16 => k_is); (case e16 => k_is); (case k16 => k_is)
    (case a17 => k_is); (case l17 => k_is); (case e17 => k_is); (case k17 => k_is); (case a18 => k_is); (case l18 => k_is)
    (case e18 => k_is); (case k18 => k_is); (case a19 => k_is); (case l19 => k_is); (case e19 => k_is); (case k19 => k_is)
    (case a20 => k_is); (case l20 => k_is); (case e20 => k_is); (case k20 => k_is); (case a21 => k_is); (case l21 => k_is)
    (case e21 => k_is); (case k21 => k_is); (case a22 => k_is); (case l22 => k_is); (case e22 => k_is); (case k22 => k_is)
    (case a23 => k_is); (case l23 => k_is); (case e23 => k_is); (case k23 => k_is); (case a24 => k_is); (case l24 => k_is)
    (case e24 => k_is); (case k24 => k_is); (case a25 => k_is); (case l25 => k_is); (case e25 => k_is); (case k25 => k_is)
    (case a26 => k_is); (case l26 => k_is); (case e26 => k_is); (case k26 => k_is); (case a27 => k_is); (case l27 => k_is)
    (case e27 => k_is); (case k27 => k_is); (case a28 => k_is); (case l28 => k_is); (case e28 => k_is); (case k28 => k_is)
    (case a29 => k_is); (case l29 => k_is); (case e29 => k_is); (case k29 => k_is); (case a30 => k_is); (case l30 => k_is)
    (case e30 => k_is); (case k30 => k_is); (case a31 => k_is); (case l31 => k_is); (case e31 => k_is); (case k31 => k_is)
    (case a32 => k_is); (case l32 => k_is); (case e32 => k_is); (case k32 => k_is); (case a33 => k_is); (case l33 => k_is)
    (case e33 => k_is); (case k33 => k_is); (case a34 => k_is); (case l34 => k_is); (case e34 => k_is); (case k34 => k_is)
    (case a35 => k_is); (case l35 => k_is); (case e35 => k_is); (case k35 => k_is); (case a36 => k_is); (case l36 => k_is)
    (case e36 => k_is); (case k36 => k_is); (case a37 => k_is); (case l37 => k_is); (case e37 => k_is); (case k37 => k_is)
    (case a38 => k_is); (case l38 => k_is); (case e38 => k_is); (case k38 => k_is); (case c_MOST_WEIGHTS => k_is); (case c_GREATEST_WEIGHT => k_is)
    (case c_GREATEST_SHIFT => k_is); (case c_GREATEST_DEPTH => k_is); (case z_all => k_is); (case z_bool => k_is); (case z_enumerate => k_is); (case z_int => k_is)
    (case z_isinstance => k_is); (case z_len => k_is); (case z_list => k_is); (case z_max => k_is); (case z_range => k_is); (case z_repr => k_is)
    (case z_sorted => k_is); (case z_sum => k_is); (case y_comb => k_is)
