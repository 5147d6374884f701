import PyProof.Rows.All
import Wide.All
import OpenK.AllK
import Wide.FinOn
import HandS.ForMost
import HandS.Evl
import HandS.WideBits
import HandS.WideMore
import HandS.Style
import HandS.IsInst
import HandS.OwnEq
import HandS.Iter
import HandS.Gcd
import HandS.SortKw
import KE.KMathGC
import KE.DatumOrd
import HandS.Dict
import KE.KEqDict
import HandS.Sort
import KE.KDictSum
import HandS.Walk
import HandS.Deep
import PySem.Challenge.RW_wholesound_k50_rows_of_each_size
set_option Elab.async false
set_option linter.all false
set_option maxRecDepth 100000
set_option maxHeartbeats 2000000
namespace WS
open PySem PySem.Spec PyProof.Rows L2 Evl

/-! ### a power of any size -/
def CPowW (i j : Int) : Prop := 0 ≤ j ∧ (Builtin.Int.intBits i : Int) * j ≤ 2 ^ 27
section
variable {X : Cx}
theorem op_powW : OpR X (binaryOp .Pow) (rI CPowW fun i j => .int (i ^ j.toNat)) := opI fun _ _ _ _ _ _ _ hc q => pow_int hc.1 hc.2 q
end

section
variable {K : PySem.W.Frag} {σ : L2.St} {H H' : Hp} {ta tb te tx tl : TE} {t u : TT} {x y z v : V} {r : R2} {D : Ends} {tu tw tz : TS} {g : TG}
theorem ev_sumN {ns : List Int} (h : EvL te σ H (ns.map V.int)) : Ev (tCB (rSum K) (tCons te tNil)) σ H (.int ns.sum) := fun H1 e Q q =>
  h H1 e _ fun p H2 _ e2 h2 => ⟨p, ns, rfl, sq_of h2, q H2 e2⟩
theorem ev_sum {p : Addr} {ns : List Int} (h : Ev te σ H (.ref p)) (hp : SqL K H p (ns.map V.int)) : Ev (tCB (rSum K) (tCons te tNil)) σ H (.int ns.sum) := fun H1 e Q q =>
  h H1 e _ fun H2 e2 => ⟨p, ns, rfl, ex_l (e.trans e2) hp, q H2 e2⟩
theorem ev_allN {bs : List Bool} (h : EvL te σ H (bs.map V.bl)) : Ev (tCB (rAll K) (tCons te tNil)) σ H (.bl (bs.all id)) := fun H1 e Q q =>
  h H1 e _ fun p H2 _ e2 h2 => ⟨p, bs, rfl, sq_of h2, q H2 e2⟩
theorem ev_min {p : Addr} {ns : List Int} {m : Int} (h : Ev te σ H (.ref p)) (hp : SqL K H p (ns.map V.int)) (hm : m ∈ ns) (hle : ∀ y ∈ ns, m ≤ y) : Ev (tCB (rMin K) (tCons te tNil)) σ H (.int m) := fun H1 e Q q =>
  h H1 e _ fun H2 e2 => ⟨p, ns, rfl, ex_l (e.trans e2) hp, by cases ns with | nil => cases hm | cons a r => simp, fun k hk hkl => by
    have : k = m := Int.le_antisymm (hkl m hm) (hle k hk)
    rw [this]
    exact q H2 e2⟩
def rInt1 : List V → Hp → VK → Prop := fun xs H Q => (∃ i, xs = [.int i] ∧ Q (.int i) H) ∨ ∃ k, xs = [.bl k] ∧ Q (.int (if k then 1 else 0)) H
theorem ev_int {i : Int} (h : Ev te σ H (.int i)) : Ev (tCB rInt1 (tCons te tNil)) σ H (.int i) := fun H1 e Q q =>
  h H1 e _ fun H2 e2 => Or.inl ⟨i, rfl, q H2 e2⟩
theorem ev_intB {k : Bool} (h : Ev te σ H (.bl k)) : Ev (tCB rInt1 (tCons te tNil)) σ H (.int (if k then 1 else 0)) := fun H1 e Q q =>
  h H1 e _ fun H2 e2 => Or.inr ⟨k, rfl, q H2 e2⟩
theorem ev_bits {i : Int} (h : Ev te σ H (.int i)) : Ev (tBits te) σ H (.int (Builtin.Int.intBits i : Nat)) := fun H1 e Q q =>
  h H1 e _ fun H2 e2 => ⟨i, rfl, q H2 e2⟩
/-- isinstance of a scalar -/
theorem ev_isi {ty : Value} {b : Bool} {n : String} (h : Ev te σ H x) (ht : ∀ H1, Ex H H1 → TyX K H1 x ty) (hk : PySem.W.kitOne K ty (.type n) = some b) : Ev (tCB (rIsi K) (tCons te (tCons (tC (.ty n)) tNil))) σ H (.bl b) := fun H1 e Q q =>
  h H1 e _ fun H2 e2 => ⟨x, .ty n, ty, .type n, b, rfl, ClsV.ty n, ht H2 (e.trans e2), hk, q H2 e2⟩
theorem ev_isiI {i : Int} {b : Bool} {n : String} (h : Ev te σ H (.int i)) (hk : kitB "int" n = some b) : Ev (tCB (rIsi K) (tCons te (tCons (tC (.ty n)) tNil))) σ H (.bl b) :=
  ev_isi h (fun _ _ => TyX.base (TyOf.int i)) (kit_ty hk)
theorem ev_isiL {p : Addr} {xs : List V} {b : Bool} {n : String} (h : Ev te σ H (.ref p)) (hp : H p = some (.lst xs)) (hk : kitB "list" n = some b) : Ev (tCB (rIsi K) (tCons te (tCons (tC (.ty n)) tNil))) σ H (.bl b) :=
  ev_isi h (fun _ e => TyX.base (TyOf.lst (e _ _ hp))) (kit_ty hk)
theorem ev_chain {r' : R2} {tc : TE} {w' : V} {k k' : Bool} (ha : Ev ta σ H x) (hb : Ev tb σ H y) (hr : RV r x y H (.bl k)) (hc : Ev tc σ H w') (hr' : RV r' y w' H (.bl k')) : Ev (tChain r r' ta tb tc) σ H (.bl (k && k')) := fun H1 e Q q =>
  ha H1 e _ fun H2 e2 => hb H2 (e.trans e2) _ fun H3 e3 => hr H3 ((e.trans e2).trans e3) _ fun H4 e4 => ⟨k, rfl, by
    have e' := ((e.trans e2).trans e3).trans e4
    cases k with
    | true =>
      rw [if_pos rfl]
      exact hc H4 e' _ fun H5 e5 => hr' H5 (e'.trans e5) Q fun H6 e6 => q H6 ((((e2.trans e3).trans e4).trans e5).trans e6)
    | false =>
      rw [if_neg Bool.false_ne_true]
      exact q H4 ((e2.trans e3).trans e4)⟩
/-- [f(x) for x in ns] -/
theorem given_map {α : Type} (xs : List α) (d : α) (f : α → V) : given xs.length (fun _ => true) (fun i => f (xs.getD i d)) = xs.map f := by
  unfold given
  rw [List.filter_eq_self.mpr (fun _ _ => rfl)]
  apply List.ext_getElem?
  intro i
  rw [List.getElem?_map, List.getElem?_map]
  by_cases h : i < xs.length
  · rw [List.getElem?_range h, List.getElem?_eq_getElem h]
    simp only [Option.map_some]
    rw [List.getD_eq_getElem?_getD, List.getElem?_eq_getElem h] <;> rfl
  · rw [List.getElem?_eq_none (by rw [List.length_range]; omega), List.getElem?_eq_none (by omega)]
    rfl
theorem el_map {a : Addr} {j : Nat} {vs : List Nat} {α : Type} (d : α) {xs : List α} {c : α → V} (f : α → V) (h : Ev tl σ H (.ref a)) (hx : SqL K H a (xs.map c)) (hz : xs.length ≤ 40000) (hw : ∀ x, wipe ((wipe σ vs).set j (some x)) vs = wipe σ vs)
    (he : ∀ (x : α) H1, Ex H H1 → x ∈ xs → Ev te ((wipe σ vs).set j (some (c x))) H1 (f x)) : EvL (tLc (iList K tl) (gName j) tYes te vs) σ H (xs.map f) := by
  rw [← given_map xs d f]
  have hl : (xs.map c).length = xs.length := List.length_map _
  rw [← hl]
  refine el_lcL (fun _ => true) _ h hx (by rw [hl]; exact hz) hw (fun i x H1 e hi => fun H2 _ Q q => q H2 (Ex.refl H2)) (fun i x H1 e hi _ => ?_)
  rw [List.getElem?_map] at hi
  cases hq : xs[i]? with
  | none => rw [hq] at hi; cases hi
  | some y =>
    rw [hq] at hi
    have ey : c y = x := Option.some.inj hi
    rw [← ey, List.getD_eq_getElem?_getD, hq]
    exact he y H1 e (List.mem_of_getElem? hq)
/-- [f(i) for i in range(n)] -/
theorem el_mapR {a : TA} {j : Nat} {vs : List Nat} {n : Nat} (f : Nat → V) (h : EvA a σ H [.int (n : Int)]) (hn : n ≤ 40000) (hw : ∀ x, wipe ((wipe σ vs).set j (some x)) vs = wipe σ vs)
    (he : ∀ (i : Nat) H1, Ex H H1 → i < n → Ev te ((wipe σ vs).set j (some (.int (i : Int)))) H1 (f i)) : EvL (tLc (iRng1 a) (gName j) tYes te vs) σ H ((List.range n).map f) := by
  have k := el_lcR1 (t := tYes) (te := te) (j := j) (vs := vs) (fun _ => true) f h (by omega) hw (fun i H1 e hi => fun H2 _ Q q => q H2 (Ex.refl H2)) (fun i H1 e hi _ => he i H1 e (by omega))
  unfold given at k
  rw [List.filter_eq_self.mpr (fun _ _ => rfl), Int.toNat_natCast] at k
  exact k
theorem et_if {b : Bool} {te1 te2 : TE} (h : EvT t σ H b) (h1 : b = true → Ev te1 σ H v) (h2 : b = false → Ev te2 σ H v) : Ev (tIf t te1 te2) σ H v := ev_if h h1 h2
/-- a call whose argument is a new list -/
theorem ev_callN {sp : Sp} {xs : List V} {E : XK} (h : EvL te σ H xs) (hs : ∀ p H1, H1 p = some (.lst xs) → Ex H H1 → SpV sp [.ref p] H1 z) : Ev (tCall sp [] E (tCons te tNil)) σ H z := fun H1 e Q q =>
  h H1 e _ fun p H2 _ e2 hp => hs p H2 hp (e.trans e2) H2 (Ex.refl H2) Q (fun H3 e3 => q H3 (e2.trans e3)) E
theorem ev_op2 {H0 : Hp} (e : Ex H0 H) (h : Ev te σ H0 v) : Ev te σ H v := h.mono e
end
/-! ### frames where one object may change -/
/-- all that was tracked but at g is as it was -/
def ExB (g : Addr) (H H' : Hp) : Prop := ∀ a o, a ≠ g → H a = some o → H' a = some o
theorem ExB.refl (g : Addr) (H : Hp) : ExB g H H := fun _ _ _ h => h
theorem ExB.trans {g : Addr} {H H1 H2 : Hp} (a : ExB g H H1) (b : ExB g H1 H2) : ExB g H H2 := fun x o n h => b x o n (a x o n h)
theorem ExB.of {g : Addr} {H H1 : Hp} (a : Ex H H1) : ExB g H H1 := fun x o _ h => a x o h
theorem ExB.upd {g : Addr} {H H1 : Hp} {o : HO} (a : ExB g H H1) : ExB g H (upd H1 g o) := fun x u n h => by
  rw [upd_ne n]
  exact a x u n h
theorem exb_new {g : Addr} {H H1 H2 : Hp} (e : Ex H H1) (hg : H g = none) (E : ExB g H1 H2) : Ex H H2 := fun b o h => E b o (ne_of_none h hg) (e b o h)
theorem ExB.back {g : Addr} {H H' : Hp} {o : HO} (e : ExB g H H') (hg : H' g = some o) {p : Addr} (h : H' p = none) : H p = none := by
  cases q : H p with
  | none => rfl
  | some u =>
    by_cases n : p = g
    · rw [n, hg] at h; cases h
    · rw [e p u n q] at h; cases h

/-! ### data: scalars, lists and tuples of them -/
def sD : V → PyData
  | .int i => .int i
  | .bl b => .bool b
  | _ => .none
def isSc : V → Bool
  | .int _ => true
  | .bl _ => true
  | .non => true
  | _ => false
section
variable {K : PySem.W.Frag} {H : Hp}
theorem dp_sc {v : V} (h : isSc v = true) : Dp K H v (sD v) := by
  cases v <;> first | cases h | skip
  · exact .non
  · exact .bl _
  · exact .int _
theorem dpAll_sc : ∀ {vs : List V}, vs.all isSc = true → DpAll K H vs (vs.map sD)
  | [], _ => .nil
  | v :: r, h => by
    rw [List.all_cons, Bool.and_eq_true] at h
    exact .cons (dp_sc h.1) (dpAll_sc h.2)
theorem lay_sc (v : V) : PyData.canLay0 (sD v) = true := by
  cases v <;> rfl
theorem layAll_sc : ∀ vs : List V, PyData.canLayAll0 (vs.map sD) = true
  | [] => rfl
  | v :: r => by
    rw [List.map_cons, PyData.canLayAll0, lay_sc v, layAll_sc r]
    rfl
theorem depth_sc (v : V) : PyData.depth (sD v) = 0 := by
  cases v <;> rfl
theorem depthAll_sc : ∀ vs : List V, PyData.depthAll (vs.map sD) = 0
  | [] => rfl
  | v :: r => by
    rw [List.map_cons, PyData.depthAll, depth_sc v, depthAll_sc r]
    rfl
theorem shaped_tup (vs : List V) : SeqAt.shaped (.tuple (vs.map sD)) = true := by
  unfold SeqAt.shaped
  rw [PyData.canLay0, layAll_sc, PyData.depth, depthAll_sc]
  rfl
theorem shaped_lst (vs : List V) : SeqAt.shaped (.list (vs.map sD)) = true := by
  unfold SeqAt.shaped
  rw [PyData.canLay0, layAll_sc, PyData.depth, depthAll_sc]
  rfl
theorem ints_sc : ∀ ns : List Int, (ns.map V.int).all isSc = true
  | [] => rfl
  | _ :: r => by rw [List.map_cons, List.all_cons, ints_sc r]; rfl
theorem ints_sD (ns : List Int) : (ns.map V.int).map sD = ns.map PyData.int := by rw [List.map_map]; rfl
/-- two tuples with the same scalars -/
theorem rv_neT {a b : Addr} {xs : List V} (ha : H a = some (.tup xs)) (hb : H b = some (.tup xs)) (h : xs.all isSc = true) : RV (rNeD K) (.ref a) (.ref b) H (.bl false) := fun H1 e Q q =>
  ⟨.tuple (xs.map sD), .tuple (xs.map sD), .tup (st_of (e _ _ ha)) (dpAll_sc h), .tup (st_of (e _ _ hb)) (dpAll_sc h), shaped_tup xs, shaped_tup xs, by
    rw [SeqAt.eqv_refl _ (SeqAt.canLay_of_shaped (shaped_tup xs))]
    exact q H1 (Ex.refl H1)⟩
theorem rv_eqT {a b : Addr} {xs : List V} (ha : H a = some (.tup xs)) (hb : H b = some (.tup xs)) (h : xs.all isSc = true) : RV (rEqD K) (.ref a) (.ref b) H (.bl true) := fun H1 e Q q =>
  ⟨.tuple (xs.map sD), .tuple (xs.map sD), .tup (st_of (e _ _ ha)) (dpAll_sc h), .tup (st_of (e _ _ hb)) (dpAll_sc h), shaped_tup xs, shaped_tup xs, by
    rw [SeqAt.eqv_refl _ (SeqAt.canLay_of_shaped (shaped_tup xs))]
    exact q H1 (Ex.refl H1)⟩
/-- two lists of ints -/
theorem rv_eqI {a b : Addr} {ns ms : List Int} (ha : SqL K H a (ns.map V.int)) (hb : SqL K H b (ms.map V.int)) : RV (rEqD K) (.ref a) (.ref b) H (.bl (decide (ns = ms))) := fun H1 e Q q =>
  ⟨.list ((ns.map V.int).map sD), .list ((ms.map V.int).map sD), .lst (ex_l e ha) (dpAll_sc (ints_sc ns)), .lst (ex_l e hb) (dpAll_sc (ints_sc ms)), shaped_lst _, shaped_lst _, by
    rw [ints_sD, ints_sD, PyData.eqv, PySem.W.ked_eqvAll]
    exact q H1 (Ex.refl H1)⟩
theorem rv_neI {a b : Addr} {ns ms : List Int} (ha : SqL K H a (ns.map V.int)) (hb : SqL K H b (ms.map V.int)) : RV (rNeD K) (.ref a) (.ref b) H (.bl (!decide (ns = ms))) := fun H1 e Q q =>
  ⟨.list ((ns.map V.int).map sD), .list ((ms.map V.int).map sD), .lst (ex_l e ha) (dpAll_sc (ints_sc ns)), .lst (ex_l e hb) (dpAll_sc (ints_sc ms)), shaped_lst _, shaped_lst _, by
    rw [ints_sD, ints_sD, PyData.eqv, PySem.W.ked_eqvAll]
    exact q H1 (Ex.refl H1)⟩
end
/-- a new tuple is handed back -/
def RetU (xs : List V) (H : Hp) (Q : VK) : Prop := ∀ p H2, H p = none → Ex H H2 → H2 p = some (.tup xs) → Q (.ref p) H2
theorem RetU.go {xs : List V} {H H' : Hp} {Q : VK} (k : RetU xs H Q) (e : Ex H H') {p : Addr} {H2 : Hp} (hp : H' p = none) (e2 : Ex H' H2) (h : H2 p = some (.tup xs)) : Q (.ref p) H2 := k p H2 (fresh_back e hp) (e.trans e2) h
theorem RetU.ex {xs : List V} {H H' : Hp} {Q : VK} (k : RetU xs H Q) (e : Ex H H') : RetU xs H' Q := fun p H2 hp e2 h => k p H2 (fresh_back e hp) (e.trans e2) h
theorem eu_if {σ : L2.St} {H : Hp} {t : TT} {ta tb : TE} {xs : List V} {b : Bool} (h : EvT t σ H b) (h1 : b = true → EvU ta σ H xs) (h2 : b = false → EvU tb σ H xs) : EvU (tIf t ta tb) σ H xs := fun H1 e Q q => h H1 e _ fun H2 e2 => by
  cases b with
  | true =>
    show ta σ H2 Q
    exact h1 rfl H2 (e.trans e2) Q fun p H3 hp e3 h3 => q p H3 (fresh_back e2 hp) (e2.trans e3) h3
  | false =>
    show tb σ H2 Q
    exact h2 rfl H2 (e.trans e2) Q fun p H3 hp e3 h3 => q p H3 (fresh_back e2 hp) (e2.trans e3) h3
section
variable {K : PySem.W.Frag} {σ : L2.St} {H H' : Hp} {ta tb te tx tl : TE} {tr : TA} {t u : TT} {x y z v : V} {r : R2} {D : Ends} {tu tw tz : TS}
/-- the first operand a new tuple -/
theorem ev_opU1 {xs : List V} (ha : EvU ta σ H xs) (hb : ∀ H1, Ex H H1 → Ev tb σ H1 y) (hr : ∀ p H1, H1 p = some (.tup xs) → Ex H H1 → RV r (.ref p) y H1 z) : Ev (tOp r ta tb) σ H z := fun H1 e Q q =>
  ha H1 e _ fun p H2 _ e2 hp => hb H2 (e.trans e2) H2 (Ex.refl H2) _ fun H3 e3 => hr p H3 (e3 p _ hp) ((e.trans e2).trans e3) H3 (Ex.refl H3) Q fun H4 e4 => q H4 ((e2.trans e3).trans e4)
theorem el_cat {a b : Addr} {xs zs : List V} (ha : Ev ta σ H (.ref a)) (hb : Ev tb σ H (.ref b)) (h1 : H a = some (.lst xs)) (h2 : H b = some (.lst zs)) (hz : xs.length + zs.length ≤ 100000) : EvL (tOp rCat ta tb) σ H (xs ++ zs) := fun H1 e Q q =>
  ha H1 e _ fun H2 e2 => hb H2 (e.trans e2) _ fun H3 e3 => ⟨a, b, xs, zs, rfl, rfl, e3 _ _ (e2 _ _ (e _ _ h1)), e3 _ _ (e2 _ _ (e _ _ h2)), sz_of hz, fun p hp => q p _ (fresh_back (e2.trans e3) hp) ((e2.trans e3).trans (Ex.new hp)) upd_same⟩
/-- the second one a new list -/
theorem el_catN {a : Addr} {xs zs : List V} (ha : Ev ta σ H (.ref a)) (hb : EvL tb σ H zs) (h1 : H a = some (.lst xs)) (hz : xs.length + zs.length ≤ 100000) : EvL (tOp rCat ta tb) σ H (xs ++ zs) := fun H1 e Q q =>
  ha H1 e _ fun H2 e2 => hb H2 (e.trans e2) _ fun b H3 _ e3 h3 => ⟨a, b, xs, zs, rfl, rfl, e3 _ _ (e2 _ _ (e _ _ h1)), h3, sz_of hz, fun p hp => q p _ (fresh_back (e2.trans e3) hp) ((e2.trans e3).trans (Ex.new hp)) upd_same⟩
/-- a slice of a new list -/
theorem el_slN {tl th : TO} {xs : List V} {lo hi : Option Int} (h : EvL te σ H xs) (h1 : ∀ H1, Ex H H1 → EvO tl σ H1 lo) (h2 : ∀ H1, Ex H H1 → EvO th σ H1 hi) : EvL (tSl (rSlL K) te tl th) σ H (cutV xs lo hi) := fun H1 e _ q =>
  h H1 e _ fun a H2 _ e2 ha => h1 H2 (e.trans e2) H2 (Ex.refl H2) _ fun H3 e3 => h2 H3 ((e.trans e2).trans e3) H3 (Ex.refl H3) _ fun H4 e4 =>
    ⟨a, xs, rfl, sq_of (e4 _ _ (e3 _ _ ha)), fun p hp => q p _ (fresh_back ((e2.trans e3).trans e4) hp) (((e2.trans e3).trans e4).trans (Ex.new hp)) upd_same⟩
theorem el_rev {a : Addr} {xs : List V} (h : Ev te σ H (.ref a)) (hx : SqL K H a xs) : EvL (tRevL K te) σ H xs.reverse := fun H1 e _ q =>
  h H1 e _ fun H2 e2 => ⟨a, xs, rfl, ex_l (e.trans e2) hx, fun p hp => q p _ (fresh_back e2 hp) (e2.trans (Ex.new hp)) upd_same⟩
theorem rv_isN {x : V} : RV (fun x y H Q => y = .non ∧ Q (.bl (decide (x = .non))) H) x .non H (.bl (decide (x = .non))) := fun H1 _ _ q => ⟨rfl, q H1 (Ex.refl H1)⟩
theorem q_par {i j : Nat} {tr : TA} (k : tr σ H fun vs H1 => ∃ v w, vs = [v, w] ∧ tz D ((σ.set i (some v)).set j (some w)) H1) : tSeq (tPar i j tr) tz D σ H := k
theorem s_par {i j : Nat} {tr : TA} (k : tr σ H fun vs H1 => ∃ v w, vs = [v, w] ∧ D.nx ((σ.set i (some v)).set j (some w)) H1) : tPar i j tr D σ H := k
theorem q_parV {i j : Nat} {tr : TA} {v w : V} (h : EvA tr σ H [v, w]) (k : ∀ H1, Ex H H1 → tz D ((σ.set i (some v)).set j (some w)) H1) : tSeq (tPar i j tr) tz D σ H := h H (Ex.refl H) _ fun H1 e => ⟨v, w, rfl, k H1 e⟩
/-! steps of a reading at a heap -/
theorem ta_consU {Q : List V → Hp → Prop} {xs : List V} (h : EvU te σ H xs) (k : ∀ p H1, H p = none → Ex H H1 → H1 p = some (.tup xs) → tr σ H1 fun vs H2 => Q (.ref p :: vs) H2) : tCons te tr σ H Q := h H (Ex.refl H) _ fun p H1 hp e h1 => k p H1 hp e h1
theorem ta_consL {Q : List V → Hp → Prop} {xs : List V} (h : EvL te σ H xs) (k : ∀ p H1, H p = none → Ex H H1 → H1 p = some (.lst xs) → tr σ H1 fun vs H2 => Q (.ref p :: vs) H2) : tCons te tr σ H Q := h H (Ex.refl H) _ fun p H1 hp e h1 => k p H1 hp e h1
theorem ta_consV {Q : List V → Hp → Prop} (h : Ev te σ H v) (k : ∀ H1, Ex H H1 → tr σ H1 fun vs H2 => Q (v :: vs) H2) : tCons te tr σ H Q := h H (Ex.refl H) _ fun H1 e => k H1 e
theorem el_use {Q : VK} {xs : List V} (h : EvL te σ H xs) (k : ∀ p H1, H p = none → Ex H H1 → H1 p = some (.lst xs) → Q (.ref p) H1) : te σ H Q := h H (Ex.refl H) _ fun p H1 hp e h1 => k p H1 hp e h1
theorem eu_use {Q : VK} {xs : List V} (h : EvU te σ H xs) (k : ∀ p H1, H p = none → Ex H H1 → H1 p = some (.tup xs) → Q (.ref p) H1) : te σ H Q := h H (Ex.refl H) _ fun p H1 hp e h1 => k p H1 hp e h1
theorem ev_use {Q : VK} (h : Ev te σ H v) (k : ∀ H1, Ex H H1 → Q v H1) : te σ H Q := h H (Ex.refl H) _ fun H1 e => k H1 e
theorem top_in {Q : VK} (k : ta σ H fun x H1 => tb σ H1 fun y H2 => r x y H2 Q) : tOp r ta tb σ H Q := k
theorem q_in {te : TE} {i : Nat} (k : te σ H fun x H1 => tz D (σ.set i (some x)) H1) : tSeq (tAsg te (gName i)) tz D σ H := k
theorem r_in {te : TE} (k : te σ H D.rt) : tRet te D σ H := k
theorem ta_in {Q : List V → Hp → Prop} {te : TE} (k : te σ H fun x H1 => tr σ H1 fun vs H2 => Q (x :: vs) H2) : tCons te tr σ H Q := k
theorem tup_in {Q : VK} (k : tr σ H fun vs H1 => vs.length ≤ sizeLine ∧ ∀ p, H1 p = none → Q (.ref p) (upd H1 p (.tup vs))) : tTup tr σ H Q := k
theorem et_use {Q : Bool → Hp → Prop} {b : Bool} (h : EvT t σ H b) (k : ∀ H1, Ex H H1 → Q b H1) : t σ H Q := h H (Ex.refl H) _ fun H1 e => k H1 e
theorem tif_in {Q : VK} (k : t σ H fun c H1 => if c = true then ta σ H1 Q else tb σ H1 Q) : tIf t ta tb σ H Q := k
theorem tcall_in {sp : Sp} {dvs : List V} {E : XK} {Q : VK} (k : tr σ H fun vs H1 => sp (vs ++ dvs) H1 Q E) : tCall sp dvs E tr σ H Q := k
theorem tb_in {te : TE} {Q : Bool → Hp → Prop} (k : te σ H fun x H1 => ∃ c, x = .bl c ∧ Q c H1) : tB te σ H Q := k
theorem ta_nil {Q : List V → Hp → Prop} (k : Q [] H) : tNil σ H Q := k
theorem tl_lst {Q : VK} (k : tr σ H fun vs H1 => vs.length ≤ sizeLine ∧ ∀ p, H1 p = none → Q (.ref p) (upd H1 p (.lst vs))) : tLst tr σ H Q := k
end
section
variable {K : PySem.W.Frag} {σ : L2.St} {H H' : Hp} {ta tb te tx tl : TE} {tr : TA} {t u : TT} {x y z v : V} {r : R2} {D : Ends} {tu tw tz : TS} {g : TG}
/-- for i, x in enumerate(xs) -/
theorem s_forEnum {a : Addr} {xs : List V} (h : EvA tr σ H [.ref a]) (hx : SqL K H a xs) (Pv : Nat → L2.St → Hp → Prop) (h0 : ∀ H1, Ex H H1 → Pv 0 σ H1) (hl : ∀ i σ' H', i ≤ xs.length → Pv i σ' H' → SqL K H' a xs)
    (hs : ∀ i x σ' H', xs[i]? = some x → Pv i σ' H' → ∀ T, H' T = none → g (.ref T) σ' (upd H' T (.tup [.int (i : Nat), x])) fun σ2 H2 => tu { D with nx := Pv (i + 1), ct := Pv (i + 1), bk := D.nx } σ2 H2) (hd : ∀ σ' H', Pv xs.length σ' H' → D.nx σ' H') : tFor (iEnum K tr) g tu D σ H :=
  h H (Ex.refl H) _ fun H1 e => ⟨a, xs, rfl, ex_l e hx, fun i m σ H => m = xs.length - i ∧ i ≤ xs.length ∧ Pv i σ H, ⟨xs.length, by simp, Nat.zero_le _, h0 H1 e⟩, fun i m σ' H' hw => by
    obtain ⟨rfl, hi, p⟩ := hw
    have q := hl i σ' H' hi p
    by_cases hlt : i < xs.length
    · refine .inr ⟨⟨xs, xs[i], q, by simp [hlt]⟩, Pv (i + 1), fun σ2 H2 p' => ⟨xs.length - (i + 1), by omega, rfl, hlt, p'⟩, fun v H2 y => ?_⟩
      obtain ⟨T, x, rfl, hT, rfl, hy⟩ := y
      exact hs i x σ' H' (hy xs q) p T hT
    · have e : i = xs.length := by omega
      subst e
      exact .inl ⟨⟨xs, q, Nat.le_refl _⟩, hd σ' H' p⟩⟩
/-- o.f, o.m(), C's -/
theorem ev_fld {C a dx : Addr} {fs : List (Str × V)} {f : Str} (h : Ev te σ H (.ref a)) (ho : H a = some (.ins C dx fs)) (c : Cls K C) (n : NoAttr K C f) (l : fs.lookup f = some v) : Ev (tFld K te f) σ H v := fun H1 e Q q =>
  h H1 e _ fun H2 e2 => ⟨a, C, dx, fs, v, rfl, e2 _ _ (e _ _ ho), c, n, l, q H2 e2⟩
theorem ev_meth0 {C a dx : Addr} {fs : List (Str × V)} {m : Str} {sp : Sp} {E : XK} (h : Ev te σ H (.ref a)) (ho : H a = some (.ins C dx fs)) (l : fs.lookup m = none) (hs : SpV sp [.ref a] H v) : Ev (tMeth C m sp [] E te tNil) σ H v := fun H1 e Q q =>
  h H1 e _ fun H2 e2 => ⟨a, dx, fs, rfl, e2 _ _ (e _ _ ho), l, hs H2 (e.trans e2) Q (fun H3 e3 => q H3 (e2.trans e3)) E⟩
theorem el_meth0 {C a dx : Addr} {fs : List (Str × V)} {m : Str} {sp : Sp} {E : XK} {xs : List V} (h : Ev te σ H (.ref a)) (ho : H a = some (.ins C dx fs)) (l : fs.lookup m = none) (hs : ∀ H1, Ex H H1 → ∀ Q : VK, RetL xs H1 Q → ∀ E : XK, sp [.ref a] H1 Q E) : EvL (tMeth C m sp [] E te tNil) σ H xs := fun H1 e Q q =>
  h H1 e _ fun H2 e2 => ⟨a, dx, fs, rfl, e2 _ _ (e _ _ ho), l, hs H2 (e.trans e2) Q (fun p H3 hp e3 h3 => q p H3 (fresh_back e2 hp) (e2.trans e3) h3) E⟩
theorem el_callR {sp : Sp} {dvs vs xs : List V} {E : XK} {ta : TA} (h : EvA ta σ H vs) (hs : ∀ H1, Ex H H1 → ∀ Q : VK, RetL xs H1 Q → ∀ E : XK, sp (vs ++ dvs) H1 Q E) : EvL (tCall sp dvs E ta) σ H xs := el_call h fun H1 e Q q E => hs H1 e Q q E
/-- isinstance of an own class -/
theorem ev_isiC {C a dx : Addr} {fs : List (Str × V)} (h : Ev te σ H (.ref a)) (ho : H a = some (.ins C dx fs)) (c : Cls K C)
    (i : PySem.W.findIn K (.ref C) "__class__" = some (some (.builtin "object.__class__")) ∧ PySem.W.specialIn K (.builtin "object.__class__") "__get__" = some (some (.builtin "getset_descriptor.__get__")) ∧ PySem.W.takesIn K (.builtin "object.__class__") = some true ∧ PySem.W.mroIn K C (.type "object") = some true) :
    Ev (tCB (rIsi K) (tCons te (tCons (tC (.ref C)) tNil))) σ H (.bl true) := fun H1 e Q q =>
  h H1 e _ fun H2 e2 => ⟨.ref a, .ref C, .ref C, .ref C, true, rfl, ClsV.own C, TyX.base (TyOf.ins (e2 _ _ (e _ _ ho)) c i.1 i.2.1 i.2.2.1 i.2.2.2), by
    unfold PySem.W.kitOne
    rw [if_pos (beq_self_eq_true _)], q H2 e2⟩
/-- max of a new list -/
theorem ev_maxN {ns : List Int} {m : Int} (h : EvL te σ H (ns.map V.int)) (hm : m ∈ ns) (hle : ∀ y ∈ ns, y ≤ m) : Ev (tCB (rMax K) (tCons te tNil)) σ H (.int m) := fun H1 e Q q =>
  h H1 e _ fun p H2 _ e2 h2 => ⟨p, ns, rfl, sq_of h2, by cases ns with | nil => cases hm | cons a r => simp, fun k hk hkl => by
    have : k = m := Int.le_antisymm (hle k hk) (hkl m hm)
    rw [this]
    exact q H2 e2⟩
end
theorem ev_min2 {σ : L2.St} {H : Hp} {ta tb : TE} {i j : Int} (ha : Ev ta σ H (.int i)) (hb : Ev tb σ H (.int j)) : Ev (tCB (fun xs H Q => ∃ i j, xs = [.int i, .int j] ∧ Q (.int (if j < i then j else i)) H) (tCons ta (tCons tb tNil))) σ H (.int (if j < i then j else i)) := fun H1 e Q q =>
  ha H1 e _ fun H2 e2 => hb H2 (e.trans e2) _ fun H3 e3 => ⟨i, j, rfl, q H3 (e2.trans e3)⟩
theorem spv {sp : Sp} {vs : List V} {H : Hp} {z : V} (h : ∀ H1, Ex H H1 → ∀ Q : VK, RetV z H1 Q → ∀ E : XK, sp vs H1 Q E) : SpV sp vs H z := fun H1 e Q q E => h H1 e Q q E
/-- a call that hands back a new tuple -/
theorem eu_call {σ : L2.St} {H : Hp} {sp : Sp} {dvs vs xs : List V} {E : XK} {ta : TA} (h : EvA ta σ H vs) (hs : ∀ H1, Ex H H1 → ∀ Q : VK, RetU xs H1 Q → ∀ E : XK, sp (vs ++ dvs) H1 Q E) : EvU (tCall sp dvs E ta) σ H xs := fun H1 e Q q =>
  h H1 e _ fun H2 e2 => hs H2 (e.trans e2) Q (fun p H3 hp e3 h3 => q p H3 (fresh_back e2 hp) (e2.trans e3) h3) E
/-- a call of which an argument is a new list, that hands back a new tuple -/
theorem eu_callN {σ : L2.St} {H : Hp} {sp : Sp} {xs ys : List V} {E : XK} {te : TE} (h : EvL te σ H xs) (hs : ∀ p H1, H1 p = some (.lst xs) → Ex H H1 → ∀ Q : VK, RetU ys H1 Q → ∀ E : XK, sp [.ref p] H1 Q E) : EvU (tCall sp [] E (tCons te tNil)) σ H ys := fun H1 e Q q =>
  h H1 e _ fun p H2 hp e2 h2 => hs p H2 h2 (e.trans e2) Q (fun u H3 hu e3 h3 => q u H3 (fresh_back e2 hu) (e2.trans e3) h3) E
end WS

set_option Elab.async false
set_option linter.all false
set_option maxRecDepth 100000
set_option maxHeartbeats 2000000
/-! rules of my own: comb; max of ints with a default; max of alike data -/
namespace WS
open PySem PySem.Spec PyProof.Rows L2 Evl
theorem un65 {k : Nat} {A : Around} (r : Room k A) : A.units + 65 < cLine := by have := r.un; omega
section
variable {X : Cx}
/-- math.comb of two counts -/
def rComb : List V → Hp → VK → Prop := fun xs H Q => ∃ a b : Int, xs = [.int a, .int b] ∧ 0 ≤ a ∧ 0 ≤ b ∧ a < 2 ^ 64 ∧ (b ≤ 9000 ∨ a ≤ 18000) ∧ Q (.int (PySem.W.mcComb a b)) H
theorem cr_comb : CallR X (.builtin "math.comb") rComb := by
  intro pins s σ H xs us Q I r h
  obtain ⟨a, b, rfl, h0, h1, h2, h3, q⟩ := h
  obtain ⟨t, u, rfl⟩ := Vals.int2 r
  exact PySem.W.mc_comb h0 h1 h2 h3 fun _ => ⟨.int _, H, I.tok _, ⟨_, rfl⟩, q⟩
/-- max(xs, default=d) of ints -/
def rMaxDef (K : PySem.W.Frag) : List V → List V → Hp → VK → Prop := fun xs zs H Q => ∃ (a : Addr) (ns : List Int) (d : Int), xs = [.ref a] ∧ zs = [.int d] ∧ SqL K H a (ns.map V.int) ∧ (ns = [] → Q (.int d) H) ∧ ∀ m, m ∈ ns → (∀ y ∈ ns, y ≤ m) → Q (.int m) H
theorem cr_maxDef (hc : X.calm = true) (hu : X.A.units + 64 < cLine) : CallRK X (.builtin "max") [Str.ofString "default"] (rMaxDef X.K) := by
  intro pins s σ H xs zs us ws Q I r rz h
  obtain ⟨a, ns, d, rfl, rfl, hs, q0, q⟩ := h
  obtain ⟨its, rv, hl, _⟩ := I.list hs
  rw [Vals.ref1 r]
  obtain ⟨w1, rfl, e1⟩ := vals1 rz
  obtain ⟨td, rfl⟩ := (show ∃ t, w1 = Value.int d t from e1)
  have dp : DpAll X.K H (ns.map V.int) (ns.map PyData.int) := by
    rw [← ints_sD]
    exact dpAll_sc (ints_sc ns)
  obtain ⟨as, ra⟩ := Dp.readsAll I _ _ _ dp rv
  have dep : PyData.depthAll (ns.map PyData.int) = 0 := by
    rw [← ints_sD]
    exact depthAll_sc _
  show wpAny _ _ (call (.builtin "max") [.ref a] [(Str.ofString "default", .int d td)]) _ _ _
  refine PySem.W.max_list_default (xs := ns.map PyData.int) (I.ok.hd hc) hl.isList (by simpa using ra) (PySem.W.alikeAll_datum (α := Int) ns) (by rw [dep]; omega) (fun e h' tk hk => ?_) fun y ys i v h' tk bs e hi r' hk => ?_
  · exact ⟨.int d, H, I.kept hk, ⟨td, rfl⟩, q0 (List.map_eq_nil_iff.mp e)⟩
  · cases ns with
    | nil => cases e
    | cons n r2 =>
      rw [List.map_cons] at e
      injection e with ea eb
      subst ea
      subst eb
      rw [PySem.W.maxD_ints] at r'
      cases r'
      have mem : ∀ (l : List Int) (k : Int), l.foldl max k = k ∨ l.foldl max k ∈ l := fun l => by
        induction l with
        | nil => intro k; exact .inl rfl
        | cons b l ih =>
          intro k
          rw [List.foldl_cons]
          rcases ih (max k b) with z | z
          · rw [z]
            by_cases hkb : k ≤ b
            · rw [Int.max_eq_right hkb]; exact .inr List.mem_cons_self
            · rw [Int.max_eq_left (by omega)]; exact .inl rfl
          · exact .inr (List.mem_cons_of_mem _ z)
      have ge : ∀ (l : List Int) (k : Int), k ≤ l.foldl max k ∧ ∀ y ∈ l, y ≤ l.foldl max k := fun l => by
        induction l with
        | nil => intro k; exact ⟨Int.le_refl _, fun y hy => absurd hy List.not_mem_nil⟩
        | cons b l ih =>
          intro k
          rw [List.foldl_cons]
          obtain ⟨z1, z2⟩ := ih (max k b)
          refine ⟨by omega, fun y hy => ?_⟩
          rcases List.mem_cons.mp hy with h | h
          · omega
          · exact z2 y h
      refine ⟨.int _, H, I.kept hk, ⟨_, rfl⟩, q _ ?_ fun y hy => ?_⟩
      · rcases mem r2 n with z | z
        · rw [z]; exact List.mem_cons_self
        · exact List.mem_cons_of_mem _ z
      · rcases List.mem_cons.mp hy with h | h
        · rw [h]; exact (ge r2 n).1
        · exact (ge r2 n).2 y h
/-- max(xs) of alike data: one of the items, whose datum is the greatest -/
def rMaxData (K : PySem.W.Frag) : List V → Hp → VK → Prop := fun xs H Q => ∃ (a : Addr) (vs : List V) (d : PyData) (ds : List PyData), xs = [.ref a] ∧ SqL K H a vs ∧ DpAll K H vs (d :: ds) ∧ PySem.W.AlikeAll (d :: ds) ∧ PyData.canLayAll0 (d :: ds) = true ∧ PyData.depthAll (d :: ds) ≤ 32 ∧
  ∀ (i : Nat) y e, vs[i]? = some y → (d :: ds)[i]? = some e → e = PySem.W.maxD d ds → Q y H
theorem cr_maxData (hc : X.calm = true) (hu : X.A.units + 64 < cLine) : CallR X (.builtin "max") (rMaxData X.K) := by
  intro pins s σ H xs us Q I r h
  obtain ⟨a, vs, d, ds, rfl, hs, hd, hal, hcl, hde, q⟩ := h
  obtain ⟨its, rv, hl, _⟩ := I.list hs
  rw [Vals.ref1 r]
  obtain ⟨as, ra⟩ := Dp.readsAll I _ _ _ hd rv
  refine PySem.W.max_list_data (I.ok.hd hc) hl.isList (by simpa using ra) hal (by omega) fun i v h' tk bs hi r' hk => ?_
  rw [List.getElem?_toArray] at hi
  have hlt : i < vs.length := by rw [rv.length]; exact (List.getElem?_eq_some_iff.mp hi).1
  obtain ⟨u, hu', ru⟩ := rv.get (List.getElem?_eq_getElem hlt)
  rw [hi] at hu'
  cases hu'
  obtain ⟨bs2, r2, h2, h3, h4⟩ := PySem.W.readsAll_at ra i v hi
  have ge : (d :: ds)[i]? = some ((d :: ds).getD i .none) := by rw [List.getD_eq_getElem?_getD, List.getElem?_eq_getElem h2] <;> rfl
  exact ⟨_, H, I.kept hk, ru, q i _ _ (List.getElem?_eq_getElem hlt) ge ((PySem.Reads.unique (PySem.W.reads_keeps hk r2) _ _ r').1)⟩
end
end WS

set_option Elab.async false
set_option linter.all false
set_option maxRecDepth 100000
set_option maxHeartbeats 4000000
namespace M44
open PySem PySem.Spec PyProof.Rows L2
open PySem.W (mcComb)
/-! ### tables of ints -/
abbrev Tab := List (Int × Int)
def put (d : Tab) (k v : Int) : Tab := if (d.any fun p => decide (p.1 = k)) = true then d.map (fun p => if p.1 = k then (p.1, v) else p) else d ++ [(k, v)]
def get (d : Tab) (k : Int) : Option Int := (d.find? fun p => decide (p.1 = k)).map (·.2)
def got (d : Tab) (k : Int) : Int := (get d k).getD 0
def add (d : Tab) (k v : Int) : Tab := put d k (got d k + v)
def kv (d : Tab) : List (Key × V) := d.map fun p => (Sum.inl p.1, V.int p.2)
theorem kv_any (k : Int) : ∀ d : Tab, ((kv d).any fun p => decide (p.1 = Sum.inl k)) = d.any fun p => decide (p.1 = k)
  | [] => rfl
  | p :: r => by
    have e : decide ((Sum.inl p.1 : Key) = Sum.inl k) = decide (p.1 = k) := decide_eq_decide.mpr ⟨fun h => Sum.inl.inj h, fun h => by rw [h]⟩
    have ih := kv_any k r
    unfold kv at ih ⊢
    rw [List.map_cons, List.any_cons, List.any_cons, ih, e]
theorem kv_put (d : Tab) (k v : Int) : putK (kv d) (Sum.inl k) (V.int v) = kv (put d k v) := by
  unfold putK put
  rw [kv_any]
  split
  · unfold kv
    rw [List.map_map, List.map_map]
    refine List.map_congr_left fun p _ => ?_
    show (if (Sum.inl p.1 : Key) = Sum.inl k then _ else _) = _
    by_cases h : p.1 = k
    · rw [if_pos (by rw [h])]
      show _ = (Sum.inl (if p.1 = k then (p.1, v) else p).1, V.int (if p.1 = k then (p.1, v) else p).2)
      rw [if_pos h]
    · rw [if_neg (fun z => h (Sum.inl.inj z))]
      show _ = (Sum.inl (if p.1 = k then (p.1, v) else p).1, V.int (if p.1 = k then (p.1, v) else p).2)
      rw [if_neg h]
  · unfold kv
    rw [List.map_append]
    rfl
theorem kv_get (k : Int) : ∀ d : Tab, valV (kv d) (Sum.inl k) = (get d k).map V.int
  | [] => rfl
  | p :: r => by
    have ih := kv_get k r
    by_cases h : p.1 = k
    · have e : get (p :: r) k = some p.2 := by unfold get; simp [h]
      rw [e]
      exact valV_pos (p := (Sum.inl p.1, V.int p.2)) (by rw [h])
    · have e : get (p :: r) k = get r k := by unfold get; simp [h]
      rw [e, ← ih]
      exact valV_neg (p := (Sum.inl p.1, V.int p.2)) (fun z => h (Sum.inl.inj z))
theorem kv_got (d : Tab) (k : Int) : (valV (kv d) (Sum.inl k)).getD (V.int 0) = V.int (got d k) := by
  rw [kv_get]
  unfold got
  cases get d k <;> rfl
theorem len_kv (d : Tab) : (kv d).length = d.length := List.length_map _
theorem len_put (d : Tab) (k v : Int) : (put d k v).length ≤ d.length + 1 := by
  unfold put
  split
  · rw [List.length_map]; omega
  · rw [List.length_append]; exact Nat.le_refl _
/-- all values are at most so great -/
def Bd (d : Tab) (B : Nat) : Prop := ∀ p ∈ d, p.2.natAbs ≤ B
theorem Bd.mono {d : Tab} {B C : Nat} (h : Bd d B) (e : B ≤ C) : Bd d C := fun p hp => Nat.le_trans (h p hp) e
theorem got_bd {d : Tab} {B : Nat} (h : Bd d B) (k : Int) : (got d k).natAbs ≤ B := by
  unfold got get
  cases e : d.find? fun p => decide (p.1 = k) with
  | none => exact Nat.zero_le _
  | some p => exact h p (List.mem_of_find?_eq_some e)
theorem put_bd {d : Tab} {B : Nat} {k v : Int} (h : Bd d B) (hv : v.natAbs ≤ B) : Bd (put d k v) B := by
  unfold put
  split
  · intro p hp
    obtain ⟨q, hq, rfl⟩ := List.mem_map.mp hp
    split
    · exact hv
    · exact h q hq
  · intro p hp
    rcases List.mem_append.mp hp with z | z
    · exact h p z
    · rw [List.mem_singleton.mp z]; exact hv
theorem add_bd {d : Tab} {B C : Nat} {k v : Int} (h : Bd d B) (hv : v.natAbs ≤ C) : Bd (add d k v) (B + C) := by
  refine put_bd (h.mono (Nat.le_add_right _ _)) ?_
  have := got_bd h k
  omega
/-! ### the same in one go, for tables without a key twice -/
def addT : Tab → Int → Int → Tab
  | [], k, v => [(k, v)]
  | (a, x) :: r, k, v => if a = k then (a, x + v) :: r else (a, x) :: addT r k v
def Dn (d : Tab) : Prop := (d.map (·.1)).Nodup
theorem addT_keys (k v : Int) : ∀ (d : Tab) (a : Int), a ∈ (addT d k v).map (·.1) → a = k ∨ a ∈ d.map (·.1)
  | [], a, h => by
    left
    simpa [addT] using h
  | (b, x) :: r, a, h => by
    unfold addT at h
    split at h
    · right
      simpa using h
    · rw [List.map_cons] at h
      rcases List.mem_cons.mp h with z | z
      · right; rw [z]; exact List.mem_cons_self
      · rcases addT_keys k v r a z with y | y
        · exact .inl y
        · exact .inr (List.mem_cons_of_mem _ y)
theorem addT_dn (k v : Int) : ∀ d : Tab, Dn d → Dn (addT d k v)
  | [], _ => by simp [addT, Dn]
  | (b, x) :: r, h => by
    unfold Dn at h ⊢
    rw [List.map_cons, List.nodup_cons] at h
    unfold addT
    split
    · rw [List.map_cons, List.nodup_cons]; exact h
    · rename_i c
      rw [List.map_cons, List.nodup_cons]
      refine ⟨fun z => ?_, addT_dn k v r h.2⟩
      rcases addT_keys k v r _ z with y | y
      · exact c y
      · exact h.1 y
theorem map_same (k w : Int) : ∀ r : Tab, k ∉ r.map (·.1) → r.map (fun p => if p.1 = k then (p.1, w) else p) = r
  | [], _ => rfl
  | p :: r, h => by
    rw [List.map_cons, List.mem_cons, not_or] at h
    rw [List.map_cons, if_neg (fun z => h.1 z.symm), map_same k w r h.2]
theorem got_out (k : Int) : ∀ r : Tab, (r.any fun p => decide (p.1 = k)) = false → got r k = 0
  | [], _ => rfl
  | p :: r, h => by
    rw [List.any_cons, Bool.or_eq_false_iff] at h
    have := got_out k r h.2
    unfold got get at this ⊢
    rw [List.find?_cons, h.1]
    exact this
theorem add_eq (k v : Int) : ∀ d : Tab, Dn d → add d k v = addT d k v
  | [], _ => by
    show put [] k (0 + v) = _
    rw [Int.zero_add]
    rfl
  | (b, x) :: r, h => by
    unfold Dn at h
    rw [List.map_cons, List.nodup_cons] at h
    have ih := add_eq k v r h.2
    unfold addT
    by_cases c : b = k
    · subst c
      rw [if_pos rfl]
      have g : got ((b, x) :: r) b = x := by unfold got get; simp
      unfold add put
      rw [g, List.any_cons, decide_eq_true (show ((b, x) : Int × Int).1 = b from rfl), Bool.true_or, if_pos rfl, List.map_cons, if_pos rfl, map_same _ _ r h.1]
    · rw [if_neg c, ← ih]
      have g : got ((b, x) :: r) k = got r k := by unfold got get; simp [c]
      unfold add put
      rw [g, List.any_cons, decide_eq_false (show ¬ ((b, x) : Int × Int).1 = k from c), Bool.false_or, List.map_cons, if_neg c]
      split <;> rfl
theorem addT_bd {B C : Nat} {k v : Int} (hv : v.natAbs ≤ C) : ∀ {d : Tab}, Bd d B → Bd (addT d k v) (B + C)
  | [], _ => fun p hp => by
    rw [List.mem_singleton.mp hp]
    show v.natAbs ≤ _
    omega
  | (b, x) :: r, h => by
    unfold addT
    have hx : x.natAbs ≤ B := h (b, x) List.mem_cons_self
    have hr : Bd r B := fun p hp => h p (List.mem_cons_of_mem _ hp)
    split
    · intro p hp
      rcases List.mem_cons.mp hp with z | z
      · rw [z]
        show (x + v).natAbs ≤ _
        omega
      · have := hr p z
        omega
    · intro p hp
      rcases List.mem_cons.mp hp with z | z
      · rw [z]
        show x.natAbs ≤ _
        omega
      · exact addT_bd hv hr p z
theorem addT_len (k v : Int) : ∀ d : Tab, (addT d k v).length ≤ d.length + 1
  | [] => Nat.le_refl _
  | (b, x) :: r => by
    unfold addT
    split
    · exact Nat.le_succ _
    · have := addT_len k v r
      rw [List.length_cons, List.length_cons]
      omega
/-! ### how many lists -/
theorem comb_tab : ∀ a, a < 81 → ∀ b, b < 81 → (mcComb (a : Nat) (b : Nat)).natAbs < 2 ^ 80 := by decide +kernel
def term (m b t : Int) (o : Nat) : Int := mcComb m o * mcComb (t - o * b + m - 1) (m - 1)
def sumL (m b t : Int) : Nat → Int
  | 0 => 0
  | k + 1 => if k % 2 = 1 then sumL m b t k - term m b t k else sumL m b t k + term m b t k
def lws (m b t : Int) : Int := if t ≤ m * (b - 1) then sumL m b t (min m (t / b) + 1).toNat else 0
def inner (m : Nat) (ls : Int) (h : Nat) (d : Tab) : Nat → Tab
  | 0 => d
  | j + 1 => addT (inner m ls h d j) ((2 * h + j : Nat) : Int) (ls * mcComb m j)
def outer (m b : Nat) : Nat → Tab
  | 0 => []
  | h + 1 => inner m (lws m ((2 ^ (b - 1) : Nat) : Int) h) h (outer m b h) (m - h + 1)
def rbs (m b : Nat) : Tab := if b = 0 then [(0, 1)] else outer m b (m + 1)
def lowO (m : Nat) (s : Int) : Nat := ((m : Int) + 1 - s).toNat
def combs (m : Nat) (s : Int) : List Int := (List.range (m + 1 - lowO m s)).map fun i => mcComb m ((lowO m s + i : Nat) : Int)
def rbl (m : Nat) (s : Int) (w : Nat) : Int := if w = 0 then 1 else (combs m s).sum * 2 ^ (m * (w - 1))
def lpW (m b w : Nat) : List (Int × Int × Int) := (rbs m (b - w)).map fun p => ((w : Int), p.1 + (m : Int) * (1 + (w : Int)), p.2 * rbl m p.1 w)
def lpN (m b : Nat) : Nat → List (Int × Int × Int)
  | 0 => []
  | w + 1 => lpN m b w ++ lpW m b w
def lp (m b : Nat) : List (Int × Int × Int) := lpN m b (b + 1)
def hml (m b : Nat) (s : Int) : Int := (((lp m b).filter fun t => decide (t.2.1 = s)).map fun t => t.2.2).sum
def hmw (m b : Nat) (w : Int) : Int := (((lp m b).filter fun t => decide (t.1 = w)).map fun t => t.2.2).sum
def tot (m b : Nat) : Int := ((lp m b).map fun t => t.2.1 * t.2.2).sum
end M44
namespace M44
open PySem PySem.Spec PyProof.Rows L2
open PySem.W (mcComb)
theorem inner_dn (m : Nat) (ls : Int) (h : Nat) {d : Tab} (hd : Dn d) : ∀ j, Dn (inner m ls h d j)
  | 0 => hd
  | j + 1 => addT_dn _ _ _ (inner_dn m ls h hd j)
theorem inner_len (m : Nat) (ls : Int) (h : Nat) (d : Tab) : ∀ j, (inner m ls h d j).length ≤ d.length + j
  | 0 => Nat.le_refl _
  | j + 1 => by
    have := inner_len m ls h d j
    have := addT_len ((2 * h + j : Nat) : Int) (ls * mcComb m j) (inner m ls h d j)
    unfold inner
    omega
theorem outer_dn (m b : Nat) : ∀ h, Dn (outer m b h)
  | 0 => by simp [outer, Dn]
  | h + 1 => inner_dn _ _ _ (outer_dn m b h) _
theorem outer_len (m b : Nat) (hm : m ≤ 40) : ∀ h, (outer m b h).length ≤ h * 41
  | 0 => Nat.le_refl _
  | h + 1 => by
    have := outer_len m b hm h
    have := inner_len m (lws m ((2 ^ (b - 1) : Nat) : Int) h) h (outer m b h) (m - h + 1)
    unfold outer
    omega
/-- keys from 0 to twice m -/
def Kin (m : Nat) (d : Tab) : Prop := ∀ p ∈ d, 0 ≤ p.1 ∧ p.1 ≤ 2 * (m : Int)
theorem addT_kin {m : Nat} {k v : Int} (hk : 0 ≤ k ∧ k ≤ 2 * (m : Int)) {d : Tab} (h : Kin m d) : Kin m (addT d k v) := fun p hp => by
  rcases addT_keys k v d p.1 (List.mem_map.mpr ⟨p, hp, rfl⟩) with z | z
  · rw [z]; exact hk
  · obtain ⟨q, hq, e⟩ := List.mem_map.mp z
    have e' : q.1 = p.1 := e
    rw [← e']; exact h q hq
theorem inner_kin {m : Nat} (ls : Int) {h : Nat} {d : Tab} (hd : Kin m d) (hh : h ≤ m) : ∀ j, j ≤ m - h + 1 → Kin m (inner m ls h d j)
  | 0, _ => hd
  | j + 1, hj => addT_kin (by omega) (inner_kin ls hd hh j (by omega))
theorem outer_kin (m b : Nat) : ∀ h, h ≤ m + 1 → Kin m (outer m b h)
  | 0, _ => fun p hp => absurd hp List.not_mem_nil
  | h + 1, hh => inner_kin _ (outer_kin m b h (by omega)) (by omega) _ (Nat.le_refl _)
theorem rbs_kin (m b : Nat) : Kin m (rbs m b) := by
  unfold rbs
  split
  · intro p hp
    rw [List.mem_singleton.mp hp]
    exact ⟨Int.le_refl _, show (0 : Int) ≤ 2 * (m : Int) by omega⟩
  · exact outer_kin m b (m + 1) (Nat.le_refl _)
theorem sum_bd {m b t : Nat} (m1 : 1 ≤ m) (m2 : m ≤ 40) (b1 : 1 ≤ b) (t2 : t ≤ 40) (h : ∀ o : Nat, o ≤ m → o * b ≤ t → (term m b t o).natAbs ≤ 2 ^ 160) : ∀ k : Nat, ((k : Int) ≤ min (m : Int) ((t : Int) / (b : Int)) + 1) → (sumL m b t k).natAbs ≤ k * 2 ^ 160
  | 0, _ => by simp [sumL]
  | k + 1, hk => by
    have ih := sum_bd m1 m2 b1 t2 h k (by omega)
    have hkm : k ≤ m := by omega
    have hkb : k * b ≤ t := by
      have h1 : (k : Int) ≤ (t : Int) / (b : Int) := by omega
      have h2 := (Int.le_ediv_iff_mul_le (show (0 : Int) < (b : Int) by omega)).mp h1
      rw [← Int.natCast_mul] at h2
      omega
    have ht := h k hkm hkb
    unfold sumL
    split <;> omega
theorem lws_bd {m b t : Nat} (m1 : 1 ≤ m) (m2 : m ≤ 40) (b1 : 1 ≤ b) (t2 : t ≤ 40) (h : ∀ o : Nat, o ≤ m → o * b ≤ t → (term m b t o).natAbs ≤ 2 ^ 160) : (lws m b t).natAbs ≤ 2 ^ 166 := by
  unfold lws
  split
  · have hq : 0 ≤ (t : Int) / (b : Int) := Int.ediv_nonneg (by omega) (by omega)
    have h1 := sum_bd m1 m2 b1 t2 h (min (m : Int) ((t : Int) / (b : Int)) + 1).toNat (by omega)
    have h2 : (min (m : Int) ((t : Int) / (b : Int)) + 1).toNat ≤ 41 := by omega
    have h3 : (min (m : Int) ((t : Int) / (b : Int)) + 1).toNat * 2 ^ 160 ≤ 41 * 2 ^ 160 := Nat.mul_le_mul_right _ h2
    have : (2 : Nat) ^ 166 = 64 * 2 ^ 160 := by decide
    omega
  · simp
theorem inner_bd {m : Nat} {ls : Int} {h : Nat} {d : Tab} {B C : Nat} (hd : Bd d B) (hc : ∀ j, j ≤ m → (ls * mcComb m j).natAbs ≤ C) : ∀ j, j ≤ m + 1 → Bd (inner m ls h d j) (B + j * C)
  | 0, _ => hd.mono (by omega)
  | j + 1, hj => (addT_bd (hc j (by omega)) (inner_bd hd hc j (by omega))).mono (by rw [Nat.succ_mul]; omega)
theorem outer_bd {m b : Nat} {C : Nat} (hc : ∀ h j : Nat, h ≤ m → j ≤ m → (lws m ((2 ^ (b - 1) : Nat) : Int) h * mcComb m j).natAbs ≤ C) : ∀ h, h ≤ m + 1 → Bd (outer m b h) (h * ((m + 1) * C))
  | 0, _ => fun p hp => absurd hp List.not_mem_nil
  | h + 1, hh => (inner_bd (outer_bd hc h (by omega)) (hc h · (by omega)) (m - h + 1) (by omega)).mono (by
      rw [Nat.succ_mul h]
      exact Nat.add_le_add_left (Nat.mul_le_mul_right _ (by omega)) _)
end M44

set_option Elab.async false
set_option linter.all false
set_option maxRecDepth 100000
set_option maxHeartbeats 2000000
/-! != of two tables of ints that hold the same -/
namespace WS
open PySem PySem.Spec PyProof.Rows L2 Evl
open M44 (Tab kv)
def rNeSame : R2 := fun x y H Q => ∃ a b, ∃ t u : Tab, x = .ref a ∧ y = .ref b ∧ H a = some (.dK (kv t)) ∧ H b = some (.dK (kv u)) ∧ t.length = u.length ∧ (∀ p ∈ t, M44.get u p.1 = some p.2) ∧ Q (.bl false) H
theorem hits_same {A : Around} {s : Shared} {u : Tab} {us : List (Key × Value)} (r2 : KV (kv u) us) : ∀ (t : Tab) (vs : List (Key × Value)), KV (kv t) vs → (∀ p ∈ t, M44.get u p.1 = some p.2) → PySem.W.KeqHits A s us vs true
  | [], vs, r, _ => by
    cases r
    exact .nil
  | p :: t, vs, r, h => by
    cases r with
    | @cons _ q _ qs hq ht =>
      obtain ⟨h1, h2⟩ := hq
      obtain ⟨tok, h2⟩ := h2
      obtain ⟨k, v⟩ := q
      cases h1
      cases (show v = Value.int p.2 tok from h2)
      have hv := r2.val (Sum.inl p.1)
      rw [M44.kv_get, h p List.mem_cons_self] at hv
      cases hy : valueAt us (Sum.inl p.1) with
      | none => rw [hy] at hv; exact hv.elim
      | some y =>
        rw [hy] at hv
        obtain ⟨tok', hv⟩ := hv
        cases (show y = Value.int p.2 tok' from hv)
        have := PySem.W.KeqHits.hit hy (SeqAt.EqAt.int_int (A := A) (s := s) p.2 tok p.2 tok') (hits_same r2 t qs ht fun p hp => h p (List.mem_cons_of_mem _ hp))
        rw [beq_self_eq_true, Bool.true_and] at this
        exact this
section
variable {X : Cx}
theorem op_neSame (hu : X.A.units < cLine) : OpR X (compareOp .NotEq) rNeSame := by
  intro pins s σ H x y v w Q I rx ry h
  obtain ⟨a, b, t, u, rfl, rfl, ha, hb, hl, hall, q⟩ := h
  cases (show v = Value.ref a from rx)
  cases (show w = Value.ref b from ry)
  obtain ⟨_, da0, vs, rel, dd⟩ := dk_of I.hok ha
  obtain ⟨_, db0, us, rel2, dd2⟩ := dk_of I.hok hb
  have lv : vs.length = us.length := by rw [← rel.length, ← rel2.length, M44.len_kv, M44.len_kv, hl]
  refine PySem.W.keq_ne (r := true) da0 db0 dd dd2 hu (fun _ => hits_same rel2 t vs rel hall) ?_
  rw [lv, beq_self_eq_true]
  exact ⟨.bl false, H, I, rfl, q⟩
end
section
variable {K : PySem.W.Frag} {σ : L2.St} {H : Hp} {ta tb te : TE}
theorem rv_neSame {a b : Addr} {t u : Tab} (ha : H a = some (.dK (kv t))) (hb : H b = some (.dK (kv u))) (hl : t.length = u.length) (h : ∀ p ∈ t, M44.get u p.1 = some p.2) : RV rNeSame (.ref a) (.ref b) H (.bl false) := fun H1 e Q q => ⟨a, b, t, u, rfl, rfl, e _ _ ha, e _ _ hb, hl, h, q H1 (Ex.refl H1)⟩
end
end WS

set_option Elab.async false
set_option linter.all false
set_option maxRecDepth 100000
set_option maxHeartbeats 4000000
/-! rules of my own: a dict just handed back is gone over; the sum of a dict's values -/
namespace WS
open PySem PySem.Spec PyProof.Rows L2 Evl
section
variable {X : Cx} {o e : Expr} {p pos apos mpos : Pos} {td : TE}
/-- what is told is locked from here on -/
def tFreeze (td : TE) : TE := fun σ H Q => td σ H fun x H1 => ∃ d u, x = V.ref d ∧ H1 d = some u ∧ Mut (some u) ∧ ∀ od, Q x (upd H1 d (.frz od u))
theorem pe_freeze (he : PE X e td) : PE X e (tFreeze td) := by
  refine ⟨fun pins s σ H Q I h => ?_⟩
  refine thn (he.run pins s σ H _ I h) fun v s1 ⟨x, H1, I1, r, d, u, ex, hd, mu, q⟩ => ?_
  obtain ⟨od, I2⟩ := I1.lock hd mu
  exact ⟨x, _, I2, r, q od⟩
theorem presum_getD : ∀ ns : List Int, preSum (fun i => ns.getD i 0) ns.length = ns.sum
  | [] => rfl
  | x :: r => by
    have ih := presum_getD r
    show preSum _ (r.length + 1) = _
    rw [PySem.W.kdu_shift, List.sum_cons]
    exact congrArg (x + ·) ih
theorem at_kv {κ : Type} [DecidableEq κ] {kvs : List (κ × V)} {vs : List (κ × Value)} (rel : KV kvs vs) {i : Nat} {k : κ} {v : Value} (hk : vs[i]? = some (k, v)) : ∃ x, kvs[i]? = some (k, x) ∧ RelV x v := KV.at' rel hk
/-- sum(o.values()), a dict with int values -/
def tSumVals (td : TE) : TE := fun σ H Q => td σ H fun x H1 => ∃ a kvs ns, x = V.ref a ∧ H1 a = some (.dK kvs) ∧ kvs.map (·.2) = ns.map V.int ∧ Q (.int (List.sum ns)) H1
theorem pe_sumVals (quiet : X.calm = true) (own : Gl X "sum") (bare : X.mg "sum" = none) (ho : PE X o td) (base_ : attributeBase o "values" X.env (eval o X.env) = eval o X.env := by rfl) (line_ : (apos.endLine == mpos.line) = true := by rfl)
    (star_ : starEach [Expr.Call (.Attribute o "values" apos) [] [] mpos] X.env = [(false, eval (Expr.Call (.Attribute o "values" apos) [] [] mpos) X.env)] := by rfl) :
    PE X (.Call (.Name "sum" p) [.Call (.Attribute o "values" apos) [] [] mpos] [] pos) (tSumVals td) := by
  refine ⟨fun pins s σ H Q I told => ?_⟩
  refine wpAny_Call_Name_kw (ld_blt I own bare (u := .builtin "sum") (by first | rfl | decide +kernel) ?_ (by first | decide +kernel | decide) (by first | decide +kernel | decide))
  rw [star_]
  refine PySem.callWith_builtin1 (wpAny_Call_method0_late base_ line_ (thn (ho.run pins s σ H _ I told) fun v t ⟨x, G, J, rx, a, kvs, ns, ex, at_, vals_, q⟩ => ?_))
  subst ex
  cases (show v = Value.ref a from rx)
  obtain ⟨_, notSys, vs, rel, dof⟩ := dk_of J.hok at_
  obtain ⟨ep, dat⟩ := dof.dictAt
  have dat0 := dat
  obtain ⟨ob, es, ho_, own_, rest_⟩ := dat0
  refine ⟨"dict", "dict.values", F.plainAttrs_dict, F.slot_dict_values, F.type_dict_values, ⟨ob, ho_, own_.1⟩, fun b e0 => ?_, Calls.callWith_builtin rfl (PySem.evalArgs_none ?_)⟩
  · cases e0; exact ⟨ob, ho_, own_.2.1⟩
  refine call_meetsIn F.slot_dict_values ⟨ob, ho_, own_.1⟩ F.entry_dict_values (F.args_dict_values_1 _) (meets_dict_values (mixKind X.prog X.w) a notSys) ⟨⟨vs, dof⟩, ?_⟩
  obtain ⟨V0, hV0⟩ : ∃ V0 : Obj, V0 = { cls := .type "dict_values", data := .fields #[.ref a] } := ⟨_, rfl⟩
  have keep1 : ∀ b u, t.heap.get? b = some u → (t.heap.push V0).get? b = some u := fun b u e0 => Heap.get?_push_of_some _ e0
  have dat1 : (t.heap.push V0).DictAt (mixKind X.prog X.w) a vs ep := dat.keep keep1
  have lv : vs.length = ns.length := by
    have e1 := congrArg List.length vals_
    rw [List.length_map, List.length_map] at e1
    exact (KV.length rel).symm.trans e1
  have each : ∀ (i : Nat) (v : Value), (∃ k, vs[i]? = some (k, v)) → ∃ tk, v = Value.int (ns.getD i 0) tk := fun i v ⟨k, hk⟩ => by
    obtain ⟨x, h1, h2⟩ := at_kv rel hk
    have e1 : (kvs.map (·.2))[i]? = some x := by rw [List.getElem?_map, h1]; rfl
    rw [vals_, List.getElem?_map] at e1
    obtain ⟨j, hj, e2⟩ := Option.map_eq_some_iff.mp e1
    subst e2
    obtain ⟨tk, e3⟩ := h2
    exact ⟨tk, by rw [e3, List.getD_eq_getElem?_getD, hj]; rfl⟩
  have small : a < t.heap.objs.size := Heap.lt_size ho_
  have size1 : (t.heap.push V0).objs.size = t.heap.objs.size + 1 := Heap.size_push _ _
  rw [← hV0]
  refine call_sum_walkAnyS (wpAny_pyIter_values (v := t.heap.objs.size) (d := a) ⟨_, Heap.get?_push_size _ (by rw [hV0]; rfl), by rw [hV0], by rw [hV0]⟩ dat1 ?_)
  refine ⟨_, _, _, _, _, _, _, fun i => ns.getD i 0, rfl, (Walks.dictValues (knd := mixKind X.prog X.w) (A := X.A.in1) (I.ok.hd quiet) (t.heap.push V0).objs.size a (by rw [size1]; exact Nat.ne_of_lt (Nat.lt_succ_of_lt small)) vs ep).toS,
    ⟨⟨_, Heap.get?_push_size _ rfl, rfl, rfl⟩, dat1.keep fun b u e0 => Heap.get?_push_of_some _ e0⟩, fun b hb => ?_, each, fun s' tk moved => ?_⟩
  · show b < ((t.heap.push V0).push _).objs.size
    rw [Heap.size_push, Heap.size_push]
    rcases List.mem_cons.mp hb with e0 | e0
    · rw [e0, size1]; exact Nat.lt_succ_self _
    · rw [List.mem_singleton.mp e0]; exact Nat.lt_succ_of_lt (Nat.lt_succ_of_lt small)
  · rw [lv, presum_getD]
    rw [Moved.eq_with moved]
    refine ⟨.int _, G, J.kept (t' := s'.toks) fun b u e0 => ?_, ⟨tk, rfl⟩, q⟩
    refine moved.heap b u (fun inI => ?_) (Heap.get?_push_of_some _ (keep1 b u e0))
    have e1 : b = (t.heap.push V0).objs.size := List.mem_singleton.mp inI
    have e2 := Heap.lt_size e0
    rw [e1, size1] at e2
    exact (Nat.not_lt.mpr (Nat.le_succ _) e2).elim
end
end WS

set_option Elab.async false
set_option linter.all false
set_option maxRecDepth 100000
set_option maxHeartbeats 4000000
namespace M50
open M44
def LW (m b : Nat) (t : Int) : Int := if m = 0 then (if t = 0 then 1 else 0) else if t < 0 then 0 else lws m b t
/-- a depth's samples, wrapped numbers, folds -/
def wr (d : Nat) (z : Int) : Int := (z + 2 ^ (d - 1)) % 2 ^ d - 2 ^ (d - 1)
def fold (z : Int) : Int := if z ≥ 0 then 2 * z else -2 * z - 1
def pri (w : Nat) (f : Int) : Int := f / 2 ^ w + 1 + w
def samples (d : Nat) : List Int := (List.range (2 ^ d)).map fun i : Nat => -(2 ^ (d - 1)) + (i : Int)
def allr (d : Nat) : Nat → List (List Int)
  | 0 => [[]]
  | n + 1 => (allr d n).flatMap fun r => (samples d).map fun x => r ++ [x]
def Cn (d w : Nat) : Nat → Int → Nat
  | 0, k => if k = 0 then 1 else 0
  | n + 1, k => ((List.range (2 ^ d)).map fun f : Nat => Cn d w n (k - pri w f)).sum
/-- the guess behind a row, the rests -/
def wsum (row : List Int) (len : Nat) : List Int → Nat → Int
  | [], _ => 0
  | w :: r, j => w * row.getD (len - 1 - j) 0 + wsum row len r (j + 1)
def gs (ws : List Int) (s : Nat) (row : List Int) (i : Nat) : Int := if i < ws.length then 0 else wsum row i ws 0 / 2 ^ s
def rst (ws : List Int) (s d : Nat) (row : List Int) : List Int := (List.range row.length).map fun i => wr d (row.getD i 0 - gs ws s row i)
def size (ws : List Int) (s d w : Nat) (row : List Int) : Int := ((rst ws s d row).map fun z => pri w (fold z)).sum
theorem wsum_snoc (r : List Int) (x : Int) (n : Nat) (hn : n ≤ r.length) : ∀ (ws : List Int) (j : Nat), j + ws.length ≤ n → wsum (r ++ [x]) n ws j = wsum r n ws j
  | [], _, _ => rfl
  | w :: l, j, h => by
    rw [List.length_cons] at h
    unfold wsum
    rw [wsum_snoc r x n hn l (j + 1) (by omega), List.getD_eq_getElem?_getD, List.getD_eq_getElem?_getD, List.getElem?_append_left (by omega)]
theorem gs_snoc (ws : List Int) (s : Nat) (r : List Int) (x : Int) (i : Nat) (hi : i ≤ r.length) : gs ws s (r ++ [x]) i = gs ws s r i := by
  unfold gs
  split
  · rfl
  · rw [wsum_snoc r x i hi ws 0 (by omega)]
theorem rst_snoc (ws : List Int) (s d : Nat) (r : List Int) (x : Int) : rst ws s d (r ++ [x]) = rst ws s d r ++ [wr d (x - gs ws s r r.length)] := by
  unfold rst
  rw [List.length_append, List.length_singleton, List.range_succ, List.map_append]
  congr 1
  · apply List.map_congr_left
    intro i hi
    have hi := List.mem_range.mp hi
    rw [gs_snoc ws s r x i (by omega), List.getD_eq_getElem?_getD, List.getD_eq_getElem?_getD, List.getElem?_append_left hi]
  · rw [List.map_singleton, gs_snoc ws s r x _ (Nat.le_refl _), List.getD_eq_getElem?_getD, List.getElem?_append_right (Nat.le_refl _), Nat.sub_self]
    rfl
theorem sum_app (a b : List Int) : (a ++ b).sum = a.sum + b.sum := by
  induction a with
  | nil => simp
  | cons x t ih => rw [List.cons_append, List.sum_cons, List.sum_cons, ih]; omega
theorem size_snoc (ws : List Int) (s d w : Nat) (r : List Int) (x : Int) : size ws s d w (r ++ [x]) = size ws s d w r + pri w (fold (wr d (x - gs ws s r r.length))) := by
  unfold size
  rw [rst_snoc, List.map_append, sum_app]
  simp
/-- folds of the wrapped differences: each fold once -/
theorem wr_mod (d : Nat) (x g : Int) : wr d (x - g) = wr d (x - g % 2 ^ d) := by
  unfold wr
  have h : (x - g + 2 ^ (d - 1)) % 2 ^ d = (x - g % 2 ^ d + 2 ^ (d - 1)) % 2 ^ d := by
    have e : x - g + 2 ^ (d - 1) = (x - g % 2 ^ d + 2 ^ (d - 1)) + 2 ^ d * (-(g / 2 ^ d)) := by
      have := Int.emod_add_mul_ediv g (2 ^ d)
      rw [Int.mul_neg]
      omega
    rw [e, Int.add_mul_emod_self_left]
  rw [h]
def once (d : Nat) (g : Int) : Bool := ((samples d).map fun x => fold (wr d (x - g))).isPerm ((List.range (2 ^ d)).map fun i : Nat => (i : Int))
theorem once_all : ([1, 2, 3].all fun d => (List.range (2 ^ d)).all fun g => once d (g : Int)) = true := by decide +kernel
theorem once_of {d : Nat} (h : 1 ≤ d ∧ d ≤ 3) (g : Int) : ((samples d).map fun x => fold (wr d (x - g))).Perm ((List.range (2 ^ d)).map fun i : Nat => (i : Int)) := by
  have hp : (0 : Int) < 2 ^ d := Int.pow_pos (by decide)
  have hm : d ∈ [1, 2, 3] := by
    have : d = 1 ∨ d = 2 ∨ d = 3 := by omega
    rcases this with h | h | h <;> rw [h] <;> decide
  have h0 := Int.emod_nonneg g (Int.ne_of_gt hp)
  have h1 := Int.emod_lt_of_pos g hp
  obtain ⟨n, hn⟩ := Int.eq_ofNat_of_zero_le h0
  have hn2 : n < 2 ^ d := by
    have : (n : Int) < ((2 ^ d : Nat) : Int) := by rw [Int.natCast_pow]; rw [hn] at h1; exact h1
    omega
  have k := List.all_eq_true.mp (List.all_eq_true.mp once_all d hm) n (List.mem_range.mpr hn2)
  have e : ((samples d).map fun x => fold (wr d (x - g))) = (samples d).map fun x => fold (wr d (x - (n : Int))) := by
    apply List.map_congr_left
    intro x _
    rw [wr_mod d x g, hn]
  rw [e]
  exact List.isPerm_iff.mp k
theorem sum_add {β : Type} (f g : β → Nat) : ∀ F : List β, (F.map fun x => f x + g x).sum = (F.map f).sum + (F.map g).sum
  | [] => rfl
  | x :: F => by
    have := sum_add f g F
    simp only [List.map_cons, List.sum_cons]
    omega
theorem sum_zero {β : Type} : ∀ F : List β, (F.map fun _ => 0).sum = 0
  | [] => rfl
  | x :: F => by
    rw [List.map_cons, List.sum_cons, sum_zero F]
theorem countP_flatG {β : Type} (F : List β) (p : List Int → Bool) (B : List Int → List (List Int)) (q : β → List Int → Bool) (h : ∀ r, (B r).countP p = (F.map fun f => if q f r = true then 1 else 0).sum) : ∀ l : List (List Int), (l.flatMap B).countP p = (F.map fun f => l.countP (q f)).sum
  | [] => by
    simp only [List.flatMap_nil, List.countP_nil]
    exact (sum_zero F).symm
  | r :: t => by
    have ih := countP_flatG F p B q h t
    rw [List.flatMap_cons, List.countP_append, ih, h r, ← sum_add]
    congr 1
    apply List.map_congr_left
    intro f _
    rw [List.countP_cons]
    omega
theorem countP_sum {β : Type} (p : β → Bool) : ∀ l : List β, l.countP p = (l.map fun x => if p x = true then 1 else 0).sum
  | [] => rfl
  | x :: t => by
    rw [List.countP_cons, countP_sum p t, List.map_cons, List.sum_cons]
    omega
theorem cnt_rows {d : Nat} (hd : 1 ≤ d ∧ d ≤ 3) (ws : List Int) (s w : Nat) : ∀ (n : Nat) (k : Int), (allr d n).countP (fun r => decide (size ws s d w r = k)) = Cn d w n k
  | 0, k => by
    unfold allr Cn
    rw [List.countP_cons, List.countP_nil]
    have : size ws s d w [] = 0 := rfl
    rw [this]
    by_cases h : k = 0
    · rw [if_pos h, h]; rfl
    · rw [if_neg h, decide_eq_false (fun e => h e.symm)]; rfl
  | n + 1, k => by
    unfold allr Cn
    rw [countP_flatG (List.range (2 ^ d)) _ _ (fun f r => decide (size ws s d w r = k - pri w f)) (fun r => ?_)]
    · congr 1
      apply List.map_congr_left
      intro f _
      exact cnt_rows hd ws s w n (k - pri w f)
    · rw [List.countP_map]
      have e : ((fun r => decide (size ws s d w r = k)) ∘ fun x => r ++ [x]) = (fun f => decide (size ws s d w r = k - pri w f)) ∘ fun x => fold (wr d (x - gs ws s r r.length)) := by
        funext x
        show decide (size ws s d w (r ++ [x]) = k) = decide (size ws s d w r = k - pri w (fold (wr d (x - gs ws s r r.length))))
        rw [size_snoc]
        refine decide_eq_decide.mpr ⟨fun h => by omega, fun h => by omega⟩
      rw [e, ← List.countP_map, (once_of hd _).countP_eq, List.countP_map, countP_sum]
      rfl
theorem pri_bound {d w : Nat} (hw : w ≤ d) {f : Nat} (hf : f < 2 ^ d) : 1 ≤ pri w f ∧ pri w f ≤ (w : Int) + 2 ^ (d - w) := by
  unfold pri
  have h2 : (0 : Int) < 2 ^ w := Int.pow_pos (by decide)
  have h0 : 0 ≤ (f : Int) / 2 ^ w := Int.ediv_nonneg (by omega) (Int.le_of_lt h2)
  have h1 : (f : Int) / 2 ^ w < 2 ^ (d - w) := by
    refine Int.ediv_lt_of_lt_mul h2 ?_
    rw [← Int.pow_add, Nat.sub_add_cancel hw]
    have : (f : Int) < ((2 ^ d : Nat) : Int) := by omega
    rw [Int.natCast_pow] at this
    exact this
  omega
theorem Cn_out {d w : Nat} (hw : w ≤ d) : ∀ (n : Nat) (k : Int), k < 0 ∨ (n : Int) * ((w : Int) + 2 ^ (d - w)) < k → Cn d w n k = 0
  | 0, k, h => by
    unfold Cn
    rw [if_neg (by omega)]
  | n + 1, k, h => by
    unfold Cn
    have : ((List.range (2 ^ d)).map fun f : Nat => Cn d w n (k - pri w f)) = (List.range (2 ^ d)).map fun _ => 0 := by
      apply List.map_congr_left
      intro f hf
      have hb := pri_bound hw (List.mem_range.mp hf)
      refine Cn_out hw n _ ?_
      rcases h with h | h
      · exact Or.inl (by omega)
      · right
        rw [Int.natCast_add, Int.add_mul] at h
        have e1 : ((1 : Nat) : Int) * ((w : Int) + 2 ^ (d - w)) = (w : Int) + 2 ^ (d - w) := by rw [Int.natCast_one, Int.one_mul]
        omega
    rw [this, sum_zero]
/-! ### tables that count -/
theorem get_put (t : Tab) (k v j : Int) : get (put t k v) j = if j = k then some v else get t j := by
  have h := kv_get j (put t k v)
  rw [← kv_put, L2.valV_put] at h
  by_cases e : j = k
  · rw [if_pos e]
    rw [if_pos (by rw [e])] at h
    cases g : get (put t k v) j with
    | none => rw [g] at h; cases h
    | some x =>
      rw [g] at h
      have := L2.V.int.inj (Option.some.inj h)
      rw [this]
  · rw [if_neg e]
    rw [if_neg (fun z => e (Sum.inl.inj z)), kv_get] at h
    cases g : get (put t k v) j with
    | none =>
      rw [g] at h
      cases g2 : get t j with
      | none => rfl
      | some y => rw [g2] at h; cases h
    | some x =>
      rw [g] at h
      cases g2 : get t j with
      | none => rw [g2] at h; cases h
      | some y =>
        rw [g2] at h
        have := L2.V.int.inj (Option.some.inj h)
        rw [this]
def keys (t : Tab) : List Int := t.map (·.1)
theorem keys_put (t : Tab) (k v : Int) : keys (put t k v) = if k ∈ keys t then keys t else keys t ++ [k] := by
  have ha : (t.any fun p => decide (p.1 = k)) = decide (k ∈ keys t) := by
    unfold keys
    induction t with
    | nil => rfl
    | cons p r ih =>
      rw [List.any_cons, ih, List.map_cons]
      by_cases c : p.1 = k
      · rw [c]; simp
      · have c' : ¬ k = p.1 := fun e => c e.symm
        simp [c, c']
  unfold put
  rw [ha]
  by_cases c : k ∈ keys t
  · rw [if_pos (decide_eq_true c), if_pos c]
    unfold keys
    rw [List.map_map]
    apply List.map_congr_left
    intro p _
    show (if p.1 = k then (p.1, v) else p).1 = p.1
    split <;> rfl
  · rw [if_neg (by rw [decide_eq_false c]; decide), if_neg c]
    unfold keys
    rw [List.map_append]
    rfl
theorem get_key (t : Tab) (k : Int) : (get t k).isSome = decide (k ∈ keys t) := by
  unfold M44.get keys
  rw [Option.isSome_map]
  induction t with
  | nil => rfl
  | cons p r ih =>
    rw [List.find?_cons, List.map_cons]
    by_cases c : p.1 = k
    · rw [decide_eq_true c, c]; simp
    · rw [decide_eq_false c]
      have c' : ¬ k = p.1 := fun e => c e.symm
      simp only [List.mem_cons, c', false_or]
      exact ih
theorem get_mem : ∀ (t : Tab) (p : Int × Int), (keys t).Nodup → p ∈ t → get t p.1 = some p.2
  | [], p, _, h => by cases h
  | x :: r, p, hn, h => by
    have hn2 : x.1 ∉ keys r ∧ (keys r).Nodup := List.nodup_cons.mp hn
    rcases List.mem_cons.mp h with e | h
    · rw [e]
      unfold M44.get
      simp
    · have c : ¬ x.1 = p.1 := fun e => hn2.1 (by rw [e]; exact List.mem_map.mpr ⟨p, h, rfl⟩)
      have ih := get_mem r p hn2.2 h
      unfold M44.get at ih ⊢
      rw [List.find?_cons, decide_eq_false c]
      exact ih
theorem nodup_len : ∀ (l m : List Int), l.Nodup → (∀ x ∈ l, x ∈ m) → l.length ≤ m.length
  | [], _, _, _ => Nat.zero_le _
  | x :: t, m, hn, h => by
    have hn2 := List.nodup_cons.mp hn
    have hx := h x List.mem_cons_self
    have ih := nodup_len t (m.erase x) hn2.2 fun y hy => (List.mem_erase_of_ne (fun e => hn2.1 (by rw [← e]; exact hy))).mpr (h y (List.mem_cons_of_mem _ hy))
    have hl := List.length_erase_of_mem hx
    have : 0 < m.length := List.length_pos_of_mem hx
    rw [List.length_cons]
    omega
/-- a table that tells counts -/
def CT (t : Tab) (c : Int → Nat) : Prop := (keys t).Nodup ∧ ∀ k, get t k = if c k = 0 then none else some ((c k : Nat) : Int)
theorem CT.nil : CT [] fun _ => 0 := ⟨List.nodup_nil, fun k => rfl⟩
theorem CT.gotC {t : Tab} {c : Int → Nat} (h : CT t c) (k : Int) : M44.got t k = ((c k : Nat) : Int) := by
  unfold M44.got
  rw [h.2 k]
  by_cases e : c k = 0
  · rw [if_pos e, e]; rfl
  · rw [if_neg e]; rfl
def upC (c : Int → Nat) (k : Int) (v : Nat) : Int → Nat := fun j => if j = k then v else c j
theorem CT.putC {t : Tab} {c : Int → Nat} (h : CT t c) (k : Int) (v : Nat) (hv : v ≠ 0) : CT (put t k (v : Int)) (upC c k v) := by
  refine ⟨?_, fun j => ?_⟩
  · rw [keys_put]
    by_cases e : k ∈ keys t
    · rw [if_pos e]; exact h.1
    · rw [if_neg e]
      refine List.nodup_append.mpr ⟨h.1, List.pairwise_singleton _ _, fun a ha b hb => ?_⟩
      rw [List.mem_singleton.mp hb]
      exact fun z => e (z ▸ ha)
  · rw [get_put]
    by_cases e : j = k
    · have : upC c k v j = v := if_pos e
      rw [this, if_pos e, if_neg hv]
    · have : upC c k v j = c j := if_neg e
      rw [this, if_neg e, h.2 j]
theorem CT.alike {t u : Tab} {c : Int → Nat} (h : CT t c) (k : CT u c) : t.length = u.length ∧ ∀ p ∈ t, get u p.1 = some p.2 := by
  have hk : ∀ x, x ∈ keys t ↔ x ∈ keys u := fun x => by
    have e1 := get_key t x
    have e2 := get_key u x
    rw [h.2 x] at e1
    rw [k.2 x, e1] at e2
    have := decide_eq_decide.mp e2
    exact this
  refine ⟨?_, fun p hp => ?_⟩
  · have l1 := nodup_len _ _ h.1 fun x hx => (hk x).mp hx
    have l2 := nodup_len _ _ k.1 fun x hx => (hk x).mpr hx
    unfold keys at l1 l2
    rw [List.length_map, List.length_map] at l1 l2
    omega
  · rw [k.2, ← h.2]
    exact get_mem t p h.1 hp
theorem CT.ext {t : Tab} {c c' : Int → Nat} (h : CT t c) (e : ∀ k, c k = c' k) : CT t c' := by
  have : c = c' := funext e
  rw [← this]
  exact h
/-! ### what the numbers are -/
theorem right_all : ([1, 2, 3].all fun d => (List.range (d + 1)).all fun w => (List.range 4).all fun n => (List.range (n * (w + 2 ^ (d - w)) + 3)).all fun k =>
    decide (LW n (2 ^ (d - w)) ((k : Int) - n * (1 + w)) * 2 ^ (n * w) = ((Cn d w n k : Nat) : Int)) && decide ((LW n (2 ^ (d - w)) ((k : Int) - n * (1 + w))).natAbs < 2 ^ 1000)) = true := by decide +kernel
theorem right_of {d w n k : Nat} (hd : 1 ≤ d ∧ d ≤ 3) (hw : w ≤ d) (hn : n ≤ 3) (hk : k < n * (w + 2 ^ (d - w)) + 3) : LW n (2 ^ (d - w)) ((k : Int) - n * (1 + w)) * 2 ^ (n * w) = ((Cn d w n k : Nat) : Int) ∧ (LW n (2 ^ (d - w)) ((k : Int) - n * (1 + w))).natAbs < 2 ^ 1000 := by
  have hm : d ∈ [1, 2, 3] := by
    have : d = 1 ∨ d = 2 ∨ d = 3 := by omega
    rcases this with h | h | h <;> rw [h] <;> decide
  have k1 := List.all_eq_true.mp (List.all_eq_true.mp (List.all_eq_true.mp (List.all_eq_true.mp right_all d hm) w (List.mem_range.mpr (by omega))) n (List.mem_range.mpr (by omega))) k (List.mem_range.mpr hk)
  rw [Bool.and_eq_true] at k1
  exact ⟨of_decide_eq_true k1.1, of_decide_eq_true k1.2⟩
theorem allr_len (d : Nat) : ∀ n, (allr d n).length = (2 ^ d) ^ n
  | 0 => rfl
  | n + 1 => by
    unfold allr
    rw [List.length_flatMap]
    have : (allr d n).map (fun r => ((samples d).map fun x => r ++ [x]).length) = (allr d n).map fun _ => 2 ^ d := by
      apply List.map_congr_left
      intro r _
      unfold samples
      rw [List.length_map, List.length_map, List.length_range]
    rw [this]
    have h2 : ∀ l : List (List Int), (l.map fun _ => 2 ^ d).sum = l.length * 2 ^ d := fun l => by
      induction l with
      | nil => simp
      | cons x t ih => rw [List.map_cons, List.sum_cons, ih, List.length_cons, Nat.add_mul]; omega
    rw [h2, allr_len d n, Nat.pow_succ]
theorem allr_row (d : Nat) : ∀ (n : Nat) (r : List Int), r ∈ allr d n → r.length = n ∧ ∀ x ∈ r, -(2 ^ (d - 1)) ≤ x ∧ x < -(2 ^ (d - 1)) + 2 ^ d
  | 0, r, h => by
    unfold allr at h
    rw [List.mem_singleton.mp h]
    exact ⟨rfl, fun x hx => absurd hx List.not_mem_nil⟩
  | n + 1, r, h => by
    unfold allr at h
    obtain ⟨r0, h0, h1⟩ := List.mem_flatMap.mp h
    obtain ⟨x, hx, rfl⟩ := List.mem_map.mp h1
    obtain ⟨hl, hb⟩ := allr_row d n r0 h0
    refine ⟨by rw [List.length_append, hl]; rfl, fun y hy => ?_⟩
    rcases List.mem_append.mp hy with k | k
    · exact hb y k
    · rw [List.mem_singleton.mp k]
      unfold samples at hx
      obtain ⟨i, hi, rfl⟩ := List.mem_map.mp hx
      have hi := List.mem_range.mp hi
      have : (i : Int) < ((2 ^ d : Nat) : Int) := by omega
      rw [Int.natCast_pow] at this
      have e : ((2 : Nat) : Int) = 2 := rfl
      rw [e] at this
      omega
theorem wr_in {d : Nat} (z : Int) : -(2 ^ (d - 1)) ≤ wr d z ∧ wr d z < 2 ^ d := by
  have hp : (0 : Int) < 2 ^ d := Int.pow_pos (by decide)
  have hq : (0 : Int) < 2 ^ (d - 1) := Int.pow_pos (by decide)
  have h0 := Int.emod_nonneg (z + 2 ^ (d - 1)) (Int.ne_of_gt hp)
  have h1 := Int.emod_lt_of_pos (z + 2 ^ (d - 1)) hp
  unfold wr
  omega
end M50

set_option Elab.async false
set_option linter.all false
set_option maxRecDepth 100000
set_option maxHeartbeats 8000000
namespace M50
open M44
/-! ### how many lists have a sum: tables -/
def rowS (b : Nat) (row : List Nat) : List Nat := (List.range 12).map fun t => ((List.range (min b (t + 1))).map fun f => row.getD (t - f) 0).sum
def rowT (e : Nat) : Nat → List Nat
  | 0 => [1, 0, 0, 0, 0, 0, 0, 0, 0, 0, 0, 0]
  | m + 1 => rowS (2 ^ e) (rowT e m)
def conv (x y : List Nat) (t : Nat) : Nat := ((List.range (t + 1)).map fun p => x.getD p 0 * y.getD (t - p) 0).sum
theorem tab_lws : ((List.range 6).all fun e => (List.range 43).all fun m => (List.range 12).all fun t => decide (lws ((m + 1 : Nat) : Int) ((2 ^ e : Nat) : Int) (t : Int) = (((rowT e (m + 1)).getD t 0 : Nat) : Int)) && decide ((rowT e (m + 1)).getD t 0 < 2 ^ 200)) = true := by decide +kernel
theorem tab_conv : ((List.range 6).all fun e => (List.range 40).all fun m => (List.range 3).all fun n => (List.range 12).all fun t => decide (conv (rowT e (n + 1)) (rowT e (m + 1)) t = (rowT e (m + n + 2)).getD t 0)) = true := by decide +kernel
end M50

set_option Elab.async false
set_option linter.all false
set_option maxRecDepth 100000
set_option maxHeartbeats 4000000
namespace M50
open M44
theorem LW_tab {e m t : Nat} (he : e < 6) (hm1 : 1 ≤ m) (hm : m ≤ 43) (ht : t < 12) : LW m (2 ^ e) (t : Int) = (((rowT e m).getD t 0 : Nat) : Int) ∧ (LW m (2 ^ e) (t : Int)).natAbs < 2 ^ 200 := by
  obtain ⟨m, rfl⟩ : ∃ k, m = k + 1 := ⟨m - 1, by omega⟩
  have k1 := List.all_eq_true.mp (List.all_eq_true.mp (List.all_eq_true.mp tab_lws e (List.mem_range.mpr he)) m (List.mem_range.mpr (by omega))) t (List.mem_range.mpr ht)
  rw [Bool.and_eq_true] at k1
  have h1 := of_decide_eq_true k1.1
  have h2 := of_decide_eq_true k1.2
  unfold LW
  rw [if_neg (by omega), if_neg (by omega), h1]
  exact ⟨rfl, by rw [Int.natAbs_natCast]; exact h2⟩
def convI (e n m : Nat) (t : Nat) : Nat → Int
  | 0 => 0
  | p + 1 => convI e n m t p + LW n (2 ^ e) (p : Int) * LW m (2 ^ e) ((t - p : Nat) : Int)
theorem sum_snoc (f : Nat → Nat) (n : Nat) : ((List.range (n + 1)).map f).sum = ((List.range n).map f).sum + f n := by
  rw [List.range_succ, List.map_append, List.sum_append]
  simp
theorem convI_eq {e n m t : Nat} (he : e < 6) (hn : 1 ≤ n ∧ n ≤ 3) (hm : 1 ≤ m ∧ m ≤ 40) (ht : t < 12) : convI e n m t (t + 1) = LW (m + n) (2 ^ e) (t : Int) := by
  have hall : ∀ p, p ≤ t + 1 → convI e n m t p = ((((List.range p).map fun p => (rowT e n).getD p 0 * (rowT e m).getD (t - p) 0).sum : Nat) : Int) := by
    intro p
    induction p with
    | zero => intro _; rfl
    | succ p ih =>
      intro hp
      unfold convI
      rw [ih (by omega), sum_snoc, (LW_tab he hn.1 (by omega) (by omega : p < 12)).1, (LW_tab he hm.1 (by omega) (by omega : t - p < 12)).1]
      rw [Int.natCast_add, Int.natCast_mul]
  rw [hall _ (Nat.le_refl _), (LW_tab he (by omega : 1 ≤ m + n) (by omega) ht).1]
  obtain ⟨n, rfl⟩ : ∃ k, n = k + 1 := ⟨n - 1, by omega⟩
  obtain ⟨m, rfl⟩ : ∃ k, m = k + 1 := ⟨m - 1, by omega⟩
  have k1 := of_decide_eq_true (List.all_eq_true.mp (List.all_eq_true.mp (List.all_eq_true.mp (List.all_eq_true.mp tab_conv e (List.mem_range.mpr he)) m (List.mem_range.mpr (by omega))) n (List.mem_range.mpr (by omega))) t (List.mem_range.mpr ht))
  unfold conv at k1
  rw [show m + 1 + (n + 1) = m + n + 2 by omega, ← k1]
/-- what the number of lists asks of comb -/
def CombOk (m b : Nat) (t : Int) : Prop := (LW m b t).natAbs < 2 ^ 1000 ∧ (t ≤ 300 ∧ m ≤ 300 ∧ 1 ≤ b ∧ b ≤ 2 ^ 24) ∧ ∀ o : Nat, 1 ≤ m → o ≤ m → (o : Int) * b ≤ t → (PySem.W.mcComb (m : Int) (o : Int)).natAbs < 2 ^ 80 ∧ (PySem.W.mcComb (t - (o : Int) * (b : Int) + m - 1) ((m : Int) - 1)).natAbs < 2 ^ 80
theorem comb_of {m b : Nat} {t : Int} (hl : (LW m b t).natAbs < 2 ^ 1000) (hm : m ≤ 43) (ht : t ≤ 37) (hb : 1 ≤ b ∧ b ≤ 2 ^ 24) : CombOk m b t := by
  refine ⟨hl, ⟨by omega, by omega, hb⟩, fun o m1 ho hob => ?_⟩
  refine ⟨comb_tab m (by omega) o (by omega), ?_⟩
  have h0 : 0 ≤ (o : Int) * (b : Int) := Int.mul_nonneg (by omega) (by omega)
  obtain ⟨x, hx⟩ := Int.eq_ofNat_of_zero_le (show 0 ≤ t - (o : Int) * (b : Int) by omega)
  rw [hx, show (x : Int) + m - 1 = ((x + m - 1 : Nat) : Int) by omega, show (m : Int) - 1 = ((m - 1 : Nat) : Int) by omega]
  exact comb_tab _ (by omega) _ (by omega)
theorem comb_200 : CombOk 200 1 0 := by
  refine ⟨by decide +kernel, by decide, fun o _ ho hob => ?_⟩
  obtain rfl : o = 0 := by omega
  exact ⟨by decide +kernel, by decide +kernel⟩
theorem LW_200 : LW 200 1 0 = 1 := by decide +kernel
end M50

set_option Elab.async false
set_option linter.all false
set_option maxRecDepth 100000
set_option maxHeartbeats 2000000
namespace WS
open PySem PySem.Spec PyProof.Rows L2 Evl
section
variable {X : Cx} {tg : Expr}
theorem cr_range1 : CallR X (.type "range") (fun vs H Q => ∃ j, vs = [V.int j] ∧ ∀ p, H p = none → Q (.ref p) (upd H p (.rng 0 j))) := by
  intro pins s σ H vs us Q I r h
  obtain ⟨j, rfl, q⟩ := h
  obtain ⟨u1, rfl, t, rfl⟩ := vals1 r
  refine call_range_1 ⟨.ref s.heap.objs.size, upd H s.heap.objs.size (.rng 0 j), I.laid (t' := s.toks + 1 + 1) (fun _ _ keep => Heap.get?_push_of_some _ keep) (Nat.le_refl _) ⟨_, t, _, Heap.get?_push_size _ rfl⟩, rfl, q _ (I.hok.fresh (Nat.le_refl _))⟩
/-- a range kept as a value, gone over -/
def iRngV (te : TE) : TI := fun σ H R => te σ H fun x H1 => ∃ a lo hi, x = V.ref a ∧ H1 a = some (.rng lo hi) ∧ (-(2 ^ 62) ≤ lo ∧ lo < 2 ^ 62 ∧ -(2 ^ 62) ≤ hi ∧ hi < 2 ^ 62) ∧ R (Itr lo (hi - lo).toNat) H1
theorem pi_rngV {l : Expr} {tl : TE} (hl : PE X l tl) : PI X tg l (iRngV tl) := by
  refine ⟨fun pins s σ H R I h => thn (hl.run pins s σ H _ I h) fun v z ⟨x, G, J, rel, told⟩ => ?_⟩
  obtain ⟨a, lo, hi, rfl, at_, ⟨b1, b2, b3, b4⟩, q⟩ := told
  cases rel
  obtain ⟨t, u, w, laid⟩ := (show ∃ t u w, z.heap.get? a = some { cls := .type "range", data := .fields #[.int lo t, .int hi u, .int 1 w] } from J.hok a _ at_)
  refine wpAny_pyIter_range laid (small_one b1 b2 b3 b4) ?_
  have size_ : (((hi - lo).toNat : Nat) : Int) - ((0 : Nat) : Int) = Builtin.Range.rangeSize lo hi 1 := by rw [rangeSize_one]; split <;> omega
  refine ⟨z.heap.objs.size, [z.heap.objs.size], _, _, G, rfl, J.kept (t' := z.toks) (fun _ _ keep => Heap.get?_push_of_some _ keep), turn_range _ lo (hi - lo).toNat, ?_, fun b hb => ?_, q⟩
  · show IsRangeIter _ _ (lo + ((0 : Nat) : Int) * 1) ((((hi - lo).toNat : Nat) : Int) - ((0 : Nat) : Int)) 1
    rw [size_, show lo + ((0 : Nat) : Int) * 1 = lo by simp]
    exact Heap.get?_push_size _ rfl
  · obtain rfl := List.mem_singleton.mp hb
    exact J.fpOk (Nat.le_refl _) (J.hok.fresh (Nat.le_refl _))
end
theorem given_all (n : Nat) (f : Nat → V) : given n (fun _ => true) f = (List.range n).map f := by
  unfold given
  rw [List.filter_eq_self.mpr (fun _ _ => rfl)]
section
variable {K : PySem.W.Frag} {σ : L2.St} {H H' : Hp} {te tl : TE} {v : V}
theorem et_yes : EvT tYes σ H true := fun H1 _ _ q => q H1 (Ex.refl H1)
/-- [f(i) for i in r], r a range kept as a value -/
theorem el_mapRV {a : Addr} {n j : Nat} {vs : List Nat} (f : Nat → V) (h : Ev tl σ H (.ref a)) (ha : H a = some (.rng 0 (n : Int))) (hn : n ≤ 40000) (hw : ∀ x, wipe ((wipe σ vs).set j (some x)) vs = wipe σ vs)
    (he : ∀ (i : Nat) H1, Ex H H1 → i < n → Ev te ((wipe σ vs).set j (some (.int (i : Int)))) H1 (f i)) : EvL (tLc (iRngV tl) (gName j) tYes te vs) σ H ((List.range n).map f) := by
  rw [← given_all]
  refine fun H0 e Q q => h H0 e _ fun H1 e1 => ⟨a, 0, (n : Int), rfl, e1 _ _ (e _ _ ha), by omega, fun Dl hD => ?_⟩
  have en : ((n : Int) - 0).toNat = n := by omega
  rw [en]
  exact lc_it walk_range (Cw H1 (fun _ => true) f Dl) ⟨hD, Ex.new hD, upd_same⟩ (fun _ _ _ _ => trivial) (fun i x G G' hi p y => by
    obtain ⟨rfl, rfl⟩ := y
    have e0 : (0 : Int) + (i : Int) = (i : Int) := Int.zero_add _
    show wipe ((wipe σ vs).set j (some (.int ((0 : Int) + (i : Int))))) vs = wipe σ vs ∧ _
    rw [e0]
    have hh := he i H1 (e.trans e1) hi
    rw [← e0] at hh
    exact ⟨hw _, cw_turn p (by omega) et_yes (fun _ => hh)⟩) (fun G p => q Dl G (fresh_back e1 p.1) (e1.trans p.2.1) p.2.2)
/-- [f(i, x) for i, x in enumerate(xs)] -/
theorem el_enum {tr : TA} {a : Addr} {xs : List V} {i j : Nat} {vs : List Nat} (f : Nat → V) (h : EvA tr σ H [.ref a]) (hx : SqL K H a xs) (hz : xs.length ≤ 40000)
    (hw : ∀ x y, wipe (((wipe σ vs).set i (some x)).set j (some y)) vs = wipe σ vs) (he : ∀ (k : Nat) (x : V) H1, Ex H H1 → xs[k]? = some x → Ev te (((wipe σ vs).set i (some (.int (k : Int)))).set j (some x)) H1 (f k)) :
    EvL (tLc (iEnum K tr) (gTup K 2 (gCons (gName i) (gCons (gName j) gNil))) tYes te vs) σ H ((List.range xs.length).map f) := by
  rw [← given_all]
  refine fun H0 e Q q => h H0 e _ fun H1 e1 => ⟨a, xs, rfl, ex_l (e.trans e1) hx, fun Dl hD => ?_⟩
  refine lc_it (walk_enum (K := K) (a := a) (xs := xs)) (Cw H1 (fun _ => true) f Dl) ⟨hD, Ex.new hD, upd_same⟩ (fun _ G _ p => ex_l ((e.trans e1).trans p.2.1) hx) (fun k x G G' hk p y => ?_) (fun G p => q Dl G (fresh_back e1 p.1) (e1.trans p.2.1) p.2.2)
  obtain ⟨T, z, x', rfl, hT, rfl, hz', hx'⟩ := y
  obtain rfl := Option.some.inj hz'
  refine ⟨T, _, rfl, st_of upd_same, rfl, _, _, rfl, _, _, rfl, rfl, hw _ _, ?_⟩
  have nD : Dl ≠ T := fun z => by rw [← z, p.2.2] at hT; cases hT
  have p' : Cw H1 (fun _ => true) f Dl k (upd G T (.tup [.int (k : Int), x'])) := ⟨p.1, p.2.1.trans (Ex.new hT), by rw [upd_ne nD]; exact p.2.2⟩
  exact cw_turn p' (by omega) et_yes (fun _ => he k x' H1 (e.trans e1) hx')
/-- .. over a new list -/
theorem el_enumN {xs : List V} {i j : Nat} {vs : List Nat} (f : Nat → V) (h : EvL tl σ H xs) (hz : xs.length ≤ 40000)
    (hw : ∀ x y, wipe (((wipe σ vs).set i (some x)).set j (some y)) vs = wipe σ vs) (he : ∀ (k : Nat) (x : V) H1, Ex H H1 → xs[k]? = some x → Ev te (((wipe σ vs).set i (some (.int (k : Int)))).set j (some x)) H1 (f k)) :
    EvL (tLc (iEnum K (tCons tl tNil)) (gTup K 2 (gCons (gName i) (gCons (gName j) gNil))) tYes te vs) σ H ((List.range xs.length).map f) := fun H0 e Q q =>
  h H0 e _ fun a H1 ha e1 hx => by
    have k := el_enum (K := K) (te := te) (i := i) (j := j) (vs := vs) (tr := fun _ H Q => Q [.ref a] H) f (σ := σ) (H := H1) (fun H2 _ Q2 q2 => q2 H2 (Ex.refl H2)) (sq_of hx) hz hw (fun k x H2 e2 hk => he k x H2 ((e.trans e1).trans e2) hk)
    exact k H1 (Ex.refl H1) Q fun p H2 hp e2 h2 => q p H2 (fresh_back e1 hp) (e1.trans e2) h2
end
end WS

set_option Elab.async false
set_option linter.all false
set_option maxRecDepth 100000
set_option maxHeartbeats 2000000
namespace WS
open PySem PySem.Spec PyProof.Rows L2 Evl
section
variable {X : Cx}
/-- x *= e, one of both small -/
def ipMulS : TIp := fun x y H Q => ∃ i j, x = .int i ∧ y = .int j ∧ CMul i j ∧ Q (.int (i * j)) H
theorem ip_mulS : PIp X .Mult ipMulS := fun pins s σ H x y v u Q I r1 r2 h => by
  obtain ⟨i, j, rfl, rfl, small, q⟩ := h
  obtain ⟨t, rfl⟩ := r1
  obtain ⟨t', rfl⟩ := r2
  exact imul_int ⟨.int _, H, I.tok _, ⟨_, rfl⟩, q⟩ small.ok
end
section
variable {K : PySem.W.Frag} {σ : L2.St} {H : Hp} {te : TE} {D : Ends} {tz : TS}
theorem s_augMul {i : Nat} {a b : Int} (hx : σ[i]? = some (some (.int a))) (h : Ev te σ H (.int b)) (hm : CMul a b) (k : ∀ H1, Ex H H1 → D.nx (σ.set i (some (.int (a * b)))) H1) : tAug i te ipMulS D σ H :=
  ⟨_, hx, h H (Ex.refl H) _ fun H1 e => ⟨a, b, rfl, rfl, hm, k H1 e⟩⟩
/-- max(xs, default=d), xs a new list -/
theorem ev_maxDef {ns : List Int} {d m : Int} (h : EvL te σ H (ns.map V.int)) (h0 : ns = [] → m = d) (h1 : ns ≠ [] → m ∈ ns ∧ ∀ y ∈ ns, y ≤ m) : Ev (tCKw (rMaxDef K) (tCons te tNil) (tCons (tC (.int d)) tNil)) σ H (.int m) := fun H1 e Q q =>
  h H1 e _ fun p H2 _ e2 h2 => ⟨p, ns, d, rfl, rfl, sq_of h2, fun z => by rw [← h0 z]; exact q H2 e2, fun k hk hkl => by
    have ne : ns ≠ [] := fun z => by rw [z] at hk; cases hk
    rw [show k = m from Int.le_antisymm ((h1 ne).2 k hk) (hkl m (h1 ne).1)]
    exact q H2 e2⟩
theorem ev_comb {ta tb : TE} {a b : Int} (ha : Ev ta σ H (.int a)) (hb : Ev tb σ H (.int b)) (h0 : 0 ≤ a) (h1 : 0 ≤ b) (h2 : a ≤ 18000) : Ev (tCB rComb (tCons ta (tCons tb tNil))) σ H (.int (PySem.W.mcComb a b)) := fun H1 e Q q =>
  ha H1 e _ fun H2 e2 => hb H2 (e.trans e2) _ fun H3 e3 => ⟨a, b, rfl, h0, h1, by omega, .inr h2, q H3 (e2.trans e3)⟩
theorem ev_anyN {bs : List Bool} (h : EvL te σ H (bs.map V.bl)) : Ev (tCB (rAny K) (tCons te tNil)) σ H (.bl (bs.any id)) := fun H1 e Q q =>
  h H1 e _ fun p H2 _ e2 h2 => ⟨p, bs, rfl, sq_of h2, q H2 e2⟩
theorem rv_odd {u : Int} (h : 0 ≤ u) : RV (fun x y H Q => ∃ n : Nat, x = .int (n : Int) ∧ y = .int 1 ∧ Q (.int ((n % 2 : Nat) : Int)) H) (.int u) (.int 1) H (.int (u % 2)) := fun H1 e Q q =>
  ⟨u.toNat, by rw [show ((u.toNat : Nat) : Int) = u by omega], rfl, by
    rw [show ((u.toNat % 2 : Nat) : Int) = u % 2 by omega]
    exact q H1 (Ex.refl H1)⟩
/-- [f(i, x) for i, x in enumerate(xs) if t(i, x)] -/
theorem el_enumT {tr : TA} {t : TT} {a : Addr} {xs : List V} {i j : Nat} {vs : List Nat} (b : Nat → Bool) (f : Nat → V) (h : EvA tr σ H [.ref a]) (hx : SqL K H a xs) (hz : xs.length ≤ 40000)
    (hw : ∀ x y, wipe (((wipe σ vs).set i (some x)).set j (some y)) vs = wipe σ vs) (ht : ∀ (k : Nat) (x : V) H1, Ex H H1 → xs[k]? = some x → EvT t (((wipe σ vs).set i (some (.int (k : Int)))).set j (some x)) H1 (b k))
    (he : ∀ (k : Nat) (x : V) H1, Ex H H1 → xs[k]? = some x → b k = true → Ev te (((wipe σ vs).set i (some (.int (k : Int)))).set j (some x)) H1 (f k)) :
    EvL (tLc (iEnum K tr) (gTup K 2 (gCons (gName i) (gCons (gName j) gNil))) t te vs) σ H (given xs.length b f) := by
  refine fun H0 e Q q => h H0 e _ fun H1 e1 => ⟨a, xs, rfl, ex_l (e.trans e1) hx, fun Dl hD => ?_⟩
  refine lc_it (walk_enum (K := K) (a := a) (xs := xs)) (Cw H1 b f Dl) ⟨hD, Ex.new hD, upd_same⟩ (fun _ G _ p => ex_l ((e.trans e1).trans p.2.1) hx) (fun k x G G' hk p y => ?_) (fun G p => q Dl G (fresh_back e1 p.1) (e1.trans p.2.1) p.2.2)
  obtain ⟨T, z, x', rfl, hT, rfl, hz', hx'⟩ := y
  obtain rfl := Option.some.inj hz'
  refine ⟨T, _, rfl, st_of upd_same, rfl, _, _, rfl, _, _, rfl, rfl, hw _ _, ?_⟩
  have nD : Dl ≠ T := fun z => by rw [← z, p.2.2] at hT; cases hT
  have p' : Cw H1 b f Dl k (upd G T (.tup [.int (k : Int), x'])) := ⟨p.1, p.2.1.trans (Ex.new hT), by rw [upd_ne nD]; exact p.2.2⟩
  exact cw_turn p' (by omega) (ht k x' H1 (e.trans e1) hx') (fun hb => he k x' H1 (e.trans e1) hx' hb)
theorem given_filt {α : Type} (d : α) (l : List α) (b : α → Bool) (f : α → V) : given l.length (fun i => b (l.getD i d)) (fun i => f (l.getD i d)) = (l.filter b).map f := by
  unfold given
  show List.map (f ∘ fun i => l.getD i d) _ = _
  rw [← List.map_map]
  congr 1
  have m : (List.range l.length).map (fun i => l.getD i d) = l := by
    apply List.ext_getElem?
    intro i
    rw [List.getElem?_map]
    by_cases c : i < l.length
    · rw [List.getElem?_range c, List.getElem?_eq_getElem c]
      simp [c]
    · rw [List.getElem?_eq_none (by rw [List.length_range]; omega), List.getElem?_eq_none (by omega)]
      rfl
  conv => rhs; rw [← m]
  rw [List.filter_map]
  rfl
/-- [f(x) for x in ns if t(x)] -/
theorem el_mapT {tl : TE} {t : TT} {a : Addr} {j : Nat} {vs : List Nat} {ns : List Int} (b : Int → Bool) (f : Int → V) (h : Ev tl σ H (.ref a)) (hx : SqL K H a (ns.map V.int)) (hz : ns.length ≤ 40000) (hw : ∀ x, wipe ((wipe σ vs).set j (some x)) vs = wipe σ vs)
    (ht : ∀ (u : Int) H1, Ex H H1 → u ∈ ns → EvT t ((wipe σ vs).set j (some (.int u))) H1 (b u)) (he : ∀ (u : Int) H1, Ex H H1 → u ∈ ns → b u = true → Ev te ((wipe σ vs).set j (some (.int u))) H1 (f u)) : EvL (tLc (iList K tl) (gName j) t te vs) σ H ((ns.filter b).map f) := by
  rw [← given_filt 0 ns b f]
  have hl : (ns.map V.int).length = ns.length := List.length_map _
  rw [← hl]
  refine el_lcL (fun i => b (ns.getD i 0)) (fun i => f (ns.getD i 0)) h hx (by rw [hl]; exact hz) hw (fun i x H1 e hi => ?_) (fun i x H1 e hi hb => ?_)
  · rw [List.getElem?_map] at hi
    cases hq : ns[i]? with
    | none => rw [hq] at hi; cases hi
    | some u =>
      rw [hq] at hi
      obtain rfl := Option.some.inj hi
      rw [List.getD_eq_getElem?_getD, hq]
      exact ht u H1 e (List.mem_of_getElem? hq)
  · rw [List.getElem?_map] at hi
    cases hq : ns[i]? with
    | none => rw [hq] at hi; cases hi
    | some u =>
      rw [hq] at hi
      obtain rfl := Option.some.inj hi
      rw [List.getD_eq_getElem?_getD, hq] at hb ⊢
      exact he u H1 e (List.mem_of_getElem? hq) hb
/-- what a comprehension asks behind its iterable -/
def LcB (J : It) (g : TG) (tt : TT) (te : TE) (vs : List Nat) (σ : L2.St) (H1 : Hp) (Q : VK) : Prop := ∀ D, H1 D = none → ∃ W : Nat → Nat → Hp → Prop, (∃ m, W 0 m (upd H1 D (.lst []))) ∧ ∀ i m H, W i m H →
  (J.stop i H ∧ Q (.ref D) H) ∨ (J.go i H ∧ ∃ Nx : Hp → Prop, (∀ H', Nx H' → ∃ m', m' < m ∧ W (i + 1) m' H') ∧ ∀ x H', J.yld i H x H' → g x (wipe σ vs) H' fun σ2 H2 => wipe σ2 vs = wipe σ vs ∧ tt σ2 H2 fun b H3 =>
    if b = true then te σ2 H3 fun y H4 => ∃ acc, H4 D = some (.lst acc) ∧ acc.length < sizeLine ∧ Nx (upd H4 D (.lst (acc ++ [y]))) else Nx H3)
theorem lcR1_in {ta : TA} {g : TG} {tt : TT} {vs : List Nat} {Q : VK} (k : ta σ H fun xs H1 => ∃ j : Int, xs = [.int j] ∧ -(2 ^ 62) ≤ j ∧ j < 2 ^ 62 ∧ LcB (Itr 0 j.toNat) g tt te vs σ H1 Q) : tLc (iRng1 ta) g tt te vs σ H Q := k
theorem forL_in {tl : TE} {g : TG} {tu : TS} (k : tl σ H fun x H1 => ∃ a, x = .ref a ∧ (∃ xs, SqL K H1 a xs) ∧ ∃ W : Nat → Nat → L2.St → Hp → Prop, (∃ m, W 0 m σ H1) ∧ ∀ i m σ H, W i m σ H →
  ((Itl K a).stop i H ∧ tz D σ H) ∨ ((Itl K a).go i H ∧ ∃ N : L2.St → Hp → Prop, (∀ σ' H', N σ' H' → ∃ m', m' < m ∧ W (i + 1) m' σ' H') ∧ ∀ x H', (Itl K a).yld i H x H' → g x σ H' fun σ2 H2 => tu { D with nx := N, ct := N, bk := tz D } σ2 H2)) : tSeq (tFor (iList K tl) g tu) tz D σ H := k
theorem forL_at {a : Addr} {g : TG} {tu : TS} (k : tSeq (tFor (iList K fun _ H Q => Q (.ref a) H) g tu) tz D σ H) : ∃ b, (V.ref a) = .ref b ∧ (∃ xs, SqL K H b xs) ∧ ∃ W : Nat → Nat → L2.St → Hp → Prop, (∃ m, W 0 m σ H) ∧ ∀ i m σ H, W i m σ H →
  ((Itl K b).stop i H ∧ tz D σ H) ∨ ((Itl K b).go i H ∧ ∃ N : L2.St → Hp → Prop, (∀ σ' H', N σ' H' → ∃ m', m' < m ∧ W (i + 1) m' σ' H') ∧ ∀ x H', (Itl K b).yld i H x H' → g x σ H' fun σ2 H2 => tu { D with nx := N, ct := N, bk := tz D } σ2 H2) := k
theorem ev_at {a : Addr} : Ev (fun _ H Q => Q (.ref a) H) σ H (.ref a) := fun H1 _ _ q => q H1 (Ex.refl H1)
theorem top_in2' {ta tb : TE} {r : R2} {Q : VK} (k : ta σ H fun x H1 => tb σ H1 fun y H2 => r x y H2 Q) : tOp r ta tb σ H Q := k
/-- [u] * k, k counted -/
theorem el_times {tb : TE} {u : Int} {k : Nat} (hk : k ≤ 1000) (hu : Ev te σ H (.int u)) (hi : ∀ H1, Ex H H1 → Ev tb σ H1 (.int (k : Int))) : EvL (tOp rRep (tLst (tCons te tNil)) tb) σ H ((List.replicate k u).map V.int) := fun H1 e Q q => by
  refine el_lst (ea_cons hu ea_nil) (by show 1 ≤ 100000; decide) H1 e _ fun l H2 hl e2 h2 => ?_
  refine hi H2 (e.trans e2) H2 (Ex.refl H2) _ fun H3 e3 => ⟨l, (k : Int), _, rfl, rfl, e3 _ _ h2, by omega, by omega, ?_, fun p hp => ?_⟩
  · show 1 * (k : Int).toNat ≤ sizeLine
    rw [Int.toNat_natCast, Nat.one_mul]
    exact sz_of (by omega)
  · refine q p _ (fresh_back (e2.trans e3) hp) ((e2.trans e3).trans (Ex.new hp)) ?_
    rw [upd_same, Int.toNat_natCast, List.map_replicate]
    congr 2
    simp
end
end WS

set_option Elab.async false
set_option linter.all false
set_option maxRecDepth 100000
set_option maxHeartbeats 2000000
namespace WS
open PySem PySem.Spec PyProof.Rows L2 Evl
def below : Nat → Nat → List (List Int)
  | 0, _ => [[]]
  | n + 1, top => (below n top).flatMap fun r => (List.range top).map fun i : Nat => r ++ [(i : Int)]
theorem below_len : ∀ n top, (below n top).length = top ^ n
  | 0, _ => rfl
  | n + 1, top => by
    have h : ∀ l : List (List Int), (l.flatMap fun r => (List.range top).map fun i : Nat => r ++ [(i : Int)]).length = l.length * top := by
      intro l
      induction l with
      | nil => simp
      | cons a r ih => rw [List.flatMap_cons, List.length_append, ih, List.length_map, List.length_range, List.length_cons, Nat.succ_mul]; omega
    unfold below
    rw [h, below_len n top, Nat.pow_succ]
theorem below_row : ∀ (n top : Nat) (r : List Int), r ∈ below n top → r.length = n ∧ ∀ x ∈ r, 0 ≤ x ∧ x < (top : Int)
  | 0, top, r, h => by
    rw [List.mem_singleton.mp h]
    exact ⟨rfl, fun x hx => absurd hx List.not_mem_nil⟩
  | n + 1, top, r, h => by
    obtain ⟨s, hs, h2⟩ := List.mem_flatMap.mp h
    obtain ⟨i, hi, rfl⟩ := List.mem_map.mp h2
    obtain ⟨k1, k2⟩ := below_row n top s hs
    refine ⟨by rw [List.length_append, k1]; rfl, fun x hx => ?_⟩
    rcases List.mem_append.mp hx with z | z
    · exact k2 x z
    · rw [List.mem_singleton.mp z]
      have := List.mem_range.mp hi
      omega
theorem snoc_rec {motive : List Int → Prop} (nil : motive []) (snoc : ∀ r x, motive r → motive (r ++ [x])) : ∀ r, motive r := by
  intro r
  have : ∀ s : List Int, motive s.reverse := by
    intro s
    induction s with
    | nil => exact nil
    | cons x t ih => rw [List.reverse_cons]; exact snoc _ _ ih
  have h := this r.reverse
  rwa [List.reverse_reverse] at h
theorem below_all : ∀ (r : List Int) (top : Nat), (∀ x ∈ r, 0 ≤ x ∧ x < (top : Int)) → r ∈ below r.length top := by
  intro r
  induction r using snoc_rec with
  | nil => exact fun top _ => List.mem_singleton.mpr rfl
  | snoc r x ih =>
    intro top h
    rw [List.length_append]
    show _ ∈ (below r.length top).flatMap _
    refine List.mem_flatMap.mpr ⟨r, ih top fun y hy => h y (List.mem_append_left _ hy), List.mem_map.mpr ⟨x.toNat, ?_, ?_⟩⟩
    · have := h x (List.mem_append_right _ List.mem_cons_self)
      exact List.mem_range.mpr (by omega)
    · have := h x (List.mem_append_right _ List.mem_cons_self)
      rw [show ((x.toNat : Nat) : Int) = x by omega]
/-- a list of lists of ints -/
def Lv (H : Hp) (vs : List V) (rs : List (List Int)) : Prop := vs.length = rs.length ∧ ∀ (i : Nat) (r : List Int), rs[i]? = some r → ∃ a : Addr, vs[i]? = some (V.ref a) ∧ H a = some (HO.lst (r.map V.int))
theorem Lv.ex {H H' : Hp} {vs : List V} {rs : List (List Int)} (h : Lv H vs rs) (e : Ex H H') : Lv H' vs rs := ⟨h.1, fun i r hr => by
  obtain ⟨a, h1, h2⟩ := h.2 i r hr
  exact ⟨a, h1, e _ _ h2⟩⟩
theorem Lv.get {H : Hp} {vs : List V} {rs : List (List Int)} (h : Lv H vs rs) {i : Nat} {x : V} (hx : vs[i]? = some x) : ∃ (a : Addr) (r : List Int), x = V.ref a ∧ rs[i]? = some r ∧ H a = some (.lst (r.map V.int)) := by
  have hi := (List.getElem?_eq_some_iff.mp hx).1
  have hr : rs[i]? = some (rs[i]'(by have := h.1; omega)) := List.getElem?_eq_getElem (by have := h.1; omega)
  obtain ⟨a, h1, h2⟩ := h.2 i _ hr
  rw [hx] at h1
  exact ⟨a, _, Option.some.inj h1, hr, h2⟩
theorem Lv.app {H : Hp} {vs ws : List V} {rs ss : List (List Int)} (h : Lv H vs rs) (k : Lv H ws ss) : Lv H (vs ++ ws) (rs ++ ss) := by
  refine ⟨by rw [List.length_append, List.length_append, h.1, k.1], fun i r hr => ?_⟩
  have hl := h.1
  by_cases c : i < rs.length
  · rw [List.getElem?_append_left c] at hr
    rw [List.getElem?_append_left (by omega)]
    exact h.2 i r hr
  · rw [List.getElem?_append_right (by omega)] at hr
    rw [List.getElem?_append_right (by omega), hl]
    exact k.2 _ r hr
def LL (H : Hp) (p : Addr) (rs : List (List Int)) : Prop := ∃ vs, H p = some (.lst vs) ∧ Lv H vs rs
theorem LL.ex {H H' : Hp} {p : Addr} {rs : List (List Int)} (h : LL H p rs) (e : Ex H H') : LL H' p rs := by
  obtain ⟨vs, h1, h2⟩ := h
  exact ⟨vs, e _ _ h1, h2.ex e⟩
section
variable {K : PySem.W.Frag} {σ : L2.St} {H : Hp} {ta tb te tl : TE} {D : Ends} {tr : TA}
theorem s_in {i : Nat} (k : te σ H fun x H1 => D.nx (σ.set i (some x)) H1) : tAsg te (gName i) D σ H := k
theorem el_catVL {a : Addr} {xs zs : List V} (ha : Ev ta σ H (.ref a)) (h2 : H a = some (.lst xs)) (hb : EvL tb σ H zs) (hz : xs.length + zs.length ≤ 100000) : EvL (tOp rCat ta tb) σ H (xs ++ zs) := fun H1 e Q q =>
  ha H1 e _ fun H2 e2 => hb H2 (e.trans e2) _ fun p H3 _ e3 hp => ⟨a, p, xs, zs, rfl, rfl, e3 _ _ (e2 _ _ (e _ _ h2)), hp, sz_of hz, fun u hu => q u _ (fresh_back (e2.trans e3) hu) ((e2.trans e3).trans (Ex.new hu)) upd_same⟩
theorem el_catLV {a : Addr} {xs zs : List V} (hb : EvL ta σ H zs) (ha : Ev tb σ H (.ref a)) (h2 : H a = some (.lst xs)) (hz : zs.length + xs.length ≤ 100000) : EvL (tOp rCat ta tb) σ H (zs ++ xs) := fun H1 e Q q =>
  hb H1 e _ fun p H2 _ e2 hp => ha H2 (e.trans e2) _ fun H3 e3 => ⟨p, a, zs, xs, rfl, rfl, e3 _ _ hp, e3 _ _ (e2 _ _ (e _ _ h2)), sz_of hz, fun u hu => q u _ (fresh_back (e2.trans e3) hu) ((e2.trans e3).trans (Ex.new hu)) upd_same⟩
/-- [row + [i] for i in range(n)] -/
theorem longer_use {r : List Int} {a : Addr} {i1 j : Nat} {ws : List Nat} {n : Nat} {Q : VK} (hn : n ≤ 10000) (hr : r.length ≤ 100) (h : EvA tr σ H [.int (n : Int)]) (ha : H a = some (.lst (r.map V.int)))
    (hw : ∀ y, wipe ((wipe σ ws).set j (some y)) ws = wipe σ ws) (hx : ∀ y, ((wipe σ ws).set j (some y))[i1]? = some (some (.ref a))) (hj : ∀ y, ((wipe σ ws).set j (some y))[j]? = some (some y))
    (k : ∀ D H', H D = none → Ex H H' → LL H' D ((List.range n).map fun i : Nat => r ++ [(i : Int)]) → Q (.ref D) H') : tLc (iRng1 tr) (gName j) tYes (tOp rCat (tVar i1) (tLst (tCons (tVar j) tNil))) ws σ H Q := by
  refine h H (Ex.refl H) _ fun H1 e1 => ⟨_, rfl, by omega, by omega, fun D hD => ?_⟩
  have hD0 := fresh_back e1 hD
  rw [Int.toNat_natCast]
  refine lc_range (lo := 0) (n := n) (fun i H' => Ex H1 H' ∧ ∃ acc : List V, H' D = some (.lst acc) ∧ acc.length = i ∧ ∀ (t : Nat) (v : V), acc[t]? = some v → ∃ u, v = V.ref u ∧ u ≠ D ∧ H' u = some (HO.lst ((r ++ [(t : Int)]).map V.int)))
    ⟨Ex.new hD, [], upd_same, rfl, fun n v hv => by simp at hv⟩ (fun i H' hi p' => ?_) (fun H' p' => ?_)
  · obtain ⟨e, acc, ha', hl, hacc⟩ := p'
    refine ⟨hw _, ?_⟩
    unfold tYes
    dsimp only
    rw [if_pos rfl]
    have ec : (0 : Int) + (i : Int) = (i : Int) := Int.zero_add _
    show tOp rCat (tVar i1) (tLst (tCons (tVar j) tNil)) ((wipe σ ws).set j (some (.int ((0 : Int) + (i : Int))))) H' _
    rw [ec]
    refine el_use (el_catVL (a := a) (xs := r.map V.int) (zs := [V.int (i : Int)]) (ev_var (hx _)) ((e1.trans e) _ _ ha) (el_lst (ea_cons (ev_var (hj _)) ea_nil) (by show 1 ≤ 100000; decide)) (by rw [List.length_map]; show r.length + 1 ≤ 100000; omega)) fun u H2 hu e2 ku => ?_
    have uD : u ≠ D := fun z => by rw [z, ha'] at hu; cases hu
    refine ⟨acc, e2 _ _ ha', sz_lt (by omega), Ex.mut (e.trans e2) hD, acc ++ [.ref u], upd_same, by rw [List.length_append, hl]; rfl, fun t v hv => ?_⟩
    by_cases hn : t < acc.length
    · rw [List.getElem?_append_left hn] at hv
      obtain ⟨z, rfl, hz1, hz3⟩ := hacc t v hv
      exact ⟨z, rfl, hz1, by rw [upd_ne hz1]; exact e2 _ _ hz3⟩
    · rw [List.getElem?_append_right (by omega)] at hv
      cases hd : t - acc.length with
      | zero =>
        rw [hd] at hv
        cases hv
        have : t = i := by omega
        subst this
        exact ⟨u, rfl, uD, by rw [upd_ne uD, List.map_append]; exact ku⟩
      | succ m => rw [hd] at hv; simp at hv
  · obtain ⟨e, acc, ha', hl, hacc⟩ := p'
    refine k D H' hD0 (e1.trans e) ⟨acc, ha', by rw [hl, List.length_map, List.length_range], fun t s hs => ?_⟩
    rw [List.getElem?_map] at hs
    have ht : t < n := by
      by_cases c : t < n
      · exact c
      · rw [List.getElem?_eq_none (by rw [List.length_range]; omega)] at hs; cases hs
    rw [List.getElem?_range ht] at hs
    cases hs
    have hv : acc[t]? = some (acc[t]'(by omega)) := List.getElem?_eq_getElem (by omega)
    obtain ⟨u, hu, _, h3⟩ := hacc t _ hv
    exact ⟨u, by rw [hv, hu], h3⟩
/-- a comprehension over range(n) that makes lists of ints -/
theorem lists_use {f : Nat → List Int} {j : Nat} {ws : List Nat} {n : Nat} {Q : VK} (hn : n ≤ 40000) (h : EvA tr σ H [.int (n : Int)])
    (hw : ∀ y, wipe ((wipe σ ws).set j (some y)) ws = wipe σ ws) (he : ∀ (i : Nat) H1, Ex H H1 → i < n → EvL te ((wipe σ ws).set j (some (.int (i : Int)))) H1 ((f i).map V.int))
    (k : ∀ D H', H D = none → Ex H H' → LL H' D ((List.range n).map f) → Q (.ref D) H') : tLc (iRng1 tr) (gName j) tYes te ws σ H Q := by
  refine h H (Ex.refl H) _ fun H1 e1 => ⟨_, rfl, by omega, by omega, fun D hD => ?_⟩
  have hD0 := fresh_back e1 hD
  rw [Int.toNat_natCast]
  refine lc_range (lo := 0) (n := n) (fun i H' => Ex H1 H' ∧ ∃ acc : List V, H' D = some (.lst acc) ∧ acc.length = i ∧ ∀ (t : Nat) (v : V), acc[t]? = some v → ∃ u, v = V.ref u ∧ u ≠ D ∧ H' u = some (HO.lst ((f t).map V.int)))
    ⟨Ex.new hD, [], upd_same, rfl, fun n v hv => by simp at hv⟩ (fun i H' hi p' => ?_) (fun H' p' => ?_)
  · obtain ⟨e, acc, ha', hl, hacc⟩ := p'
    refine ⟨hw _, ?_⟩
    unfold tYes
    dsimp only
    rw [if_pos rfl]
    have ec : (0 : Int) + (i : Int) = (i : Int) := Int.zero_add _
    show te ((wipe σ ws).set j (some (.int ((0 : Int) + (i : Int))))) H' _
    rw [ec]
    refine el_use (he i H' (e1.trans e) hi) fun u H2 hu e2 ku => ?_
    have uD : u ≠ D := fun z => by rw [z, ha'] at hu; cases hu
    refine ⟨acc, e2 _ _ ha', sz_lt (by omega), Ex.mut (e.trans e2) hD, acc ++ [.ref u], upd_same, by rw [List.length_append, hl]; rfl, fun t v hv => ?_⟩
    by_cases hn : t < acc.length
    · rw [List.getElem?_append_left hn] at hv
      obtain ⟨z, rfl, hz1, hz3⟩ := hacc t v hv
      exact ⟨z, rfl, hz1, by rw [upd_ne hz1]; exact e2 _ _ hz3⟩
    · rw [List.getElem?_append_right (by omega)] at hv
      cases hd : t - acc.length with
      | zero =>
        rw [hd] at hv
        cases hv
        have : t = i := by omega
        subst this
        exact ⟨u, rfl, uD, by rw [upd_ne uD]; exact ku⟩
      | succ m => rw [hd] at hv; simp at hv
  · obtain ⟨e, acc, ha', hl, hacc⟩ := p'
    refine k D H' hD0 (e1.trans e) ⟨acc, ha', by rw [hl, List.length_map, List.length_range], fun t s hs => ?_⟩
    rw [List.getElem?_map] at hs
    have ht : t < n := by
      by_cases c : t < n
      · exact c
      · rw [List.getElem?_eq_none (by rw [List.length_range]; omega)] at hs; cases hs
    rw [List.getElem?_range ht] at hs
    cases hs
    have hv : acc[t]? = some (acc[t]'(by omega)) := List.getElem?_eq_getElem (by omega)
    obtain ⟨u, hu, _, h3⟩ := hacc t _ hv
    exact ⟨u, by rw [hv, hu], h3⟩
/-- [f(r) for r in rows if t(r)] -/
theorem el_mapLLt {rs : List (List Int)} {p : Addr} {j : Nat} {vs : List Nat} {t : TT} (b : List Int → Bool) (f : List Int → V) (h : Ev tl σ H (.ref p)) (hp : LL H p rs) (hz : rs.length ≤ 40000) (hw : ∀ x, wipe ((wipe σ vs).set j (some x)) vs = wipe σ vs)
    (ht : ∀ (a : Addr) (r : List Int) H1, Ex H H1 → r ∈ rs → H1 a = some (.lst (r.map V.int)) → EvT t ((wipe σ vs).set j (some (.ref a))) H1 (b r))
    (he : ∀ (a : Addr) (r : List Int) H1, Ex H H1 → r ∈ rs → H1 a = some (.lst (r.map V.int)) → b r = true → Ev te ((wipe σ vs).set j (some (.ref a))) H1 (f r)) : EvL (tLc (iList K tl) (gName j) t te vs) σ H ((rs.filter b).map f) := by
  obtain ⟨as, h1, h2⟩ := hp
  have e : ∀ l : List (List Int), given l.length (fun i => b (l.getD i [])) (fun i => f (l.getD i [])) = (l.filter b).map f := by
    intro l
    unfold given
    show List.map (f ∘ fun i => l.getD i []) _ = _
    rw [← List.map_map]
    congr 1
    have m : (List.range l.length).map (fun i => l.getD i []) = l := by
      apply List.ext_getElem?
      intro i
      rw [List.getElem?_map]
      by_cases c : i < l.length
      · rw [List.getElem?_range c, List.getElem?_eq_getElem c]
        simp [c]
      · rw [List.getElem?_eq_none (by rw [List.length_range]; omega), List.getElem?_eq_none (by omega)]
        rfl
    conv => rhs; rw [← m]
    rw [List.filter_map]
    rfl
  rw [← e rs, ← h2.1]
  refine el_lcL (fun i => b (rs.getD i [])) (fun i => f (rs.getD i [])) h (sq_of h1) (by rw [h2.1]; exact hz) hw (fun i x H1 ex hx => ?_) (fun i x H1 ex hx hb => ?_)
  · obtain ⟨a, r, rfl, hr, ha⟩ := h2.get hx
    rw [List.getD_eq_getElem?_getD, hr]
    exact ht a r H1 ex (List.mem_of_getElem? hr) (ex _ _ ha)
  · obtain ⟨a, r, rfl, hr, ha⟩ := h2.get hx
    rw [List.getD_eq_getElem?_getD, hr] at hb ⊢
    exact he a r H1 ex (List.mem_of_getElem? hr) (ex _ _ ha) hb
theorem el_mapLL {rs : List (List Int)} {p : Addr} {j : Nat} {vs : List Nat} (f : List Int → V) (h : Ev tl σ H (.ref p)) (hp : LL H p rs) (hz : rs.length ≤ 40000) (hw : ∀ x, wipe ((wipe σ vs).set j (some x)) vs = wipe σ vs)
    (he : ∀ (a : Addr) (r : List Int) H1, Ex H H1 → r ∈ rs → H1 a = some (.lst (r.map V.int)) → Ev te ((wipe σ vs).set j (some (.ref a))) H1 (f r)) : EvL (tLc (iList K tl) (gName j) tYes te vs) σ H (rs.map f) := by
  have k := el_mapLLt (K := K) (t := tYes) (fun _ => true) f h hp hz hw (fun a r H1 _ _ _ => fun H2 _ Q q => q H2 (Ex.refl H2)) (fun a r H1 e hr ha _ => he a r H1 e hr ha)
  rw [List.filter_eq_self.mpr (fun _ _ => rfl)] at k
  exact k
theorem Lv.nil : Lv H [] [] := ⟨rfl, fun i r hr => by cases hr⟩
theorem top_in2 {r : R2} {Q : VK} (k : ta σ H fun x H1 => tb σ H1 fun y H2 => r x y H2 Q) : tOp r ta tb σ H Q := k
theorem cut_nat {xs : List Int} {lo hi : Nat} (h : hi ≤ xs.length) : cutV (xs.map V.int) (some (lo : Int)) (some (hi : Int)) = ((xs.drop lo).take (hi - lo)).map V.int := by
  unfold cutV
  rw [HT.sIx_nat, HT.sIx_nat, List.length_map, Nat.min_eq_left h, List.map_take, List.map_drop]
  by_cases c : lo ≤ xs.length
  · rw [Nat.min_eq_left c]
  · rw [Nat.min_eq_right (by omega), List.drop_of_length_le (by rw [List.length_map]; omega), List.drop_of_length_le (by rw [List.length_map]; omega), List.take_nil, List.take_nil]
end
end WS

set_option Elab.async false
set_option linter.all false
set_option maxRecDepth 100000
set_option maxHeartbeats 2000000
namespace WS
open PySem PySem.Spec PyProof.Rows L2 Evl
theorem fmod_in (a b : Int) (h : 0 < b) : 0 ≤ a.fmod b ∧ a.fmod b < b := by
  rw [Int.fmod_eq_emod_of_nonneg a (by omega)]
  exact ⟨Int.emod_nonneg a (by omega), Int.emod_lt_of_pos a h⟩
/-- a generator at g, of which so many numbers at most were drawn by counting -/
def Gs (H : Hp) (g : Addr) (C : Nat) : Prop := ∃ A B c : Int, H g = some (.lst [.int A, .int B, .int c]) ∧ 0 ≤ A ∧ (0 ≤ B ∧ B < 2147483648) ∧ 0 ≤ c ∧ c ≤ C
theorem Gs.ex {H H' : Hp} {g : Addr} {C : Nat} (h : Gs H g C) (e : Ex H H') : Gs H' g C := by
  obtain ⟨A, B, c, h1, h2⟩ := h
  exact ⟨A, B, c, e _ _ h1, h2⟩
theorem Gs.mono {H : Hp} {g : Addr} {C C' : Nat} (h : Gs H g C) (e : C ≤ C') : Gs H g C' := by
  obtain ⟨A, B, c, h1, h2, h3, h4, h5⟩ := h
  exact ⟨A, B, c, h1, h2, h3, h4, by omega⟩
theorem Gs.some {H : Hp} {g : Addr} {C : Nat} (h : Gs H g C) : ∃ o, H g = some o := by
  obtain ⟨A, B, c, h1, _⟩ := h
  exact ⟨_, h1⟩
theorem Gs.upd {H : Hp} {g p : Addr} {C : Nat} {o : HO} (h : Gs H g C) (n : g ≠ p) : Gs (upd H p o) g C := by
  obtain ⟨A, B, c, h1, h2⟩ := h
  exact ⟨A, B, c, by rw [upd_ne n]; exact h1, h2⟩
theorem ints_use {σ : L2.St} {H : Hp} {ta : TA} {te : TE} {j : Nat} {ws : List Nat} {n : Nat} {g : Addr} {C d : Nat} {Q : VK} (P : Int → Prop) (h : EvA ta σ H [.int (n : Int)]) (hn : n ≤ 100) (hw : ∀ x, wipe ((wipe σ ws).set j (some x)) ws = wipe σ ws) (hg : Gs H g C)
    (step : ∀ (i : Nat) H' (R : VK), i < n → Gs H' g (C + d * i) → ExB g H H' → (∀ z H2, P z → Gs H2 g (C + d * i + d) → ExB g H' H2 → R (.int z) H2) → te ((wipe σ ws).set j (some (.int (i : Int)))) H' R)
    (k : ∀ (D : Addr) (H' : Hp) (zs : List Int), H D = none → zs.length = n → (∀ z ∈ zs, P z) → H' D = Option.some (HO.lst (zs.map V.int)) → Gs H' g (C + d * n) → ExB g H H' → Q (.ref D) H') : tLc (iRng1 ta) (gName j) tYes te ws σ H Q := by
  obtain ⟨og, hog⟩ := hg.some
  refine h H (Ex.refl H) _ fun H1 e1 => ⟨(n : Int), rfl, by omega, by omega, fun D hD => ?_⟩
  have hD0 := fresh_back e1 hD
  have gD : g ≠ D := fun z => by rw [z, hD0] at hog; cases hog
  rw [Int.toNat_natCast]
  refine lc_range (lo := 0) (n := n) (fun i H' => ∃ zs : List Int, zs.length = i ∧ (∀ z ∈ zs, P z) ∧ H' D = Option.some (HO.lst (zs.map V.int)) ∧ Gs H' g (C + d * i) ∧ ExB g H H') ⟨[], rfl, fun z hz => absurd hz List.not_mem_nil, upd_same, (hg.ex e1).upd gD, fun b o hb hh => by rw [upd_ne (ne_of_none hh hD0)]; exact e1 _ _ hh⟩ (fun i H' hi p => ?_) (fun H' p => ?_)
  · obtain ⟨zs, hl, hz, hL, hG, hE⟩ := p
    rw [Int.zero_add]
    refine ⟨hw _, step i H' _ hi hG hE fun z H2 pz hG2 hE2 => ⟨zs.map V.int, hE2 D _ (Ne.symm gD) hL, sz_lt (by rw [List.length_map]; omega), zs ++ [z], by rw [List.length_append, hl]; rfl, fun y hy => ?_, ?_, ?_, ?_⟩⟩
    · rcases List.mem_append.mp hy with h | h
      · exact hz y h
      · rw [List.mem_singleton] at h
        rw [h]
        exact pz
    · show _ = _
      rw [upd_same, List.map_append]
      rfl
    · rw [Nat.mul_add, Nat.mul_one, ← Nat.add_assoc]
      exact hG2.upd gD
    · exact fun b o hb hh => by rw [upd_ne (ne_of_none hh hD0)]; exact (hE.trans hE2) b o hb hh
  · obtain ⟨zs, hl, hz, hL, hG, hE⟩ := p
    exact k D H' zs hD0 hl hz hL hG hE
theorem ints_body {σ : L2.St} {H : Hp} {te : TE} {j : Nat} {ws : List Nat} {n : Nat} {g : Addr} {C d : Nat} {Q : VK} (P : Int → Prop) (hn : n ≤ 100) (hw : ∀ x, wipe ((wipe σ ws).set j (some x)) ws = wipe σ ws) (hg : Gs H g C)
    (step : ∀ (i : Nat) H' (R : VK), i < n → Gs H' g (C + d * i) → ExB g H H' → (∀ z H2, P z → Gs H2 g (C + d * i + d) → ExB g H' H2 → R (.int z) H2) → te ((wipe σ ws).set j (some (.int (i : Int)))) H' R)
    (k : ∀ (D : Addr) (H' : Hp) (zs : List Int), H D = none → zs.length = n → (∀ z ∈ zs, P z) → H' D = Option.some (HO.lst (zs.map V.int)) → Gs H' g (C + d * n) → ExB g H H' → Q (.ref D) H') : LcB (Itr 0 n) (gName j) tYes te ws σ H Q := by
  obtain ⟨og, hog⟩ := hg.some
  have e1 := Ex.refl H
  intro D hD
  have hD0 := fresh_back e1 hD
  have gD : g ≠ D := fun z => by rw [z, hD0] at hog; cases hog
  refine lc_range (lo := 0) (n := n) (fun i H' => ∃ zs : List Int, zs.length = i ∧ (∀ z ∈ zs, P z) ∧ H' D = Option.some (HO.lst (zs.map V.int)) ∧ Gs H' g (C + d * i) ∧ ExB g H H') ⟨[], rfl, fun z hz => absurd hz List.not_mem_nil, upd_same, (hg.ex e1).upd gD, fun b o hb hh => by rw [upd_ne (ne_of_none hh hD0)]; exact e1 _ _ hh⟩ (fun i H' hi p => ?_) (fun H' p => ?_)
  · obtain ⟨zs, hl, hz, hL, hG, hE⟩ := p
    rw [Int.zero_add]
    refine ⟨hw _, step i H' _ hi hG hE fun z H2 pz hG2 hE2 => ⟨zs.map V.int, hE2 D _ (Ne.symm gD) hL, sz_lt (by rw [List.length_map]; omega), zs ++ [z], by rw [List.length_append, hl]; rfl, fun y hy => ?_, ?_, ?_, ?_⟩⟩
    · rcases List.mem_append.mp hy with h | h
      · exact hz y h
      · rw [List.mem_singleton] at h
        rw [h]
        exact pz
    · show _ = _
      rw [upd_same, List.map_append]
      rfl
    · rw [Nat.mul_add, Nat.mul_one, ← Nat.add_assoc]
      exact hG2.upd gD
    · exact fun b o hb hh => by rw [upd_ne (ne_of_none hh hD0)]; exact (hE.trans hE2) b o hb hh
  · obtain ⟨zs, hl, hz, hL, hG, hE⟩ := p
    exact k D H' zs hD0 hl hz hL hG hE
end WS

set_option Elab.async false
set_option linter.all false
set_option maxRecDepth 100000
set_option maxHeartbeats 2000000
namespace K50
open PySem PySem.Spec PyProof.Rows L2 Evl WS
def topS (i : Nat) : Stmt := PySem.Challenge.pw_wholesound_k50_rows_of_each_size.main.body.getD i (.Pass ⟨0, 0, 0, 0⟩)
theorem un1 {k : Nat} {A : Around} (r : Room k A) : A.units + 1 < cLine := by have := r.un; omega
abbrev s_is_number : Stmt := topS 11
theorem sc_is_number : FnScope ["value"] ["value"] (defScope s_is_number) := ⟨rfl, rfl, rfl, by decide +kernel, rfl, by decide +kernel, by decide +kernel⟩
abbrev s_is_within : Stmt := topS 12
theorem sc_is_within : FnScope ["value", "low", "high"] ["value", "low", "high"] (defScope s_is_within) := ⟨rfl, rfl, rfl, by decide +kernel, rfl, by decide +kernel, by decide +kernel⟩
abbrev s_check_within : Stmt := topS 13
theorem sc_check_within : FnScope ["number", "low", "high"] ["number", "low", "high"] (defScope s_check_within) := ⟨rfl, rfl, rfl, by decide +kernel, rfl, by decide +kernel, by decide +kernel⟩
abbrev s_check_from : Stmt := topS 14
theorem sc_check_from : FnScope ["number", "low"] ["number", "low"] (defScope s_check_from) := ⟨rfl, rfl, rfl, by decide +kernel, rfl, by decide +kernel, by decide +kernel⟩
abbrev s_check_count : Stmt := topS 15
theorem sc_check_count : FnScope ["number"] ["number"] (defScope s_check_count) := ⟨rfl, rfl, rfl, by decide +kernel, rfl, by decide +kernel, by decide +kernel⟩
abbrev s_check_depth : Stmt := topS 16
theorem sc_check_depth : FnScope ["depth", "most"] ["depth", "most"] (defScope s_check_depth) := ⟨rfl, rfl, rfl, by decide +kernel, rfl, by decide +kernel, by decide +kernel⟩
abbrev s_least_sample : Stmt := topS 18
theorem sc_least_sample : FnScope ["depth"] ["depth"] (defScope s_least_sample) := ⟨rfl, rfl, rfl, by decide +kernel, rfl, by decide +kernel, by decide +kernel⟩
abbrev s_greatest_sample : Stmt := topS 19
theorem sc_greatest_sample : FnScope ["depth"] ["depth"] (defScope s_greatest_sample) := ⟨rfl, rfl, rfl, by decide +kernel, rfl, by decide +kernel, by decide +kernel⟩
abbrev s_wrapped : Stmt := topS 20
theorem sc_wrapped : FnScope ["number", "depth", "half"] ["number", "depth"] (defScope s_wrapped) := ⟨rfl, rfl, rfl, by decide +kernel, rfl, by decide +kernel, by decide +kernel⟩
abbrev s_is_samples : Stmt := topS 21
theorem sc_is_samples : FnScope ["value", "depth", "low", "high", "sample"] ["value", "depth"] (defScope s_is_samples) := ⟨rfl, rfl, rfl, by decide +kernel, rfl, by decide +kernel, by decide +kernel⟩
abbrev s_Guesser___init__ : Stmt := inClass (topS 27) 0
theorem sc_Guesser___init__ : FnScope ["self", "weights", "shift", "weight"] ["self", "weights", "shift"] (defScope s_Guesser___init__) := ⟨rfl, rfl, rfl, by decide +kernel, rfl, by decide +kernel, by decide +kernel⟩
abbrev s_Guesser_weights : Stmt := inClass (topS 27) 1
theorem sc_Guesser_weights : FnScope ["self"] ["self"] (defScope s_Guesser_weights) := ⟨rfl, rfl, rfl, by decide +kernel, rfl, by decide +kernel, by decide +kernel⟩
abbrev s_Guesser_shift : Stmt := inClass (topS 27) 2
theorem sc_Guesser_shift : FnScope ["self"] ["self"] (defScope s_Guesser_shift) := ⟨rfl, rfl, rfl, by decide +kernel, rfl, by decide +kernel, by decide +kernel⟩
abbrev s_Guesser_order : Stmt := inClass (topS 27) 3
theorem sc_Guesser_order : FnScope ["self"] ["self"] (defScope s_Guesser_order) := ⟨rfl, rfl, rfl, by decide +kernel, rfl, by decide +kernel, by decide +kernel⟩
abbrev s_Guesser___eq__ : Stmt := inClass (topS 27) 4
theorem sc_Guesser___eq__ : FnScope ["self", "other"] ["self", "other"] (defScope s_Guesser___eq__) := ⟨rfl, rfl, rfl, by decide +kernel, rfl, by decide +kernel, by decide +kernel⟩
abbrev s_check_guesser : Stmt := topS 28
theorem sc_check_guesser : FnScope ["guesser"] ["guesser"] (defScope s_check_guesser) := ⟨rfl, rfl, rfl, by decide +kernel, rfl, by decide +kernel, by decide +kernel⟩
abbrev s_check_samples : Stmt := topS 29
theorem sc_check_samples : FnScope ["row", "depth"] ["row", "depth"] (defScope s_check_samples) := ⟨rfl, rfl, rfl, by decide +kernel, rfl, by decide +kernel, by decide +kernel⟩
abbrev s_weighed : Stmt := topS 30
theorem sc_weighed : FnScope ["weights", "row", "at", "total", "ahead", "weight"] ["weights", "row", "at"] (defScope s_weighed) := ⟨rfl, rfl, rfl, by decide +kernel, rfl, by decide +kernel, by decide +kernel⟩
abbrev s_unwrapped_rests : Stmt := topS 31
theorem sc_unwrapped_rests : FnScope ["guesser", "row", "weights", "shift", "order", "behind", "at"] ["guesser", "row"] (defScope s_unwrapped_rests) := ⟨rfl, rfl, rfl, by decide +kernel, rfl, by decide +kernel, by decide +kernel⟩
abbrev s_rests : Stmt := topS 32
theorem sc_rests : FnScope ["guesser", "depth", "row", "rest"] ["guesser", "depth", "row"] (defScope s_rests) := ⟨rfl, rfl, rfl, by decide +kernel, rfl, by decide +kernel, by decide +kernel⟩
abbrev s_lists_with_sum : Stmt := topS 35
theorem sc_lists_with_sum : FnScope ["many", "below", "total", "found", "over", "lists"] ["many", "below", "total"] (defScope s_lists_with_sum) := ⟨rfl, rfl, rfl, by decide +kernel, rfl, by decide +kernel, by decide +kernel⟩
abbrev s_check_told_at : Stmt := topS 38
theorem sc_check_told_at : FnScope ["depth", "width"] ["depth", "width"] (defScope s_check_told_at) := ⟨rfl, rfl, rfl, by decide +kernel, rfl, by decide +kernel, by decide +kernel⟩
abbrev s_rows_of_size : Stmt := topS 39
theorem sc_rows_of_size : FnScope ["depth", "width", "many", "size", "signs"] ["depth", "width", "many", "size"] (defScope s_rows_of_size) := ⟨rfl, rfl, rfl, by decide +kernel, rfl, by decide +kernel, by decide +kernel⟩
abbrev s_how_many : Stmt := topS 40
theorem sc_how_many : FnScope ["depth", "width", "many", "size"] ["depth", "width", "many", "size"] (defScope s_how_many) := ⟨rfl, rfl, rfl, by decide +kernel, rfl, by decide +kernel, by decide +kernel⟩
abbrev s_size_bounds : Stmt := topS 41
theorem sc_size_bounds : FnScope ["depth", "width", "many", "greatest"] ["depth", "width", "many"] (defScope s_size_bounds) := ⟨rfl, rfl, rfl, by decide +kernel, rfl, by decide +kernel, by decide +kernel⟩
abbrev s__law_cell : Stmt := topS 43
theorem sc__law_cell : FnScope ["_law_script", "_law_index"] ["_law_script", "_law_index"] (defScope s__law_cell) := ⟨rfl, rfl, rfl, by decide +kernel, rfl, by decide +kernel, by decide +kernel⟩
abbrev s__law_hash : Stmt := topS 44
theorem sc__law_hash : FnScope ["_law_seed", "_law_index", "_law_mixed"] ["_law_seed", "_law_index"] (defScope s__law_hash) := ⟨rfl, rfl, rfl, by decide +kernel, rfl, by decide +kernel, by decide +kernel⟩
abbrev s__law_generator : Stmt := topS 45
theorem sc__law_generator : FnScope ["_law_script", "_law_index", "_law_seed"] ["_law_script", "_law_index"] (defScope s__law_generator) := ⟨rfl, rfl, rfl, by decide +kernel, rfl, by decide +kernel, by decide +kernel⟩
abbrev s__law_random : Stmt := topS 46
theorem sc__law_random : FnScope ["_law_generator_here", "_law_bound", "_law_drawn", "_law_turn"] ["_law_generator_here", "_law_bound"] (defScope s__law_random) := ⟨rfl, rfl, rfl, by decide +kernel, rfl, by decide +kernel, by decide +kernel⟩
abbrev s__law_folded : Stmt := topS 47
theorem sc__law_folded : FnScope ["_law_number"] ["_law_number"] (defScope s__law_folded) := ⟨rfl, rfl, rfl, by decide +kernel, rfl, by decide +kernel, by decide +kernel⟩
abbrev s__law_weights : Stmt := topS 48
theorem sc__law_weights : FnScope ["_law_generator_here", "_law_many", "_law_found", "_law_number", "_law_great", "_law_kind"] ["_law_generator_here", "_law_many"] (defScope s__law_weights) := ⟨rfl, rfl, rfl, by decide +kernel, rfl, by decide +kernel, by decide +kernel⟩
abbrev s__law_all_rows : Stmt := topS 49
theorem sc__law_all_rows : FnScope ["_law_depth", "_law_many", "_law_found", "_law_place", "_law_longer", "_law_row", "_law_sample"] ["_law_depth", "_law_many"] (defScope s__law_all_rows) := ⟨rfl, rfl, rfl, by decide +kernel, rfl, by decide +kernel, by decide +kernel⟩
abbrev s__law_counted : Stmt := topS 50
theorem sc__law_counted : FnScope ["_law_guesser", "_law_depth", "_law_width", "_law_many", "_law_found", "_law_row", "_law_size", "_law_rest"] ["_law_guesser", "_law_depth", "_law_width", "_law_many"] (defScope s__law_counted) := ⟨rfl, rfl, rfl, by decide +kernel, rfl, by decide +kernel, by decide +kernel⟩
abbrev s__law_right : Stmt := topS 51
theorem sc__law_right : FnScope ["_law_generator_here", "_law_depth", "_law_width", "_law_many", "_law_least", "_law_greatest", "_law_told", "_law_size", "_law_number", "_law_turn", "_law_guesser"] ["_law_generator_here", "_law_depth", "_law_width", "_law_many"] (defScope s__law_right) := ⟨rfl, rfl, rfl, by decide +kernel, rfl, by decide +kernel, by decide +kernel⟩
abbrev s__law_halves_right : Stmt := topS 52
theorem sc__law_halves_right : FnScope ["_law_generator_here", "_law_depth", "_law_width", "_law_one", "_law_other", "_law_size", "_law_total", "_law_least", "_law_part"] ["_law_generator_here"] (defScope s__law_halves_right) := ⟨rfl, rfl, rfl, by decide +kernel, rfl, by decide +kernel, by decide +kernel⟩
abbrev s_law : Stmt := topS 53
theorem sc_law : FnScope ["_law_script", "_law_index", "_law_generator_here", "_law_depth", "_law_width"] ["_law_script"] (defScope s_law) := ⟨rfl, rfl, rfl, by decide +kernel, rfl, by decide +kernel, by decide +kernel⟩
structure Tx (K : PySem.W.Frag) (mg : Str → Option Value) where
  C_Guesser : Addr
  cl_Guesser : Cls K C_Guesser
  gC_Guesser : mg "Guesser" = some (.ref C_Guesser)
  is_Guesser : PySem.W.findIn K (.ref C_Guesser) "__class__" = some (some (.builtin "object.__class__")) ∧ PySem.W.specialIn K (.builtin "object.__class__") "__get__" = some (some (.builtin "getset_descriptor.__get__")) ∧ PySem.W.takesIn K (.builtin "object.__class__") = some true ∧ PySem.W.mroIn K C_Guesser (.type "object") = some true
  n_Guesser__weights : NoAttr K C_Guesser "_weights"
  n_Guesser__shift : NoAttr K C_Guesser "_shift"
  a_is_number : Addr
  d_is_number : FuncData
  f_is_number : Fun K "is_number" "is_number" s_is_number a_is_number d_is_number
  b_is_number : Binds K d_is_number ["value"] []
  g_is_number : mg "is_number" = some (.ref a_is_number)
  a_is_within : Addr
  d_is_within : FuncData
  f_is_within : Fun K "is_within" "is_within" s_is_within a_is_within d_is_within
  b_is_within : Binds K d_is_within ["value", "low", "high"] []
  g_is_within : mg "is_within" = some (.ref a_is_within)
  a_check_within : Addr
  d_check_within : FuncData
  f_check_within : Fun K "check_within" "check_within" s_check_within a_check_within d_check_within
  b_check_within : Binds K d_check_within ["number", "low", "high"] []
  g_check_within : mg "check_within" = some (.ref a_check_within)
  a_check_from : Addr
  d_check_from : FuncData
  f_check_from : Fun K "check_from" "check_from" s_check_from a_check_from d_check_from
  b_check_from : Binds K d_check_from ["number", "low"] []
  g_check_from : mg "check_from" = some (.ref a_check_from)
  a_check_count : Addr
  d_check_count : FuncData
  f_check_count : Fun K "check_count" "check_count" s_check_count a_check_count d_check_count
  b_check_count : Binds K d_check_count ["number"] []
  g_check_count : mg "check_count" = some (.ref a_check_count)
  a_check_depth : Addr
  d_check_depth : FuncData
  f_check_depth : Fun K "check_depth" "check_depth" s_check_depth a_check_depth d_check_depth
  b_check_depth : Binds K d_check_depth ["depth", "most"] []
  g_check_depth : mg "check_depth" = some (.ref a_check_depth)
  a_least_sample : Addr
  d_least_sample : FuncData
  f_least_sample : Fun K "least_sample" "least_sample" s_least_sample a_least_sample d_least_sample
  b_least_sample : Binds K d_least_sample ["depth"] []
  g_least_sample : mg "least_sample" = some (.ref a_least_sample)
  a_greatest_sample : Addr
  d_greatest_sample : FuncData
  f_greatest_sample : Fun K "greatest_sample" "greatest_sample" s_greatest_sample a_greatest_sample d_greatest_sample
  b_greatest_sample : Binds K d_greatest_sample ["depth"] []
  g_greatest_sample : mg "greatest_sample" = some (.ref a_greatest_sample)
  a_wrapped : Addr
  d_wrapped : FuncData
  f_wrapped : Fun K "wrapped" "wrapped" s_wrapped a_wrapped d_wrapped
  b_wrapped : Binds K d_wrapped ["number", "depth"] []
  g_wrapped : mg "wrapped" = some (.ref a_wrapped)
  a_is_samples : Addr
  d_is_samples : FuncData
  f_is_samples : Fun K "is_samples" "is_samples" s_is_samples a_is_samples d_is_samples
  b_is_samples : Binds K d_is_samples ["value", "depth"] []
  g_is_samples : mg "is_samples" = some (.ref a_is_samples)
  a_Guesser___init__ : Addr
  d_Guesser___init__ : FuncData
  f_Guesser___init__ : Fun K "__init__" "Guesser.__init__" s_Guesser___init__ a_Guesser___init__ d_Guesser___init__
  b_Guesser___init__ : Binds K d_Guesser___init__ ["self", "weights", "shift"] []
  mk_Guesser : Mk K C_Guesser a_Guesser___init__
  a_Guesser_weights : Addr
  d_Guesser_weights : FuncData
  f_Guesser_weights : Fun K "weights" "Guesser.weights" s_Guesser_weights a_Guesser_weights d_Guesser_weights
  b_Guesser_weights : Binds K d_Guesser_weights ["self"] []
  me_Guesser_weights : Meth K C_Guesser "weights" a_Guesser_weights
  a_Guesser_shift : Addr
  d_Guesser_shift : FuncData
  f_Guesser_shift : Fun K "shift" "Guesser.shift" s_Guesser_shift a_Guesser_shift d_Guesser_shift
  b_Guesser_shift : Binds K d_Guesser_shift ["self"] []
  me_Guesser_shift : Meth K C_Guesser "shift" a_Guesser_shift
  a_Guesser_order : Addr
  d_Guesser_order : FuncData
  f_Guesser_order : Fun K "order" "Guesser.order" s_Guesser_order a_Guesser_order d_Guesser_order
  b_Guesser_order : Binds K d_Guesser_order ["self"] []
  me_Guesser_order : Meth K C_Guesser "order" a_Guesser_order
  a_Guesser___eq__ : Addr
  d_Guesser___eq__ : FuncData
  f_Guesser___eq__ : Fun K "__eq__" "Guesser.__eq__" s_Guesser___eq__ a_Guesser___eq__ d_Guesser___eq__
  b_Guesser___eq__ : Binds K d_Guesser___eq__ ["self", "other"] []
  q_Guesser : PySem.W.findIn K (.ref C_Guesser) "__eq__" = some (some (.ref a_Guesser___eq__)) ∧ PySem.W.isFn K (.ref a_Guesser___eq__) = true
  a_check_guesser : Addr
  d_check_guesser : FuncData
  f_check_guesser : Fun K "check_guesser" "check_guesser" s_check_guesser a_check_guesser d_check_guesser
  b_check_guesser : Binds K d_check_guesser ["guesser"] []
  g_check_guesser : mg "check_guesser" = some (.ref a_check_guesser)
  a_check_samples : Addr
  d_check_samples : FuncData
  f_check_samples : Fun K "check_samples" "check_samples" s_check_samples a_check_samples d_check_samples
  b_check_samples : Binds K d_check_samples ["row", "depth"] []
  g_check_samples : mg "check_samples" = some (.ref a_check_samples)
  a_weighed : Addr
  d_weighed : FuncData
  f_weighed : Fun K "weighed" "weighed" s_weighed a_weighed d_weighed
  b_weighed : Binds K d_weighed ["weights", "row", "at"] []
  g_weighed : mg "weighed" = some (.ref a_weighed)
  a_unwrapped_rests : Addr
  d_unwrapped_rests : FuncData
  f_unwrapped_rests : Fun K "unwrapped_rests" "unwrapped_rests" s_unwrapped_rests a_unwrapped_rests d_unwrapped_rests
  b_unwrapped_rests : Binds K d_unwrapped_rests ["guesser", "row"] []
  g_unwrapped_rests : mg "unwrapped_rests" = some (.ref a_unwrapped_rests)
  a_rests : Addr
  d_rests : FuncData
  f_rests : Fun K "rests" "rests" s_rests a_rests d_rests
  b_rests : Binds K d_rests ["guesser", "depth", "row"] []
  g_rests : mg "rests" = some (.ref a_rests)
  a_lists_with_sum : Addr
  d_lists_with_sum : FuncData
  f_lists_with_sum : Fun K "lists_with_sum" "lists_with_sum" s_lists_with_sum a_lists_with_sum d_lists_with_sum
  b_lists_with_sum : Binds K d_lists_with_sum ["many", "below", "total"] []
  g_lists_with_sum : mg "lists_with_sum" = some (.ref a_lists_with_sum)
  a_check_told_at : Addr
  d_check_told_at : FuncData
  f_check_told_at : Fun K "check_told_at" "check_told_at" s_check_told_at a_check_told_at d_check_told_at
  b_check_told_at : Binds K d_check_told_at ["depth", "width"] []
  g_check_told_at : mg "check_told_at" = some (.ref a_check_told_at)
  a_rows_of_size : Addr
  d_rows_of_size : FuncData
  f_rows_of_size : Fun K "rows_of_size" "rows_of_size" s_rows_of_size a_rows_of_size d_rows_of_size
  b_rows_of_size : Binds K d_rows_of_size ["depth", "width", "many", "size"] []
  g_rows_of_size : mg "rows_of_size" = some (.ref a_rows_of_size)
  a_how_many : Addr
  d_how_many : FuncData
  f_how_many : Fun K "how_many" "how_many" s_how_many a_how_many d_how_many
  b_how_many : Binds K d_how_many ["depth", "width", "many", "size"] []
  g_how_many : mg "how_many" = some (.ref a_how_many)
  a_size_bounds : Addr
  d_size_bounds : FuncData
  f_size_bounds : Fun K "size_bounds" "size_bounds" s_size_bounds a_size_bounds d_size_bounds
  b_size_bounds : Binds K d_size_bounds ["depth", "width", "many"] []
  g_size_bounds : mg "size_bounds" = some (.ref a_size_bounds)
  a__law_cell : Addr
  d__law_cell : FuncData
  f__law_cell : Fun K "_law_cell" "_law_cell" s__law_cell a__law_cell d__law_cell
  b__law_cell : Binds K d__law_cell ["_law_script", "_law_index"] []
  g__law_cell : mg "_law_cell" = some (.ref a__law_cell)
  a__law_hash : Addr
  d__law_hash : FuncData
  f__law_hash : Fun K "_law_hash" "_law_hash" s__law_hash a__law_hash d__law_hash
  b__law_hash : Binds K d__law_hash ["_law_seed", "_law_index"] []
  g__law_hash : mg "_law_hash" = some (.ref a__law_hash)
  a__law_generator : Addr
  d__law_generator : FuncData
  f__law_generator : Fun K "_law_generator" "_law_generator" s__law_generator a__law_generator d__law_generator
  b__law_generator : Binds K d__law_generator ["_law_script", "_law_index"] []
  g__law_generator : mg "_law_generator" = some (.ref a__law_generator)
  a__law_random : Addr
  d__law_random : FuncData
  f__law_random : Fun K "_law_random" "_law_random" s__law_random a__law_random d__law_random
  b__law_random : Binds K d__law_random ["_law_generator_here", "_law_bound"] []
  g__law_random : mg "_law_random" = some (.ref a__law_random)
  a__law_folded : Addr
  d__law_folded : FuncData
  f__law_folded : Fun K "_law_folded" "_law_folded" s__law_folded a__law_folded d__law_folded
  b__law_folded : Binds K d__law_folded ["_law_number"] []
  g__law_folded : mg "_law_folded" = some (.ref a__law_folded)
  a__law_weights : Addr
  d__law_weights : FuncData
  f__law_weights : Fun K "_law_weights" "_law_weights" s__law_weights a__law_weights d__law_weights
  b__law_weights : Binds K d__law_weights ["_law_generator_here", "_law_many"] []
  g__law_weights : mg "_law_weights" = some (.ref a__law_weights)
  a__law_all_rows : Addr
  d__law_all_rows : FuncData
  f__law_all_rows : Fun K "_law_all_rows" "_law_all_rows" s__law_all_rows a__law_all_rows d__law_all_rows
  b__law_all_rows : Binds K d__law_all_rows ["_law_depth", "_law_many"] []
  g__law_all_rows : mg "_law_all_rows" = some (.ref a__law_all_rows)
  a__law_counted : Addr
  d__law_counted : FuncData
  f__law_counted : Fun K "_law_counted" "_law_counted" s__law_counted a__law_counted d__law_counted
  b__law_counted : Binds K d__law_counted ["_law_guesser", "_law_depth", "_law_width", "_law_many"] []
  g__law_counted : mg "_law_counted" = some (.ref a__law_counted)
  a__law_right : Addr
  d__law_right : FuncData
  f__law_right : Fun K "_law_right" "_law_right" s__law_right a__law_right d__law_right
  b__law_right : Binds K d__law_right ["_law_generator_here", "_law_depth", "_law_width", "_law_many"] []
  g__law_right : mg "_law_right" = some (.ref a__law_right)
  a__law_halves_right : Addr
  d__law_halves_right : FuncData
  f__law_halves_right : Fun K "_law_halves_right" "_law_halves_right" s__law_halves_right a__law_halves_right d__law_halves_right
  b__law_halves_right : Binds K d__law_halves_right ["_law_generator_here"] []
  g__law_halves_right : mg "_law_halves_right" = some (.ref a__law_halves_right)
  a_law : Addr
  d_law : FuncData
  f_law : Fun K "law" "law" s_law a_law d_law
  b_law : Binds K d_law ["_law_script"] []
  g_law : mg "law" = some (.ref a_law)
  t_MOST_WEIGHTS : Tok
  c_MOST_WEIGHTS : mg "MOST_WEIGHTS" = some (.int 8 t_MOST_WEIGHTS)
  t_GREATEST_WEIGHT : Tok
  c_GREATEST_WEIGHT : mg "GREATEST_WEIGHT" = some (.int 32768 t_GREATEST_WEIGHT)
  t_GREATEST_SHIFT : Tok
  c_GREATEST_SHIFT : mg "GREATEST_SHIFT" = some (.int 15 t_GREATEST_SHIFT)
  t_GREATEST_DEPTH_guessers : Tok
  c_GREATEST_DEPTH_guessers : mg "GREATEST_DEPTH_guessers" = some (.int 32 t_GREATEST_DEPTH_guessers)
  t_GREATEST_DEPTH_sounds : Tok
  c_GREATEST_DEPTH_sounds : mg "GREATEST_DEPTH_sounds" = some (.int 24 t_GREATEST_DEPTH_sounds)
  t_MOST_SAMPLES : Tok
  c_MOST_SAMPLES : mg "MOST_SAMPLES" = some (.int 200 t_MOST_SAMPLES)
  m_all : mg "all" = none
  m_bool : mg "bool" = none
  m_enumerate : mg "enumerate" = none
  m_int : mg "int" = none
  m_isinstance : mg "isinstance" = none
  m_len : mg "len" = none
  m_list : mg "list" = none
  m_max : mg "max" = none
  m_min : mg "min" = none
  m_range : mg "range" = none
  m_sum : mg "sum" = none
  mt_comb : mg "comb" = some (.builtin "math.comb")
end K50

set_option Elab.async false
set_option linter.all false
set_option maxRecDepth 100000
set_option maxHeartbeats 4000000
namespace K50
open PySem PySem.Spec PyProof.Rows L2 Evl WS M44 M50
theorem ksw : ¬ (("_shift" : Str) = "_weights") := by decide +kernel
theorem kws : ¬ (("_weights" : Str) = "_shift") := by decide +kernel
def Wb (m : Int) (n : Nat) (ws : List Int) : Prop := ws.length ≤ n ∧ ∀ x ∈ ws, -m ≤ x ∧ x ≤ m
/-- a guesser's attributes -/
def gf (d : Addr) (s : Nat) : List (Str × V) := putF "_shift" (.int (s : Int)) (putF "_weights" (.ref d) [])
theorem gf_w (d : Addr) (s : Nat) : (gf d s).lookup ("_weights" : Str) = some (.ref d) := by
  unfold gf
  rw [lookup_putF, if_neg kws, lookup_putF, if_pos rfl]
theorem gf_s (d : Addr) (s : Nat) : (gf d s).lookup ("_shift" : Str) = some (.int (s : Int)) := by
  unfold gf
  rw [lookup_putF, if_pos rfl]
theorem gf_no (d : Addr) (s : Nat) {m : Str} (h1 : ¬ m = "_shift") (h2 : ¬ m = "_weights") : (gf d s).lookup m = none := by
  unfold gf
  rw [lookup_putF, if_neg h1, lookup_putF, if_neg h2]
  all_goals rfl
/-- a list of ints at a -/
def Li (H : Hp) (a : Addr) (ns : List Int) : Prop := H a = some (.lst (ns.map V.int))
theorem Li.ex {H H' : Hp} {a : Addr} {ns : List Int} (h : Li H a ns) (e : Ex H H') : Li H' a ns := e _ _ h
theorem Li.sq {K : PySem.W.Frag} {H : Hp} {a : Addr} {ns : List Int} (h : Li H a ns) : SqL K H a (ns.map V.int) := sq_of h
/-- a guesser at p -/
structure Gu {K : PySem.W.Frag} {mg : Str → Option Value} (T : Tx K mg) (H : Hp) (p : Addr) (ws : List Int) (s : Nat) : Prop where
  ob : ∃ dx d, H p = some (.ins T.C_Guesser dx (gf d s)) ∧ Li H d ws
  wb : Wb 32768 8 ws
  sh : s ≤ 15
theorem Gu.ex {K : PySem.W.Frag} {mg : Str → Option Value} {T : Tx K mg} {H H' : Hp} {p : Addr} {ws : List Int} {s : Nat} (h : Gu T H p ws s) (e : Ex H H') : Gu T H' p ws s := by
  obtain ⟨⟨dx, d, h1, h2⟩, w, l⟩ := h
  exact ⟨⟨dx, d, e _ _ h1, h2.ex e⟩, w, l⟩
section
variable {K : PySem.W.Frag} {mg : Str → Option Value}
def sp_is_number (T : Tx K mg) : Sp := fun vs H Q _ => ∃ i, vs = [.int i] ∧ RetV (.bl true) H Q
def sp_is_within (T : Tx K mg) : Sp := fun vs H Q _ => ∃ i j k, vs = [.int i, .int j, .int k] ∧ j ≤ i ∧ i ≤ k ∧ RetV (.bl true) H Q
def sp_check_within (T : Tx K mg) : Sp := fun vs H Q _ => ∃ i j k, vs = [.int i, .int j, .int k] ∧ j ≤ i ∧ i ≤ k ∧ RetV .non H Q
def sp_check_from (T : Tx K mg) : Sp := fun vs H Q _ => ∃ i j, vs = [.int i, .int j] ∧ j ≤ i ∧ RetV .non H Q
def sp_check_count (T : Tx K mg) : Sp := fun vs H Q _ => ∃ i, vs = [.int i] ∧ 0 ≤ i ∧ RetV .non H Q
def sp_check_depth (T : Tx K mg) : Sp := fun vs H Q _ => ∃ i j, vs = [.int i, .int j] ∧ 1 ≤ i ∧ i ≤ j ∧ RetV .non H Q
def sp_least_sample (T : Tx K mg) : Sp := fun vs H Q _ => ∃ d : Nat, vs = [.int (d : Int)] ∧ 1 ≤ d ∧ d ≤ 32 ∧ RetV (.int (-(2 ^ (d - 1)))) H Q
def sp_greatest_sample (T : Tx K mg) : Sp := fun vs H Q _ => ∃ d : Nat, vs = [.int (d : Int)] ∧ 1 ≤ d ∧ d ≤ 32 ∧ RetV (.int (2 ^ (d - 1) - 1)) H Q
def sp_wrapped (T : Tx K mg) : Sp := fun vs H Q _ => ∃ z, ∃ d : Nat, vs = [.int z, .int (d : Int)] ∧ 1 ≤ d ∧ d ≤ 32 ∧ RetV (.int (wr d z)) H Q
def Smp (d : Nat) (row : List Int) : Prop := ∀ x ∈ row, -(2 ^ (d - 1)) ≤ x ∧ x ≤ 2 ^ (d - 1) - 1
def sp_is_samples (T : Tx K mg) : Sp := fun vs H Q _ => ∃ a row, ∃ d : Nat, vs = [.ref a, .int (d : Int)] ∧ 1 ≤ d ∧ d ≤ 32 ∧ Li H a row ∧ row.length ≤ 1000 ∧ Smp d row ∧ RetV (.bl true) H Q
def sp_check_samples (T : Tx K mg) : Sp := fun vs H Q _ => ∃ a row, ∃ d : Nat, vs = [.ref a, .int (d : Int)] ∧ 1 ≤ d ∧ d ≤ 32 ∧ Li H a row ∧ row.length ≤ 1000 ∧ Smp d row ∧ RetV .non H Q
def sp_Guesser___init__ (T : Tx K mg) : Sp := fun vs H Q _ => ∃ p dx a ws, ∃ s : Nat, vs = [.ref p, .ref a, .int (s : Int)] ∧ H p = some (.ins T.C_Guesser dx []) ∧ Li H a ws ∧ Wb 32768 8 ws ∧ s ≤ 15 ∧
  ∀ H', Gu T H' p ws s → (∀ b o, b ≠ p → H b = some o → H' b = some o) → Q .non H'
def sp_Guesser_weights (T : Tx K mg) : Sp := fun vs H Q _ => ∃ p ws s, vs = [.ref p] ∧ Gu T H p ws s ∧ RetL (ws.map V.int) H Q
def sp_Guesser_shift (T : Tx K mg) : Sp := fun vs H Q _ => ∃ p ws s, vs = [.ref p] ∧ Gu T H p ws s ∧ RetV (.int (s : Int)) H Q
def sp_Guesser_order (T : Tx K mg) : Sp := fun vs H Q _ => ∃ p ws s, vs = [.ref p] ∧ Gu T H p ws s ∧ RetV (.int (ws.length : Int)) H Q
def same2 (T : Tx K mg) (a b : Addr) (H : Hp) : Prop := ∃ ws s, Gu T H a ws s ∧ Gu T H b ws s
def sp_Guesser___eq__ (T : Tx K mg) : Sp := spEq (same2 T)
def sp_check_guesser (T : Tx K mg) : Sp := fun vs H Q _ => ∃ p ws s, vs = [.ref p] ∧ Gu T H p ws s ∧ RetV .non H Q
def sp_weighed (T : Tx K mg) : Sp := fun vs H Q _ => ∃ a b ws row, ∃ n : Nat, vs = [.ref a, .ref b, .int (n : Int)] ∧ Li H a ws ∧ Wb 32768 8 ws ∧ Li H b row ∧ n ≤ row.length ∧ row.length ≤ 1000 ∧ ws.length ≤ n ∧ RetV (.int (wsum row n ws 0)) H Q
theorem Gu.isi {T : Tx K mg} {H : Hp} {p : Addr} {ws : List Int} {s : Nat} (h : Gu T H p ws s) {te : TE} {σ : L2.St} (he : Ev te σ H (.ref p)) : Ev (tCB (rIsi K) (tCons te (tCons (tC (.ref T.C_Guesser)) tNil))) σ H (.bl true) := by
  obtain ⟨⟨dx, d, h1, _⟩, _, _⟩ := h
  exact ev_isiC he h1 T.cl_Guesser T.is_Guesser
theorem Gu.shiftE {T : Tx K mg} {H : Hp} {p : Addr} {ws : List Int} {s : Nat} (h : Gu T H p ws s) {te : TE} {σ : L2.St} {E : XK} (he : Ev te σ H (.ref p)) : Ev (tMeth T.C_Guesser "shift" (sp_Guesser_shift T) [] E te tNil) σ H (.int (s : Int)) := by
  obtain ⟨dx, d, h1, _⟩ := h.ob
  exact ev_meth0 he h1 (gf_no _ _ (by decide +kernel) (by decide +kernel)) (spv fun H1 e Q q E => ⟨p, ws, s, rfl, h.ex e, q⟩)
theorem Gu.orderE {T : Tx K mg} {H : Hp} {p : Addr} {ws : List Int} {s : Nat} (h : Gu T H p ws s) {te : TE} {σ : L2.St} {E : XK} (he : Ev te σ H (.ref p)) : Ev (tMeth T.C_Guesser "order" (sp_Guesser_order T) [] E te tNil) σ H (.int (ws.length : Int)) := by
  obtain ⟨dx, d, h1, _⟩ := h.ob
  exact ev_meth0 he h1 (gf_no _ _ (by decide +kernel) (by decide +kernel)) (spv fun H1 e Q q E => ⟨p, ws, s, rfl, h.ex e, q⟩)
theorem Gu.weightsE {T : Tx K mg} {H : Hp} {p : Addr} {ws : List Int} {s : Nat} (h : Gu T H p ws s) {te : TE} {σ : L2.St} {E : XK} (he : Ev te σ H (.ref p)) : EvL (tMeth T.C_Guesser "weights" (sp_Guesser_weights T) [] E te tNil) σ H (ws.map V.int) := by
  obtain ⟨dx, d, h1, _⟩ := h.ob
  exact el_meth0 he h1 (gf_no _ _ (by decide +kernel) (by decide +kernel)) fun H1 e Q q E => ⟨p, ws, s, rfl, h.ex e, q⟩
end
theorem shl1 {m : Nat} (hm : m ≤ 1000) : CShl 1 (m : Int) := shl_ok (n := 2) (j := m) (by decide) (by omega)
theorem one_p (k : Nat) : (1 : Int) * 2 ^ (k : Int).toNat = 2 ^ k := by rw [Int.one_mul, Int.toNat_natCast]
section
variable {σ : L2.St} {H : Hp} {te : TE} {D : Ends} {tz : TS} {g : TG}
theorem q_gin (k : te σ H fun x H1 => g x σ H1 fun σ2 H2 => tz D σ2 H2) : tSeq (tAsg te g) tz D σ H := k
end
theorem rv_mask {H : Hp} {i y : Int} {k : Nat} (h : y = 2 ^ k - 1) : RV (fun x y H Q => ∃ (i : Int) (k : Nat), x = .int i ∧ y = .int (2 ^ k - 1) ∧ Q (.int (i % 2 ^ k)) H) (.int i) (.int y) H (.int (i % 2 ^ k)) := fun H1 e Q q => ⟨i, k, rfl, by rw [h], q H1 (Ex.refl H1)⟩
theorem wsum_drop (row : List Int) (n : Nat) {ws : List Int} {i : Nat} {x : Int} (h : ws[i]? = some x) : wsum row n (ws.drop i) i = x * row.getD (n - 1 - i) 0 + wsum row n (ws.drop (i + 1)) (i + 1) := by
  obtain ⟨hl, e⟩ := List.getElem?_eq_some_iff.mp h
  rw [List.drop_eq_getElem_cons hl, e]
  rfl
section
variable {P : Program} {w : World} {K : PySem.W.Frag} {mg : Str → Option Value} {base : Heap}
theorem ok_is_number (T : Tx K mg) : FnOk P w K mg base CX0 1 T.a_is_number T.d_is_number ["value"] (sp_is_number T) := by
  refine T.f_is_number.ok (k := 0) sc_is_number (fun vs H Q E h => ?_) (fun cdv A outer s H vs Q E hr h => ?_)
  · obtain ⟨i, rfl, _⟩ := h
    rfl
  · obtain ⟨i, rfl, q⟩ := h
    refine ⟨_,       (pss_one (ps_ret (pe_and (pe_callB (id := "isinstance") (r := rIsi K) call_isi (by rfl) T.m_isinstance (by decide +kernel) (pa_cons (pv 0) (pa_cons (pe_bltn (by rfl) T.m_int (v := .ty "int") (by decide +kernel) rfl) pa_nil))) (pe_one (pe_not (pe_callB (id := "isinstance") (r := rIsi K) call_isi (by rfl) T.m_isinstance (by decide +kernel) (pa_cons (pv 0) (pa_cons (pe_bltn (by rfl) T.m_bool (v := .ty "bool") (by decide +kernel) rfl) pa_nil)))))))), ?_⟩
    exact s_ret (ev_andV (ev_isiI (b := true) (ev_var rfl) (by decide +kernel)) fun _ => ev_notV (ev_isiI (b := false) (ev_var rfl) (by decide +kernel))) q
theorem ok_is_within (T : Tx K mg) : FnOk P w K mg base CX0 2 T.a_is_within T.d_is_within ["value", "low", "high"] (sp_is_within T) := by
  refine T.f_is_within.ok (k := 1) sc_is_within (fun vs H Q E h => ?_) (fun cdv A outer s H vs Q E hr h => ?_)
  · obtain ⟨i, j, k, rfl, _⟩ := h
    rfl
  · obtain ⟨i, j, k, rfl, h1, h2, q⟩ := h
    refine ⟨_,       (pss_one (ps_ret (pe_and (pe_call (ok_is_number T) hr (by rfl) T.g_is_number T.f_is_number.kp T.b_is_number .nil pass0 (pa_cons (pv 0) pa_nil)) (pe_one (pe_chain op_le op_le (pv 1) (pv 0) (pv 2)))))), ?_⟩
    refine s_ret (ev_is (ev_andV (ev_call (ea_cons (ev_var rfl) ea_nil) (spv fun H1 e Q q E => ⟨i, rfl, q⟩)) fun _ => ev_chain (ev_var rfl) (ev_var rfl) rv_I0 (ev_var rfl) rv_I0) ?_) q
    rw [decide_eq_true h1, decide_eq_true h2]
    rfl
theorem ok_check_within (T : Tx K mg) : FnOk P w K mg base CX0 3 T.a_check_within T.d_check_within ["number", "low", "high"] (sp_check_within T) := by
  refine T.f_check_within.ok (k := 2) sc_check_within (fun vs H Q E h => ?_) (fun cdv A outer s H vs Q E hr h => ?_)
  · obtain ⟨i, j, k, rfl, _⟩ := h
    rfl
  · obtain ⟨i, j, k, rfl, h1, h2, q⟩ := h
    refine ⟨_,       (pss_one (ps_if (pt_not (pt_val (pe_call (ok_is_within T) hr (by rfl) T.g_is_within T.f_is_within.kp T.b_is_within .nil pass0 (pa_cons (pv 0) (pa_cons (pv 1) (pa_cons (pv 2) pa_nil)))))) 
        (pss_one ps_never) pss_nil)), ?_⟩
    exact s_when (et_not (et_B (ev_call (ea_cons (ev_var rfl) (ea_cons (ev_var rfl) (ea_cons (ev_var rfl) ea_nil))) (spv fun H1 e Q q E => ⟨i, j, k, rfl, h1, h2, q⟩)))) (fun z => by cases z) (fun _ => q)
theorem ok_check_from (T : Tx K mg) : FnOk P w K mg base CX0 2 T.a_check_from T.d_check_from ["number", "low"] (sp_check_from T) := by
  refine T.f_check_from.ok (k := 1) sc_check_from (fun vs H Q E h => ?_) (fun cdv A outer s H vs Q E hr h => ?_)
  · obtain ⟨i, j, rfl, _⟩ := h
    rfl
  · obtain ⟨i, j, rfl, h1, q⟩ := h
    refine ⟨_,       (pss_one (ps_if (PW.pt (pw_or (pt_not (pt_val (pe_call (ok_is_number T) hr (by rfl) T.g_is_number T.f_is_number.kp T.b_is_number .nil pass0 (pa_cons (pv 0) pa_nil)))) (pw_or1 (pt_cmpR op_lt (pv 0) (pv 1) (nomark _))))) 
        (pss_one ps_never) pss_nil)), ?_⟩
    exact s_when (b := false) (et_or (a := false) (et_not (a := true) (et_B (ev_call (ea_cons (ev_var rfl) ea_nil) (spv fun H1 e Q q E => ⟨i, rfl, q⟩)))) fun _ => et_is (et_test (ev_op (ev_var rfl) (ev_var rfl) rv_I0)) (decide_eq_false (by omega))) (fun z => by cases z) (fun _ => q)
theorem ok_check_count (T : Tx K mg) : FnOk P w K mg base CX0 3 T.a_check_count T.d_check_count ["number"] (sp_check_count T) := by
  refine T.f_check_count.ok (k := 2) sc_check_count (fun vs H Q E h => ?_) (fun cdv A outer s H vs Q E hr h => ?_)
  · obtain ⟨i, rfl, _⟩ := h
    rfl
  · obtain ⟨i, rfl, h1, q⟩ := h
    refine ⟨_,       (pss_one (ps_expr (pe_call (ok_check_from T) hr (by rfl) T.g_check_from T.f_check_from.kp T.b_check_from .nil pass0 (pa_cons (pv 0) (pa_cons pe_int pa_nil))))), ?_⟩
    exact s_drop (ev_call (ea_cons (ev_var rfl) (ea_cons ev_c ea_nil)) (spv fun H1 e Q q E => ⟨i, 0, rfl, h1, q⟩)) q
theorem ok_check_depth (T : Tx K mg) : FnOk P w K mg base CX0 3 T.a_check_depth T.d_check_depth ["depth", "most"] (sp_check_depth T) := by
  refine T.f_check_depth.ok (k := 2) sc_check_depth (fun vs H Q E h => ?_) (fun cdv A outer s H vs Q E hr h => ?_)
  · obtain ⟨i, j, rfl, _⟩ := h
    rfl
  · obtain ⟨i, j, rfl, h1, h2, q⟩ := h
    refine ⟨_,       (pss_one (ps_if (pt_not (pt_val (pe_call (ok_is_within T) hr (by rfl) T.g_is_within T.f_is_within.kp T.b_is_within .nil pass0 (pa_cons (pv 0) (pa_cons pe_int (pa_cons (pv 1) pa_nil)))))) 
        (pss_one ps_never) pss_nil)), ?_⟩
    exact s_when (et_not (et_B (ev_call (ea_cons (ev_var rfl) (ea_cons ev_c (ea_cons (ev_var rfl) ea_nil))) (spv fun H1 e Q q E => ⟨i, 1, j, rfl, h1, h2, q⟩)))) (fun z => by cases z) (fun _ => q)
theorem ok_least_sample (T : Tx K mg) : FnOk P w K mg base CX0 1 T.a_least_sample T.d_least_sample ["depth"] (sp_least_sample T) := by
  refine T.f_least_sample.ok (k := 0) sc_least_sample (fun vs H Q E h => ?_) (fun cdv A outer s H vs Q E hr h => ?_)
  · obtain ⟨d, rfl, _⟩ := h
    rfl
  · obtain ⟨d, rfl, h1, h2, q⟩ := h
    refine ⟨_,       (pss_one (ps_ret (pe_un un_neg (pe_op op_shlW pe_int (pe_op op_sub (pv 0) pe_int))))), ?_⟩
    refine s_ret (ev_is (ev_un (ev_op ev_c (ev_op (ev_var rfl) ev_c rv_I0) (rv_I ?_)) ru_neg) ?_) q
    · rw [show (d : Int) - 1 = ((d - 1 : Nat) : Int) by omega]
      exact shl1 (by omega)
    · rw [show (d : Int) - 1 = ((d - 1 : Nat) : Int) by omega, one_p]
theorem ok_greatest_sample (T : Tx K mg) : FnOk P w K mg base CX0 1 T.a_greatest_sample T.d_greatest_sample ["depth"] (sp_greatest_sample T) := by
  refine T.f_greatest_sample.ok (k := 0) sc_greatest_sample (fun vs H Q E h => ?_) (fun cdv A outer s H vs Q E hr h => ?_)
  · obtain ⟨d, rfl, _⟩ := h
    rfl
  · obtain ⟨d, rfl, h1, h2, q⟩ := h
    refine ⟨_,       (pss_one (ps_ret (pe_op op_sub (pe_op op_shlW pe_int (pe_op op_sub (pv 0) pe_int)) pe_int))), ?_⟩
    refine s_ret (ev_is (ev_op (ev_op ev_c (ev_op (ev_var rfl) ev_c rv_I0) (rv_I ?_)) ev_c rv_I0) ?_) q
    · rw [show (d : Int) - 1 = ((d - 1 : Nat) : Int) by omega]
      exact shl1 (by omega)
    · rw [show (d : Int) - 1 = ((d - 1 : Nat) : Int) by omega, one_p]
theorem ok_wrapped (T : Tx K mg) : FnOk P w K mg base CX0 1 T.a_wrapped T.d_wrapped ["number", "depth"] (sp_wrapped T) := by
  refine T.f_wrapped.ok (k := 0) sc_wrapped (fun vs H Q E h => ?_) (fun cdv A outer s H vs Q E hr h => ?_)
  · obtain ⟨z, d, rfl, _⟩ := h
    rfl
  · obtain ⟨z, d, rfl, h1, h2, q⟩ := h
    refine ⟨_,       (pss_cons (ps_set (i := 2) sc_wrapped.nd rfl (by first | exact Or.inl rfl | exact Or.inr rfl) (pe_op op_shlW pe_int (pe_op op_sub (pv 1) pe_int))) 
      (pss_one (ps_ret (pe_op op_sub (pe_op op_andM (pe_op op_add (pv 0) (pv 2)) (pe_op op_sub (pe_op op_shlW pe_int (pv 1)) pe_int)) (pv 2))))), ?_⟩
    refine q_asg (v := .int (2 ^ (d - 1))) (ev_is (ev_op ev_c (ev_op (ev_var rfl) ev_c rv_I0) (rv_I ?_)) ?_) fun H1 e1 => ?_
    · rw [show (d : Int) - 1 = ((d - 1 : Nat) : Int) by omega]
      exact shl1 (by omega)
    · rw [show (d : Int) - 1 = ((d - 1 : Nat) : Int) by omega, one_p]
    refine s_ret (ev_op (ev_op (ev_op (ev_var rfl) (ev_var rfl) rv_I0) (ev_is (v := .int (1 * 2 ^ (d : Int).toNat - 1)) (ev_op (ev_op ev_c (ev_var rfl) (rv_I (shl1 (by omega)))) ev_c rv_I0) rfl) (rv_mask (k := d) (by rw [one_p]))) (ev_var rfl) rv_I0) fun H2 e2 => ?_
    exact q H2 (e1.trans e2)
theorem ok_is_samples (T : Tx K mg) : FnOk P w K mg base CX0 2 T.a_is_samples T.d_is_samples ["value", "depth"] (sp_is_samples T) := by
  refine T.f_is_samples.ok (k := 1) sc_is_samples (fun vs H Q E h => ?_) (fun cdv A outer s H vs Q E hr h => ?_)
  · obtain ⟨a, row, d, rfl, _⟩ := h
    rfl
  · obtain ⟨a, row, d, rfl, h1, h2, ha, hl, hs, q⟩ := h
    refine ⟨_,       (pss_cons (ps_if (pt_not (pt_val (pe_callB (id := "isinstance") (r := rIsi K) call_isi (by rfl) T.m_isinstance (by decide +kernel) (pa_cons (pv 0) (pa_cons (pe_bltn (by rfl) T.m_list (v := .ty "list") (by decide +kernel) rfl) pa_nil))))) 
        (pss_one (ps_ret pe_bl)) pss_nil) 
      (pss_cons (ps_asg (pe_tup (pa_cons (pe_call (ok_least_sample T) hr (by rfl) T.g_least_sample T.f_least_sample.kp T.b_least_sample .nil pass0 (pa_cons (pv 1) pa_nil)) (pa_cons (pe_call (ok_greatest_sample T) hr (by rfl) T.g_greatest_sample T.f_greatest_sample.kp T.b_greatest_sample .nil pass0 (pa_cons (pv 1) pa_nil)) pa_nil))) (pg_tup rfl (pgs_cons (pg_name (i := 2) sc_is_samples.nd rfl (by first | exact Or.inl rfl | exact Or.inr rfl)) (pgs_cons (pg_name (i := 3) sc_is_samples.nd rfl (by first | exact Or.inl rfl | exact Or.inr rfl)) pgs_nil)))) 
      (pss_one (ps_ret (pe_callB (id := "all") (r := rAll K) (cr_all rfl) (by rfl) T.m_all (by decide +kernel) (pa_cons (pe_lc (own := [("sample", 4)]) (g := gName 4) (tt := tYes) rfl sc_is_samples.nd (pi_list (pv 0)) (blkOk_by (own := [("sample", 4)]) (N := ["value", "depth", "low", "high", "sample"]) (sc := defScope s_is_samples) (by decide +kernel)) (fun _ _ _ _ _ => (pg_name (i := 4) sc_is_samples.nd rfl (by first | exact Or.inl rfl | exact Or.inr rfl))) (fun _ _ _ _ _ => pts_nil) (fun _ _ _ _ _ => (pe_and (pe_call (ok_is_number T) hr (by rfl) T.g_is_number T.f_is_number.kp T.b_is_number .nil pass0 (pa_cons (pv 4) pa_nil)) (pe_one (pe_chain op_le op_le (pv 2) (pv 4) (pv 3)))))) pa_nil)))))), ?_⟩
    refine q_when (b := false) (et_not (a := true) (et_B (ev_isiL (b := true) (ev_var rfl) ha (by decide +kernel)))) (fun z => by cases z) fun _ H1 e1 => ?_
    refine q_gin (tup_in (ta_consV (v := .int (-(2 ^ (d - 1)))) (ev_call (ea_cons (ev_var rfl) ea_nil) (spv fun H2 e Q q E => ⟨d, rfl, h1, h2, q⟩)) fun H2 e2 => ta_consV (v := .int (2 ^ (d - 1) - 1)) (ev_call (ea_cons (ev_var rfl) ea_nil) (spv fun H2 e Q q E => ⟨d, rfl, h1, h2, q⟩)) fun H3 e3 => ta_nil ⟨by show 2 ≤ sizeLine; decide, fun pt hpt => ?_⟩))
    have x4 := Ex.new (o := .tup [V.int (-(2 ^ (d - 1))), V.int (2 ^ (d - 1) - 1)]) hpt
    refine ⟨pt, _, rfl, st_of upd_same, rfl, _, _, rfl, _, _, rfl, rfl, ?_⟩
    have e13 := ((e1.trans e2).trans e3).trans x4
    refine s_ret (ev_is (ev_allN (K := K) (bs := row.map fun _ => true) ?_) (by simp)) fun H4 e4 => q H4 (e13.trans e4)
    rw [List.map_map]
    refine el_map (0 : Int) (V.bl ∘ fun _ => true) (ev_var rfl) (ha.ex e13).sq (by omega) (fun _ => rfl) (fun x H1 e hx => ?_)
    have hx := hs x hx
    exact ev_is (ev_andV (a := true) (ev_call (ea_cons (ev_var rfl) ea_nil) (spv fun H1 e Q q E => ⟨x, rfl, q⟩)) fun _ => ev_chain (ev_var rfl) (ev_var rfl) rv_I0 (ev_var rfl) rv_I0) (by rw [decide_eq_true hx.1, decide_eq_true hx.2]; rfl)
theorem ok_check_samples (T : Tx K mg) : FnOk P w K mg base CX0 3 T.a_check_samples T.d_check_samples ["row", "depth"] (sp_check_samples T) := by
  refine T.f_check_samples.ok (k := 2) sc_check_samples (fun vs H Q E h => ?_) (fun cdv A outer s H vs Q E hr h => ?_)
  · obtain ⟨a, row, d, rfl, _⟩ := h
    rfl
  · obtain ⟨a, row, d, rfl, h1, h2, ha, hl, hs, q⟩ := h
    refine ⟨_,       (pss_one (ps_if (pt_not (pt_val (pe_call (ok_is_samples T) hr (by rfl) T.g_is_samples T.f_is_samples.kp T.b_is_samples .nil pass0 (pa_cons (pv 0) (pa_cons (pv 1) pa_nil))))) 
        (pss_one ps_never) pss_nil)), ?_⟩
    exact s_when (b := false) (et_not (a := true) (et_B (ev_call (ea_cons (ev_var rfl) (ea_cons (ev_var rfl) ea_nil)) (spv fun H1 e Q q E => ⟨a, row, d, rfl, h1, h2, ha.ex e, hl, hs, q⟩)))) (fun z => by cases z) (fun _ => q)
theorem ok_Guesser___init__ (T : Tx K mg) : FnOk P w K mg base CX0 4 T.a_Guesser___init__ T.d_Guesser___init__ ["self", "weights", "shift"] (sp_Guesser___init__ T) := by
  refine T.f_Guesser___init__.ok (k := 3) sc_Guesser___init__ (fun vs H Q E h => ?_) (fun cdv A outer s H vs Q E hr h => ?_)
  · obtain ⟨p, dx, a, ws, s, rfl, _⟩ := h
    rfl
  · obtain ⟨p, dx, a, ws, s, rfl, hp, ha, hw, hs, q⟩ := h
    refine ⟨_,       (pss_cons (ps_if (PW.pt (pw_or (pt_not (pt_val (pe_callB (id := "isinstance") (r := rIsi K) call_isi (by rfl) T.m_isinstance (by decide +kernel) (pa_cons (pv 1) (pa_cons (pe_bltn (by rfl) T.m_list (v := .ty "list") (by decide +kernel) rfl) pa_nil))))) (pw_or1 (pt_cmpR op_gt (pe_callB (id := "len") (r := rLenS K) call_len_seq (by rfl) T.m_len PySem.boot_len (pa_cons (pv 1) pa_nil)) (pe_glob (v := .int 8) rfl T.c_MOST_WEIGHTS ⟨_, rfl⟩) (nomark _))))) 
        (pss_one ps_never) pss_nil) 
      (pss_cons (ps_for PassesOwn.never rfl (pi_list (pv 1)) (pg_name (i := 3) sc_Guesser___init__.nd rfl (by first | exact Or.inl rfl | exact Or.inr rfl)) 
        (pss_one (ps_if (pt_not (pt_val (pe_call (ok_is_within T) (hr.mono (by decide)) (by rfl) T.g_is_within T.f_is_within.kp T.b_is_within .nil pass0 (pa_cons (pv 3) (pa_cons (pe_un un_neg (pe_glob (v := .int 32768) rfl T.c_GREATEST_WEIGHT ⟨_, rfl⟩)) (pa_cons (pe_glob (v := .int 32768) rfl T.c_GREATEST_WEIGHT ⟨_, rfl⟩) pa_nil)))))) 
          (pss_one ps_never) pss_nil))) 
      (pss_cons (ps_expr (pe_call (ok_check_within T) hr (by rfl) T.g_check_within T.f_check_within.kp T.b_check_within .nil pass0 (pa_cons (pv 2) (pa_cons pe_int (pa_cons (pe_glob (v := .int 15) rfl T.c_GREATEST_SHIFT ⟨_, rfl⟩) pa_nil))))) 
      (pss_cons (ps_fld (pv 0) (pe_callTy (T := "list") (r := rListS K) call_list_of (by rfl) T.m_list (by decide +kernel) (pa_cons (pv 1) pa_nil)) rfl) 
      (pss_one (ps_fld (pv 0) (pv 2) rfl)))))), ?_⟩
    refine q_when (b := false) (et_or (a := false) (et_not (a := true) (et_B (ev_isiL (b := true) (ev_var rfl) ha (by decide +kernel)))) fun _ => et_is (et_test (ev_op (ev_len (K := K) (ev_var rfl) ha.sq) ev_c rv_I0)) ?_) (fun z => by cases z) (fun _ H1 e1 => ?_)
    · have := hw.1
      rw [List.length_map]
      exact decide_eq_false (by omega)
    refine q_forLn (xs := ws.map V.int) (K := K) (ev_var rfl) (ha.ex e1).sq (fun i σ' H' => ∃ y, σ' = [some (.ref p), some (.ref a), some (.int (s : Int)), y] ∧ Ex H H') (fun H2 e2 => ⟨none, rfl, e1.trans e2⟩) (fun i σ' H' _ hP => ?_) (fun i x σ' H' hx hP => ?_) (fun σ' H' hP => ?_)
    · obtain ⟨y, _, e⟩ := hP
      exact (ha.ex e).sq
    · obtain ⟨y, rfl, e⟩ := hP
      have hm := List.mem_of_getElem? hx
      obtain ⟨z, hz, rfl⟩ := List.mem_map.mp hm
      have := hw.2 z hz
      exact s_when (b := false) (et_not (a := true) (et_B (ev_call (ea_cons (ev_var rfl) (ea_cons (ev_un ev_c ru_neg) (ea_cons ev_c ea_nil))) (spv fun H1 e Q q E => ⟨z, -32768, 32768, rfl, by omega, by omega, q⟩)))) (fun z => by cases z) (fun _ H2 e2 => ⟨_, rfl, e.trans e2⟩)
    obtain ⟨y, rfl, e⟩ := hP
    refine q_drop (ev_call (ea_cons (ev_var rfl) (ea_cons ev_c (ea_cons ev_c ea_nil))) (spv fun H1 e Q q E => ⟨(s : Int), 0, 15, rfl, by omega, by omega, q⟩)) fun H2 e2 => ?_
    have e02 := e.trans e2
    -- self._weights = list(weights)
    refine ⟨.ref a, rfl, a, _, rfl, Or.inl (ha.ex e02).sq, fun d hd => ?_⟩
    have npd : p ≠ d := ne_of_none (e02 _ _ hp) hd
    refine ⟨.ref p, rfl, p, T.C_Guesser, dx, [], rfl, by rw [upd_ne npd]; exact e02 _ _ hp, T.cl_Guesser, T.n_Guesser__weights, by show 0 < 1000; decide, ?_⟩
    refine ⟨.int (s : Int), rfl, .ref p, rfl, p, T.C_Guesser, dx, _, rfl, upd_same, T.cl_Guesser, T.n_Guesser__shift, by show 1 < 1000; decide, ?_⟩
    refine q _ ⟨⟨dx, d, upd_same, ?_⟩, hw, hs⟩ fun b o hb h => ?_
    · show _ = _
      rw [upd_ne npd.symm, upd_ne npd.symm, upd_same]
    · rw [upd_ne hb, upd_ne hb, upd_ne (ne_of_none (e02 _ _ h) hd)]
      exact e02 _ _ h
theorem ok_Guesser_weights (T : Tx K mg) : FnOk P w K mg base CX0 1 T.a_Guesser_weights T.d_Guesser_weights ["self"] (sp_Guesser_weights T) := by
  refine T.f_Guesser_weights.ok (k := 0) sc_Guesser_weights (fun vs H Q E h => ?_) (fun cdv A outer s H vs Q E hr h => ?_)
  · obtain ⟨p, ws, s, rfl, _⟩ := h
    rfl
  · obtain ⟨p, ws, s, rfl, hg, q⟩ := h
    obtain ⟨dx, d, h1, h2⟩ := hg.ob
    refine ⟨_,       (pss_one (ps_ret (pe_callTy (T := "list") (r := rListS K) call_list_of (by rfl) T.m_list (by decide +kernel) (pa_cons (pe_fld (pv 0) rfl) pa_nil)))), ?_⟩
    exact s_retL (el_list (K := K) (ev_fld (ev_var rfl) h1 T.cl_Guesser T.n_Guesser__weights (gf_w _ _)) h2.sq) q
theorem ok_Guesser_shift (T : Tx K mg) : FnOk P w K mg base CX0 1 T.a_Guesser_shift T.d_Guesser_shift ["self"] (sp_Guesser_shift T) := by
  refine T.f_Guesser_shift.ok (k := 0) sc_Guesser_shift (fun vs H Q E h => ?_) (fun cdv A outer s H vs Q E hr h => ?_)
  · obtain ⟨p, ws, s, rfl, _⟩ := h
    rfl
  · obtain ⟨p, ws, s, rfl, hg, q⟩ := h
    obtain ⟨dx, d, h1, h2⟩ := hg.ob
    refine ⟨_,       (pss_one (ps_ret (pe_fld (pv 0) rfl))), ?_⟩
    exact s_ret (ev_fld (ev_var rfl) h1 T.cl_Guesser T.n_Guesser__shift (gf_s _ _)) q
theorem ok_Guesser_order (T : Tx K mg) : FnOk P w K mg base CX0 1 T.a_Guesser_order T.d_Guesser_order ["self"] (sp_Guesser_order T) := by
  refine T.f_Guesser_order.ok (k := 0) sc_Guesser_order (fun vs H Q E h => ?_) (fun cdv A outer s H vs Q E hr h => ?_)
  · obtain ⟨p, ws, s, rfl, _⟩ := h
    rfl
  · obtain ⟨p, ws, s, rfl, hg, q⟩ := h
    obtain ⟨dx, d, h1, h2⟩ := hg.ob
    refine ⟨_,       (pss_one (ps_ret (pe_callB (id := "len") (r := rLenS K) call_len_seq (by rfl) T.m_len PySem.boot_len (pa_cons (pe_fld (pv 0) rfl) pa_nil)))), ?_⟩
    refine s_ret (ev_len (K := K) (ev_fld (ev_var rfl) h1 T.cl_Guesser T.n_Guesser__weights (gf_w _ _)) h2.sq) ?_
    rw [List.length_map]
    exact q
theorem ok_Guesser___eq__ (T : Tx K mg) : FnOk P w K mg base CX0 1 T.a_Guesser___eq__ T.d_Guesser___eq__ ["self", "other"] (sp_Guesser___eq__ T) := by
  refine T.f_Guesser___eq__.ok (k := 0) sc_Guesser___eq__ (fun vs H Q E h => ?_) (fun cdv A outer s H vs Q E hr h => ?_)
  · obtain ⟨a, b, rfl, _⟩ := h
    rfl
  · obtain ⟨a, b, rfl, ⟨ws, s, g1, g2⟩, q⟩ := h
    obtain ⟨dx, d, h1, h2⟩ := g1.ob
    obtain ⟨dy, d', h3, h4⟩ := g2.ob
    refine ⟨_,       (pss_one (ps_ret (pe_and (pe_callB (id := "isinstance") (r := rIsi K) call_isi (by rfl) T.m_isinstance (by decide +kernel) (pa_cons (pv 1) (pa_cons (pe_glob (v := .ref T.C_Guesser) rfl T.gC_Guesser rfl) pa_nil))) (pe_and (pe_cmpR (op_eqD hr.units) (pe_fld (pv 0) rfl) (pe_fld (pv 1) rfl) (nomark _)) (pe_one (pe_cmpR op_eq (pe_fld (pv 0) rfl) (pe_fld (pv 1) rfl) (nomark _))))))), ?_⟩
    refine s_ret (v := .bl true) (ev_is (ev_andV (b := true) (g2.isi (ev_var rfl)) fun _ => ev_is (ev_andV (ev_op (ev_fld (ev_var rfl) h1 T.cl_Guesser T.n_Guesser__weights (gf_w _ _)) (ev_fld (ev_var rfl) h3 T.cl_Guesser T.n_Guesser__weights (gf_w _ _)) (rv_eqI (K := K) h2.sq h4.sq)) fun _ => ev_op (ev_fld (ev_var rfl) h1 T.cl_Guesser T.n_Guesser__shift (gf_s _ _)) (ev_fld (ev_var rfl) h3 T.cl_Guesser T.n_Guesser__shift (gf_s _ _)) (rv_eq rfl)) ?_) rfl) q
    rw [decide_eq_true (rfl : ws = ws), decide_eq_true (rfl : V.int (s : Int) = V.int (s : Int))]
    rfl
theorem ok_check_guesser (T : Tx K mg) : FnOk P w K mg base CX0 1 T.a_check_guesser T.d_check_guesser ["guesser"] (sp_check_guesser T) := by
  refine T.f_check_guesser.ok (k := 0) sc_check_guesser (fun vs H Q E h => ?_) (fun cdv A outer s H vs Q E hr h => ?_)
  · obtain ⟨p, ws, s, rfl, _⟩ := h
    rfl
  · obtain ⟨p, ws, s, rfl, hg, q⟩ := h
    refine ⟨_,       (pss_one (ps_if (pt_not (pt_val (pe_callB (id := "isinstance") (r := rIsi K) call_isi (by rfl) T.m_isinstance (by decide +kernel) (pa_cons (pv 0) (pa_cons (pe_glob (v := .ref T.C_Guesser) rfl T.gC_Guesser rfl) pa_nil))))) 
        (pss_one ps_never) pss_nil)), ?_⟩
    exact s_when (b := false) (et_not (a := true) (et_B (hg.isi (ev_var rfl)))) (fun z => by cases z) (fun _ => q)
theorem ok_weighed (T : Tx K mg) : FnOk P w K mg base CX0 1 T.a_weighed T.d_weighed ["weights", "row", "at"] (sp_weighed T) := by
  refine T.f_weighed.ok (k := 0) sc_weighed (fun vs H Q E h => ?_) (fun cdv A outer s H vs Q E hr h => ?_)
  · obtain ⟨a, b, ws, row, n, rfl, _⟩ := h
    rfl
  · obtain ⟨a, b, ws, row, n, rfl, ha, hw, hb, hnr, hr1, hl, q⟩ := h
    refine ⟨_,       (pss_cons (ps_set (i := 3) sc_weighed.nd rfl (by first | exact Or.inl rfl | exact Or.inr rfl) pe_int) 
      (pss_cons (ps_for PassesOwn.never rfl (pi_enum (by rfl) T.m_enumerate (pa_cons (pv 0) pa_nil)) (pg_tup rfl (pgs_cons (pg_name (i := 4) sc_weighed.nd rfl (by first | exact Or.inl rfl | exact Or.inr rfl)) (pgs_cons (pg_name (i := 5) sc_weighed.nd rfl (by first | exact Or.inl rfl | exact Or.inr rfl)) pgs_nil))) 
        (pss_one (ps_aug (i := 3) sc_weighed.nd rfl (by first | exact Or.inl rfl | exact Or.inr rfl) (pe_op op_mul (pv 5) (pe_ix (r := rIxL K) ix_list (pv 1) (pe_op op_sub (pe_op op_sub (pv 2) pe_int) (pv 4)) (fun _ _ => rfl))) ip_add))) 
      (pss_one (ps_ret (pv 3))))), ?_⟩
    refine q_asg ev_c fun H1 e1 => ?_
    refine s_forEnum (D := { nx := _, rt := Q, bk := _, ct := _ }) (K := K) (xs := ws.map V.int) (ea_cons (ev_var rfl) ea_nil) (ha.ex e1).sq (fun i σ' H' => ∃ (t : Int) (y4 y5 : Option V), σ' = [some (.ref a), some (.ref b), some (.int (n : Int)), some (.int t), y4, y5] ∧ Ex H H' ∧ t + wsum row n (ws.drop i) i = wsum row n ws 0) (fun H2 e2 => ⟨0, none, none, rfl, e1.trans e2, by rw [List.drop_zero, Int.zero_add]⟩) (fun i σ' H' _ hP => ?_) (fun i x σ' H' hx hP T' hT => ?_) (fun σ' H' hP => ?_)
    · obtain ⟨t, y4, y5, _, e, _⟩ := hP
      exact (ha.ex e).sq
    · obtain ⟨t, y4, y5, rfl, e, ht⟩ := hP
      rw [List.getElem?_map] at hx
      cases hq : ws[i]? with
      | none => rw [hq] at hx; cases hx
      | some z =>
        rw [hq] at hx
        have ez : V.int z = x := Option.some.inj hx
        subst ez
        have hi := (List.getElem?_eq_some_iff.mp hq).1
        have hz := hw.2 z (List.mem_of_getElem? hq)
        have eT := e.trans (Ex.new (o := .tup [V.int (i : Int), V.int z]) hT)
        refine ⟨T', [V.int (i : Int), V.int z], rfl, Or.inl (Or.inl upd_same), rfl, V.int (i : Int), [V.int z], rfl, V.int z, [], rfl, rfl, ?_⟩
        have hrow : row[n - 1 - i]? = some (row.getD (n - 1 - i) 0) := by
          rw [List.getD_eq_getElem?_getD, List.getElem?_eq_getElem (by omega)]
          rfl
        refine s_aug (f := fun i j => i + j) rfl (ev_op (ev_var rfl) (ev_op (ev_var rfl) (ev_op (ev_op (ev_var rfl) ev_c rv_I0) (ev_var rfl) rv_I0) (rv_ixL (K := K) (v := .int (row.getD (n - 1 - i) 0)) (hb.ex eT).sq (at_of (j := n - 1 - i) (by omega) (by rw [List.getElem?_map, hrow]; rfl)))) (rv_I (Or.inl ⟨by omega, by omega⟩))) fun H2 e2 => ?_
        refine ⟨_, some (V.int (i : Int)), some (V.int z), rfl, eT.trans e2, ?_⟩
        rw [← ht, wsum_drop row n hq]
        omega
    · obtain ⟨t, y4, y5, rfl, e, ht⟩ := hP
      rw [List.length_map, List.drop_length] at ht
      have ht : t + 0 = wsum row n ws 0 := ht
      refine s_ret (ev_var rfl) fun H3 e3 => ?_
      have : t = wsum row n ws 0 := by omega
      subst this
      exact q H3 (e.trans e3)
end
end K50

set_option Elab.async false
set_option linter.all false
set_option maxRecDepth 100000
set_option maxHeartbeats 4000000
set_option exponentiation.threshold 3000
namespace K50
open PySem PySem.Spec PyProof.Rows L2 Evl WS M44 M50
open PySem.W (mcComb)
section
variable {σ : L2.St} {H : Hp} {ta tb te tl : TE} {D : Ends} {tz : TS} {K : PySem.W.Frag} {t : TT}
/-- [f(i) for i in range(lo, hi)] -/
theorem el_mapR2 {a : TA} {j : Nat} {vs : List Nat} {lo n : Nat} {hi : Int} (f : Nat → Int) (h : EvA a σ H [.int (lo : Int), .int hi]) (hh : (hi - lo).toNat = n) (hb : lo ≤ 40000 ∧ 0 ≤ hi ∧ hi ≤ 40000) (hw : ∀ x, wipe ((wipe σ vs).set j (some x)) vs = wipe σ vs)
    (he : ∀ (i : Nat) H1, Ex H H1 → i < n → Ev te ((wipe σ vs).set j (some (.int ((lo + i : Nat) : Int)))) H1 (.int (f i))) : EvL (tLc (iRng2 a) (gName j) tYes te vs) σ H (((List.range n).map f).map V.int) := fun H0 e Q q => h H0 e _ fun H1 e1 => by
  refine ⟨_, _, rfl, by omega, fun D hD => ?_⟩
  rw [hh]
  refine lc_range (lo := (lo : Int)) (n := n) (fun i H' => Ex H1 H' ∧ H' D = some (.lst (((List.range i).map f).map V.int))) ⟨Ex.new hD, upd_same⟩ (fun i H' hi p' => ?_) (fun H' p' => q D H' (fresh_back e1 hD) (e1.trans p'.1) p'.2)
  obtain ⟨e2, ha⟩ := p'
  refine ⟨hw _, ?_⟩
  unfold tYes
  dsimp only
  rw [if_pos rfl]
  have ec : (lo : Int) + (i : Int) = ((lo + i : Nat) : Int) := by omega
  show te ((wipe σ vs).set j (some (.int ((lo : Int) + (i : Int))))) H' _
  rw [ec]
  refine ev_use (he i H' ((e.trans e1).trans e2) hi) fun H4 e4 => ⟨_, e4 _ _ ha, sz_lt (by rw [List.length_map, List.length_map, List.length_range]; omega), Ex.mut (e2.trans e4) hD, ?_⟩
  rw [upd_same, List.range_succ, List.map_append, List.map_append]
  rfl
/-- [f(x) for x in a new list] -/
theorem el_mapN {j : Nat} {vs : List Nat} {α : Type} (d : α) {xs : List α} {c : α → V} (f : α → V) (h : EvL tl σ H (xs.map c)) (hz : xs.length ≤ 40000) (hw : ∀ x, wipe ((wipe σ vs).set j (some x)) vs = wipe σ vs)
    (he : ∀ (x : α) H1, Ex H H1 → x ∈ xs → Ev te ((wipe σ vs).set j (some (c x))) H1 (f x)) : EvL (tLc (iList K tl) (gName j) tYes te vs) σ H (xs.map f) := by
  rw [← given_map xs d f]
  have hl : (xs.map c).length = xs.length := List.length_map _
  rw [← hl]
  refine el_lcNL (fun _ => true) _ h (by rw [hl]; exact hz) hw (fun i x H1 e hi => fun H2 _ Q q => q H2 (Ex.refl H2)) (fun i x H1 e hi _ => ?_)
  rw [List.getElem?_map] at hi
  cases hq : xs[i]? with
  | none => rw [hq] at hi; cases hi
  | some y =>
    rw [hq] at hi
    have ey : c y = x := Option.some.inj hi
    rw [← ey, List.getD_eq_getElem?_getD, hq]
    exact he y H1 e (List.mem_of_getElem? hq)
theorem ev_minN {ns : List Int} {m : Int} (h : EvL te σ H (ns.map V.int)) (hm : m ∈ ns) (hle : ∀ y ∈ ns, m ≤ y) : Ev (tCB (rMin K) (tCons te tNil)) σ H (.int m) := fun H1 e Q q =>
  h H1 e _ fun p H2 _ e2 h2 => ⟨p, ns, rfl, sq_of h2, by cases ns with | nil => cases hm | cons a r => simp, fun k hk hkl => by
    have : k = m := Int.le_antisymm (hkl m hm) (hle k hk)
    rw [this]
    exact q H2 e2⟩
theorem et_chain {r r' : R2} {x y w' : V} {tc : TE} {k k' : Bool} (ha : Ev ta σ H x) (hb : Ev tb σ H y) (hr : RV r x y H (.bl k)) (hc : Ev tc σ H w') (hr' : RV r' y w' H (.bl k')) : EvT (tTest (tChain r r' ta tb tc)) σ H (k && k') := et_test (ev_chain ha hb hr hc hr')
theorem et_odd {n : Nat} (ha : Ev ta σ H (.int (n : Int))) (hb : Ev tb σ H (.int 1)) : EvT (fun σ H Q => tOp (fun x y H Q => ∃ n : Nat, x = .int (n : Int) ∧ y = .int 1 ∧ Q (.int ((n % 2 : Nat) : Int)) H) ta tb σ H fun x H' => ∃ k, TruV K x H' k ∧ Q k H') σ H (decide (n % 2 = 1)) := fun H1 e Q q =>
  ha H1 e _ fun H2 e2 => hb H2 (e.trans e2) _ fun H3 e3 => ⟨n, rfl, rfl, _, (show decide (n % 2 = 1) = (((n % 2 : Nat) : Int) != 0) from by
    rcases Nat.mod_two_eq_zero_or_one n with z | z
    · rw [z]; rfl
    · rw [z]; rfl), q H3 (e2.trans e3)⟩
end
/-- the rests ahead of wrapping -/
def ur (ws : List Int) (s : Nat) (row : List Int) : List Int := (List.range row.length).map fun i => row.getD i 0 - gs ws s row i
theorem rst_ur (ws : List Int) (s d : Nat) (row : List Int) : rst ws s d row = (ur ws s row).map (wr d) := by
  unfold rst ur
  rw [List.map_map]
  rfl
theorem ur_cut (ws : List Int) (s : Nat) (row : List Int) : ur ws s row = row.take ws.length ++ (List.range (((row.length : Int) - (ws.length : Int)).toNat)).map fun i => row.getD (ws.length + i) 0 - wsum row (ws.length + i) ws 0 / 2 ^ s := by
  unfold ur
  apply List.ext_getElem?
  intro i
  rw [List.getElem?_map]
  have lt : (row.take ws.length).length = min ws.length row.length := List.length_take
  by_cases h : i < row.length
  · rw [List.getElem?_range h]
    by_cases c : i < ws.length
    · rw [List.getElem?_append_left (by omega), List.getElem?_take, if_pos c]
      show some (row.getD i 0 - gs ws s row i) = _
      unfold gs
      rw [if_pos c, Int.sub_zero, List.getD_eq_getElem?_getD, List.getElem?_eq_getElem h]
      rfl
    · rw [List.getElem?_append_right (by omega), lt, List.getElem?_map, List.getElem?_range (by omega)]
      show some (row.getD i 0 - gs ws s row i) = some (row.getD (ws.length + (i - min ws.length row.length)) 0 - wsum row (ws.length + (i - min ws.length row.length)) ws 0 / 2 ^ s)
      unfold gs
      rw [if_neg c, show ws.length + (i - min ws.length row.length) = i by omega]
  · rw [List.getElem?_eq_none (by rw [List.length_range]; omega)]
    symm
    apply List.getElem?_eq_none
    rw [List.length_append, lt, List.length_map, List.length_range]
    omega
theorem take_cut (xs : List Int) (n : Nat) : cutV (xs.map V.int) none (some (n : Int)) = (xs.take n).map V.int := by
  unfold cutV
  rw [HT.sIx_none, HT.sIx_nat, List.length_map]
  rw [List.drop_zero, Nat.sub_zero, ← List.map_take]
  congr 1
  by_cases c : n ≤ xs.length
  · rw [Nat.min_eq_left c]
  · rw [Nat.min_eq_right (by omega), List.take_of_length_le (Nat.le_refl _), List.take_of_length_le (by omega)]
section
variable {K : PySem.W.Frag} {mg : Str → Option Value}
def sp_unwrapped_rests (T : Tx K mg) : Sp := fun vs H Q _ => ∃ p b ws s row, vs = [.ref p, .ref b] ∧ Gu T H p ws s ∧ Li H b row ∧ row.length ≤ 1000 ∧ RetL ((ur ws s row).map V.int) H Q
def sp_rests (T : Tx K mg) : Sp := fun vs H Q _ => ∃ p b ws s row, ∃ d : Nat, vs = [.ref p, .int (d : Int), .ref b] ∧ 1 ≤ d ∧ d ≤ 32 ∧ Gu T H p ws s ∧ Li H b row ∧ row.length ≤ 1000 ∧ Smp d row ∧ RetL ((rst ws s d row).map V.int) H Q
def sp_lists_with_sum (T : Tx K mg) : Sp := fun vs H Q _ => ∃ m b : Nat, ∃ t : Int, vs = [.int (m : Int), .int (b : Int), .int t] ∧ CombOk m b t ∧ RetV (.int (LW m b t)) H Q
def sp_check_told_at (T : Tx K mg) : Sp := fun vs H Q _ => ∃ d w : Nat, vs = [.int (d : Int), .int (w : Int)] ∧ 1 ≤ d ∧ d ≤ 24 ∧ w ≤ d ∧ RetV .non H Q
def hm (d w m : Nat) (size : Int) : Int := LW m (2 ^ (d - w)) (size - m * (1 + w)) * 2 ^ (m * w)
def sp_rows_of_size (T : Tx K mg) : Sp := fun vs H Q _ => ∃ d w m : Nat, ∃ size : Int, vs = [.int (d : Int), .int (w : Int), .int (m : Int), .int size] ∧ 1 ≤ d ∧ d ≤ 24 ∧ w ≤ d ∧ m ≤ 200 ∧ CombOk m (2 ^ (d - w)) (size - m * (1 + w)) ∧ RetV (.int (hm d w m size)) H Q
def sp_how_many (T : Tx K mg) : Sp := fun vs H Q _ => ∃ d w m : Nat, ∃ size : Int, vs = [.int (d : Int), .int (w : Int), .int (m : Int), .int size] ∧ 1 ≤ d ∧ d ≤ 24 ∧ w ≤ d ∧ m ≤ 200 ∧ 0 ≤ size ∧ CombOk m (2 ^ (d - w)) (size - m * (1 + w)) ∧ RetV (.int (hm d w m size)) H Q
def sp_size_bounds (T : Tx K mg) : Sp := fun vs H Q _ => ∃ d w m : Nat, vs = [.int (d : Int), .int (w : Int), .int (m : Int)] ∧ 1 ≤ d ∧ d ≤ 24 ∧ w ≤ d ∧ m ≤ 200 ∧ RetU [.int ((m : Int) * ((w : Int) + 1)), .int ((m : Int) * ((w : Int) + 2 ^ (d - w)))] H Q
end
section
variable {P : Program} {w : World} {K : PySem.W.Frag} {mg : Str → Option Value} {base : Heap}
theorem ok_unwrapped_rests (T : Tx K mg) : FnOk P w K mg base CX0 2 T.a_unwrapped_rests T.d_unwrapped_rests ["guesser", "row"] (sp_unwrapped_rests T) := by
  refine T.f_unwrapped_rests.ok (k := 1) sc_unwrapped_rests (fun vs H Q E h => ?_) (fun cdv A outer s H vs Q E hr h => ?_)
  · obtain ⟨p, b, ws, s, row, rfl, _⟩ := h
    rfl
  · obtain ⟨p, b, ws, s, row, rfl, hg, hb, hl, q⟩ := h
    refine ⟨_,       (pss_cons (ps_asg (pe_tup (pa_cons (pe_meth0 (pv 0) T.cl_Guesser T.me_Guesser_weights (ok_Guesser_weights T) hr T.b_Guesser_weights .nil pass0) (pa_cons (pe_meth0 (pv 0) T.cl_Guesser T.me_Guesser_shift (ok_Guesser_shift T) hr T.b_Guesser_shift .nil pass0) (pa_cons (pe_meth0 (pv 0) T.cl_Guesser T.me_Guesser_order (ok_Guesser_order T) hr T.b_Guesser_order .nil pass0) pa_nil)))) (pg_tup rfl (pgs_cons (pg_name (i := 2) sc_unwrapped_rests.nd rfl (by first | exact Or.inl rfl | exact Or.inr rfl)) (pgs_cons (pg_name (i := 3) sc_unwrapped_rests.nd rfl (by first | exact Or.inl rfl | exact Or.inr rfl)) (pgs_cons (pg_name (i := 4) sc_unwrapped_rests.nd rfl (by first | exact Or.inl rfl | exact Or.inr rfl)) pgs_nil))))) 
      (pss_cons (ps_setLc (i := 5) (own := [("at", 6)]) (g := gName 6) (tt := tYes) rfl sc_unwrapped_rests.nd rfl rfl (sw_true rfl rfl rfl (by decide +kernel)) (pi_range2 rfl T.m_range (pa_cons (pv 4) (pa_cons (pe_callB (id := "len") (r := rLenS K) call_len_seq (by rfl) T.m_len PySem.boot_len (pa_cons (pv 1) pa_nil)) pa_nil))) (blkOk_by (own := [("at", 6)]) (N := ["guesser", "row", "weights", "shift", "order", "behind", "at"]) (sc := defScope s_unwrapped_rests) (by decide +kernel)) (fun _ _ _ _ _ => (pg_name (i := 6) sc_unwrapped_rests.nd rfl (by first | exact Or.inl rfl | exact Or.inr rfl))) (fun _ _ _ _ _ => pts_nil) (fun _ _ _ _ _ => (pe_op op_sub (pe_ix (r := rIxL K) ix_list (pv 1) (pv 6) (fun _ _ => rfl)) (pe_op op_shr (pe_call (ok_weighed T) hr (by rfl) T.g_weighed T.f_weighed.kp T.b_weighed .nil pass0 (pa_cons (pv 2) (pa_cons (pv 1) (pa_cons (pv 6) pa_nil)))) (pv 3))))) 
      (pss_one (ps_ret (pe_op op_cat (pe_slice (r := rSlL K) sl_list (pv 1) po_none (po_some (pv 4))) (pv 5)))))), ?_⟩
    have hw8 := hg.wb.1
    refine q_gin (tup_in (ta_consL (hg.weightsE (ev_var rfl)) fun pw H1 hpw e1 k1 => ta_consV ((hg.ex e1).shiftE (ev_var rfl)) fun H2 e2 => ta_consV ((hg.ex (e1.trans e2)).orderE (ev_var rfl)) fun H3 e3 => ta_nil ⟨by show 3 ≤ sizeLine; decide, fun pt hpt => ?_⟩))
    have x4 := Ex.new (o := .tup [V.ref pw, V.int (s : Int), V.int (ws.length : Int)]) hpt
    refine ⟨pt, _, rfl, st_of upd_same, rfl, _, _, rfl, _, _, rfl, _, _, rfl, rfl, ?_⟩
    have e14 := ((e1.trans e2).trans e3).trans x4
    have kw : Li _ pw ws := ((e2.trans e3).trans x4) _ _ k1
    refine q_asgL (el_mapR2 (n := ((row.length : Int) - (ws.length : Int)).toNat) (fun i => row.getD (ws.length + i) 0 - wsum row (ws.length + i) ws 0 / 2 ^ s) (ea_cons (ev_var rfl) (ea_cons (ev_is (ev_len (K := K) (ev_var rfl) (hb.ex e14).sq) (by rw [List.length_map])) ea_nil)) rfl (by omega) (fun _ => rfl) fun i H5 e5 hi => ?_) fun pb H5 hpb e5 k5 => ?_
    · have hin : ws.length + i < row.length := by omega
      have hrow : (row.map V.int)[ws.length + i]? = some (V.int (row.getD (ws.length + i) 0)) := by
        rw [List.getElem?_map, List.getD_eq_getElem?_getD, List.getElem?_eq_getElem hin]
        rfl
      refine ev_is (ev_op (ev_op (ev_var rfl) (ev_var rfl) (rv_ixL (K := K) (hb.ex (e14.trans e5)).sq (atI_nat hrow))) (ev_op (ev_call (ea_cons (ev_var rfl) (ea_cons (ev_var rfl) (ea_cons (ev_var rfl) ea_nil))) (spv fun H6 e6 Q q E => ⟨pw, b, ws, row, ws.length + i, rfl, (kw.ex e5).ex e6, hg.wb, (hb.ex (e14.trans e5)).ex e6, by omega, hl, by omega, q⟩)) (ev_var rfl) (rv_I (Int.natCast_nonneg s))) rv_I0) ?_
      rw [Int.toNat_natCast]
    · have h5 := el_sl (K := K) (te := tVar 1) (σ := [some (.ref p), some (.ref b), some (.ref pw), some (.int (s : Int)), some (.int (ws.length : Int)), some (.ref pb), none]) (ev_var rfl) (lo := none) (hi := some (ws.length : Int)) eo_none (eo_some (te := tVar 4) (ev_var rfl)) (hb.ex (e14.trans e5)).sq
      rw [take_cut] at h5
      refine s_retL (el_catLV h5 (ev_var rfl) k5 (by rw [List.length_map, List.length_take, List.length_map, List.length_map, List.length_range]; omega)) fun pr H6 hpr e6 k6 => ?_
      refine q pr H6 (fresh_back (e14.trans e5) hpr) ((e14.trans e5).trans e6) ?_
      rw [k6, ur_cut, List.map_append]
theorem ok_rests (T : Tx K mg) : FnOk P w K mg base CX0 4 T.a_rests T.d_rests ["guesser", "depth", "row"] (sp_rests T) := by
  refine T.f_rests.ok (k := 3) sc_rests (fun vs H Q E h => ?_) (fun cdv A outer s H vs Q E hr h => ?_)
  · obtain ⟨p, b, ws, s, row, d, rfl, _⟩ := h
    rfl
  · obtain ⟨p, b, ws, s, row, d, rfl, h1, h2, hg, hb, hl, hs, q⟩ := h
    refine ⟨_,       (pss_cons (ps_expr (pe_call (ok_check_guesser T) (hr.mono (by decide)) (by rfl) T.g_check_guesser T.f_check_guesser.kp T.b_check_guesser .nil pass0 (pa_cons (pv 0) pa_nil))) 
      (pss_cons (ps_expr (pe_call (ok_check_depth T) hr (by rfl) T.g_check_depth T.f_check_depth.kp T.b_check_depth .nil pass0 (pa_cons (pv 1) (pa_cons (pe_glob (v := .int 32) rfl T.c_GREATEST_DEPTH_guessers ⟨_, rfl⟩) pa_nil)))) 
      (pss_cons (ps_expr (pe_call (ok_check_samples T) hr (by rfl) T.g_check_samples T.f_check_samples.kp T.b_check_samples .nil pass0 (pa_cons (pv 2) (pa_cons (pv 1) pa_nil)))) 
      (pss_one (ps_ret (pe_lc (own := [("rest", 3)]) (g := gName 3) (tt := tYes) rfl sc_rests.nd (pi_list (pe_call (ok_unwrapped_rests T) (hr.mono (by decide)) (by rfl) T.g_unwrapped_rests T.f_unwrapped_rests.kp T.b_unwrapped_rests .nil pass0 (pa_cons (pv 0) (pa_cons (pv 2) pa_nil)))) (blkOk_by (own := [("rest", 3)]) (N := ["guesser", "depth", "row", "rest"]) (sc := defScope s_rests) (by decide +kernel)) (fun _ _ _ _ _ => (pg_name (i := 3) sc_rests.nd rfl (by first | exact Or.inl rfl | exact Or.inr rfl))) (fun _ _ _ _ _ => pts_nil) (fun _ _ _ _ _ => (pe_call (ok_wrapped T) (hr.mono (by decide)) (by rfl) T.g_wrapped T.f_wrapped.kp T.b_wrapped .nil pass0 (pa_cons (pv 3) (pa_cons (pv 1) pa_nil)))))))))), ?_⟩
    refine q_drop (ev_call (ea_cons (ev_var rfl) ea_nil) (spv fun H1 e Q q E => ⟨p, ws, s, rfl, hg.ex e, q⟩)) fun H1 e1 => ?_
    refine q_drop (ev_call (ea_cons (ev_var rfl) (ea_cons ev_c ea_nil)) (spv fun H2 e Q q E => ⟨d, 32, rfl, by omega, by omega, q⟩)) fun H2 e2 => ?_
    refine q_drop (ev_call (ea_cons (ev_var rfl) (ea_cons (ev_var rfl) ea_nil)) (spv fun H3 e Q q E => ⟨b, row, d, rfl, h1, h2, hb.ex ((e1.trans e2).trans e), hl, hs, q⟩)) fun H3 e3 => ?_
    have e13 := (e1.trans e2).trans e3
    rw [rst_ur, List.map_map] at q
    refine s_retL (el_mapN (K := K) (0 : Int) (xs := ur ws s row) (V.int ∘ wr d) (el_callR (ea_cons (ev_var rfl) (ea_cons (ev_var rfl) ea_nil)) fun H4 e4 Q k E => ⟨p, b, ws, s, row, rfl, (hg.ex e13).ex e4, (hb.ex e13).ex e4, hl, k⟩) (by unfold ur; rw [List.length_map, List.length_range]; omega) (fun _ => rfl) fun z H4 e4 hz => ev_call (ea_cons (ev_var rfl) (ea_cons (ev_var rfl) ea_nil)) (spv fun H5 e5 Q q E => ⟨z, d, rfl, h1, h2, q⟩)) fun pr H4 hpr e4 k4 => q pr H4 (fresh_back e13 hpr) (e13.trans e4) k4
theorem ok_check_told_at (T : Tx K mg) : FnOk P w K mg base CX0 4 T.a_check_told_at T.d_check_told_at ["depth", "width"] (sp_check_told_at T) := by
  refine T.f_check_told_at.ok (k := 3) sc_check_told_at (fun vs H Q E h => ?_) (fun cdv A outer s H vs Q E hr h => ?_)
  · obtain ⟨d, w, rfl, _⟩ := h
    rfl
  · obtain ⟨d, w, rfl, h1, h2, h3, q⟩ := h
    refine ⟨_,       (pss_cons (ps_expr (pe_call (ok_check_depth T) hr (by rfl) T.g_check_depth T.f_check_depth.kp T.b_check_depth .nil pass0 (pa_cons (pv 0) (pa_cons (pe_glob (v := .int 24) rfl T.c_GREATEST_DEPTH_sounds ⟨_, rfl⟩) pa_nil)))) 
      (pss_one (ps_if (pt_not (pt_val (pe_call (ok_is_within T) (hr.mono (by decide)) (by rfl) T.g_is_within T.f_is_within.kp T.b_is_within .nil pass0 (pa_cons (pv 1) (pa_cons pe_int (pa_cons (pv 0) pa_nil)))))) 
        (pss_one ps_never) pss_nil))), ?_⟩
    refine q_drop (ev_call (ea_cons (ev_var rfl) (ea_cons ev_c ea_nil)) (spv fun H2 e Q q E => ⟨d, 24, rfl, by omega, by omega, q⟩)) fun H1 e1 => ?_
    exact s_when (et_not (et_B (ev_call (ea_cons (ev_var rfl) (ea_cons ev_c (ea_cons (ev_var rfl) ea_nil))) (spv fun H1 e Q q E => ⟨w, 0, d, rfl, by omega, by omega, q⟩)))) (fun z => by cases z) (fun _ H2 e2 => q H2 (e1.trans e2))
theorem ok_lists_with_sum (T : Tx K mg) : FnOk P w K mg base CX0 1 T.a_lists_with_sum T.d_lists_with_sum ["many", "below", "total"] (sp_lists_with_sum T) := by
  refine T.f_lists_with_sum.ok (k := 0) sc_lists_with_sum (fun vs H Q E h => ?_) (fun cdv A outer s H vs Q E hr h => ?_)
  · obtain ⟨m, b, t, rfl, _⟩ := h
    rfl
  · obtain ⟨m, b, t, rfl, hc, q⟩ := h
    obtain ⟨hl, ⟨t2, m2, b1, b2⟩, hcomb⟩ := hc
    refine ⟨_,       (pss_cons (ps_if (PW.pt (pw_or (pt_cmpR op_eq (pv 0) pe_int (nomark _)) (pw_or1 (pt_not (pt_chain op_le op_le pe_int (pv 2) (pe_op op_mulW (pv 0) (pe_op op_sub (pv 1) pe_int))))))) 
        (pss_one (ps_ret (pe_ifExp (PW.pt (pw_and (pt_cmpR op_eq (pv 0) pe_int (nomark _)) (pw_and1 (pt_cmpR op_eq (pv 2) pe_int (nomark _))))) pe_int pe_int))) pss_nil) 
      (pss_cons (ps_set (i := 3) sc_lists_with_sum.nd rfl (by first | exact Or.inl rfl | exact Or.inr rfl) pe_int) 
      (pss_cons (ps_for PassesOwn.never rfl (pi_range1 rfl T.m_range (pa_cons (pe_op op_add (pe_callB (id := "min") (r := rMin K) (cr_min rfl) (by rfl) T.m_min (by decide +kernel) (pa_cons (pe_lst (pa_cons (pv 0) (pa_cons (pe_op op_fdivW (pv 2) (pv 1)) pa_nil))) pa_nil)) pe_int) pa_nil)) (pg_name (i := 4) sc_lists_with_sum.nd rfl (by first | exact Or.inl rfl | exact Or.inr rfl)) 
        (pss_cons (ps_set (i := 5) sc_lists_with_sum.nd rfl (by first | exact Or.inl rfl | exact Or.inr rfl) (pe_op op_mulW (pe_callBfun cr_comb (by rfl) T.mt_comb (pa_cons (pv 0) (pa_cons (pv 4) pa_nil))) (pe_callBfun cr_comb (by rfl) T.mt_comb (pa_cons (pe_op op_sub (pe_op op_add (pe_op op_sub (pv 2) (pe_op op_mulW (pv 4) (pv 1))) (pv 0)) pe_int) (pa_cons (pe_op op_sub (pv 0) pe_int) pa_nil))))) 
        (pss_one (ps_set (i := 3) sc_lists_with_sum.nd rfl (by first | exact Or.inl rfl | exact Or.inr rfl) (pe_ifExp (pt_truth (pe_op op_odd (pv 4) pe_int) (by intro _; rfl)) (pe_op op_sub (pv 3) (pv 5)) (pe_op op_add (pv 3) (pv 5))))))) 
      (pss_one (ps_ret (pv 3)))))), ?_⟩
    have b2' : (b : Int) ≤ 16777216 := by
      have : (2 : Nat) ^ 24 = 16777216 := by decide
      omega
    refine q_when (b := decide (V.int (m : Int) = V.int 0) || !(decide ((0 : Int) ≤ t) && decide (t ≤ (m : Int) * ((b : Int) - 1)))) (et_or (et_test (ev_op (ev_var rfl) ev_c (rv_eq rfl))) fun _ => et_not (et_chain ev_c (ev_var rfl) rv_I0 (ev_op (ev_var rfl) (ev_op (ev_var rfl) ev_c rv_I0) (rv_I (wide_mul (a := 10) (b := 26) (by omega) (by omega) (by decide) (by decide) (by decide)))) rv_I0)) (fun z H1 e1 => ?_) (fun z H1 e1 => ?_)
    · refine s_ret (ev_if (b := decide (V.int (m : Int) = V.int 0) && decide (V.int t = V.int 0)) (et_and (et_test (ev_op (ev_var rfl) ev_c (rv_eq rfl))) fun _ => et_test (ev_op (ev_var rfl) ev_c (rv_eq rfl))) (v := .int (LW m b t)) (fun y => ?_) (fun y => ?_)) fun H2 e2 => q H2 (e1.trans e2)
      · rw [Bool.and_eq_true] at y
        have y1 := V.int.inj (of_decide_eq_true y.1)
        have y2 := V.int.inj (of_decide_eq_true y.2)
        refine ev_is ev_c ?_
        unfold LW
        rw [if_pos (by omega), if_pos y2]
      · refine ev_is ev_c ?_
        unfold LW
        by_cases c : m = 0
        · rw [if_pos c]
          subst c
          have c2 : ¬ t = 0 := fun c2 => by
            subst c2
            revert y
            decide
          rw [if_neg c2]
        · rw [if_neg c]
          have dm : decide (V.int (m : Int) = V.int 0) = false := decide_eq_false fun z => by have := V.int.inj z; omega
          rw [dm, Bool.false_or] at z
          by_cases c2 : t < 0
          · rw [if_pos c2]
          · rw [if_neg c2]
            rw [decide_eq_true (show (0 : Int) ≤ t by omega), Bool.true_and] at z
            have hz : ¬ t ≤ (m : Int) * ((b : Int) - 1) := fun y => by rw [decide_eq_true y] at z; cases z
            unfold lws
            rw [if_neg hz]
    · rw [Bool.or_eq_false_iff] at z
      have m1 : ¬ m = 0 := fun c => of_decide_eq_false z.1 (by rw [c]; rfl)
      have zz : (decide ((0 : Int) ≤ t) && decide (t ≤ (m : Int) * ((b : Int) - 1))) = true := by
        have := z.2
        revert this
        cases (decide ((0 : Int) ≤ t) && decide (t ≤ (m : Int) * ((b : Int) - 1))) <;> simp
      rw [Bool.and_eq_true] at zz
      have t0 : 0 ≤ t := of_decide_eq_true zz.1
      have hz : t ≤ (m : Int) * ((b : Int) - 1) := of_decide_eq_true zz.2
      have hLW : LW m b t = lws m b t := by
        unfold LW
        rw [if_neg m1, if_neg (by omega)]
      rw [hLW] at q
      refine q_asg (v := .int (sumL m b t 0)) ev_c fun H2 e2 => ?_
      have hmn : min (m : Int) (t / (b : Int)) ∈ [(m : Int), t / (b : Int)] ∧ ∀ y ∈ [(m : Int), t / (b : Int)], min (m : Int) (t / (b : Int)) ≤ y := by
        refine ⟨?_, fun y hy => by simp at hy; omega⟩
        by_cases c : (m : Int) ≤ t / (b : Int)
        · rw [Int.min_eq_left c]; simp
        · rw [Int.min_eq_right (by omega)]; simp
      have hq0 : 0 ≤ t / (b : Int) := Int.ediv_nonneg (by omega) (by omega)
      refine q_forR1 (n := min (m : Int) (t / (b : Int)) + 1) (ea_cons (ev_op (ev_minN (K := K) (ns := [(m : Int), t / (b : Int)]) (el_lst (ea_cons (ev_var rfl) (ea_cons (ev_op (ev_var rfl) (ev_var rfl) (rv_I (wide_div (b := 26) (by omega) (by omega) (by decide) (by decide)))) ea_nil)) (by show 2 ≤ 100000; decide)) hmn.1 hmn.2) ev_c rv_I0) ea_nil) (by omega)
        (fun i σ' H' => ∃ y4 y5, σ' = [some (.int (m : Int)), some (.int (b : Int)), some (.int t), some (.int (sumL m b t i)), y4, y5] ∧ Ex H H') (fun H3 e3 => ⟨none, none, rfl, (e1.trans e2).trans e3⟩) (fun i σ' H' hi hP => ?_) (fun σ' H' hP => ?_)
      · obtain ⟨y4, y5, rfl, e⟩ := hP
        have him : i ≤ m := by omega
        have hib : (i : Int) * (b : Int) ≤ t := by
          have h1 : (i : Int) ≤ t / (b : Int) := by omega
          exact (Int.le_ediv_iff_mul_le (show (0 : Int) < (b : Int) by omega)).mp h1
        have hib0 : 0 ≤ (i : Int) * (b : Int) := Int.mul_nonneg (by omega) (by omega)
        obtain ⟨k1, k2⟩ := hcomb i (by omega) him hib
        refine q_asg (v := .int (term m b t i)) (ev_op (ev_comb (ev_var rfl) (ev_var rfl) (by omega) (by omega) (by omega)) (ev_comb (ev_op (ev_op (ev_op (ev_var rfl) (ev_op (ev_var rfl) (ev_var rfl) (rv_I (wide_mul (a := 10) (b := 26) (by omega) (by omega) (by decide) (by decide) (by decide)))) rv_I0) (ev_var rfl) rv_I0) ev_c rv_I0) (ev_op (ev_var rfl) ev_c rv_I0) (by omega) (by omega) (by omega)) (rv_I (wide_mul (a := 80) (b := 80) k1 k2 (by decide) (by decide) (by decide)))) fun H4 e4 => ?_
        refine s_asg (v := .int (sumL m b t (i + 1))) (ev_if (b := decide (i % 2 = 1)) (et_odd (ev_var rfl) ev_c) (fun z => ?_) (fun z => ?_)) fun H5 e5 => ⟨_, _, rfl, (e.trans e4).trans e5⟩
        · refine ev_is (ev_op (ev_var rfl) (ev_var rfl) rv_I0) ?_
          rw [sumL, if_pos (of_decide_eq_true z)]
        · refine ev_is (ev_op (ev_var rfl) (ev_var rfl) rv_I0) ?_
          rw [sumL, if_neg (of_decide_eq_false z)]
      · obtain ⟨y4, y5, rfl, e⟩ := hP
        refine s_ret (ev_var rfl) fun H4 e4 => ?_
        unfold lws at q
        rw [if_pos hz] at q
        exact q H4 (e.trans e4)
theorem ok_rows_of_size (T : Tx K mg) : FnOk P w K mg base CX0 2 T.a_rows_of_size T.d_rows_of_size ["depth", "width", "many", "size"] (sp_rows_of_size T) := by
  refine T.f_rows_of_size.ok (k := 1) sc_rows_of_size (fun vs H Q E h => ?_) (fun cdv A outer s H vs Q E hr h => ?_)
  · obtain ⟨d, w, m, size, rfl, _⟩ := h
    rfl
  · obtain ⟨d, w, m, size, rfl, h1, h2, h3, h4, hc, q⟩ := h
    refine ⟨_,       (pss_cons (ps_set (i := 4) sc_rows_of_size.nd rfl (by first | exact Or.inl rfl | exact Or.inr rfl) (pe_op op_sub (pv 3) (pe_op op_mul (pv 2) (pe_op op_add pe_int (pv 1))))) 
      (pss_one (ps_ret (pe_op op_shlW (pe_call (ok_lists_with_sum T) hr (by rfl) T.g_lists_with_sum T.f_lists_with_sum.kp T.b_lists_with_sum .nil pass0 (pa_cons (pv 2) (pa_cons (pe_op op_shlW pe_int (pe_op op_sub (pv 0) (pv 1))) (pa_cons (pv 4) pa_nil)))) (pe_op op_mul (pv 2) (pv 1)))))), ?_⟩
    refine q_asg (v := .int (size - m * (1 + w))) (ev_op (ev_var rfl) (ev_op (ev_var rfl) (ev_op ev_c (ev_var rfl) rv_I0) (rv_I (Or.inl ⟨by omega, by omega⟩))) rv_I0) fun H1 e1 => ?_
    have eb : (1 : Int) * 2 ^ ((d : Int) - (w : Int)).toNat = ((2 ^ (d - w) : Nat) : Int) := by
      rw [show (d : Int) - (w : Int) = ((d - w : Nat) : Int) by omega, one_p, Int.natCast_pow]
      rfl
    have em : (m : Int) * (w : Int) = ((m * w : Nat) : Int) := by rw [Int.natCast_mul]
    have hmw : m * w ≤ 200 * 24 := Nat.mul_le_mul h4 (by omega)
    refine s_ret (ev_is (ev_op (ev_call (vs := [.int (m : Int), .int ((2 ^ (d - w) : Nat) : Int), .int (size - m * (1 + w))]) (ea_cons (ev_var rfl) (ea_cons (ev_is (ev_op ev_c (ev_op (ev_var rfl) (ev_var rfl) rv_I0) (rv_I ?_)) (by rw [eb])) (ea_cons (ev_var rfl) ea_nil))) (spv fun H2 e Q q E => ⟨m, 2 ^ (d - w), _, rfl, hc, q⟩)) (ev_op (ev_var rfl) (ev_var rfl) (rv_I (Or.inl ⟨by omega, by omega⟩))) (rv_I ?_)) ?_) fun H2 e2 => q H2 (e1.trans e2)
    · rw [show (d : Int) - (w : Int) = ((d - w : Nat) : Int) by omega]
      exact shl1 (by omega)
    · rw [em]
      exact shl_ok (n := 1000) (j := m * w) hc.1 (by omega)
    · rw [em, Int.toNat_natCast]
      rfl
theorem ok_how_many (T : Tx K mg) : FnOk P w K mg base CX0 5 T.a_how_many T.d_how_many ["depth", "width", "many", "size"] (sp_how_many T) := by
  refine T.f_how_many.ok (k := 4) sc_how_many (fun vs H Q E h => ?_) (fun cdv A outer s H vs Q E hr h => ?_)
  · obtain ⟨d, w, m, size, rfl, _⟩ := h
    rfl
  · obtain ⟨d, w, m, size, rfl, h1, h2, h3, h4, h5, hc, q⟩ := h
    refine ⟨_,       (pss_cons (ps_expr (pe_call (ok_check_told_at T) hr (by rfl) T.g_check_told_at T.f_check_told_at.kp T.b_check_told_at .nil pass0 (pa_cons (pv 0) (pa_cons (pv 1) pa_nil)))) 
      (pss_cons (ps_expr (pe_call (ok_check_within T) (hr.mono (by decide)) (by rfl) T.g_check_within T.f_check_within.kp T.b_check_within .nil pass0 (pa_cons (pv 2) (pa_cons pe_int (pa_cons (pe_glob (v := .int 200) rfl T.c_MOST_SAMPLES ⟨_, rfl⟩) pa_nil))))) 
      (pss_cons (ps_expr (pe_call (ok_check_count T) (hr.mono (by decide)) (by rfl) T.g_check_count T.f_check_count.kp T.b_check_count .nil pass0 (pa_cons (pv 3) pa_nil))) 
      (pss_one (ps_ret (pe_call (ok_rows_of_size T) (hr.mono (by decide)) (by rfl) T.g_rows_of_size T.f_rows_of_size.kp T.b_rows_of_size .nil pass0 (pa_cons (pv 0) (pa_cons (pv 1) (pa_cons (pv 2) (pa_cons (pv 3) pa_nil)))))))))), ?_⟩
    refine q_drop (ev_call (ea_cons (ev_var rfl) (ea_cons (ev_var rfl) ea_nil)) (spv fun H2 e Q q E => ⟨d, w, rfl, h1, h2, h3, q⟩)) fun H1 e1 => ?_
    refine q_drop (ev_call (ea_cons (ev_var rfl) (ea_cons ev_c (ea_cons ev_c ea_nil))) (spv fun H2 e Q q E => ⟨m, 0, 200, rfl, by omega, by omega, q⟩)) fun H2 e2 => ?_
    refine q_drop (ev_call (ea_cons (ev_var rfl) ea_nil) (spv fun H2 e Q q E => ⟨size, rfl, h5, q⟩)) fun H3 e3 => ?_
    exact s_ret (ev_call (ea_cons (ev_var rfl) (ea_cons (ev_var rfl) (ea_cons (ev_var rfl) (ea_cons (ev_var rfl) ea_nil)))) (spv fun H2 e Q q E => ⟨d, w, m, size, rfl, h1, h2, h3, h4, hc, q⟩)) fun H4 e4 => q H4 (((e1.trans e2).trans e3).trans e4)
theorem ok_size_bounds (T : Tx K mg) : FnOk P w K mg base CX0 5 T.a_size_bounds T.d_size_bounds ["depth", "width", "many"] (sp_size_bounds T) := by
  refine T.f_size_bounds.ok (k := 4) sc_size_bounds (fun vs H Q E h => ?_) (fun cdv A outer s H vs Q E hr h => ?_)
  · obtain ⟨d, w, m, rfl, _⟩ := h
    rfl
  · obtain ⟨d, w, m, rfl, h1, h2, h3, h4, q⟩ := h
    refine ⟨_,       (pss_cons (ps_expr (pe_call (ok_check_told_at T) hr (by rfl) T.g_check_told_at T.f_check_told_at.kp T.b_check_told_at .nil pass0 (pa_cons (pv 0) (pa_cons (pv 1) pa_nil)))) 
      (pss_cons (ps_expr (pe_call (ok_check_within T) (hr.mono (by decide)) (by rfl) T.g_check_within T.f_check_within.kp T.b_check_within .nil pass0 (pa_cons (pv 2) (pa_cons pe_int (pa_cons (pe_glob (v := .int 200) rfl T.c_MOST_SAMPLES ⟨_, rfl⟩) pa_nil))))) 
      (pss_cons (ps_set (i := 3) sc_size_bounds.nd rfl (by first | exact Or.inl rfl | exact Or.inr rfl) (pe_op op_sub (pe_op op_shlW pe_int (pe_op op_sub (pv 0) (pv 1))) pe_int)) 
      (pss_one (ps_ret (pe_tup (pa_cons (pe_op op_mul (pv 2) (pe_op op_add pe_int (pv 1))) (pa_cons (pe_op op_mul (pv 2) (pe_op op_add (pe_op op_add pe_int (pv 1)) (pv 3))) pa_nil)))))))), ?_⟩
    refine q_drop (ev_call (ea_cons (ev_var rfl) (ea_cons (ev_var rfl) ea_nil)) (spv fun H2 e Q q E => ⟨d, w, rfl, h1, h2, h3, q⟩)) fun H1 e1 => ?_
    refine q_drop (ev_call (ea_cons (ev_var rfl) (ea_cons ev_c (ea_cons ev_c ea_nil))) (spv fun H2 e Q q E => ⟨m, 0, 200, rfl, by omega, by omega, q⟩)) fun H2 e2 => ?_
    refine q_asg (v := .int (2 ^ (d - w) - 1)) (ev_is (ev_op (ev_op ev_c (ev_op (ev_var rfl) (ev_var rfl) rv_I0) (rv_I ?_)) ev_c rv_I0) ?_) fun H3 e3 => ?_
    · rw [show (d : Int) - (w : Int) = ((d - w : Nat) : Int) by omega]
      exact shl1 (by omega)
    · rw [show (d : Int) - (w : Int) = ((d - w : Nat) : Int) by omega, one_p]
    refine s_retU (eu_tup (ea_cons (ev_is (w := .int ((m : Int) * ((w : Int) + 1))) (ev_op (ev_var rfl) (ev_op ev_c (ev_var rfl) rv_I0) (rv_I (Or.inl ⟨by omega, by omega⟩))) (by rw [Int.add_comm])) (ea_cons (ev_is (w := .int ((m : Int) * ((w : Int) + 2 ^ (d - w)))) (ev_op (ev_var rfl) (ev_op (ev_op ev_c (ev_var rfl) rv_I0) (ev_var rfl) rv_I0) (rv_I (Or.inl ⟨by omega, by omega⟩))) (by congr 2; omega)) ea_nil)) (by show 2 ≤ 100000; decide)) fun p H4 hp e4 k4 => q p H4 (fresh_back ((e1.trans e2).trans e3) hp) (((e1.trans e2).trans e3).trans e4) k4
end
end K50

set_option Elab.async false
set_option linter.all false
set_option maxRecDepth 100000
set_option maxHeartbeats 4000000
namespace K50
open PySem PySem.Spec PyProof.Rows L2 Evl WS M44 M50
def cellV (ns : List Int) (k : Nat) : Int := if k < ns.length then ns.getD k 0 else (ns.take 1).sum.fmod 1000003
def mixA (s i : Int) : Int := (s * 1103515245 + 7919 * i * i + i + 1).fmod 2147483647
def mixB (s i : Int) : Int := (mixA s i * mixA s i + 69621).fmod 2147483629
def hashV (s i : Int) : Int := (mixB s i * 48271).fmod 2147483587
section
variable {K : PySem.W.Frag} {mg : Str → Option Value}
def sp__law_cell (T : Tx K mg) : Sp := fun vs H Q _ => ∃ a, ∃ ns : List Int, ∃ k : Nat, vs = [.ref a, .int (k : Int)] ∧ SqL K H a (ns.map V.int) ∧ ns.length ≤ 63 ∧ RetV (.int (cellV ns k)) H Q
def sp__law_hash (T : Tx K mg) : Sp := fun vs H Q _ => ∃ s i : Int, vs = [.int s, .int i] ∧ (0 ≤ s ∧ s < 2147483648) ∧ (0 ≤ i ∧ i ≤ 1000000000000) ∧ RetV (.int (hashV s i)) H Q
def sp__law_generator (T : Tx K mg) : Sp := fun vs H Q _ => ∃ a, ∃ ns : List Int, ∃ k : Nat, vs = [.ref a, .int (k : Int)] ∧ SqL K H a (ns.map V.int) ∧ ns.length ≤ 63 ∧ k ≤ 1000 ∧ ∀ p H2, H p = none → Ex H H2 → Gs H2 p (1000 * k) → Q (.ref p) H2
def sp__law_random (T : Tx K mg) : Sp := fun vs H Q _ => ∃ g, ∃ n : Int, ∃ C : Nat, vs = [.ref g, .int n] ∧ Gs H g C ∧ C ≤ 1000000000 ∧ 1 ≤ n ∧ n ≤ 1000000000000 ∧
  ∀ z H2, 0 ≤ z → z < n → Gs H2 g (C + 4) → ExB g H H2 → Q (.int z) H2
def sp__law_folded (T : Tx K mg) : Sp := fun vs H Q _ => ∃ z, vs = [.int z] ∧ -(2 ^ 62) ≤ z ∧ z ≤ 2 ^ 62 ∧ RetV (.int (fold z)) H Q
def sp__law_weights (T : Tx K mg) : Sp := fun vs H Q _ => ∃ g, ∃ n C : Nat, vs = [.ref g, .int (n : Int)] ∧ Gs H g C ∧ n ≤ 100 ∧ C ≤ 100000000 ∧ ∀ p ws H2, H p = none → Li H2 p ws → Wb 32768 n ws → Gs H2 g (C + 2000) → ExB g H H2 → Q (.ref p) H2
theorem rnd_use {T : Tx K mg} {σ : L2.St} {H : Hp} {ta tb : TE} {g : Addr} {n : Int} {C : Nat} {E : XK} {Q : VK} (ha : Ev ta σ H (.ref g)) (hb : Ev tb σ H (.int n)) (hg : Gs H g C) (hC : C ≤ 1000000000) (h1 : 1 ≤ n) (h2 : n ≤ 1000000000000)
    (k : ∀ z H2, 0 ≤ z → z < n → Gs H2 g (C + 4) → ExB g H H2 → Q (.int z) H2) : tCall (sp__law_random T) [] E (tCons ta (tCons tb tNil)) σ H Q :=
  ha H (Ex.refl H) _ fun H1 e1 => hb H1 e1 _ fun H2 e2 => ⟨g, n, C, rfl, hg.ex (e1.trans e2), hC, h1, h2, fun z H3 a b c d => k z H3 a b c ((ExB.of (e1.trans e2)).trans d)⟩
end
section
variable {P : Program} {w : World} {K : PySem.W.Frag} {mg : Str → Option Value} {base : Heap}
theorem ok__law_cell (T : Tx K mg) : FnOk P w K mg base CX0 1 T.a__law_cell T.d__law_cell ["_law_script", "_law_index"] (sp__law_cell T) := by
  refine T.f__law_cell.ok (k := 0) sc__law_cell (fun vs H Q E h => ?_) (fun cdv A outer s H vs Q E hr h => ?_)
  · obtain ⟨a, ns, k, rfl, _⟩ := h
    rfl
  · obtain ⟨a, ns, k, rfl, hs, hl, q⟩ := h
    refine ⟨_,       (pss_cons (ps_if (pt_cmpR op_lt (pv 1) (pe_callB (id := "len") (r := rLenS K) call_len_seq (by rfl) T.m_len PySem.boot_len (pa_cons (pv 0) pa_nil)) (nomark _)) 
        (pss_one (ps_ret (pe_ix (r := rIxL K) ix_list (pv 0) (pv 1) (fun _ _ => rfl)))) pss_nil) 
      (pss_one (ps_ret (pe_op op_modN (pe_callB (id := "sum") (r := rSum K) (cr_sum rfl) (by rfl) T.m_sum (by decide +kernel) (pa_cons (pe_slice (r := rSlL K) sl_list (pv 0) po_none (po_some pe_int)) pa_nil)) pe_int)))), ?_⟩
    refine q_when (et_test (ev_op (ev_var rfl) (ev_len (K := K) (ev_var rfl) hs) rv_I0)) (fun z H1 e1 => ?_) (fun z H1 e1 => ?_)
    · have hz : (k : Int) < ((ns.map V.int).length : Int) := of_decide_eq_true z
      rw [List.length_map] at hz
      have hk : k < ns.length := by omega
      refine s_ret (ev_op (ev_var rfl) (ev_var rfl) (rv_ixL (K := K) (v := .int (cellV ns k)) (ex_l e1 hs) ?_)) fun H2 e2 => q H2 (e1.trans e2)
      refine atI_nat ?_
      rw [List.getElem?_map, List.getElem?_eq_getElem hk]
      unfold cellV
      rw [if_pos hk, List.getD_eq_getElem?_getD, List.getElem?_eq_getElem hk] <;> rfl
    · have hz : ¬ (k : Int) < ((ns.map V.int).length : Int) := of_decide_eq_false z
      rw [List.length_map] at hz
      have hk : ¬ k < ns.length := by omega
      refine s_ret (ev_is (ev_op (ev_sumN (K := K) (ns := ns.take 1) ?_) ev_c (rv_I (by decide))) ?_) fun H2 e2 => q H2 (e1.trans e2)
      · have k1 := el_sl (σ := start ["_law_script", "_law_index"] [V.ref a, V.int (k : Int)]) (K := K) (te := tVar 0) (ev_var rfl) eo_none (eo_some (te := tC (.int 1)) ev_c) (ex_l e1 hs)
        have ec : cutV (ns.map V.int) none (some 1) = (ns.take 1).map V.int := by
          unfold cutV
          rw [HT.sIx_none, show HT.sIx (ns.map V.int).length (ns.map V.int).length (some 1) = min 1 (ns.map V.int).length from HT.sIx_nat _ _ 1]
          cases ns with
          | nil => rfl
          | cons x r => simp
        rw [ec] at k1
        exact k1
      · unfold cellV
        rw [if_neg hk]
theorem ok__law_hash (T : Tx K mg) : FnOk P w K mg base CX0 1 T.a__law_hash T.d__law_hash ["_law_seed", "_law_index"] (sp__law_hash T) := by
  refine T.f__law_hash.ok (k := 0) sc__law_hash (fun vs H Q E h => ?_) (fun cdv A outer s H vs Q E hr h => ?_)
  · obtain ⟨s, i, rfl, _⟩ := h
    rfl
  · obtain ⟨s, i, rfl, ⟨s0, s1⟩, ⟨i0, i1⟩, q⟩ := h
    refine ⟨_,       (pss_cons (ps_set (i := 2) sc__law_hash.nd rfl (by first | exact Or.inl rfl | exact Or.inr rfl) (pe_op op_modN (pe_callTy call_int1 (by rfl) T.m_int (by decide +kernel) (pa_cons (pe_op op_add (pe_op op_add (pe_op op_add (pe_op op_mul (pv 0) pe_int) (pe_op op_mul (pe_op op_mul pe_int (pv 1)) (pv 1))) (pv 1)) pe_int) pa_nil)) pe_int)) 
      (pss_cons (ps_set (i := 2) sc__law_hash.nd rfl (by first | exact Or.inl rfl | exact Or.inr rfl) (pe_op op_modN (pe_callTy call_int1 (by rfl) T.m_int (by decide +kernel) (pa_cons (pe_op op_add (pe_op op_mul (pv 2) (pv 2)) pe_int) pa_nil)) pe_int)) 
      (pss_one (ps_ret (pe_op op_modN (pe_callTy call_int1 (by rfl) T.m_int (by decide +kernel) (pa_cons (pe_op op_mul (pv 2) pe_int) pa_nil)) pe_int))))), ?_⟩
    have hA := fmod_in (s * 1103515245 + 7919 * i * i + i + 1) 2147483647 (by decide)
    have hB := fmod_in (mixA s i * mixA s i + 69621) 2147483629 (by decide)
    refine q_asg (v := .int (mixA s i)) (ev_op (ev_int (ev_op (ev_op (ev_op (ev_op (ev_var rfl) ev_c (rv_I (Or.inr ⟨by decide, by decide⟩))) (ev_op (ev_op ev_c (ev_var rfl) (rv_I (Or.inl ⟨by decide, by decide⟩))) (ev_var rfl) (rv_I (Or.inr ⟨by omega, by omega⟩))) rv_I0) (ev_var rfl) rv_I0) ev_c rv_I0)) ev_c (rv_I (by decide))) fun H1 e1 => ?_
    have hA' : 0 ≤ mixA s i ∧ mixA s i < 2147483647 := hA
    refine q_asg (v := .int (mixB s i)) (ev_op (ev_int (ev_op (ev_op (ev_var rfl) (ev_var rfl) (rv_I (Or.inl ⟨by omega, by omega⟩))) ev_c rv_I0)) ev_c (rv_I (by decide))) fun H2 e2 => ?_
    refine s_ret (v := .int (hashV s i)) (ev_op (ev_int (ev_op (ev_var rfl) ev_c (rv_I (Or.inr ⟨by decide, by decide⟩)))) ev_c (rv_I (by decide))) fun H3 e3 => q H3 ((e1.trans e2).trans e3)
theorem ok__law_generator (T : Tx K mg) : FnOk P w K mg base CX0 2 T.a__law_generator T.d__law_generator ["_law_script", "_law_index"] (sp__law_generator T) := by
  refine T.f__law_generator.ok (k := 1) sc__law_generator (fun vs H Q E h => ?_) (fun cdv A outer s H vs Q E hr h => ?_)
  · obtain ⟨a, ns, k, rfl, _⟩ := h
    rfl
  · obtain ⟨a, ns, k, rfl, hs, hl, hk, q⟩ := h
    refine ⟨_,       (pss_cons (ps_set (i := 2) sc__law_generator.nd rfl (by first | exact Or.inl rfl | exact Or.inr rfl) (pe_call (ok__law_cell T) hr (by rfl) T.g__law_cell T.f__law_cell.kp T.b__law_cell .nil pass0 (pa_cons (pv 0) (pa_cons (pv 1) pa_nil)))) 
      (pss_one (ps_ret (pe_lst (pa_cons (pe_op op_modN (pe_callTy call_int1 (by rfl) T.m_int (by decide +kernel) (pa_cons (pe_callB (id := "max") (call_max2 rfl) (by rfl) T.m_max (by decide +kernel) (pa_cons (pe_op op_sub (pv 2) (pe_op op_powW pe_int pe_int)) (pa_cons pe_int pa_nil))) pa_nil)) (pe_op op_powW (pe_op op_powW pe_int pe_int) pe_int)) (pa_cons (pe_op op_modN (pe_callTy call_int1 (by rfl) T.m_int (by decide +kernel) (pa_cons (pv 2) pa_nil)) pe_int) (pa_cons (pe_op op_mul pe_int (pv 1)) pa_nil))))))), ?_⟩
    refine q_asg (ev_call (ea_cons (ev_var rfl) (ea_cons (ev_var rfl) ea_nil)) (spv fun H1 e Q q E => ⟨a, ns, k, rfl, ex_l e hs, hl, q⟩)) fun H1 e1 => ?_
    generalize cellV ns k = seed
    refine s_retL (el_lst (ea_cons (ev_op (ev_int (ev_max2 (ev_op (ev_var rfl) (ev_op ev_c ev_c (rv_I ⟨by decide, by decide +kernel⟩)) rv_I0) ev_c)) (ev_op (ev_op ev_c ev_c (rv_I ⟨by decide, by decide +kernel⟩)) ev_c (rv_I ⟨by decide, by decide +kernel⟩)) (rv_I (by decide +kernel))) (ea_cons (ev_op (ev_int (ev_var rfl)) ev_c (rv_I (by decide))) (ea_cons (ev_op ev_c (ev_var rfl) (rv_I (Or.inl ⟨by decide, by decide⟩))) ea_nil))) (by show 3 ≤ 100000; decide)) fun p H2 hp e2 h2 => ?_
    refine q p H2 (fresh_back e1 hp) (e1.trans e2) ⟨_, _, _, h2, (fmod_in _ _ (by decide +kernel)).1, ?_, ?_, ?_⟩
    · have := fmod_in seed 2147483647 (by decide)
      omega
    · omega
    · omega
theorem ok__law_random (T : Tx K mg) : FnOk P w K mg base CX0 2 T.a__law_random T.d__law_random ["_law_generator_here", "_law_bound"] (sp__law_random T) := by
  refine T.f__law_random.ok (k := 1) sc__law_random (fun vs H Q E h => ?_) (fun cdv A outer s H vs Q E hr h => ?_)
  · obtain ⟨g, n, C, rfl, _⟩ := h
    rfl
  · obtain ⟨g, n, C, rfl, hg, hC, hn1, hn2, q⟩ := h
    obtain ⟨A0, B, c, hg, hA, hB, hc0, hc1⟩ := hg
    refine ⟨_,       (pss_cons (ps_if (pt_cmpR op_gt (pe_ix (r := rIxL K) ix_list (pv 0) pe_int (fun _ _ => rfl)) pe_int (nomark _)) 
        (pss_cons (ps_set (i := 2) sc__law_random.nd rfl (by first | exact Or.inl rfl | exact Or.inr rfl) (pe_op op_modN (pe_callTy call_int1 (by rfl) T.m_int (by decide +kernel) (pa_cons (pe_ix (r := rIxL K) ix_list (pv 0) pe_int (fun _ _ => rfl)) pa_nil)) (pv 1))) 
        (pss_cons (ps_asg (pe_op op_fdivW (pe_ix (r := rIxL K) ix_list (pv 0) pe_int (fun _ _ => rfl)) (pv 1)) (pg_sub (pv 0) pe_int set_list)) 
        (pss_one (ps_ret (pv 2))))) pss_nil) 
      (pss_cons (ps_set (i := 2) sc__law_random.nd rfl (by first | exact Or.inl rfl | exact Or.inr rfl) pe_int) 
      (pss_cons (ps_for PassesOwn.never rfl (pi_range1 rfl T.m_range (pa_cons (pe_op op_add pe_int (pe_op op_fdiv (pe_bits (pv 1)) pe_int)) pa_nil)) (pg_name (i := 3) sc__law_random.nd rfl (by first | exact Or.inl rfl | exact Or.inr rfl)) 
        (pss_cons (ps_asg (pe_op op_add (pe_ix (r := rIxL K) ix_list (pv 0) pe_int (fun _ _ => rfl)) pe_int) (pg_sub (pv 0) pe_int set_list)) 
        (pss_one (ps_set (i := 2) sc__law_random.nd rfl (by first | exact Or.inl rfl | exact Or.inr rfl) (pe_op op_add (pe_op op_mul (pv 2) pe_int) (pe_call (ok__law_hash T) hr (by rfl) T.g__law_hash T.f__law_hash.kp T.b__law_hash .nil pass0 (pa_cons (pe_ix (r := rIxL K) ix_list (pv 0) pe_int (fun _ _ => rfl)) (pa_cons (pe_ix (r := rIxL K) ix_list (pv 0) pe_int (fun _ _ => rfl)) pa_nil)))))))) 
      (pss_one (ps_ret (pe_op op_modN (pe_callTy call_int1 (by rfl) T.m_int (by decide +kernel) (pa_cons (pv 2) pa_nil)) (pv 1))))))), ?_⟩
    refine q_when (b := decide (0 < A0)) (et_test (ev_op (ev_op (ev_var rfl) ev_c (rv_ixL (K := K) (sq_of hg) (atI_nat (j := 0) rfl))) ev_c rv_I0)) (fun z H1 e1 => ?_) (fun z H1 e1 => ?_)
    · have g1 := e1 _ _ hg
      refine q_asg (ev_op (ev_int (ev_op (ev_var rfl) ev_c (rv_ixL (K := K) (sq_of g1) (atI_nat (j := 0) rfl)))) (ev_var rfl) (rv_I (show n ≠ 0 by omega))) fun H2 e2 => ?_
      have g2 := e2 _ _ g1
      refine q_setL (j := 0) (v := .int (A0 / n)) g2 (ev_op (ev_op (ev_var rfl) ev_c (rv_ixL (K := K) (sq_of g2) (atI_nat (j := 0) rfl))) (ev_var rfl) (rv_I (wide_div (b := 64) (by omega) (by omega) (by decide) (by decide)))) (ev_var rfl) ev_c (by show 0 < 3; decide) fun H3 e3 => ?_
      have hm := fmod_in A0 n (by omega)
      refine s_ret (ev_var rfl) fun H4 e4 => q _ H4 hm.1 hm.2 ⟨A0 / n, B, c, e4 _ _ upd_same, Int.ediv_nonneg hA (by omega), hB, hc0, by omega⟩ ?_
      exact ((ExB.of ((e1.trans e2).trans e3)).upd).trans (ExB.of e4)
    · refine q_asg ev_c fun H2 e2 => ?_
      have hbits : Builtin.Int.intBits n ≤ 40 := PyProof.Rows.intBits_le (k := 40) (show n.natAbs < 2 ^ 40 by omega)
      refine q_forR1 (n := 1 + ((Builtin.Int.intBits n : Nat) : Int) / 30) (ea_cons (ev_op ev_c (ev_op (ev_bits (ev_var rfl)) ev_c (rv_I ⟨by decide, by decide⟩)) rv_I0) ea_nil) (by omega)
        (fun i σ' H' => ∃ d y3, σ' = [some (.ref g), some (.int n), some (.int d), y3] ∧ ExB g H H' ∧ H' g = some (.lst [.int A0, .int B, .int (c + (i : Int))])) (fun H3 e3 => ⟨0, none, rfl, ExB.of ((e1.trans e2).trans e3), by
          rw [((e1.trans e2).trans e3) _ _ hg, show c + ((0 : Nat) : Int) = c by omega]⟩) (fun i σ' H' hi hP => ?_) (fun σ' H' hP => ?_)
      · obtain ⟨d, y3, rfl, hE, hg'⟩ := hP
        refine q_setL (j := 2) (v := .int (c + (i : Int) + 1)) hg' (ev_op (ev_op (ev_var rfl) ev_c (rv_ixL (K := K) (sq_of hg') (atI_nat (j := 2) rfl))) ev_c rv_I0) (ev_var rfl) ev_c (by show 2 < 3; decide) fun H3 e3 => ?_
        have g3 : (upd H3 g (.lst [.int A0, .int B, .int (c + (i : Int) + 1)])) g = some (.lst [.int A0, .int B, .int (c + (i : Int) + 1)]) := upd_same
        refine s_asg (ev_op (ev_op (ev_var rfl) ev_c (rv_I (Or.inr ⟨by decide, by decide⟩))) (ev_call (ea_cons (ev_op (ev_var rfl) ev_c (rv_ixL (K := K) (sq_of g3) (atI_nat (j := 1) rfl))) (ea_cons (ev_op (ev_var rfl) ev_c (rv_ixL (K := K) (sq_of g3) (atI_nat (j := 2) rfl))) ea_nil)) (spv fun H1 e Q q E => ⟨B, c + (i : Int) + 1, rfl, hB, by omega, q⟩)) rv_I0) fun H4 e4 => ?_
        refine ⟨_, _, rfl, (hE.trans (ExB.of e3)).upd.trans (ExB.of e4), ?_⟩
        rw [e4 _ _ g3, show c + (i : Int) + 1 = c + ((i + 1 : Nat) : Int) by omega]
      · obtain ⟨d, y3, rfl, hE, hg'⟩ := hP
        have hm := fmod_in d n (by omega)
        refine s_ret (ev_op (ev_int (ev_var rfl)) (ev_var rfl) (rv_I (show n ≠ 0 by omega))) fun H4 e4 => q _ H4 hm.1 hm.2 ⟨A0, B, _, e4 _ _ hg', hA, hB, by omega, by omega⟩ (hE.trans (ExB.of e4))
theorem ok__law_weights (T : Tx K mg) : FnOk P w K mg base CX0 3 T.a__law_weights T.d__law_weights ["_law_generator_here", "_law_many"] (sp__law_weights T) := by
  refine T.f__law_weights.ok (k := 2) sc__law_weights (fun vs H Q E h => ?_) (fun cdv A outer s H vs Q E hr h => ?_)
  · obtain ⟨g, n, C, rfl, _⟩ := h
    rfl
  · obtain ⟨g, n, C, rfl, hg, hn, hC, q⟩ := h
    refine ⟨_,       (pss_cons (ps_set (i := 2) sc__law_weights.nd rfl (by first | exact Or.inl rfl | exact Or.inr rfl) (pe_lst pa_nil)) 
      (pss_cons (ps_for PassesOwn.never rfl (pi_range1 rfl T.m_range (pa_cons (pv 1) pa_nil)) (pg_name (i := 3) sc__law_weights.nd rfl (by first | exact Or.inl rfl | exact Or.inr rfl)) 
        (pss_cons (ps_par (i := 4) (j := 5) (by rfl) sc__law_weights.nd rfl rfl (by decide) rfl rfl (pa_cons (pe_op op_sub (pe_call (ok__law_random T) hr (by rfl) T.g__law_random T.f__law_random.kp T.b__law_random .nil pass0 (pa_cons (pv 0) (pa_cons (pe_op op_add (pe_op op_powW pe_int pe_int) pe_int) pa_nil))) (pe_op op_powW pe_int pe_int)) (pa_cons (pe_call (ok__law_random T) hr (by rfl) T.g__law_random T.f__law_random.kp T.b__law_random .nil pass0 (pa_cons (pv 0) (pa_cons pe_int pa_nil))) pa_nil)) (by rfl)) 
        (pss_one (ps_expr (pe_bm PySem.F.plainAttrs_list PySem.F.slot_list_append PySem.F.type_list_append mt_append (pv 2) (pa_cons (pe_ix (r := rIxL K) ix_list (pe_lst (pa_cons (pe_op op_sub (pe_call (ok__law_random T) hr (by rfl) T.g__law_random T.f__law_random.kp T.b__law_random .nil pass0 (pa_cons (pv 0) (pa_cons pe_int pa_nil))) pe_int) (pa_cons (pe_op op_sub (pe_call (ok__law_random T) hr (by rfl) T.g__law_random T.f__law_random.kp T.b__law_random .nil pass0 (pa_cons (pv 0) (pa_cons pe_int pa_nil))) pe_int) (pa_cons pe_int (pa_cons (pv 4) pa_nil))))) (pv 5) (fun _ _ => rfl)) pa_nil)))))) 
      (pss_one (ps_ret (pv 2))))), ?_⟩
    obtain ⟨og, hog⟩ := hg.some
    refine q_asgL (xs := (([] : List Int)).map V.int) (el_lst ea_nil (by decide)) fun l H1 hl e1 kl => ?_
    have lg : l ≠ g := fun h => by rw [h, hog] at hl; cases hl
    refine q_forR1 (n := (n : Int)) (ea_cons (ev_var rfl) ea_nil) (by omega)
      (fun i σ' H' => ∃ (ws : List Int) (y3 y4 y5 : Option V), σ' = [some (.ref g), some (.int (n : Int)), some (.ref l), y3, y4, y5] ∧ ExB g H H' ∧ Li H' l ws ∧ Wb 32768 i ws ∧ Gs H' g (C + 16 * i)) (fun H2 e2 => ⟨[], none, none, none, rfl, ExB.of (e1.trans e2), e2 _ _ kl, ⟨Nat.le_refl _, fun x hx => absurd hx List.not_mem_nil⟩, hg.ex (e1.trans e2)⟩) (fun i σ' H' hi hP => ?_) (fun σ' H' hP => ?_)
    · obtain ⟨ws, y3, y4, y5, rfl, hE, hL, hW, hg'⟩ := hP
      have hwl := hW.1
      refine q_par (ta_in (top_in (rnd_use (n := 65537) (ev_var rfl) (ev_op (ev_op ev_c ev_c (rv_I ⟨by decide, by decide +kernel⟩)) ev_c rv_I0) hg' (by omega) (by decide) (by decide) fun z H2 z0 z1 hg2 E2 => ?_)))
      refine ev_use (ev_op ev_c ev_c (rv_I ⟨by decide, by decide +kernel⟩)) fun H3 e3 => ?_
      refine ⟨_, _, rfl, rfl, ?_⟩
      refine ta_in (rnd_use (n := 4) (ev_var rfl) ev_c (hg2.ex e3) (by omega) (by decide) (by decide) fun kind H4 k0 k1 hg4 E4 => ?_)
      refine ⟨_, _, rfl, ?_⟩
      have hE4 : ExB g H H4 := (hE.trans (E2.trans (ExB.of e3))).trans E4
      have hL4 : H4 l = some (.lst (ws.map V.int)) := E4 l _ lg (e3 _ _ (E2 l _ lg hL))
      refine ⟨.ref l, rfl, Or.inl ⟨rfl, _, Or.inl (Or.inl hL4)⟩, ?_⟩
      refine ta_in (top_in ?_)
      refine tl_lst (ta_in (top_in (rnd_use (n := 9) (ev_var rfl) ev_c hg4 (by omega) (by decide) (by decide) fun a H5 a0 a1 hg5 E5 => ?_)))
      refine ⟨_, _, rfl, rfl, ?_⟩
      refine ta_in (top_in (rnd_use (n := 5) (ev_var rfl) ev_c hg5 (by omega) (by decide) (by decide) fun b H6 b0 b1 hg6 E6 => ?_))
      refine ⟨_, _, rfl, rfl, _, rfl, ?_⟩
      refine ⟨by show 4 ≤ sizeLine; decide, fun lp hlp => ?_⟩
      have hL6 : H6 l = some (.lst (ws.map V.int)) := E6 l _ lg (E5 l _ lg hL4)
      have e7 := Ex.new (o := .lst [V.int (a - 4), V.int (b - 2), V.int 0, V.int (z - 2 ^ (15 : Int).toNat)]) hlp
      have e15 : (2 : Int) ^ (15 : Int).toNat = 32768 := by decide
      obtain ⟨x, hx, hx0, hx1⟩ : ∃ x : Int, atI [V.int (a - 4), V.int (b - 2), V.int 0, V.int (z - 2 ^ (15 : Int).toNat)] kind = some (.int x) ∧ -32768 ≤ x ∧ x ≤ 32768 := by
        have hk : kind = 0 ∨ kind = 1 ∨ kind = 2 ∨ kind = 3 := by omega
        rcases hk with rfl | rfl | rfl | rfl
        · exact ⟨_, rfl, by omega, by omega⟩
        · exact ⟨_, rfl, by omega, by omega⟩
        · exact ⟨_, rfl, by omega, by omega⟩
        · exact ⟨_, rfl, by omega, by omega⟩
      refine ⟨.int kind, rfl, lp, _, kind, .int x, rfl, rfl, Or.inl (Or.inl upd_same), hx, ?_⟩
      refine ⟨l, ws.map V.int, .int x, rfl, rfl, e7 _ _ hL6, ?_, ?_⟩
      · rw [List.length_map]
        exact sz_lt (by omega)
      · have n9 : ExB g H H6 := (hE4.trans E5).trans E6
        refine ⟨ws ++ [x], _, _, _, rfl, ?_, ?_, ⟨?_, ?_⟩, ?_⟩
        · refine fun c o nc h => ?_
          have hcl : c ≠ l := fun e => by rw [e, hl] at h; cases h
          rw [upd_ne hcl]
          exact e7 c o (n9 c o nc h)
        · show _ = _
          rw [upd_same, List.map_append]
          rfl
        · rw [List.length_append]
          show ws.length + 1 ≤ i + 1
          omega
        · intro u hu
          rcases List.mem_append.mp hu with h | h
          · exact hW.2 u h
          · rw [List.mem_singleton] at h
            rw [h]
            exact ⟨hx0, hx1⟩
        · obtain ⟨A0, B0, c0, w1, w2, w3, w4, w5⟩ := hg6
          refine ⟨A0, B0, c0, ?_, w2, w3, w4, by omega⟩
          rw [upd_ne (Ne.symm lg)]
          exact e7 _ _ w1
    · obtain ⟨ws, y3, y4, y5, rfl, hE, hL, hW, hg'⟩ := hP
      have hW : Wb 32768 n ws := by
        rw [Int.toNat_natCast] at hW
        exact hW
      refine s_ret (ev_var rfl) fun H3 e3 => q l ws H3 hl (hL.ex e3) hW ((hg'.ex e3).mono (by omega)) (hE.trans (ExB.of e3))
theorem ok__law_folded (T : Tx K mg) : FnOk P w K mg base CX0 1 T.a__law_folded T.d__law_folded ["_law_number"] (sp__law_folded T) := by
  refine T.f__law_folded.ok (k := 0) sc__law_folded (fun vs H Q E h => ?_) (fun cdv A outer s H vs Q E hr h => ?_)
  · obtain ⟨z, rfl, _⟩ := h
    rfl
  · obtain ⟨z, rfl, h0, h1, q⟩ := h
    refine ⟨_,       (pss_one (ps_ret (pe_ifExp (pt_cmpR op_ge (pv 0) pe_int (nomark _)) (pe_op op_mul pe_int (pv 0)) (pe_op op_sub (pe_op op_mul (pe_un un_neg pe_int) (pv 0)) pe_int)))), ?_⟩
    refine s_ret (v := .int (fold z)) (ev_if (b := decide (0 ≤ z)) (et_test (ev_op (ev_var rfl) ev_c rv_I0)) (fun y => ?_) (fun y => ?_)) q
    · have := of_decide_eq_true y
      refine ev_is (ev_op ev_c (ev_var rfl) (rv_I (Or.inl ⟨by decide, by decide⟩))) ?_
      unfold fold
      rw [if_pos this]
    · have := of_decide_eq_false y
      refine ev_is (ev_op (ev_op (ev_un ev_c ru_neg) (ev_var rfl) (rv_I (Or.inl ⟨by decide, by decide⟩))) ev_c rv_I0) ?_
      unfold fold
      rw [if_neg this]
end
end K50

set_option Elab.async false
set_option linter.all false
set_option maxRecDepth 100000
set_option maxHeartbeats 4000000
namespace K50
open PySem PySem.Spec PyProof.Rows L2 Evl WS M44 M50
section
variable {K : PySem.W.Frag} {mg : Str → Option Value}
def sp__law_all_rows (T : Tx K mg) : Sp := fun vs H Q _ => ∃ d n : Nat, vs = [.int (d : Int), .int (n : Int)] ∧ 1 ≤ d ∧ d ≤ 3 ∧ n ≤ 3 ∧ ∀ p H2, H p = none → Ex H H2 → LL H2 p (allr d n) → Q (.ref p) H2
def sp__law_counted (T : Tx K mg) : Sp := fun vs H Q _ => ∃ g ws s, ∃ d w n : Nat, vs = [.ref g, .int (d : Int), .int (w : Int), .int (n : Int)] ∧ Gu T H g ws s ∧ 1 ≤ d ∧ d ≤ 3 ∧ w ≤ d ∧ n ≤ 3 ∧ ∀ p t H2, H p = none → Ex H H2 → H2 p = some (.dK (kv t)) → CT t (fun k => (allr d n).countP fun r => decide (M50.size ws s d w r = k)) → Q (.ref p) H2
def sp__law_right (T : Tx K mg) : Sp := fun vs H Q _ => ∃ g, ∃ d w n C : Nat, vs = [.ref g, .int (d : Int), .int (w : Int), .int (n : Int)] ∧ Gs H g C ∧ 1 ≤ d ∧ d ≤ 3 ∧ w ≤ d ∧ n ≤ 3 ∧ C ≤ 10000000 ∧ ∀ H2, Gs H2 g (C + 10000) → ExB g H H2 → Q (.bl true) H2
end
section
variable {K : PySem.W.Frag} {mg : Str → Option Value}
/-- Guesser(a list, a shift) -/
theorem gu_make {T : Tx K mg} {σ : L2.St} {H : Hp} {ta : TA} {a : Addr} {ws : List Int} {s : Nat} {E : XK} {Q : VK} (he : EvA ta σ H [.ref a, .int (s : Int)]) (ha : Li H a ws) (hw : Wb 32768 8 ws) (hs : s ≤ 15)
    (k : ∀ x H2, H x = none → Ex H H2 → Gu T H2 x ws s → Q (.ref x) H2) : tMake T.C_Guesser (sp_Guesser___init__ T) [] E ta σ H Q :=
  he H (Ex.refl H) _ fun H1 e1 x dx hx hdx ne => by
    have l1 := ha.ex e1
    have n1 : a ≠ x := ne_of_none l1 hx
    have n2 : a ≠ dx := ne_of_none l1 hdx
    refine ⟨x, dx, a, ws, s, rfl, upd_same, ?_, hw, hs, fun H' g kp => ⟨rfl, k x H' (fresh_back e1 hx) (fun b o h => ?_) g⟩⟩
    · show _ = _
      rw [upd_ne n1, upd_ne n2]
      exact l1
    · have h1 := e1 b o h
      have hb : b ≠ x := ne_of_none h1 hx
      have hb2 : b ≠ dx := ne_of_none h1 hdx
      exact kp b o hb (by rw [upd_ne hb, upd_ne hb2]; exact h1)
end
section
variable {K : PySem.W.Frag} {σ : L2.St} {H : Hp} {ta tb te tl : TE} {D : Ends} {tz tu : TS} {tr : TA}
/-- [row + [i] for i in range(lo, hi)] -/
theorem longer_use2 {lo hi : Int} {r : List Int} {a : Addr} {i1 j : Nat} {ws : List Nat} {n : Nat} {Q : VK} (hn : n ≤ 10000) (hr : r.length ≤ 100) (h : EvA tr σ H [.int lo, .int hi]) (hlo : -100000 ≤ lo ∧ lo ≤ 100000) (hhi : hi = lo + (n : Int)) (ha : H a = some (.lst (r.map V.int)))
    (hw : ∀ y, wipe ((wipe σ ws).set j (some y)) ws = wipe σ ws) (hx : ∀ y, ((wipe σ ws).set j (some y))[i1]? = some (some (.ref a))) (hj : ∀ y, ((wipe σ ws).set j (some y))[j]? = some (some y))
    (k : ∀ D H', H D = none → Ex H H' → LL H' D ((List.range n).map fun i : Nat => r ++ [lo + (i : Int)]) → Q (.ref D) H') : tLc (iRng2 tr) (gName j) tYes (tOp rCat (tVar i1) (tLst (tCons (tVar j) tNil))) ws σ H Q := by
  refine h H (Ex.refl H) _ fun H1 e1 => ⟨_, _, rfl, by omega, fun D hD => ?_⟩
  have hD0 := fresh_back e1 hD
  rw [show (hi - lo).toNat = n by omega]
  refine lc_range (lo := lo) (n := n) (fun i H' => Ex H1 H' ∧ ∃ acc : List V, H' D = some (.lst acc) ∧ acc.length = i ∧ ∀ (t : Nat) (v : V), acc[t]? = some v → ∃ u, v = V.ref u ∧ u ≠ D ∧ H' u = some (HO.lst ((r ++ [lo + (t : Int)]).map V.int)))
    ⟨Ex.new hD, [], upd_same, rfl, fun n v hv => by simp at hv⟩ (fun i H' hi p' => ?_) (fun H' p' => ?_)
  · obtain ⟨e, acc, ha', hl, hacc⟩ := p'
    refine ⟨hw _, ?_⟩
    unfold tYes
    dsimp only
    rw [if_pos rfl]
    show tOp rCat (tVar i1) (tLst (tCons (tVar j) tNil)) ((wipe σ ws).set j (some (.int (lo + (i : Int))))) H' _
    refine el_use (el_catVL (a := a) (xs := r.map V.int) (zs := [V.int (lo + (i : Int))]) (ev_var (hx _)) ((e1.trans e) _ _ ha) (el_lst (ea_cons (ev_var (hj _)) ea_nil) (by show 1 ≤ 100000; decide)) (by rw [List.length_map]; show r.length + 1 ≤ 100000; omega)) fun u H2 hu e2 ku => ?_
    have uD : u ≠ D := fun z => by rw [z, ha'] at hu; cases hu
    refine ⟨acc, e2 _ _ ha', sz_lt (by omega), Ex.mut (e.trans e2) hD, acc ++ [.ref u], upd_same, by rw [List.length_append, hl]; rfl, fun t v hv => ?_⟩
    by_cases hn : t < acc.length
    · rw [List.getElem?_append_left hn] at hv
      obtain ⟨z, rfl, hz1, hz3⟩ := hacc t v hv
      exact ⟨z, rfl, hz1, by rw [upd_ne hz1]; exact e2 _ _ hz3⟩
    · rw [List.getElem?_append_right (by omega)] at hv
      cases hd : t - acc.length with
      | zero =>
        rw [hd] at hv
        cases hv
        have : t = i := by omega
        subst this
        exact ⟨u, rfl, uD, by rw [upd_ne uD, List.map_append]; exact ku⟩
      | succ m => rw [hd] at hv; simp at hv
  · obtain ⟨e, acc, ha', hl, hacc⟩ := p'
    refine k D H' hD0 (e1.trans e) ⟨acc, ha', by rw [hl, List.length_map, List.length_range], fun t s hs => ?_⟩
    rw [List.getElem?_map] at hs
    have ht : t < n := by
      by_cases c : t < n
      · exact c
      · rw [List.getElem?_eq_none (by rw [List.length_range]; omega)] at hs; cases hs
    rw [List.getElem?_range ht] at hs
    cases hs
    have hv : acc[t]? = some (acc[t]'(by omega)) := List.getElem?_eq_getElem (by omega)
    obtain ⟨u, hu, _, h3⟩ := hacc t _ hv
    exact ⟨u, by rw [hv, hu], h3⟩
theorem s_test (k : te σ H fun x H1 => ∃ c, x = .bl c ∧ (if c = true then tu D σ H1 else tNext D σ H1)) : tIfS (tTest te) tu tNext D σ H := k
theorem ev_get2 {a : Addr} {d : Tab} {k : Int} (hd : Ev ta σ H (.ref a)) (hy : Ev tb σ H (.int k)) (hx : Ev te σ H (.int 0)) (h : H a = some (.dK (kv d))) : Ev (tDGet2 ta tb te) σ H (.int (got d k)) := fun H1 e Q q =>
  hd H1 e _ fun H2 e2 => ⟨a, rfl, .inl ⟨_, .inl (e2 _ _ (e _ _ h))⟩, hy H2 (e.trans e2) _ fun H3 e3 => hx H3 ((e.trans e2).trans e3) _ fun H4 e4 =>
    ⟨_, DGet.k (k := Sum.inl k) (e4 _ _ (e3 _ _ (e2 _ _ (e _ _ h)))), by rw [kv_got]; exact q H4 ((e2.trans e3).trans e4)⟩⟩
theorem s_dput {a : Addr} {d : Tab} {k v : Int} (hv : Ev te σ H (.int v)) (ho : Ev ta σ H (.ref a)) (hy : Ev tb σ H (.int k)) (h : H a = some (.dK (kv d))) (hl : d.length < 10000) (q : ∀ H1, Ex H H1 → D.nx σ (upd H1 a (.dK (kv (put d k v))))) : sDPut ta tb te D σ H :=
  hv H (Ex.refl H) _ fun H1 e1 => ho H1 e1 _ fun H2 e2 => hy H2 (e1.trans e2) _ fun H3 e3 => ⟨a, _, rfl, DPut.k (k := Sum.inl k) (((e1.trans e2).trans e3) _ _ h) (by rw [len_kv]; exact sz_lt (by omega)), by rw [kv_put]; exact q H3 ((e1.trans e2).trans e3)⟩
theorem s_in {i : Nat} (k : te σ H fun x H1 => D.nx (σ.set i (some x)) H1) : tAsg te (gName i) D σ H := k
end
theorem pow8 {d n : Nat} (hd : d ≤ 3) (hn : n ≤ 3) : (2 ^ d) ^ n ≤ 512 := by
  have h1 : 2 ^ d ≤ 8 := Nat.pow_le_pow_right (n := 2) (by decide) hd
  have h2 : (2 ^ d) ^ n ≤ 8 ^ n := Nat.pow_le_pow_left h1 n
  have h3 : 8 ^ n ≤ 8 ^ 3 := Nat.pow_le_pow_right (by decide) hn
  omega
section
variable {P : Program} {w : World} {K : PySem.W.Frag} {mg : Str → Option Value} {base : Heap}
theorem ok__law_all_rows (T : Tx K mg) : FnOk P w K mg base CX0 1 T.a__law_all_rows T.d__law_all_rows ["_law_depth", "_law_many"] (sp__law_all_rows T) := by
  refine T.f__law_all_rows.ok (k := 0) sc__law_all_rows (fun vs H Q E h => ?_) (fun cdv A outer s H vs Q E hr h => ?_)
  · obtain ⟨d, n, rfl, _⟩ := h
    rfl
  · obtain ⟨d, n, rfl, h1, h2, h3, q⟩ := h
    refine ⟨_,       (pss_cons (ps_set (i := 2) sc__law_all_rows.nd rfl (by first | exact Or.inl rfl | exact Or.inr rfl) (pe_lst (pa_cons (pe_lst pa_nil) pa_nil))) 
      (pss_cons (ps_for PassesOwn.never rfl (pi_range1 rfl T.m_range (pa_cons (pv 1) pa_nil)) (pg_name (i := 3) sc__law_all_rows.nd rfl (by first | exact Or.inl rfl | exact Or.inr rfl)) 
        (pss_cons (ps_set (i := 4) sc__law_all_rows.nd rfl (by first | exact Or.inl rfl | exact Or.inr rfl) (pe_lst pa_nil)) 
        (pss_cons (ps_for PassesOwn.never rfl (pi_list (pv 2)) (pg_name (i := 5) sc__law_all_rows.nd rfl (by first | exact Or.inl rfl | exact Or.inr rfl)) 
          (pss_one (ps_set (i := 4) sc__law_all_rows.nd rfl (by first | exact Or.inl rfl | exact Or.inr rfl) (pe_op op_cat (pv 4) (pe_lc (own := [("_law_sample", 6)]) (g := gName 6) (tt := tYes) rfl sc__law_all_rows.nd (pi_range2 rfl T.m_range (pa_cons (pe_un un_neg (pe_op op_shlW pe_int (pe_op op_sub (pv 0) pe_int))) (pa_cons (pe_op op_shlW pe_int (pe_op op_sub (pv 0) pe_int)) pa_nil))) (blkOk_by (own := [("_law_sample", 6)]) (N := ["_law_depth", "_law_many", "_law_found", "_law_place", "_law_longer", "_law_row", "_law_sample"]) (sc := defScope s__law_all_rows) (by decide +kernel)) (fun _ _ _ _ _ => (pg_name (i := 6) sc__law_all_rows.nd rfl (by first | exact Or.inl rfl | exact Or.inr rfl))) (fun _ _ _ _ _ => pts_nil) (fun _ _ _ _ _ => (pe_op op_cat (pv 5) (pe_lst (pa_cons (pv 6) pa_nil))))))))) 
        (pss_one (ps_set (i := 2) sc__law_all_rows.nd rfl (by first | exact Or.inl rfl | exact Or.inr rfl) (pv 4)))))) 
      (pss_one (ps_ret (pv 2))))), ?_⟩
    refine q_in (ta_consL (el_lst ea_nil (by decide)) fun p1 H1 hp1 e1 k1 => ta_nil ⟨sz_of (by show 1 ≤ 100000; decide), fun p hp => ?_⟩)
    have hp0 := fresh_back e1 hp
    have ed : (d : Int) - 1 = ((d - 1 : Nat) : Int) := by omega
    have p8 : (2 : Int) ^ (d - 1) ≤ 4 ∧ (0 : Int) < 2 ^ (d - 1) := by
      have : d = 1 ∨ d = 2 ∨ d = 3 := by omega
      rcases this with h | h | h <;> subst h <;> decide
    have pd : ((2 ^ d : Nat) : Int) = 2 * 2 ^ (d - 1) := by
      have : d = 1 ∨ d = 2 ∨ d = 3 := by omega
      rcases this with h | h | h <;> subst h <;> decide
    have p2d : 2 ^ d ≤ 10000 := by
      have : d = 1 ∨ d = 2 ∨ d = 3 := by omega
      rcases this with h | h | h <;> subst h <;> decide
    refine q_forR1 (n := (n : Int)) (ea_cons (ev_var rfl) ea_nil) (by omega)
      (fun i σ' H' => ∃ u y3 y4 y5 y6, σ' = [some (.int (d : Int)), some (.int (n : Int)), some (.ref u), y3, y4, y5, y6] ∧ Ex H H' ∧ H u = none ∧ LL H' u (allr d i)) (fun H3 e3 => ⟨p, none, none, none, none, rfl, (e1.trans (Ex.new hp)).trans e3, hp0, [.ref p1], e3 _ _ upd_same, rfl, fun i r hr => ?_⟩) (fun i σ' H' hi hP => ?_) (fun σ' H' hP => ?_)
    · cases i with
      | zero =>
        cases hr
        exact ⟨p1, rfl, e3 _ _ (Ex.new hp _ _ k1)⟩
      | succ i => cases hr
    · obtain ⟨u, y3, y4, y5, y6, rfl, e, hu, hL⟩ := hP
      refine q_asgL (xs := []) (el_lst ea_nil (by decide)) fun p2 H4 hp2 e4 k4 => ?_
      obtain ⟨vs, hv1, hv2⟩ := hL.ex e4
      refine q_forLn (K := K) (xs := vs) (ev_var rfl) (sq_of hv1) (fun j σ2 H2 => ∃ l y5 y6, σ2 = [some (.int (d : Int)), some (.int (n : Int)), some (.ref u), some (.int (i : Int)), some (.ref l), y5, y6] ∧ Ex H4 H2 ∧ H l = none ∧ LL H2 l (((allr d i).take j).flatMap fun r => (samples d).map fun x => r ++ [x]))
        (fun H5 e5 => ⟨p2, y5, y6, rfl, e5, fresh_back e hp2, [], e5 _ _ k4, Lv.nil⟩) (fun j σ2 H2 _ h => by obtain ⟨_, _, _, _, e, _⟩ := h; exact sq_of (e _ _ hv1)) (fun j x σ2 H2 hx h => ?_) (fun σ2 H2 h => ?_)
      · obtain ⟨l, y5, y6, rfl, e5, hl, zs, hz1, hz2⟩ := h
        obtain ⟨a, r, rfl, hri, har⟩ := hv2.get hx
        have hrm : r ∈ allr d i := List.mem_of_getElem? hri
        have hr1 := (allr_row d i r hrm).1
        refine s_in (top_in2 (ev_use (v := .ref l) (ev_var rfl) fun Ha ea => longer_use2 (lo := -(2 ^ (d - 1))) (hi := 2 ^ (d - 1)) (r := r) (a := a) (n := 2 ^ d) p2d (by omega) (ea_cons (ev_is (ev_un (ev_op ev_c (ev_op (ev_var rfl) ev_c rv_I0) (rv_I (by rw [ed]; exact shl1 (by omega)))) ru_neg) (by rw [ed, one_p])) (ea_cons (ev_is (ev_op ev_c (ev_op (ev_var rfl) ev_c rv_I0) (rv_I (by rw [ed]; exact shl1 (by omega)))) (by rw [ed, one_p])) ea_nil)) (by omega) (by omega) (ea _ _ (e5 _ _ har)) (fun _ => rfl) (fun _ => rfl) (fun _ => rfl) fun Dd Hd hD eD hLL => ?_))
        have es : ((List.range (2 ^ d)).map fun i : Nat => r ++ [-(2 ^ (d - 1)) + (i : Int)]) = (samples d).map fun x => r ++ [x] := by
          unfold samples
          rw [List.map_map]
          rfl
        rw [es] at hLL
        obtain ⟨ws, hw1, hw2⟩ := hLL
        have hsum : zs.length + ws.length ≤ 10000 := by
          have h1 : (((allr d i).take (j + 1)).flatMap fun r => (samples d).map fun x => r ++ [x]).length ≤ (allr d (i + 1)).length := by
            have e7 : allr d (i + 1) = ((allr d i).take (j + 1)).flatMap (fun r => (samples d).map fun x => r ++ [x]) ++ ((allr d i).drop (j + 1)).flatMap (fun r => (samples d).map fun x => r ++ [x]) := by
              rw [← List.flatMap_append, List.take_append_drop]
              rfl
            rw [e7, List.length_append]
            omega
          have h2 : (allr d (i + 1)).length ≤ 512 := by
            rw [allr_len]
            exact pow8 h2 (by omega)
          rw [List.take_succ, hri, List.flatMap_append, List.length_append] at h1
          have h3 : ((some r).toList.flatMap fun r => (samples d).map fun x => r ++ [x]).length = ws.length := by
            rw [hw2.1]
            simp
          rw [h3, ← hz2.1] at h1
          omega
        refine ⟨l, Dd, zs, ws, rfl, rfl, (ea.trans eD) _ _ hz1, hw1, sz_of (by omega), fun p3 hp3 => ?_⟩
        have e6 := Ex.new (o := .lst (zs ++ ws)) hp3
        have e46 := ((e5.trans ea).trans eD).trans e6
        refine ⟨p3, _, _, rfl, e46, fresh_back (((e.trans e4).trans e5).trans (ea.trans eD)) hp3, zs ++ ws, upd_same, ?_⟩
        rw [List.take_succ, hri, List.flatMap_append]
        have h3 : ((some r).toList.flatMap fun r => (samples d).map fun x => r ++ [x]) = (samples d).map fun x => r ++ [x] := by simp
        rw [h3]
        exact (hz2.ex ((ea.trans eD).trans e6)).app (hw2.ex e6)
      · obtain ⟨l, y5, y6, rfl, e5, hl, hLL⟩ := h
        rw [hv2.1, List.take_length] at hLL
        exact s_asg (ev_var rfl) fun H6 e6 => ⟨l, _, _, _, _, rfl, ((e.trans e4).trans e5).trans e6, hl, hLL.ex e6⟩
    · obtain ⟨u, y3, y4, y5, y6, rfl, e, hu, hL⟩ := hP
      rw [Int.toNat_natCast] at hL
      exact s_ret (ev_var rfl) fun H4 e4 => q u H4 hu (e.trans e4) (hL.ex e4)
end
end K50

set_option Elab.async false
set_option linter.all false
set_option maxRecDepth 100000
set_option maxHeartbeats 4000000
namespace K50
open PySem PySem.Spec PyProof.Rows L2 Evl WS M44 M50
theorem gs_old {H : Hp} {g a : Addr} {C : Nat} (h : Gs H g C) (ha : H a = none) : a ≠ g := fun c => by
  obtain ⟨o, ho⟩ := h.some
  rw [c, ho] at ha
  cases ha
theorem gu_body {K : PySem.W.Frag} {mg : Str → Option Value} {T : Tx K mg} {H : Hp} {a : Addr} {ws : List Int} {s : Nat} {E : XK} {R : Addr → Hp → Prop} (ha : Li H a ws) (hw : Wb 32768 8 ws) (hs : s ≤ 15) (k : ∀ x H2, H x = none → Ex H H2 → Gu T H2 x ws s → R x H2) :
    ∀ x dx, H x = none → H dx = none → dx ≠ x → sp_Guesser___init__ T [.ref x, .ref a, .int (s : Int)] (upd (upd H dx (.own x)) x (.ins T.C_Guesser dx [])) (fun v H2 => v = .non ∧ R x H2) E := fun x dx hx hdx ne => by
  have n1 : a ≠ x := ne_of_none ha hx
  have n2 : a ≠ dx := ne_of_none ha hdx
  refine ⟨x, dx, a, ws, s, rfl, upd_same, ?_, hw, hs, fun H' g kp => ⟨rfl, k x H' hx (fun b o h => ?_) g⟩⟩
  · show _ = _
    rw [upd_ne n1, upd_ne n2]
    exact ha
  · have hb : b ≠ x := ne_of_none h hx
    have hb2 : b ≠ dx := ne_of_none h hdx
    exact kp b o hb (by rw [upd_ne hb, upd_ne hb2]; exact h)
section
variable {P : Program} {w : World} {K : PySem.W.Frag} {mg : Str → Option Value} {base : Heap}
theorem ok__law_counted (T : Tx K mg) : FnOk P w K mg base CX0 5 T.a__law_counted T.d__law_counted ["_law_guesser", "_law_depth", "_law_width", "_law_many"] (sp__law_counted T) := by
  refine T.f__law_counted.ok (k := 4) sc__law_counted (fun vs H Q E h => ?_) (fun cdv A outer s H vs Q E hr h => ?_)
  · obtain ⟨g, ws, s, d, w, n, rfl, _⟩ := h
    rfl
  · obtain ⟨g, ws, s, d, w, n, rfl, hg, h1, h2, h3, h4, q⟩ := h
    refine ⟨_,       (pss_cons (ps_set (i := 4) sc__law_counted.nd rfl (by first | exact Or.inl rfl | exact Or.inr rfl) pe_dnewK) 
      (pss_cons (ps_for PassesOwn.never rfl (pi_list (pe_call (ok__law_all_rows T) (hr.mono (by decide)) (by rfl) T.g__law_all_rows T.f__law_all_rows.kp T.b__law_all_rows .nil pass0 (pa_cons (pv 1) (pa_cons (pv 3) pa_nil)))) (pg_name (i := 5) sc__law_counted.nd rfl (by first | exact Or.inl rfl | exact Or.inr rfl)) 
        (pss_cons (ps_set (i := 6) sc__law_counted.nd rfl (by first | exact Or.inl rfl | exact Or.inr rfl) (pe_callB (id := "sum") (r := rSum K) (cr_sum rfl) (by rfl) T.m_sum (by decide +kernel) (pa_cons (pe_lc (own := [("_law_rest", 7)]) (g := gName 7) (tt := tYes) rfl sc__law_counted.nd (pi_list (pe_call (ok_rests T) hr (by rfl) T.g_rests T.f_rests.kp T.b_rests .nil pass0 (pa_cons (pv 0) (pa_cons (pv 1) (pa_cons (pv 5) pa_nil))))) (blkOk_by (own := [("_law_rest", 7)]) (N := ["_law_guesser", "_law_depth", "_law_width", "_law_many", "_law_found", "_law_row", "_law_size", "_law_rest"]) (sc := defScope s__law_counted) (by decide +kernel)) (fun _ _ _ _ _ => (pg_name (i := 7) sc__law_counted.nd rfl (by first | exact Or.inl rfl | exact Or.inr rfl))) (fun _ _ _ _ _ => pts_nil) (fun _ _ _ _ _ => (pe_op op_add (pe_op op_add (pe_op op_shr (pe_call (ok__law_folded T) (hr.mono (by decide)) (by rfl) T.g__law_folded T.f__law_folded.kp T.b__law_folded .nil pass0 (pa_cons (pv 7) pa_nil)) (pv 2)) pe_int) (pv 2)))) pa_nil))) 
        (pss_one (ps_dput (un1 hr) (pv 4) (pv 6) (pe_op op_add (pe_dget2 (un1 hr) (pv 4) (pv 6) pe_int ⟨rfl, rfl, rfl, rfl⟩) pe_int) rfl)))) 
      (pss_one (ps_ret (pv 4))))), ?_⟩
    refine q_in (fun p hp => ?_)
    have x1 := Ex.new (o := HO.dK []) hp
    refine forL_in (tcall_in (ta_consV (ev_var rfl) fun H2 e2 => ta_consV (ev_var rfl) fun H3 e3 => ta_nil ⟨d, n, rfl, h1, h2, h4, fun pl H4 hpl e4 hLL => forL_at ?_⟩))
    obtain ⟨vs, hv1, hv2⟩ := hLL
    have e14 := ((x1.trans e2).trans e3).trans e4
    have kp4 : H4 p = some (.dK (kv [])) := ((e2.trans e3).trans e4) _ _ upd_same
    have npl : p ≠ pl := fun z => by rw [← z, (e2.trans e3) _ _ upd_same] at hpl; cases hpl
    have p4 : (2 : Int) ^ (d - 1) ≤ 4 ∧ (0 : Int) < 2 ^ (d - 1) ∧ (2 : Int) ^ d = 2 * 2 ^ (d - 1) := by
      have : d = 1 ∨ d = 2 ∨ d = 3 := by omega
      rcases this with h | h | h <;> subst h <;> decide
    have hlen : (allr d n).length ≤ 512 := by rw [allr_len]; exact pow8 h2 h4
    refine q_forLn (K := K) (xs := vs) ev_at (sq_of hv1) (fun i σ' H' => ∃ y5 y6 t, σ' = [some (.ref g), some (.int (d : Int)), some (.int (w : Int)), some (.int (n : Int)), some (.ref p), y5, y6, none] ∧ ExB p H4 H' ∧ H' p = some (.dK (kv t)) ∧ CT t (fun k => ((allr d n).take i).countP fun r => decide (M50.size ws s d w r = k)) ∧ t.length ≤ i)
      (fun H5 e5 => ⟨none, none, [], rfl, ExB.of e5, e5 _ _ kp4, by rw [List.take_zero]; exact CT.nil, Nat.le_refl _⟩) (fun i σ' H' _ h => by obtain ⟨_, _, _, _, E, _⟩ := h; exact sq_of (E _ _ (Ne.symm npl) hv1)) (fun i x σ' H' hx h => ?_) (fun σ' H' h => ?_)
    · obtain ⟨y5, y6, t, rfl, E, kt, ct, lt⟩ := h
      obtain ⟨a, r, rfl, hr, har⟩ := hv2.get hx
      have hmem := List.mem_of_getElem? hr
      have hi := (List.getElem?_eq_some_iff.mp hr).1
      obtain ⟨rl, rb⟩ := allr_row d n r hmem
      have nap : a ≠ p := fun z => by rw [z, kp4] at har; cases har
      have Fr : Li H' a r := E _ _ nap har
      have Gg : Gu T H' g ws s := by
        obtain ⟨⟨dx, dd, o1, o2⟩, wb, sh⟩ := hg
        have n1 : g ≠ p := fun z => by rw [z, hp] at o1; cases o1
        have n2 : dd ≠ p := fun z => by
          have : H dd = _ := o2
          rw [z, hp] at this
          cases this
        exact ⟨⟨dx, dd, E _ _ n1 (e14 _ _ o1), E _ _ n2 (e14 _ _ o2)⟩, wb, sh⟩
      refine q_asg (v := .int (M50.size ws s d w r)) (ev_sumN (K := K) (ns := (rst ws s d r).map fun z => pri w (fold z)) ?_) fun H5 e5 => ?_
      · rw [List.map_map]
        refine el_mapN (K := K) (0 : Int) (xs := rst ws s d r) (V.int ∘ fun z => pri w (fold z)) (el_callR (ea_cons (ev_var rfl) (ea_cons (ev_var rfl) (ea_cons (ev_var rfl) ea_nil))) fun H6 e6 Q k E => ⟨g, a, ws, s, r, d, rfl, h1, by omega, Gg.ex e6, Fr.ex e6, by omega, fun x hx => by have := rb x hx; omega, k⟩) (by unfold rst; rw [List.length_map, List.length_range]; omega) (fun _ => rfl) fun z H6 e6 hz => ?_
        have hzb : -(2 ^ (d - 1)) ≤ z ∧ z < 2 ^ d := by
          unfold rst at hz
          obtain ⟨i, _, rfl⟩ := List.mem_map.mp hz
          exact wr_in _
        refine ev_is (ev_op (ev_op (ev_op (ev_call (ea_cons (ev_var rfl) ea_nil) (spv fun H7 e7 Q q E => ⟨z, rfl, by omega, by omega, q⟩)) (ev_var rfl) (rv_I (Int.natCast_nonneg w))) ev_c rv_I0) (ev_var rfl) rv_I0) ?_
        rw [Int.toNat_natCast]
        rfl
      · have kt5 := e5 _ _ kt
        have hgot := ct.gotC (M50.size ws s d w r)
        refine s_dput (d := t) (v := (((((allr d n).take i).countP fun r' => decide (M50.size ws s d w r' = M50.size ws s d w r)) + 1 : Nat) : Int)) (ev_is (ev_op (ev_get2 (ev_var rfl) (ev_var rfl) ev_c kt5) ev_c rv_I0) (by rw [hgot, Int.natCast_add]; rfl)) (ev_var rfl) (ev_var rfl) kt5 (by omega) fun H6 e6 => ?_
        refine ⟨_, _, _, rfl, ((E.trans (ExB.of (e5.trans e6))).upd), upd_same, ((ct.putC (M50.size ws s d w r) _ (by omega)).ext fun k => ?_), ?_⟩
        · rw [List.take_succ, hr]
          show upC _ _ _ k = (((allr d n).take i) ++ [r]).countP _
          rw [List.countP_append, List.countP_singleton]
          unfold upC
          by_cases c : k = M50.size ws s d w r
          · rw [if_pos c, c, decide_eq_true rfl]
            rfl
          · rw [if_neg c, decide_eq_false (fun z => c z.symm)]
            rfl
        · have := len_put t (M50.size ws s d w r) (((((allr d n).take i).countP fun r' => decide (M50.size ws s d w r' = M50.size ws s d w r)) + 1 : Nat) : Int)
          omega
    · obtain ⟨y5, y6, t, rfl, E, kt, ct, lt⟩ := h
      rw [hv2.1, List.take_length] at ct
      refine s_ret (ev_var rfl) fun H6 e6 => q p t H6 hp ?_ (e6 _ _ kt) ct
      intro b o hb
      have nb : b ≠ p := fun z => by rw [z, hp] at hb; cases hb
      exact e6 _ _ (E b o nb (e14 _ _ hb))
theorem ok__law_right (T : Tx K mg) : FnOk P w K mg base CX0 6 T.a__law_right T.d__law_right ["_law_generator_here", "_law_depth", "_law_width", "_law_many"] (sp__law_right T) := by
  refine T.f__law_right.ok (k := 5) sc__law_right (fun vs H Q E h => ?_) (fun cdv A outer s H vs Q E hr h => ?_)
  · obtain ⟨g, d, w, n, C, rfl, _⟩ := h
    rfl
  · obtain ⟨g, d, w, n, C, rfl, hg, h1, h2, h3, h4, hC, q⟩ := h
    refine ⟨_,       (pss_cons (ps_par (i := 4) (j := 5) (by rfl) sc__law_right.nd rfl rfl (by decide) rfl rfl (pa_cons (pe_op op_mul (pv 3) (pe_op op_add (pv 2) pe_int)) (pa_cons (pe_op op_mul (pv 3) (pe_op op_add (pv 2) (pe_op op_shlW pe_int (pe_op op_sub (pv 1) (pv 2))))) pa_nil)) (by rfl)) 
      (pss_cons (ps_if (pt_cmpR (op_neD hr.units) (pe_call (ok_size_bounds T) hr (by rfl) T.g_size_bounds T.f_size_bounds.kp T.b_size_bounds .nil pass0 (pa_cons (pv 1) (pa_cons (pv 2) (pa_cons (pv 3) pa_nil)))) (pe_tup (pa_cons (pv 4) (pa_cons (pv 5) pa_nil))) (nomark _)) 
        (pss_one (ps_ret pe_bl)) pss_nil) 
      (pss_cons (ps_set (i := 6) sc__law_right.nd rfl (by first | exact Or.inl rfl | exact Or.inr rfl) pe_dnewK) 
      (pss_cons (ps_for PassesOwn.never rfl (pi_range1 rfl T.m_range (pa_cons (pe_op op_add (pv 5) pe_int) pa_nil)) (pg_name (i := 7) sc__law_right.nd rfl (by first | exact Or.inl rfl | exact Or.inr rfl)) 
        (pss_cons (ps_set (i := 8) sc__law_right.nd rfl (by first | exact Or.inl rfl | exact Or.inr rfl) (pe_call (ok_how_many T) hr (by rfl) T.g_how_many T.f_how_many.kp T.b_how_many .nil pass0 (pa_cons (pv 1) (pa_cons (pv 2) (pa_cons (pv 3) (pa_cons (pv 7) pa_nil)))))) 
        (pss_one (ps_if (pt_cmpR op_ne (pv 8) pe_int (nomark _)) 
          (pss_one (ps_dput (un1 hr) (pv 6) (pv 7) (pv 8) rfl)) pss_nil)))) 
      (pss_cons (ps_for PassesOwn.never rfl (pi_range1 rfl T.m_range (pa_cons pe_int pa_nil)) (pg_name (i := 9) sc__law_right.nd rfl (by first | exact Or.inl rfl | exact Or.inr rfl)) 
        (pss_cons (ps_set (i := 10) sc__law_right.nd rfl (by first | exact Or.inl rfl | exact Or.inr rfl) (pe_make T.mk_Guesser (ok_Guesser___init__ T) hr (by rfl) T.gC_Guesser T.b_Guesser___init__ .nil pass0 (pa_cons (pe_call (ok__law_weights T) (hr.mono (by decide)) (by rfl) T.g__law_weights T.f__law_weights.kp T.b__law_weights .nil pass0 (pa_cons (pv 0) (pa_cons (pe_call (ok__law_random T) (hr.mono (by decide)) (by rfl) T.g__law_random T.f__law_random.kp T.b__law_random .nil pass0 (pa_cons (pv 0) (pa_cons pe_int pa_nil))) pa_nil))) (pa_cons (pe_call (ok__law_random T) (hr.mono (by decide)) (by rfl) T.g__law_random T.f__law_random.kp T.b__law_random .nil pass0 (pa_cons (pv 0) (pa_cons pe_int pa_nil))) pa_nil)))) 
        (pss_one (ps_if (pt_cmpR (op_neSame hr.units0) (pe_call (ok__law_counted T) hr (by rfl) T.g__law_counted T.f__law_counted.kp T.b__law_counted .nil pass0 (pa_cons (pv 10) (pa_cons (pv 1) (pa_cons (pv 2) (pa_cons (pv 3) pa_nil))))) (pv 6) (nomark _)) 
          (pss_one (ps_ret pe_bl)) pss_nil)))) 
      (pss_one (ps_ret pe_bl))))))), ?_⟩
    have e2d : (1 : Int) * 2 ^ ((d : Int) - (w : Int)).toNat = 2 ^ (d - w) := by
      rw [show (d : Int) - (w : Int) = ((d - w : Nat) : Int) by omega, one_p]
    have sh : CShl 1 ((d : Int) - (w : Int)) := by
      rw [show (d : Int) - (w : Int) = ((d - w : Nat) : Int) by omega]
      exact shl1 (by omega)
    have p8 : (2 : Nat) ^ (d - w) ≤ 8 := by
      have : (2 : Nat) ^ (d - w) ≤ 2 ^ 3 := Nat.pow_le_pow_right (by decide) (by omega)
      omega
    have cast8 : ((2 ^ (d - w) : Nat) : Int) = 2 ^ (d - w) := by
      rw [Int.natCast_pow]
      rfl
    have hG : (n : Int) * ((w : Int) + 2 ^ (d - w)) = ((n * (w + 2 ^ (d - w)) : Nat) : Int) := by
      rw [Int.natCast_mul, Int.natCast_add, cast8]
    have hG33 : n * (w + 2 ^ (d - w)) ≤ 3 * 11 := Nat.mul_le_mul h4 (by omega)
    refine q_par (ta_consV (v := .int ((n : Int) * ((w : Int) + 1))) (ev_op (ev_var rfl) (ev_op (ev_var rfl) ev_c rv_I0) (rv_I (Or.inl ⟨by omega, by omega⟩))) fun H1 e1 => ta_consV (v := .int ((n : Int) * ((w : Int) + 2 ^ (d - w)))) (ev_is (ev_op (ev_var rfl) (ev_op (ev_var rfl) (ev_op ev_c (ev_op (ev_var rfl) (ev_var rfl) rv_I0) (rv_I sh)) rv_I0) (rv_I (Or.inl ⟨by omega, by omega⟩))) (by rw [e2d])) fun H2 e2 => ta_nil ⟨_, _, rfl, ?_⟩)
    have e12 := e1.trans e2
    refine q_when (b := false) (et_is (et_test (ev_opUU (xs := [.int ((n : Int) * ((w : Int) + 1)), .int ((n : Int) * ((w : Int) + 2 ^ (d - w)))]) (ys := [.int ((n : Int) * ((w : Int) + 1)), .int ((n : Int) * ((w : Int) + 2 ^ (d - w)))]) (eu_call (ea_cons (ev_var rfl) (ea_cons (ev_var rfl) (ea_cons (ev_var rfl) ea_nil))) fun H7 e7 Q kk E => ⟨d, w, n, rfl, h1, by omega, h3, by omega, kk⟩) (eu_tup (ea_cons (ev_var rfl) (ea_cons (ev_var rfl) ea_nil)) (by show 2 ≤ 100000; decide)) fun p q H7 hp hq _ => rv_neT (K := K) hp hq rfl)) (by simp)) (fun z => by cases z) fun _ H3 e3 => ?_
    refine q_in (fun p hp => ?_)
    have x4 := Ex.new (o := HO.dK []) hp
    have e13 := (e12.trans e3)
    have hp0 := fresh_back e13 hp
    have pg : p ≠ g := gs_old hg hp0
    have hg4 := (hg.ex e13).ex x4
    refine q_forR1 (n := ((n * (w + 2 ^ (d - w)) : Nat) : Int) + 3) (ea_cons (ev_is (ev_op (ev_var rfl) ev_c rv_I0) (by rw [hG])) ea_nil) (by omega)
      (fun i σ' H' => ∃ y7 y8 t, σ' = [some (.ref g), some (.int (d : Int)), some (.int (w : Int)), some (.int (n : Int)), some (.int ((n : Int) * ((w : Int) + 1))), some (.int ((n : Int) * ((w : Int) + 2 ^ (d - w)))), some (.ref p), y7, y8, none, none] ∧ Ex H H' ∧ H' p = some (.dK (kv t)) ∧ CT t (fun k => if 0 ≤ k ∧ k < i then Cn d w n k else 0) ∧ t.length ≤ i)
      (fun H5 e5 => ⟨none, none, [], rfl, (e13.trans x4).trans e5, e5 _ _ upd_same, CT.nil.ext fun k => by rw [if_neg (by omega)], Nat.le_refl _⟩) (fun i σ' H' hi hP => ?_) (fun σ' H' hP => ?_)
    · obtain ⟨y7, y8, t, rfl, e, kt, ct, lt⟩ := hP
      have hk : i < n * (w + 2 ^ (d - w)) + 3 := by omega
      obtain ⟨r1, r2⟩ := right_of ⟨h1, h2⟩ h3 h4 hk
      have hn0 : 0 ≤ (n : Int) * (1 + w) := Int.mul_nonneg (by omega) (by omega)
      refine q_asg (v := .int ((Cn d w n i : Nat) : Int)) (ev_is (ev_call (ea_cons (ev_var rfl) (ea_cons (ev_var rfl) (ea_cons (ev_var rfl) (ea_cons (ev_var rfl) ea_nil)))) (spv fun H6 e6 Q q E => ⟨d, w, n, (i : Int), rfl, h1, by omega, h3, by omega, by omega, comb_of r2 (by omega) (by omega) ⟨Nat.two_pow_pos _, by omega⟩, q⟩)) (by rw [← r1]; rfl)) fun H5 e5 => ?_
      have kt5 := e5 _ _ kt
      have hstep : ∀ k : Int, k ≠ i → (if 0 ≤ k ∧ k < i then Cn d w n k else 0) = if 0 ≤ k ∧ k < ((i + 1 : Nat) : Int) then Cn d w n k else 0 := fun k hk => by
        by_cases c : 0 ≤ k ∧ k < i
        · rw [if_pos c, if_pos (by omega)]
        · rw [if_neg c, if_neg (by omega)]
      refine s_when (b := decide (Cn d w n i ≠ 0)) (et_is (et_test (ev_op (ev_var rfl) ev_c (rv_ne rfl))) ?_) (fun z H6 e6 => ?_) (fun z H6 e6 => ?_)
      · by_cases c : Cn d w n i = 0
        · rw [c]; rfl
        · rw [decide_eq_true c]
          have : ¬ (((Cn d w n i : Nat) : Int) = 0) := by omega
          simp [this, c]
      · have hz := of_decide_eq_true z
        refine s_dput (d := t) (ev_var rfl) (ev_var rfl) (ev_var rfl) (e6 _ _ kt5) (by omega) fun H7 e7 => ⟨_, _, _, rfl, Ex.mut (((e.trans e5).trans e6).trans e7) hp0, upd_same, (ct.putC (i : Int) _ hz).ext fun k => ?_, ?_⟩
        · unfold upC
          by_cases c : k = i
          · rw [if_pos c, if_pos (by omega), c]
          · rw [if_neg c]
            exact hstep k c
        · have := len_put t (i : Int) ((Cn d w n i : Nat) : Int)
          omega
      · have hz : Cn d w n i = 0 := by
          have := of_decide_eq_false z
          omega
        refine ⟨_, _, t, rfl, (e.trans e5).trans e6, e6 _ _ kt5, ct.ext fun k => ?_, by omega⟩
        by_cases c : k = i
        · rw [if_neg (by omega), c, if_pos (by omega), hz]
        · exact hstep k c
    obtain ⟨y7, y8, t, rfl, e, kt, ct, lt⟩ := hP
    have ct : CT t (fun k => Cn d w n k) := ct.ext fun k => by
      by_cases c : 0 ≤ k ∧ k < (((((n * (w + 2 ^ (d - w)) : Nat) : Int) + 3).toNat : Nat) : Int)
      · rw [if_pos c]
      · rw [if_neg c, Cn_out h3 n k (by rw [hG]; omega)]
    refine q_forR1 (n := 2) (ea_cons ev_c ea_nil) (by decide)
      (fun i σ2 H2 => ∃ y9 y10, σ2 = [some (.ref g), some (.int (d : Int)), some (.int (w : Int)), some (.int (n : Int)), some (.int ((n : Int) * ((w : Int) + 1))), some (.int ((n : Int) * ((w : Int) + 2 ^ (d - w)))), some (.ref p), y7, y8, y9, y10] ∧ Gs H2 g (C + 3000 * i) ∧ ExB g H' H2)
      (fun H5 e5 => ⟨none, none, rfl, (hg.ex e).ex e5, ExB.of e5⟩) (fun i σ2 H2 hi hP => ?_) (fun σ2 H2 hP => ?_)
    · obtain ⟨y9, y10, rfl, hgi, E⟩ := hP
      refine q_in ?_
      unfold tMake
      refine ta_in (tcall_in (ta_consV (ev_var rfl) fun H5 e5 => ta_in (rnd_use (n := 3) (ev_var rfl) ev_c (hgi.ex e5) (by omega) (by decide) (by decide) fun z H6 z0 z1 hg6 E6 => ?_)))
      obtain ⟨m, rfl⟩ := Int.eq_ofNat_of_zero_le z0
      refine ta_nil ⟨g, m, _, rfl, hg6, by omega, by omega, fun pw ws H7 hpw hLi hWb hg7 E7 => ?_⟩
      refine ta_in (rnd_use (n := 4) (ev_var rfl) ev_c hg7 (by omega) (by decide) (by decide) fun zs H8 s0 s1 hg8 E8 => ?_)
      obtain ⟨s, rfl⟩ := Int.eq_ofNat_of_zero_le s0
      have npw : pw ≠ g := gs_old hg6 hpw
      have hLi8 : Li H8 pw ws := E8 _ _ npw hLi
      have hW8 : Wb 32768 8 ws := ⟨by have := hWb.1; omega, hWb.2⟩
      refine ta_nil (gu_body hLi8 hW8 (by omega) fun x H9 hx e9 gx => ?_)
      dsimp only
      have EE : ExB g H2 H9 := (((ExB.of e5).trans E6).trans E7).trans (E8.trans (ExB.of e9))
      have kt9 : H9 p = some (.dK (kv t)) := EE _ _ pg (E _ _ pg kt)
      refine s_test (top_in2 (tcall_in (ta_consV (ev_var rfl) fun Ha ea => ta_consV (ev_var rfl) fun Hb eb => ta_consV (ev_var rfl) fun Hc ec => ta_consV (ev_var rfl) fun Hd ed => ta_nil ⟨x, ws, s, d, w, n, rfl, (((gx.ex ea).ex eb).ex ec).ex ed, h1, h2, h3, h4, fun pc t2 He hpc ee kc ct2 => ?_⟩)))
      have ct2 : CT t2 (fun k => Cn d w n k) := ct2.ext fun k => cnt_rows ⟨h1, h2⟩ ws s w n k
      obtain ⟨al, am⟩ := CT.alike ct2 ct
      have eae := (((ea.trans eb).trans ec).trans ed).trans ee
      refine ev_use (ev_var rfl) fun Hf ef => ⟨pc, p, t2, t, rfl, rfl, ef _ _ kc, ef _ _ (eae _ _ kt9), al, am, false, rfl, ?_⟩
      rw [if_neg (by decide)]
      exact ⟨_, _, rfl, (((((hg8.ex e9).ex ea).ex eb).ex ec).ex ed |>.ex ee |>.ex ef).mono (by omega), (E.trans EE).trans (ExB.of (eae.trans ef))⟩
    · obtain ⟨y9, y10, rfl, hgi, E⟩ := hP
      exact s_ret ev_c fun H5 e5 => q H5 ((hgi.ex e5).mono (by omega)) (((ExB.of e).trans E).trans (ExB.of e5))
end
end K50

set_option Elab.async false
set_option linter.all false
set_option maxRecDepth 100000
set_option maxHeartbeats 4000000
set_option exponentiation.threshold 6000
namespace K50
open PySem PySem.Spec PyProof.Rows L2 Evl WS M44 M50
section
variable {σ : L2.St} {H : Hp} {te : TE} {D : Ends} {tz tu : TS}
theorem s_unless2 {te2 : TE} (k : te σ H fun x H1 => ∃ c, x = .bl c ∧ (if (!c) = true then (if true = true then tu D σ H1 else tNext D σ H1) else te2 σ H1 fun y H2 => ∃ c', y = .bl c' ∧ (if (!c') = true then tu D σ H2 else tNext D σ H2))) :
    tIfS (tOr (tNot (tB te)) (tNot (tB te2))) tu tNext D σ H := k
end
theorem mul4 (a p b q : Int) : (a * p) * (b * q) = (a * b) * (p * q) := by
  rw [Int.mul_assoc, Int.mul_left_comm p b q, ← Int.mul_assoc]
theorem abs_shl {x : Int} {k a : Nat} (h : x.natAbs < 2 ^ 200) (hk : 200 + k ≤ a) : (x * 2 ^ k).natAbs < 2 ^ a := by
  rw [Int.natAbs_mul, Int.natAbs_pow]
  have h1 : x.natAbs * 2 ^ k < 2 ^ 200 * 2 ^ k := Nat.mul_lt_mul_of_pos_right h (Nat.two_pow_pos k)
  rw [← Nat.pow_add] at h1
  exact Nat.lt_of_lt_of_le h1 (Nat.pow_le_pow_right (by decide) hk)
section
variable {K : PySem.W.Frag} {mg : Str → Option Value}
def sp__law_halves_right (T : Tx K mg) : Sp := fun vs H Q _ => ∃ g, ∃ C : Nat, vs = [.ref g] ∧ Gs H g C ∧ C ≤ 10000000 ∧ ∀ H2, Gs H2 g (C + 1000) → ExB g H H2 → Q (.bl true) H2
end
section
variable {P : Program} {w : World} {K : PySem.W.Frag} {mg : Str → Option Value} {base : Heap}
theorem ok__law_halves_right (T : Tx K mg) : FnOk P w K mg base CX0 6 T.a__law_halves_right T.d__law_halves_right ["_law_generator_here"] (sp__law_halves_right T) := by
  refine T.f__law_halves_right.ok (k := 5) sc__law_halves_right (fun vs H Q E h => ?_) (fun cdv A outer s H vs Q E hr h => ?_)
  · obtain ⟨g, C, rfl, _⟩ := h
    rfl
  · obtain ⟨g, C, rfl, hg, hC, q⟩ := h
    refine ⟨_,       (pss_cons (ps_set (i := 1) sc__law_halves_right.nd rfl (by first | exact Or.inl rfl | exact Or.inr rfl) (pe_op op_add pe_int (pe_call (ok__law_random T) (hr.mono (by decide)) (by rfl) T.g__law_random T.f__law_random.kp T.b__law_random .nil pass0 (pa_cons (pv 0) (pa_cons pe_int pa_nil))))) 
      (pss_cons (ps_set (i := 2) sc__law_halves_right.nd rfl (by first | exact Or.inl rfl | exact Or.inr rfl) (pe_op op_sub (pv 1) (pe_call (ok__law_random T) (hr.mono (by decide)) (by rfl) T.g__law_random T.f__law_random.kp T.b__law_random .nil pass0 (pa_cons (pv 0) (pa_cons pe_int pa_nil))))) 
      (pss_cons (ps_par (i := 3) (j := 4) (by rfl) sc__law_halves_right.nd rfl rfl (by decide) rfl rfl (pa_cons (pe_op op_add pe_int (pe_call (ok__law_random T) (hr.mono (by decide)) (by rfl) T.g__law_random T.f__law_random.kp T.b__law_random .nil pass0 (pa_cons (pv 0) (pa_cons pe_int pa_nil)))) (pa_cons (pe_op op_add pe_int (pe_call (ok__law_random T) (hr.mono (by decide)) (by rfl) T.g__law_random T.f__law_random.kp T.b__law_random .nil pass0 (pa_cons (pv 0) (pa_cons pe_int pa_nil)))) pa_nil)) (by rfl)) 
      (pss_cons (ps_set (i := 5) sc__law_halves_right.nd rfl (by first | exact Or.inl rfl | exact Or.inr rfl) (pe_op op_add (pe_op op_mulW (pe_op op_add (pv 3) (pv 4)) (pe_op op_add (pv 2) pe_int)) (pe_call (ok__law_random T) (hr.mono (by decide)) (by rfl) T.g__law_random T.f__law_random.kp T.b__law_random .nil pass0 (pa_cons (pv 0) (pa_cons pe_int pa_nil))))) 
      (pss_cons (ps_par (i := 6) (j := 7) (by rfl) sc__law_halves_right.nd rfl rfl (by decide) rfl rfl (pa_cons pe_int (pa_cons (pe_op op_mulW (pv 4) (pe_op op_add (pv 2) pe_int)) pa_nil)) (by rfl)) 
      (pss_cons (ps_for PassesOwn.never rfl (pi_range2 rfl T.m_range (pa_cons (pv 7) (pa_cons (pe_op op_add (pe_op op_sub (pv 5) (pe_op op_mulW (pv 3) (pe_op op_add (pv 2) pe_int))) pe_int) pa_nil))) (pg_name (i := 8) sc__law_halves_right.nd rfl (by first | exact Or.inl rfl | exact Or.inr rfl)) 
        (pss_one (ps_set (i := 6) sc__law_halves_right.nd rfl (by first | exact Or.inl rfl | exact Or.inr rfl) (pe_op op_add (pv 6) (pe_op op_mulW (pe_call (ok_how_many T) hr (by rfl) T.g_how_many T.f_how_many.kp T.b_how_many .nil pass0 (pa_cons (pv 1) (pa_cons (pv 2) (pa_cons (pv 4) (pa_cons (pv 8) pa_nil))))) (pe_call (ok_how_many T) hr (by rfl) T.g_how_many T.f_how_many.kp T.b_how_many .nil pass0 (pa_cons (pv 1) (pa_cons (pv 2) (pa_cons (pv 3) (pa_cons (pe_op op_sub (pv 5) (pv 8)) pa_nil)))))))))) 
      (pss_one (ps_ret (pe_cmpR op_eq (pe_call (ok_how_many T) hr (by rfl) T.g_how_many T.f_how_many.kp T.b_how_many .nil pass0 (pa_cons (pv 1) (pa_cons (pv 2) (pa_cons (pe_op op_add (pv 3) (pv 4)) (pa_cons (pv 5) pa_nil))))) (pv 6) (nomark _)))))))))), ?_⟩
    refine q_in (top_in2 (ev_use ev_c fun H1 e1 => rnd_use (n := 19) (ev_var rfl) ev_c (hg.ex e1) (by omega) (by decide) (by decide) fun z1 H2 z10 z11 hg2 E2 => ⟨6, z1, rfl, rfl, ?_⟩))
    obtain ⟨r1, rfl⟩ := Int.eq_ofNat_of_zero_le z10
    have ed : (6 : Int) + (r1 : Int) = ((6 + r1 : Nat) : Int) := by omega
    dsimp only
    rw [ed]
    refine q_in (top_in2 (ev_use (ev_var rfl) fun H3 e3 => rnd_use (n := 6) (ev_var rfl) ev_c (hg2.ex e3) (by omega) (by decide) (by decide) fun z2 H4 z20 z21 hg4 E4 => ⟨_, z2, rfl, rfl, ?_⟩))
    obtain ⟨e, rfl⟩ := Int.eq_ofNat_of_zero_le z20
    have ew : ((6 + r1 : Nat) : Int) - (e : Int) = ((6 + r1 - e : Nat) : Int) := by omega
    dsimp only
    rw [ew]
    have hd : 1 ≤ 6 + r1 ∧ 6 + r1 ≤ 24 ∧ 6 + r1 - e ≤ 6 + r1 ∧ 6 + r1 - (6 + r1 - e) = e := by omega
    have hW24 : 6 + r1 - e ≤ 24 := by omega
    generalize 6 + r1 = d at hd hW24 ⊢
    generalize d - e = W at hd hW24 ⊢
    obtain ⟨d1, d2, hW, hde⟩ := hd
    refine q_par (ta_in (top_in2 (ev_use ev_c fun H5 e5 => rnd_use (n := 40) (ev_var rfl) ev_c (hg4.ex e5) (by omega) (by decide) (by decide) fun z3 H6 z30 z31 hg6 E6 => ⟨1, z3, rfl, rfl, ?_⟩)))
    obtain ⟨r3, rfl⟩ := Int.eq_ofNat_of_zero_le z30
    refine ta_in (top_in2 (ev_use ev_c fun H7 e7 => rnd_use (n := 3) (ev_var rfl) ev_c (hg6.ex e7) (by omega) (by decide) (by decide) fun z4 H8 z40 z41 hg8 E8 => ⟨1, z4, rfl, rfl, ta_nil ⟨_, _, rfl, ?_⟩⟩))
    obtain ⟨r4, rfl⟩ := Int.eq_ofNat_of_zero_le z40
    have eo : (1 : Int) + (r3 : Int) = ((1 + r3 : Nat) : Int) := by omega
    have et : (1 : Int) + (r4 : Int) = ((1 + r4 : Nat) : Int) := by omega
    dsimp only
    rw [eo, et]
    have ho : 1 ≤ 1 + r3 ∧ 1 + r3 ≤ 40 := by omega
    have ht : 1 ≤ 1 + r4 ∧ 1 + r4 ≤ 3 := by omega
    generalize 1 + r3 = o at ho ⊢
    generalize 1 + r4 = t at ht ⊢
    have hA : t * (W + 1) ≤ 3 * 25 := Nat.mul_le_mul ht.2 (by omega)
    have hB : o * (W + 1) ≤ 40 * 25 := Nat.mul_le_mul ho.2 (by omega)
    have eA : (t : Int) * ((W : Int) + 1) = ((t * (W + 1) : Nat) : Int) := by rw [Int.natCast_mul]; rfl
    have eB : (o : Int) * ((W : Int) + 1) = ((o * (W + 1) : Nat) : Int) := by rw [Int.natCast_mul]; rfl
    have eA1 : (t : Int) * (1 + (W : Int)) = ((t * (W + 1) : Nat) : Int) := by rw [Int.add_comm]; exact eA
    have eB1 : (o : Int) * (1 + (W : Int)) = ((o * (W + 1) : Nat) : Int) := by rw [Int.add_comm]; exact eB
    have eAB : ((o : Int) + (t : Int)) * ((W : Int) + 1) = ((o * (W + 1) + t * (W + 1) : Nat) : Int) := by rw [Int.add_mul, eA, eB, Int.natCast_add]
    have eAB1 : ((o + t : Nat) : Int) * (1 + (W : Int)) = ((o * (W + 1) + t * (W + 1) : Nat) : Int) := by rw [Int.natCast_add, Int.add_comm 1]; exact eAB
    have smul : ∀ {x y : Int}, x.natAbs < 2 ^ 10 → y.natAbs < 2 ^ 10 → CMulW x y := fun h1 h2 => wide_mul (a := 10) (b := 10) h1 h2 (by decide) (by decide) (by decide)
    refine q_in (top_in2 (ev_use (ev_op (ev_op (ev_var rfl) (ev_var rfl) rv_I0) (ev_op (ev_var rfl) ev_c rv_I0) (rv_I (smul (by omega) (by omega)))) fun H9 e9 => rnd_use (n := 12) (ev_var rfl) ev_c (hg8.ex e9) (by omega) (by decide) (by decide) fun z5 H10 z50 z51 hg10 E10 => ⟨_, z5, rfl, rfl, ?_⟩))
    obtain ⟨x, rfl⟩ := Int.eq_ofNat_of_zero_le z50
    dsimp only
    rw [eAB]
    have EH : ExB g H H10 := ((((((((ExB.of e1).trans E2).trans (ExB.of e3)).trans E4).trans (ExB.of e5)).trans E6).trans (ExB.of e7)).trans E8).trans ((ExB.of e9).trans E10)
    generalize hAd : t * (W + 1) = A at hA eA eA1 eAB eAB1 ⊢
    generalize hBd : o * (W + 1) = B at hB eB eB1 eAB eAB1 ⊢
    refine q_par (ta_consV (v := .int 0) ev_c fun H11 e11 => ta_consV (v := .int (A : Int)) (ev_is (ev_op (ev_var rfl) (ev_op (ev_var rfl) ev_c rv_I0) (rv_I (smul (by omega) (by omega)))) (by rw [eA])) fun H12 e12 => ta_nil ⟨_, _, rfl, ?_⟩)
    have hmv : ∀ (m : Nat) (s : Int) (i : Nat), 1 ≤ m → m ≤ 43 → i < 12 → s - (m : Int) * (1 + (W : Int)) = (i : Int) → hm d W m s = LW m (2 ^ e) (i : Int) * 2 ^ (m * W) ∧ CombOk m (2 ^ (d - W)) (s - (m : Int) * (1 + (W : Int))) := fun m s i m1 m2 hi hs => by
      unfold hm
      rw [hs, hde]
      refine ⟨rfl, comb_of (Nat.lt_trans (LW_tab (by omega : e < 6) m1 m2 hi).2 (Nat.pow_lt_pow_right (by decide) (by decide))) m2 (by omega) ⟨Nat.two_pow_pos _, Nat.pow_le_pow_right (by decide) (by omega)⟩⟩
    refine q_forR2 (lo := (A : Int)) (n := ((A + x + 1 : Nat) : Int)) (ea_cons (ev_var rfl) (ea_cons (ev_is (ev_op (ev_op (ev_var rfl) (ev_op (ev_var rfl) (ev_op (ev_var rfl) ev_c rv_I0) (rv_I (smul (by omega) (by omega)))) rv_I0) ev_c rv_I0) (by rw [eB]; congr 1; omega)) ea_nil)) (by omega)
      (fun i σ' H' => ∃ y8, σ' = [some (.ref g), some (.int (d : Int)), some (.int (W : Int)), some (.int (o : Int)), some (.int (t : Int)), some (.int (((B + A : Nat) : Int) + (x : Int))), some (.int (convI e t o x i * 2 ^ ((o + t) * W))), some (.int (A : Int)), y8] ∧ Ex H10 H')
      (fun H13 e13 => ⟨none, by rw [show convI e t o x 0 * 2 ^ ((o + t) * W) = 0 from Int.zero_mul _]; rfl, (e11.trans e12).trans e13⟩) (fun i σ' H' hi hP => ?_) (fun σ' H' hP => ?_)
    · obtain ⟨y8, rfl, eH⟩ := hP
      have hix : i ≤ x := by omega
      obtain ⟨v1, c1⟩ := hmv t ((A : Int) + (i : Int)) i ht.1 (by omega) (by omega) (by rw [eA1]; omega)
      obtain ⟨v2, c2⟩ := hmv o (((B + A : Nat) : Int) + (x : Int) - ((A : Int) + (i : Int))) (x - i) ho.1 (by omega) (by omega) (by rw [eB1]; omega)
      refine s_asg (ev_is (w := .int (convI e t o x (i + 1) * 2 ^ ((o + t) * W))) (ev_op (ev_var rfl) (ev_op (ev_is (ev_call (ea_cons (ev_var rfl) (ea_cons (ev_var rfl) (ea_cons (ev_var rfl) (ea_cons (ev_var rfl) ea_nil)))) (spv fun H5 e5 Q q E => ⟨d, W, t, (A : Int) + (i : Int), rfl, d1, d2, hW, by omega, by omega, c1, q⟩)) (by rw [v1])) (ev_is (ev_call (ea_cons (ev_var rfl) (ea_cons (ev_var rfl) (ea_cons (ev_var rfl) (ea_cons (ev_op (ev_var rfl) (ev_var rfl) rv_I0) ea_nil)))) (spv fun H5 e5 Q q E => ⟨d, W, o, ((B + A : Nat) : Int) + (x : Int) - ((A : Int) + (i : Int)), rfl, d1, d2, hW, by omega, by omega, c2, q⟩)) (by rw [v2])) (rv_I ?_)) rv_I0) ?_) fun H5 e5 => ⟨_, rfl, eH.trans e5⟩
      · have w1 := (LW_tab (e := e) (by omega) ht.1 (by omega : t ≤ 43) (by omega : i < 12)).2
        have w2 := (LW_tab (e := e) (by omega) ho.1 (by omega : o ≤ 43) (by omega : x - i < 12)).2
        refine wide_mul (a := 300) (b := 1200) (abs_shl w1 ?_) (abs_shl w2 ?_) (by decide) (by decide) (by decide)
        · have : t * W ≤ 3 * 24 := Nat.mul_le_mul ht.2 hW24
          omega
        · have : o * W ≤ 40 * 24 := Nat.mul_le_mul ho.2 hW24
          omega
      · rw [mul4, ← Int.pow_add, ← Nat.add_mul, Nat.add_comm t o, ← Int.add_mul]
        rfl
    · obtain ⟨y8, rfl, eH⟩ := hP
      rw [show (((A + x + 1 : Nat) : Int) - (A : Int)).toNat = x + 1 by omega, convI_eq (by omega) ht ho (by omega)]
      obtain ⟨v3, c3⟩ := hmv (o + t) (((B + A : Nat) : Int) + (x : Int)) x (by omega) (by omega) (by omega) (by rw [eAB1]; omega)
      refine s_ret (v := .bl true) (ev_is (ev_op (ev_is (ev_call (ea_cons (ev_var rfl) (ea_cons (ev_var rfl) (ea_cons (ev_is (w := .int ((o + t : Nat) : Int)) (ev_op (ev_var rfl) (ev_var rfl) rv_I0) (by rw [Int.natCast_add])) (ea_cons (ev_var rfl) ea_nil)))) (spv fun H5 e5 Q q E => ⟨d, W, o + t, ((B + A : Nat) : Int) + (x : Int), rfl, d1, d2, hW, by omega, by omega, c3, q⟩)) (by rw [v3])) (ev_var rfl) (rv_eq rfl)) (by simp)) fun H5 e5 => q H5 (((hg10.ex eH).ex e5).mono (by omega)) (EH.trans (ExB.of (eH.trans e5)))
end
end K50

set_option Elab.async false
set_option linter.all false
set_option maxRecDepth 100000
set_option maxHeartbeats 4000000
set_option exponentiation.threshold 6000
namespace K50
open PySem PySem.Spec PyProof.Rows L2 Evl WS M44 M50
def sp_law (K : PySem.W.Frag) : Sp := fun vs H Q _ => ∃ a, ∃ ns : List Int, vs = [.ref a] ∧ SqL K H a (ns.map V.int) ∧ ns.length ≤ 63 ∧ ∀ H', Q (.bl true) H'
theorem v200 : hm 24 24 200 5000 = 2 ^ 4800 := by
  have e : (5000 : Int) - (200 : Nat) * (1 + (24 : Nat)) = 0 := by decide
  unfold hm
  rw [e]
  show LW 200 1 0 * 2 ^ 4800 = 2 ^ 4800
  rw [LW_200, Int.one_mul]
theorem c200 : CombOk 200 (2 ^ (24 - 24)) ((5000 : Int) - (200 : Nat) * (1 + (24 : Nat))) := by
  have e : (5000 : Int) - (200 : Nat) * (1 + (24 : Nat)) = 0 := by decide
  rw [e]
  exact comb_200
theorem c00 : CombOk 0 (2 ^ (5 - 2)) ((0 : Int) - (0 : Nat) * (1 + (2 : Nat))) := comb_of (by decide +kernel) (by decide) (by decide) (by decide)
theorem c01 : CombOk 0 (2 ^ (5 - 2)) ((1 : Int) - (0 : Nat) * (1 + (2 : Nat))) := comb_of (by decide +kernel) (by decide) (by decide) (by decide)
theorem v00 : hm 5 2 0 0 = 1 := by decide +kernel
theorem v01 : hm 5 2 0 1 = 0 := by decide +kernel
section
variable {P : Program} {w : World} {K : PySem.W.Frag} {mg : Str → Option Value} {base : Heap}
theorem ok_law (T : Tx K mg) : FnOk P w K mg base CX0 7 T.a_law T.d_law ["_law_script"] (sp_law K) := by
  refine T.f_law.ok (k := 6) sc_law (fun vs H Q E h => ?_) (fun cdv A outer s H vs Q E hr h => ?_)
  · obtain ⟨a, ns, rfl, _⟩ := h
    rfl
  · obtain ⟨a, ns, rfl, hS, hl, q⟩ := h
    refine ⟨_,       (pss_cons (ps_for PassesOwn.never rfl (pi_range1 rfl T.m_range (pa_cons pe_int pa_nil)) (pg_name (i := 1) sc_law.nd rfl (by first | exact Or.inl rfl | exact Or.inr rfl)) 
        (pss_cons (ps_set (i := 2) sc_law.nd rfl (by first | exact Or.inl rfl | exact Or.inr rfl) (pe_call (ok__law_generator T) (hr.mono (by decide)) (by rfl) T.g__law_generator T.f__law_generator.kp T.b__law_generator .nil pass0 (pa_cons (pv 0) (pa_cons (pv 1) pa_nil)))) 
        (pss_cons (ps_set (i := 3) sc_law.nd rfl (by first | exact Or.inl rfl | exact Or.inr rfl) (pe_op op_add pe_int (pe_call (ok__law_random T) (hr.mono (by decide)) (by rfl) T.g__law_random T.f__law_random.kp T.b__law_random .nil pass0 (pa_cons (pv 2) (pa_cons pe_int pa_nil))))) 
        (pss_cons (ps_set (i := 4) sc_law.nd rfl (by first | exact Or.inl rfl | exact Or.inr rfl) (pe_call (ok__law_random T) (hr.mono (by decide)) (by rfl) T.g__law_random T.f__law_random.kp T.b__law_random .nil pass0 (pa_cons (pv 2) (pa_cons (pe_op op_add (pv 3) pe_int) pa_nil)))) 
        (pss_one (ps_if (PW.pt (pw_or (pt_not (pt_val (pe_call (ok__law_right T) hr (by rfl) T.g__law_right T.f__law_right.kp T.b__law_right .nil pass0 (pa_cons (pv 2) (pa_cons (pv 3) (pa_cons (pv 4) (pa_cons (pe_call (ok__law_random T) (hr.mono (by decide)) (by rfl) T.g__law_random T.f__law_random.kp T.b__law_random .nil pass0 (pa_cons (pv 2) (pa_cons pe_int pa_nil))) pa_nil))))))) (pw_or1 (pt_not (pt_val (pe_call (ok__law_halves_right T) hr (by rfl) T.g__law_halves_right T.f__law_halves_right.kp T.b__law_halves_right .nil pass0 (pa_cons (pv 2) pa_nil))))))) 
          (pss_one (ps_ret pe_bl)) pss_nil)))))) 
      (pss_one (ps_ret (pe_and (pe_cmpR op_eq (pe_call (ok_how_many T) (hr.mono (by decide)) (by rfl) T.g_how_many T.f_how_many.kp T.b_how_many .nil pass0 (pa_cons pe_int (pa_cons pe_int (pa_cons pe_int (pa_cons (pe_op op_mul pe_int pe_int) pa_nil))))) (pe_op op_shlW pe_int (pe_op op_mul pe_int pe_int)) (nomark _)) (pe_and (pe_cmpR op_eq (pe_call (ok_how_many T) (hr.mono (by decide)) (by rfl) T.g_how_many T.f_how_many.kp T.b_how_many .nil pass0 (pa_cons pe_int (pa_cons pe_int (pa_cons pe_int (pa_cons pe_int pa_nil))))) pe_int (nomark _)) (pe_one (pe_cmpR op_eq (pe_call (ok_how_many T) (hr.mono (by decide)) (by rfl) T.g_how_many T.f_how_many.kp T.b_how_many .nil pass0 (pa_cons pe_int (pa_cons pe_int (pa_cons pe_int (pa_cons pe_int pa_nil))))) pe_int (nomark _)))))))), ?_⟩
    refine q_forR1 (n := 3) (ea_cons ev_c ea_nil) (by decide) (fun i σ' H' => ∃ y1 y2 y3 y4, σ' = [some (.ref a), y1, y2, y3, y4] ∧ Ex H H') (fun H1 e1 => ⟨none, none, none, none, rfl, e1⟩) (fun i σ' H' hi hP => ?_) (fun σ' H' hP => ?_)
    · obtain ⟨y1, y2, y3, y4, rfl, e⟩ := hP
      refine q_in (tcall_in (ta_consV (ev_var rfl) fun Ha ea => ta_consV (ev_var rfl) fun Hb eb => ta_nil ⟨a, ns, i, rfl, ex_l ((e.trans ea).trans eb) hS, hl, by omega, fun g H1 hg0 e1 hg1 => ?_⟩))
      have hgn := fresh_back ((e.trans ea).trans eb) hg0
      refine q_in (top_in2 (ev_use ev_c fun H2 e2 => rnd_use (n := 3) (ev_var rfl) ev_c (hg1.ex e2) (by omega) (by decide) (by decide) fun z H3 z0 z1 hg3 E3 => ⟨1, z, rfl, rfl, ?_⟩))
      obtain ⟨d0, rfl⟩ := Int.eq_ofNat_of_zero_le z0
      dsimp only
      rw [show (1 : Int) + (d0 : Int) = ((1 + d0 : Nat) : Int) by omega]
      have hd : 1 ≤ 1 + d0 ∧ 1 + d0 ≤ 3 := by omega
      generalize 1 + d0 = d at hd ⊢
      refine q_in (rnd_use (n := (d : Int) + 1) (ev_var rfl) (ev_op (ev_var rfl) ev_c rv_I0) hg3 (by omega) (by omega) (by omega) fun z H4 w0 w1 hg4 E4 => ?_)
      obtain ⟨w, rfl⟩ := Int.eq_ofNat_of_zero_le w0
      refine s_unless2 (tcall_in (ta_consV (ev_var rfl) fun H5 e5 => ta_consV (ev_var rfl) fun H6 e6 => ta_consV (ev_var rfl) fun H7 e7 => ta_in (rnd_use (n := 4) (ev_var rfl) ev_c (((hg4.ex e5).ex e6).ex e7) (by omega) (by decide) (by decide) fun z H8 n0 n1 hg8 E8 => ?_)))
      obtain ⟨n, rfl⟩ := Int.eq_ofNat_of_zero_le n0
      refine ta_nil ⟨g, d, w, n, _, rfl, hg8, hd.1, hd.2, by omega, by omega, by omega, fun H9 hg9 E9 => ⟨true, rfl, ?_⟩⟩
      rw [if_neg (by decide)]
      refine tcall_in (ta_consV (ev_var rfl) fun H10 e10 => ta_nil ⟨g, _, rfl, hg9.ex e10, by omega, fun H11 hg11 E11 => ⟨true, rfl, ?_⟩⟩)
      rw [if_neg (by decide)]
      have EE : ExB g H1 H11 := (((((ExB.of e2).trans E3).trans E4).trans (ExB.of ((e5.trans e6).trans e7))).trans E8).trans ((E9.trans (ExB.of e10)).trans E11)
      refine ⟨_, _, _, _, rfl, fun b o hb => ?_⟩
      have nb : b ≠ g := fun z => by rw [z, hgn] at hb; cases hb
      exact EE b o nb (e1 _ _ (eb _ _ (ea _ _ (e _ _ hb))))
    · obtain ⟨y1, y2, y3, y4, rfl, e⟩ := hP
      refine s_ret (v := .bl true) (ev_andV (a := true) (b := true) (ev_is (ev_op (x := .int (2 ^ 4800)) (ev_is (ev_call (vs := [.int ((24 : Nat) : Int), .int ((24 : Nat) : Int), .int ((200 : Nat) : Int), .int 5000]) (ea_cons ev_c (ea_cons ev_c (ea_cons ev_c (ea_cons (ev_is (ev_op ev_c ev_c (rv_I (Or.inl ⟨by decide, by decide⟩))) rfl) ea_nil)))) (spv fun H5 e5 Q q E => ⟨24, 24, 200, 5000, rfl, by decide, by decide, by decide, by decide, by decide, c200, q⟩)) (by rw [v200])) (ev_is (w := .int (2 ^ 4800)) (ev_op ev_c (ev_op ev_c ev_c (rv_I (Or.inl ⟨by decide, by decide⟩))) (rv_I (shl_ok (n := 2) (j := 4800) (by decide) (by decide)))) (by rw [show ((24 : Int) * 200).toNat = 4800 from rfl, Int.one_mul])) (rv_eq rfl)) (by simp)) fun _ => ev_andV (a := true) (b := true) (ev_is (ev_op (x := .int 1) (ev_is (ev_call (vs := [.int ((5 : Nat) : Int), .int ((2 : Nat) : Int), .int ((0 : Nat) : Int), .int 0]) (ea_cons ev_c (ea_cons ev_c (ea_cons ev_c (ea_cons ev_c ea_nil)))) (spv fun H5 e5 Q q E => ⟨5, 2, 0, 0, rfl, by decide, by decide, by decide, by decide, by decide, c00, q⟩)) (by rw [v00])) ev_c (rv_eq rfl)) (by simp)) fun _ => ev_is (ev_op (x := .int 0) (ev_is (ev_call (vs := [.int ((5 : Nat) : Int), .int ((2 : Nat) : Int), .int ((0 : Nat) : Int), .int 1]) (ea_cons ev_c (ea_cons ev_c (ea_cons ev_c (ea_cons ev_c ea_nil)))) (spv fun H5 e5 Q q E => ⟨5, 2, 0, 1, rfl, by decide, by decide, by decide, by decide, by decide, c01, q⟩)) (by rw [v01])) ev_c (rv_eq rfl)) (by simp)) fun H1 e1 => q H1
end
end K50

set_option Elab.async false
set_option linter.all false
set_option maxRecDepth 100000
set_option maxHeartbeats 4000000
namespace K50
open PySem PySem.Spec PyProof.Rows L2 Evl WS M44 M50
theorem all_mk {l : PySem.W.OpenLaw} {w : World} {K : PySem.W.Frag} {h : Heap} {mg : Str → Option Value} {fa f1 f2 f3 f4 f5 f6 f7 f8 f9 f10 f11 f12 f13 f14 f15 f16 f17 f18 f19 f20 f21 f22 f23 f24 f25 f26 f27 f28 f29 f30 f31 f32 f33 f34 f35 f36 C_Guesser : Addr} (X : K.In h) (G : h.Ns mainGlobals mg) (hfa : mg "law" = some (.ref fa))
    {od1 an1 od2 an2 od3 an3 od4 an4 od5 an5 od6 an6 od7 an7 od8 an8 od9 an9 od10 an10 od11 an11 od12 an12 od13 an13 od14 an14 od15 an15 od16 an16 od17 an17 od18 an18 od19 an19 od20 an20 od21 an21 od22 an22 od23 an23 od24 an24 od25 an25 od26 an26 od27 an27 od28 an28 od29 an29 od30 an30 od31 an31 od32 an32 od33 an33 od34 an34 od35 an35 od36 an36 : Option Addr} {sl1 sl2 sl3 sl4 sl5 sl6 sl7 sl8 sl9 sl10 sl11 sl12 sl13 sl14 sl15 sl16 sl17 sl18 sl19 sl20 sl21 sl22 sl23 sl24 sl25 sl26 sl27 sl28 sl29 sl30 sl31 sl32 sl33 sl34 sl35 sl36 : Array (Option Value)} {oc1 kV1 dc1 pm1 cd1 ct1 oc2 kV2 dc2 pm2 cd2 ct2 oc3 kV3 dc3 pm3 cd3 ct3 oc4 kV4 dc4 pm4 cd4 ct4 oc5 kV5 dc5 pm5 cd5 ct5 oc6 kV6 dc6 pm6 cd6 ct6 oc7 kV7 dc7 pm7 cd7 ct7 oc8 kV8 dc8 pm8 cd8 ct8 oc9 kV9 dc9 pm9 cd9 ct9 oc10 kV10 dc10 pm10 cd10 ct10 oc11 kV11 dc11 pm11 cd11 ct11 oc12 kV12 dc12 pm12 cd12 ct12 oc13 kV13 dc13 pm13 cd13 ct13 oc14 kV14 dc14 pm14 cd14 ct14 oc15 kV15 dc15 pm15 cd15 ct15 oc16 kV16 dc16 pm16 cd16 ct16 oc17 kV17 dc17 pm17 cd17 ct17 oc18 kV18 dc18 pm18 cd18 ct18 oc19 kV19 dc19 pm19 cd19 ct19 oc20 kV20 dc20 pm20 cd20 ct20 oc21 kV21 dc21 pm21 cd21 ct21 oc22 kV22 dc22 pm22 cd22 ct22 oc23 kV23 dc23 pm23 cd23 ct23 oc24 kV24 dc24 pm24 cd24 ct24 oc25 kV25 dc25 pm25 cd25 ct25 oc26 kV26 dc26 pm26 cd26 ct26 oc27 kV27 dc27 pm27 cd27 ct27 oc28 kV28 dc28 pm28 cd28 ct28 oc29 kV29 dc29 pm29 cd29 ct29 oc30 kV30 dc30 pm30 cd30 ct30 oc31 kV31 dc31 pm31 cd31 ct31 oc32 kV32 dc32 pm32 cd32 ct32 oc33 kV33 dc33 pm33 cd33 ct33 oc34 kV34 dc34 pm34 cd34 ct34 oc35 kV35 dc35 pm35 cd35 ct35 oc36 kV36 dc36 pm36 cd36 ct36 : Value}
    {t_MOST_WEIGHTS t_GREATEST_WEIGHT t_GREATEST_SHIFT t_GREATEST_DEPTH_guessers t_GREATEST_DEPTH_sounds t_MOST_SAMPLES : Tok}
    (gC_Guesser : PySem.W.nsIn K mainGlobals "Guesser" = some (some (.ref C_Guesser)))
    (pg_Guesser : PySem.W.plainGet K C_Guesser Str.empty = true)
    (hd_Guesser : PySem.W.hasDictIn K C_Guesser = true)
    (po_Guesser : PySem.W.plainOver K C_Guesser = true)
    (sa_Guesser : PySem.W.findIn K (.ref C_Guesser) "__setattr__" = some (some (.builtin "object.__setattr__")))
    (mk_Guesser : PySem.W.makesIn K C_Guesser = true)
    (kc_Guesser : PySem.W.keepIn K (.ref C_Guesser) = true)
    (ha_Guesser : PySem.W.findIn K (.ref C_Guesser) "__class__" = some (some (.builtin "object.__class__")))
    (hn_Guesser : PySem.W.specialIn K (.builtin "object.__class__") "__get__" = some (some (.builtin "getset_descriptor.__get__")))
    (ht_Guesser : PySem.W.takesIn K (.builtin "object.__class__") = some true)
    (hm_Guesser : PySem.W.mroIn K C_Guesser (.type "object") = some true)
    (n_Guesser__weights : PySem.W.findIn K (.ref C_Guesser) "_weights" = some none)
    (n_Guesser__shift : PySem.W.findIn K (.ref C_Guesser) "_shift" = some none)
    (a1 : PySem.W.nsIn K mainGlobals "is_number" = some (some (.ref f1)))
    (l1 : K.lookup f1 = some ⟨oc1, od1, .func (PySem.W.fnOf "is_number" "is_number" (defArgs s_is_number) (defBody s_is_number) (defScope s_is_number) .none kV1 dc1 pm1 an1 cd1 ct1), sl1⟩)
    (e1 : PySem.W.codeIn K cd1 "is_number" = true)
    (k1 : PySem.W.keepIn K (.ref f1) = true)
    (a2 : PySem.W.nsIn K mainGlobals "is_within" = some (some (.ref f2)))
    (l2 : K.lookup f2 = some ⟨oc2, od2, .func (PySem.W.fnOf "is_within" "is_within" (defArgs s_is_within) (defBody s_is_within) (defScope s_is_within) .none kV2 dc2 pm2 an2 cd2 ct2), sl2⟩)
    (e2 : PySem.W.codeIn K cd2 "is_within" = true)
    (k2 : PySem.W.keepIn K (.ref f2) = true)
    (a3 : PySem.W.nsIn K mainGlobals "check_within" = some (some (.ref f3)))
    (l3 : K.lookup f3 = some ⟨oc3, od3, .func (PySem.W.fnOf "check_within" "check_within" (defArgs s_check_within) (defBody s_check_within) (defScope s_check_within) .none kV3 dc3 pm3 an3 cd3 ct3), sl3⟩)
    (e3 : PySem.W.codeIn K cd3 "check_within" = true)
    (k3 : PySem.W.keepIn K (.ref f3) = true)
    (a4 : PySem.W.nsIn K mainGlobals "check_from" = some (some (.ref f4)))
    (l4 : K.lookup f4 = some ⟨oc4, od4, .func (PySem.W.fnOf "check_from" "check_from" (defArgs s_check_from) (defBody s_check_from) (defScope s_check_from) .none kV4 dc4 pm4 an4 cd4 ct4), sl4⟩)
    (e4 : PySem.W.codeIn K cd4 "check_from" = true)
    (k4 : PySem.W.keepIn K (.ref f4) = true)
    (a5 : PySem.W.nsIn K mainGlobals "check_count" = some (some (.ref f5)))
    (l5 : K.lookup f5 = some ⟨oc5, od5, .func (PySem.W.fnOf "check_count" "check_count" (defArgs s_check_count) (defBody s_check_count) (defScope s_check_count) .none kV5 dc5 pm5 an5 cd5 ct5), sl5⟩)
    (e5 : PySem.W.codeIn K cd5 "check_count" = true)
    (k5 : PySem.W.keepIn K (.ref f5) = true)
    (a6 : PySem.W.nsIn K mainGlobals "check_depth" = some (some (.ref f6)))
    (l6 : K.lookup f6 = some ⟨oc6, od6, .func (PySem.W.fnOf "check_depth" "check_depth" (defArgs s_check_depth) (defBody s_check_depth) (defScope s_check_depth) .none kV6 dc6 pm6 an6 cd6 ct6), sl6⟩)
    (e6 : PySem.W.codeIn K cd6 "check_depth" = true)
    (k6 : PySem.W.keepIn K (.ref f6) = true)
    (a7 : PySem.W.nsIn K mainGlobals "least_sample" = some (some (.ref f7)))
    (l7 : K.lookup f7 = some ⟨oc7, od7, .func (PySem.W.fnOf "least_sample" "least_sample" (defArgs s_least_sample) (defBody s_least_sample) (defScope s_least_sample) .none kV7 dc7 pm7 an7 cd7 ct7), sl7⟩)
    (e7 : PySem.W.codeIn K cd7 "least_sample" = true)
    (k7 : PySem.W.keepIn K (.ref f7) = true)
    (a8 : PySem.W.nsIn K mainGlobals "greatest_sample" = some (some (.ref f8)))
    (l8 : K.lookup f8 = some ⟨oc8, od8, .func (PySem.W.fnOf "greatest_sample" "greatest_sample" (defArgs s_greatest_sample) (defBody s_greatest_sample) (defScope s_greatest_sample) .none kV8 dc8 pm8 an8 cd8 ct8), sl8⟩)
    (e8 : PySem.W.codeIn K cd8 "greatest_sample" = true)
    (k8 : PySem.W.keepIn K (.ref f8) = true)
    (a9 : PySem.W.nsIn K mainGlobals "wrapped" = some (some (.ref f9)))
    (l9 : K.lookup f9 = some ⟨oc9, od9, .func (PySem.W.fnOf "wrapped" "wrapped" (defArgs s_wrapped) (defBody s_wrapped) (defScope s_wrapped) .none kV9 dc9 pm9 an9 cd9 ct9), sl9⟩)
    (e9 : PySem.W.codeIn K cd9 "wrapped" = true)
    (k9 : PySem.W.keepIn K (.ref f9) = true)
    (a10 : PySem.W.nsIn K mainGlobals "is_samples" = some (some (.ref f10)))
    (l10 : K.lookup f10 = some ⟨oc10, od10, .func (PySem.W.fnOf "is_samples" "is_samples" (defArgs s_is_samples) (defBody s_is_samples) (defScope s_is_samples) .none kV10 dc10 pm10 an10 cd10 ct10), sl10⟩)
    (e10 : PySem.W.codeIn K cd10 "is_samples" = true)
    (k10 : PySem.W.keepIn K (.ref f10) = true)
    (a11 : PySem.W.findIn K (.ref C_Guesser) "__init__" = some (some (.ref f11)))
    (i11 : PySem.W.isFn K (.ref f11) = true)
    (l11 : K.lookup f11 = some ⟨oc11, od11, .func (PySem.W.fnOf "__init__" "Guesser.__init__" (defArgs s_Guesser___init__) (defBody s_Guesser___init__) (defScope s_Guesser___init__) .none kV11 dc11 pm11 an11 cd11 ct11), sl11⟩)
    (e11 : PySem.W.codeIn K cd11 "Guesser.__init__" = true)
    (k11 : PySem.W.keepIn K (.ref f11) = true)
    (a12 : PySem.W.findIn K (.ref C_Guesser) "weights" = some (some (.ref f12)))
    (i12 : PySem.W.isFn K (.ref f12) = true)
    (l12 : K.lookup f12 = some ⟨oc12, od12, .func (PySem.W.fnOf "weights" "Guesser.weights" (defArgs s_Guesser_weights) (defBody s_Guesser_weights) (defScope s_Guesser_weights) .none kV12 dc12 pm12 an12 cd12 ct12), sl12⟩)
    (e12 : PySem.W.codeIn K cd12 "Guesser.weights" = true)
    (k12 : PySem.W.keepIn K (.ref f12) = true)
    (a13 : PySem.W.findIn K (.ref C_Guesser) "shift" = some (some (.ref f13)))
    (i13 : PySem.W.isFn K (.ref f13) = true)
    (l13 : K.lookup f13 = some ⟨oc13, od13, .func (PySem.W.fnOf "shift" "Guesser.shift" (defArgs s_Guesser_shift) (defBody s_Guesser_shift) (defScope s_Guesser_shift) .none kV13 dc13 pm13 an13 cd13 ct13), sl13⟩)
    (e13 : PySem.W.codeIn K cd13 "Guesser.shift" = true)
    (k13 : PySem.W.keepIn K (.ref f13) = true)
    (a14 : PySem.W.findIn K (.ref C_Guesser) "order" = some (some (.ref f14)))
    (i14 : PySem.W.isFn K (.ref f14) = true)
    (l14 : K.lookup f14 = some ⟨oc14, od14, .func (PySem.W.fnOf "order" "Guesser.order" (defArgs s_Guesser_order) (defBody s_Guesser_order) (defScope s_Guesser_order) .none kV14 dc14 pm14 an14 cd14 ct14), sl14⟩)
    (e14 : PySem.W.codeIn K cd14 "Guesser.order" = true)
    (k14 : PySem.W.keepIn K (.ref f14) = true)
    (a15 : PySem.W.findIn K (.ref C_Guesser) "__eq__" = some (some (.ref f15)))
    (i15 : PySem.W.isFn K (.ref f15) = true)
    (l15 : K.lookup f15 = some ⟨oc15, od15, .func (PySem.W.fnOf "__eq__" "Guesser.__eq__" (defArgs s_Guesser___eq__) (defBody s_Guesser___eq__) (defScope s_Guesser___eq__) .none kV15 dc15 pm15 an15 cd15 ct15), sl15⟩)
    (e15 : PySem.W.codeIn K cd15 "Guesser.__eq__" = true)
    (k15 : PySem.W.keepIn K (.ref f15) = true)
    (a16 : PySem.W.nsIn K mainGlobals "check_guesser" = some (some (.ref f16)))
    (l16 : K.lookup f16 = some ⟨oc16, od16, .func (PySem.W.fnOf "check_guesser" "check_guesser" (defArgs s_check_guesser) (defBody s_check_guesser) (defScope s_check_guesser) .none kV16 dc16 pm16 an16 cd16 ct16), sl16⟩)
    (e16 : PySem.W.codeIn K cd16 "check_guesser" = true)
    (k16 : PySem.W.keepIn K (.ref f16) = true)
    (a17 : PySem.W.nsIn K mainGlobals "check_samples" = some (some (.ref f17)))
    (l17 : K.lookup f17 = some ⟨oc17, od17, .func (PySem.W.fnOf "check_samples" "check_samples" (defArgs s_check_samples) (defBody s_check_samples) (defScope s_check_samples) .none kV17 dc17 pm17 an17 cd17 ct17), sl17⟩)
    (e17 : PySem.W.codeIn K cd17 "check_samples" = true)
    (k17 : PySem.W.keepIn K (.ref f17) = true)
    (a18 : PySem.W.nsIn K mainGlobals "weighed" = some (some (.ref f18)))
    (l18 : K.lookup f18 = some ⟨oc18, od18, .func (PySem.W.fnOf "weighed" "weighed" (defArgs s_weighed) (defBody s_weighed) (defScope s_weighed) .none kV18 dc18 pm18 an18 cd18 ct18), sl18⟩)
    (e18 : PySem.W.codeIn K cd18 "weighed" = true)
    (k18 : PySem.W.keepIn K (.ref f18) = true)
    (a19 : PySem.W.nsIn K mainGlobals "unwrapped_rests" = some (some (.ref f19)))
    (l19 : K.lookup f19 = some ⟨oc19, od19, .func (PySem.W.fnOf "unwrapped_rests" "unwrapped_rests" (defArgs s_unwrapped_rests) (defBody s_unwrapped_rests) (defScope s_unwrapped_rests) .none kV19 dc19 pm19 an19 cd19 ct19), sl19⟩)
    (e19 : PySem.W.codeIn K cd19 "unwrapped_rests" = true)
    (k19 : PySem.W.keepIn K (.ref f19) = true)
    (a20 : PySem.W.nsIn K mainGlobals "rests" = some (some (.ref f20)))
    (l20 : K.lookup f20 = some ⟨oc20, od20, .func (PySem.W.fnOf "rests" "rests" (defArgs s_rests) (defBody s_rests) (defScope s_rests) .none kV20 dc20 pm20 an20 cd20 ct20), sl20⟩)
    (e20 : PySem.W.codeIn K cd20 "rests" = true)
    (k20 : PySem.W.keepIn K (.ref f20) = true)
    (a21 : PySem.W.nsIn K mainGlobals "lists_with_sum" = some (some (.ref f21)))
    (l21 : K.lookup f21 = some ⟨oc21, od21, .func (PySem.W.fnOf "lists_with_sum" "lists_with_sum" (defArgs s_lists_with_sum) (defBody s_lists_with_sum) (defScope s_lists_with_sum) .none kV21 dc21 pm21 an21 cd21 ct21), sl21⟩)
    (e21 : PySem.W.codeIn K cd21 "lists_with_sum" = true)
    (k21 : PySem.W.keepIn K (.ref f21) = true)
    (a22 : PySem.W.nsIn K mainGlobals "check_told_at" = some (some (.ref f22)))
    (l22 : K.lookup f22 = some ⟨oc22, od22, .func (PySem.W.fnOf "check_told_at" "check_told_at" (defArgs s_check_told_at) (defBody s_check_told_at) (defScope s_check_told_at) .none kV22 dc22 pm22 an22 cd22 ct22), sl22⟩)
    (e22 : PySem.W.codeIn K cd22 "check_told_at" = true)
    (k22 : PySem.W.keepIn K (.ref f22) = true)
    (a23 : PySem.W.nsIn K mainGlobals "rows_of_size" = some (some (.ref f23)))
    (l23 : K.lookup f23 = some ⟨oc23, od23, .func (PySem.W.fnOf "rows_of_size" "rows_of_size" (defArgs s_rows_of_size) (defBody s_rows_of_size) (defScope s_rows_of_size) .none kV23 dc23 pm23 an23 cd23 ct23), sl23⟩)
    (e23 : PySem.W.codeIn K cd23 "rows_of_size" = true)
    (k23 : PySem.W.keepIn K (.ref f23) = true)
    (a24 : PySem.W.nsIn K mainGlobals "how_many" = some (some (.ref f24)))
    (l24 : K.lookup f24 = some ⟨oc24, od24, .func (PySem.W.fnOf "how_many" "how_many" (defArgs s_how_many) (defBody s_how_many) (defScope s_how_many) .none kV24 dc24 pm24 an24 cd24 ct24), sl24⟩)
    (e24 : PySem.W.codeIn K cd24 "how_many" = true)
    (k24 : PySem.W.keepIn K (.ref f24) = true)
    (a25 : PySem.W.nsIn K mainGlobals "size_bounds" = some (some (.ref f25)))
    (l25 : K.lookup f25 = some ⟨oc25, od25, .func (PySem.W.fnOf "size_bounds" "size_bounds" (defArgs s_size_bounds) (defBody s_size_bounds) (defScope s_size_bounds) .none kV25 dc25 pm25 an25 cd25 ct25), sl25⟩)
    (e25 : PySem.W.codeIn K cd25 "size_bounds" = true)
    (k25 : PySem.W.keepIn K (.ref f25) = true)
    (a26 : PySem.W.nsIn K mainGlobals "_law_cell" = some (some (.ref f26)))
    (l26 : K.lookup f26 = some ⟨oc26, od26, .func (PySem.W.fnOf "_law_cell" "_law_cell" (defArgs s__law_cell) (defBody s__law_cell) (defScope s__law_cell) .none kV26 dc26 pm26 an26 cd26 ct26), sl26⟩)
    (e26 : PySem.W.codeIn K cd26 "_law_cell" = true)
    (k26 : PySem.W.keepIn K (.ref f26) = true)
    (a27 : PySem.W.nsIn K mainGlobals "_law_hash" = some (some (.ref f27)))
    (l27 : K.lookup f27 = some ⟨oc27, od27, .func (PySem.W.fnOf "_law_hash" "_law_hash" (defArgs s__law_hash) (defBody s__law_hash) (defScope s__law_hash) .none kV27 dc27 pm27 an27 cd27 ct27), sl27⟩)
    (e27 : PySem.W.codeIn K cd27 "_law_hash" = true)
    (k27 : PySem.W.keepIn K (.ref f27) = true)
    (a28 : PySem.W.nsIn K mainGlobals "_law_generator" = some (some (.ref f28)))
    (l28 : K.lookup f28 = some ⟨oc28, od28, .func (PySem.W.fnOf "_law_generator" "_law_generator" (defArgs s__law_generator) (defBody s__law_generator) (defScope s__law_generator) .none kV28 dc28 pm28 an28 cd28 ct28), sl28⟩)
    (e28 : PySem.W.codeIn K cd28 "_law_generator" = true)
    (k28 : PySem.W.keepIn K (.ref f28) = true)
    (a29 : PySem.W.nsIn K mainGlobals "_law_random" = some (some (.ref f29)))
    (l29 : K.lookup f29 = some ⟨oc29, od29, .func (PySem.W.fnOf "_law_random" "_law_random" (defArgs s__law_random) (defBody s__law_random) (defScope s__law_random) .none kV29 dc29 pm29 an29 cd29 ct29), sl29⟩)
    (e29 : PySem.W.codeIn K cd29 "_law_random" = true)
    (k29 : PySem.W.keepIn K (.ref f29) = true)
    (a30 : PySem.W.nsIn K mainGlobals "_law_folded" = some (some (.ref f30)))
    (l30 : K.lookup f30 = some ⟨oc30, od30, .func (PySem.W.fnOf "_law_folded" "_law_folded" (defArgs s__law_folded) (defBody s__law_folded) (defScope s__law_folded) .none kV30 dc30 pm30 an30 cd30 ct30), sl30⟩)
    (e30 : PySem.W.codeIn K cd30 "_law_folded" = true)
    (k30 : PySem.W.keepIn K (.ref f30) = true)
    (a31 : PySem.W.nsIn K mainGlobals "_law_weights" = some (some (.ref f31)))
    (l31 : K.lookup f31 = some ⟨oc31, od31, .func (PySem.W.fnOf "_law_weights" "_law_weights" (defArgs s__law_weights) (defBody s__law_weights) (defScope s__law_weights) .none kV31 dc31 pm31 an31 cd31 ct31), sl31⟩)
    (e31 : PySem.W.codeIn K cd31 "_law_weights" = true)
    (k31 : PySem.W.keepIn K (.ref f31) = true)
    (a32 : PySem.W.nsIn K mainGlobals "_law_all_rows" = some (some (.ref f32)))
    (l32 : K.lookup f32 = some ⟨oc32, od32, .func (PySem.W.fnOf "_law_all_rows" "_law_all_rows" (defArgs s__law_all_rows) (defBody s__law_all_rows) (defScope s__law_all_rows) .none kV32 dc32 pm32 an32 cd32 ct32), sl32⟩)
    (e32 : PySem.W.codeIn K cd32 "_law_all_rows" = true)
    (k32 : PySem.W.keepIn K (.ref f32) = true)
    (a33 : PySem.W.nsIn K mainGlobals "_law_counted" = some (some (.ref f33)))
    (l33 : K.lookup f33 = some ⟨oc33, od33, .func (PySem.W.fnOf "_law_counted" "_law_counted" (defArgs s__law_counted) (defBody s__law_counted) (defScope s__law_counted) .none kV33 dc33 pm33 an33 cd33 ct33), sl33⟩)
    (e33 : PySem.W.codeIn K cd33 "_law_counted" = true)
    (k33 : PySem.W.keepIn K (.ref f33) = true)
    (a34 : PySem.W.nsIn K mainGlobals "_law_right" = some (some (.ref f34)))
    (l34 : K.lookup f34 = some ⟨oc34, od34, .func (PySem.W.fnOf "_law_right" "_law_right" (defArgs s__law_right) (defBody s__law_right) (defScope s__law_right) .none kV34 dc34 pm34 an34 cd34 ct34), sl34⟩)
    (e34 : PySem.W.codeIn K cd34 "_law_right" = true)
    (k34 : PySem.W.keepIn K (.ref f34) = true)
    (a35 : PySem.W.nsIn K mainGlobals "_law_halves_right" = some (some (.ref f35)))
    (l35 : K.lookup f35 = some ⟨oc35, od35, .func (PySem.W.fnOf "_law_halves_right" "_law_halves_right" (defArgs s__law_halves_right) (defBody s__law_halves_right) (defScope s__law_halves_right) .none kV35 dc35 pm35 an35 cd35 ct35), sl35⟩)
    (e35 : PySem.W.codeIn K cd35 "_law_halves_right" = true)
    (k35 : PySem.W.keepIn K (.ref f35) = true)
    (a36 : PySem.W.nsIn K mainGlobals "law" = some (some (.ref f36)))
    (l36 : K.lookup f36 = some ⟨oc36, od36, .func (PySem.W.fnOf "law" "law" (defArgs s_law) (defBody s_law) (defScope s_law) .none kV36 dc36 pm36 an36 cd36 ct36), sl36⟩)
    (e36 : PySem.W.codeIn K cd36 "law" = true)
    (k36 : PySem.W.keepIn K (.ref f36) = true)
    (c_MOST_WEIGHTS : PySem.W.nsIn K mainGlobals "MOST_WEIGHTS" = some (some (.int 8 t_MOST_WEIGHTS)))
    (c_GREATEST_WEIGHT : PySem.W.nsIn K mainGlobals "GREATEST_WEIGHT" = some (some (.int 32768 t_GREATEST_WEIGHT)))
    (c_GREATEST_SHIFT : PySem.W.nsIn K mainGlobals "GREATEST_SHIFT" = some (some (.int 15 t_GREATEST_SHIFT)))
    (c_GREATEST_DEPTH_guessers : PySem.W.nsIn K mainGlobals "GREATEST_DEPTH_guessers" = some (some (.int 32 t_GREATEST_DEPTH_guessers)))
    (c_GREATEST_DEPTH_sounds : PySem.W.nsIn K mainGlobals "GREATEST_DEPTH_sounds" = some (some (.int 24 t_GREATEST_DEPTH_sounds)))
    (c_MOST_SAMPLES : PySem.W.nsIn K mainGlobals "MOST_SAMPLES" = some (some (.int 200 t_MOST_SAMPLES)))
    (z_all : PySem.W.nsIn K mainGlobals "all" = some none)
    (z_bool : PySem.W.nsIn K mainGlobals "bool" = some none)
    (z_enumerate : PySem.W.nsIn K mainGlobals "enumerate" = some none)
    (z_int : PySem.W.nsIn K mainGlobals "int" = some none)
    (z_isinstance : PySem.W.nsIn K mainGlobals "isinstance" = some none)
    (z_len : PySem.W.nsIn K mainGlobals "len" = some none)
    (z_list : PySem.W.nsIn K mainGlobals "list" = some none)
    (z_max : PySem.W.nsIn K mainGlobals "max" = some none)
    (z_min : PySem.W.nsIn K mainGlobals "min" = some none)
    (z_range : PySem.W.nsIn K mainGlobals "range" = some none)
    (z_sum : PySem.W.nsIn K mainGlobals "sum" = some none)
    (y_comb : PySem.W.nsIn K mainGlobals "comb" = some (some (.builtin "math.comb"))) :
    ∃ fd : FuncData, (∀ (s : Shared) (v : Value), BindsTo s fd ⟨[v], []⟩ [("_law_script", v)]) ∧ ∀ base : Heap, K.In base → base.Ns mainGlobals mg → FnOk l.prog w K mg base CX0 7 fa fd ["_law_script"] (sp_law K) := by
  have e := hfa.symm.trans (PySem.W.mg_of X G a36)
  cases e
  have F1 := fun_mk (st := s_is_number) l1 e1 k1
  have b1 := F1.binds (ps := ["value"]) fun _ _ _ _ _ _ us hl => match us, hl with | [_], _ => rfl
  have F2 := fun_mk (st := s_is_within) l2 e2 k2
  have b2 := F2.binds (ps := ["value", "low", "high"]) fun _ _ _ _ _ _ us hl => match us, hl with | [_, _, _], _ => rfl
  have F3 := fun_mk (st := s_check_within) l3 e3 k3
  have b3 := F3.binds (ps := ["number", "low", "high"]) fun _ _ _ _ _ _ us hl => match us, hl with | [_, _, _], _ => rfl
  have F4 := fun_mk (st := s_check_from) l4 e4 k4
  have b4 := F4.binds (ps := ["number", "low"]) fun _ _ _ _ _ _ us hl => match us, hl with | [_, _], _ => rfl
  have F5 := fun_mk (st := s_check_count) l5 e5 k5
  have b5 := F5.binds (ps := ["number"]) fun _ _ _ _ _ _ us hl => match us, hl with | [_], _ => rfl
  have F6 := fun_mk (st := s_check_depth) l6 e6 k6
  have b6 := F6.binds (ps := ["depth", "most"]) fun _ _ _ _ _ _ us hl => match us, hl with | [_, _], _ => rfl
  have F7 := fun_mk (st := s_least_sample) l7 e7 k7
  have b7 := F7.binds (ps := ["depth"]) fun _ _ _ _ _ _ us hl => match us, hl with | [_], _ => rfl
  have F8 := fun_mk (st := s_greatest_sample) l8 e8 k8
  have b8 := F8.binds (ps := ["depth"]) fun _ _ _ _ _ _ us hl => match us, hl with | [_], _ => rfl
  have F9 := fun_mk (st := s_wrapped) l9 e9 k9
  have b9 := F9.binds (ps := ["number", "depth"]) fun _ _ _ _ _ _ us hl => match us, hl with | [_, _], _ => rfl
  have F10 := fun_mk (st := s_is_samples) l10 e10 k10
  have b10 := F10.binds (ps := ["value", "depth"]) fun _ _ _ _ _ _ us hl => match us, hl with | [_, _], _ => rfl
  have F11 := fun_mk (st := s_Guesser___init__) l11 e11 k11
  have b11 := F11.binds (ps := ["self", "weights", "shift"]) fun _ _ _ _ _ _ us hl => match us, hl with | [_, _, _], _ => rfl
  have F12 := fun_mk (st := s_Guesser_weights) l12 e12 k12
  have b12 := F12.binds (ps := ["self"]) fun _ _ _ _ _ _ us hl => match us, hl with | [_], _ => rfl
  have F13 := fun_mk (st := s_Guesser_shift) l13 e13 k13
  have b13 := F13.binds (ps := ["self"]) fun _ _ _ _ _ _ us hl => match us, hl with | [_], _ => rfl
  have F14 := fun_mk (st := s_Guesser_order) l14 e14 k14
  have b14 := F14.binds (ps := ["self"]) fun _ _ _ _ _ _ us hl => match us, hl with | [_], _ => rfl
  have F15 := fun_mk (st := s_Guesser___eq__) l15 e15 k15
  have b15 := F15.binds (ps := ["self", "other"]) fun _ _ _ _ _ _ us hl => match us, hl with | [_, _], _ => rfl
  have F16 := fun_mk (st := s_check_guesser) l16 e16 k16
  have b16 := F16.binds (ps := ["guesser"]) fun _ _ _ _ _ _ us hl => match us, hl with | [_], _ => rfl
  have F17 := fun_mk (st := s_check_samples) l17 e17 k17
  have b17 := F17.binds (ps := ["row", "depth"]) fun _ _ _ _ _ _ us hl => match us, hl with | [_, _], _ => rfl
  have F18 := fun_mk (st := s_weighed) l18 e18 k18
  have b18 := F18.binds (ps := ["weights", "row", "at"]) fun _ _ _ _ _ _ us hl => match us, hl with | [_, _, _], _ => rfl
  have F19 := fun_mk (st := s_unwrapped_rests) l19 e19 k19
  have b19 := F19.binds (ps := ["guesser", "row"]) fun _ _ _ _ _ _ us hl => match us, hl with | [_, _], _ => rfl
  have F20 := fun_mk (st := s_rests) l20 e20 k20
  have b20 := F20.binds (ps := ["guesser", "depth", "row"]) fun _ _ _ _ _ _ us hl => match us, hl with | [_, _, _], _ => rfl
  have F21 := fun_mk (st := s_lists_with_sum) l21 e21 k21
  have b21 := F21.binds (ps := ["many", "below", "total"]) fun _ _ _ _ _ _ us hl => match us, hl with | [_, _, _], _ => rfl
  have F22 := fun_mk (st := s_check_told_at) l22 e22 k22
  have b22 := F22.binds (ps := ["depth", "width"]) fun _ _ _ _ _ _ us hl => match us, hl with | [_, _], _ => rfl
  have F23 := fun_mk (st := s_rows_of_size) l23 e23 k23
  have b23 := F23.binds (ps := ["depth", "width", "many", "size"]) fun _ _ _ _ _ _ us hl => match us, hl with | [_, _, _, _], _ => rfl
  have F24 := fun_mk (st := s_how_many) l24 e24 k24
  have b24 := F24.binds (ps := ["depth", "width", "many", "size"]) fun _ _ _ _ _ _ us hl => match us, hl with | [_, _, _, _], _ => rfl
  have F25 := fun_mk (st := s_size_bounds) l25 e25 k25
  have b25 := F25.binds (ps := ["depth", "width", "many"]) fun _ _ _ _ _ _ us hl => match us, hl with | [_, _, _], _ => rfl
  have F26 := fun_mk (st := s__law_cell) l26 e26 k26
  have b26 := F26.binds (ps := ["_law_script", "_law_index"]) fun _ _ _ _ _ _ us hl => match us, hl with | [_, _], _ => rfl
  have F27 := fun_mk (st := s__law_hash) l27 e27 k27
  have b27 := F27.binds (ps := ["_law_seed", "_law_index"]) fun _ _ _ _ _ _ us hl => match us, hl with | [_, _], _ => rfl
  have F28 := fun_mk (st := s__law_generator) l28 e28 k28
  have b28 := F28.binds (ps := ["_law_script", "_law_index"]) fun _ _ _ _ _ _ us hl => match us, hl with | [_, _], _ => rfl
  have F29 := fun_mk (st := s__law_random) l29 e29 k29
  have b29 := F29.binds (ps := ["_law_generator_here", "_law_bound"]) fun _ _ _ _ _ _ us hl => match us, hl with | [_, _], _ => rfl
  have F30 := fun_mk (st := s__law_folded) l30 e30 k30
  have b30 := F30.binds (ps := ["_law_number"]) fun _ _ _ _ _ _ us hl => match us, hl with | [_], _ => rfl
  have F31 := fun_mk (st := s__law_weights) l31 e31 k31
  have b31 := F31.binds (ps := ["_law_generator_here", "_law_many"]) fun _ _ _ _ _ _ us hl => match us, hl with | [_, _], _ => rfl
  have F32 := fun_mk (st := s__law_all_rows) l32 e32 k32
  have b32 := F32.binds (ps := ["_law_depth", "_law_many"]) fun _ _ _ _ _ _ us hl => match us, hl with | [_, _], _ => rfl
  have F33 := fun_mk (st := s__law_counted) l33 e33 k33
  have b33 := F33.binds (ps := ["_law_guesser", "_law_depth", "_law_width", "_law_many"]) fun _ _ _ _ _ _ us hl => match us, hl with | [_, _, _, _], _ => rfl
  have F34 := fun_mk (st := s__law_right) l34 e34 k34
  have b34 := F34.binds (ps := ["_law_generator_here", "_law_depth", "_law_width", "_law_many"]) fun _ _ _ _ _ _ us hl => match us, hl with | [_, _, _, _], _ => rfl
  have F35 := fun_mk (st := s__law_halves_right) l35 e35 k35
  have b35 := F35.binds (ps := ["_law_generator_here"]) fun _ _ _ _ _ _ us hl => match us, hl with | [_], _ => rfl
  have F36 := fun_mk (st := s_law) l36 e36 k36
  have b36 := F36.binds (ps := ["_law_script"]) fun _ _ _ _ _ _ us hl => match us, hl with | [_], _ => rfl
  exact ⟨_, fun s v => .of_eq rfl, fun base _ _ => ok_law { C_Guesser := C_Guesser, cl_Guesser := ⟨pg_Guesser, hd_Guesser, po_Guesser, sa_Guesser⟩, gC_Guesser := PySem.W.mg_of X G gC_Guesser, is_Guesser := ⟨ha_Guesser, hn_Guesser, ht_Guesser, hm_Guesser⟩, n_Guesser__weights := n_Guesser__weights, n_Guesser__shift := n_Guesser__shift, a_is_number := f1, d_is_number := _, f_is_number := F1, b_is_number := b1, g_is_number := PySem.W.mg_of X G a1, a_is_within := f2, d_is_within := _, f_is_within := F2, b_is_within := b2, g_is_within := PySem.W.mg_of X G a2, a_check_within := f3, d_check_within := _, f_check_within := F3, b_check_within := b3, g_check_within := PySem.W.mg_of X G a3, a_check_from := f4, d_check_from := _, f_check_from := F4, b_check_from := b4, g_check_from := PySem.W.mg_of X G a4, a_check_count := f5, d_check_count := _, f_check_count := F5, b_check_count := b5, g_check_count := PySem.W.mg_of X G a5, a_check_depth := f6, d_check_depth := _, f_check_depth := F6, b_check_depth := b6, g_check_depth := PySem.W.mg_of X G a6, a_least_sample := f7, d_least_sample := _, f_least_sample := F7, b_least_sample := b7, g_least_sample := PySem.W.mg_of X G a7, a_greatest_sample := f8, d_greatest_sample := _, f_greatest_sample := F8, b_greatest_sample := b8, g_greatest_sample := PySem.W.mg_of X G a8, a_wrapped := f9, d_wrapped := _, f_wrapped := F9, b_wrapped := b9, g_wrapped := PySem.W.mg_of X G a9, a_is_samples := f10, d_is_samples := _, f_is_samples := F10, b_is_samples := b10, g_is_samples := PySem.W.mg_of X G a10, a_Guesser___init__ := f11, d_Guesser___init__ := _, f_Guesser___init__ := F11, b_Guesser___init__ := b11, mk_Guesser := ⟨mk_Guesser, a11, i11, kc_Guesser⟩, a_Guesser_weights := f12, d_Guesser_weights := _, f_Guesser_weights := F12, b_Guesser_weights := b12, me_Guesser_weights := ⟨a12, i12, k12⟩, a_Guesser_shift := f13, d_Guesser_shift := _, f_Guesser_shift := F13, b_Guesser_shift := b13, me_Guesser_shift := ⟨a13, i13, k13⟩, a_Guesser_order := f14, d_Guesser_order := _, f_Guesser_order := F14, b_Guesser_order := b14, me_Guesser_order := ⟨a14, i14, k14⟩, a_Guesser___eq__ := f15, d_Guesser___eq__ := _, f_Guesser___eq__ := F15, b_Guesser___eq__ := b15, q_Guesser := ⟨a15, i15⟩, a_check_guesser := f16, d_check_guesser := _, f_check_guesser := F16, b_check_guesser := b16, g_check_guesser := PySem.W.mg_of X G a16, a_check_samples := f17, d_check_samples := _, f_check_samples := F17, b_check_samples := b17, g_check_samples := PySem.W.mg_of X G a17, a_weighed := f18, d_weighed := _, f_weighed := F18, b_weighed := b18, g_weighed := PySem.W.mg_of X G a18, a_unwrapped_rests := f19, d_unwrapped_rests := _, f_unwrapped_rests := F19, b_unwrapped_rests := b19, g_unwrapped_rests := PySem.W.mg_of X G a19, a_rests := f20, d_rests := _, f_rests := F20, b_rests := b20, g_rests := PySem.W.mg_of X G a20, a_lists_with_sum := f21, d_lists_with_sum := _, f_lists_with_sum := F21, b_lists_with_sum := b21, g_lists_with_sum := PySem.W.mg_of X G a21, a_check_told_at := f22, d_check_told_at := _, f_check_told_at := F22, b_check_told_at := b22, g_check_told_at := PySem.W.mg_of X G a22, a_rows_of_size := f23, d_rows_of_size := _, f_rows_of_size := F23, b_rows_of_size := b23, g_rows_of_size := PySem.W.mg_of X G a23, a_how_many := f24, d_how_many := _, f_how_many := F24, b_how_many := b24, g_how_many := PySem.W.mg_of X G a24, a_size_bounds := f25, d_size_bounds := _, f_size_bounds := F25, b_size_bounds := b25, g_size_bounds := PySem.W.mg_of X G a25, a__law_cell := f26, d__law_cell := _, f__law_cell := F26, b__law_cell := b26, g__law_cell := PySem.W.mg_of X G a26, a__law_hash := f27, d__law_hash := _, f__law_hash := F27, b__law_hash := b27, g__law_hash := PySem.W.mg_of X G a27, a__law_generator := f28, d__law_generator := _, f__law_generator := F28, b__law_generator := b28, g__law_generator := PySem.W.mg_of X G a28, a__law_random := f29, d__law_random := _, f__law_random := F29, b__law_random := b29, g__law_random := PySem.W.mg_of X G a29, a__law_folded := f30, d__law_folded := _, f__law_folded := F30, b__law_folded := b30, g__law_folded := PySem.W.mg_of X G a30, a__law_weights := f31, d__law_weights := _, f__law_weights := F31, b__law_weights := b31, g__law_weights := PySem.W.mg_of X G a31, a__law_all_rows := f32, d__law_all_rows := _, f__law_all_rows := F32, b__law_all_rows := b32, g__law_all_rows := PySem.W.mg_of X G a32, a__law_counted := f33, d__law_counted := _, f__law_counted := F33, b__law_counted := b33, g__law_counted := PySem.W.mg_of X G a33, a__law_right := f34, d__law_right := _, f__law_right := F34, b__law_right := b34, g__law_right := PySem.W.mg_of X G a34, a__law_halves_right := f35, d__law_halves_right := _, f__law_halves_right := F35, b__law_halves_right := b35, g__law_halves_right := PySem.W.mg_of X G a35, a_law := fa, d_law := _, f_law := F36, b_law := b36, g_law := PySem.W.mg_of X G a36, t_MOST_WEIGHTS := t_MOST_WEIGHTS, c_MOST_WEIGHTS := PySem.W.mg_of X G c_MOST_WEIGHTS, t_GREATEST_WEIGHT := t_GREATEST_WEIGHT, c_GREATEST_WEIGHT := PySem.W.mg_of X G c_GREATEST_WEIGHT, t_GREATEST_SHIFT := t_GREATEST_SHIFT, c_GREATEST_SHIFT := PySem.W.mg_of X G c_GREATEST_SHIFT, t_GREATEST_DEPTH_guessers := t_GREATEST_DEPTH_guessers, c_GREATEST_DEPTH_guessers := PySem.W.mg_of X G c_GREATEST_DEPTH_guessers, t_GREATEST_DEPTH_sounds := t_GREATEST_DEPTH_sounds, c_GREATEST_DEPTH_sounds := PySem.W.mg_of X G c_GREATEST_DEPTH_sounds, t_MOST_SAMPLES := t_MOST_SAMPLES, c_MOST_SAMPLES := PySem.W.mg_of X G c_MOST_SAMPLES, m_all := PySem.W.mg_none_of X G z_all, m_bool := PySem.W.mg_none_of X G z_bool, m_enumerate := PySem.W.mg_none_of X G z_enumerate, m_int := PySem.W.mg_none_of X G z_int, m_isinstance := PySem.W.mg_none_of X G z_isinstance, m_len := PySem.W.mg_none_of X G z_len, m_list := PySem.W.mg_none_of X G z_list, m_max := PySem.W.mg_none_of X G z_max, m_min := PySem.W.mg_none_of X G z_min, m_range := PySem.W.mg_none_of X G z_range, m_sum := PySem.W.mg_none_of X G z_sum, mt_comb := PySem.W.mg_of X G y_comb }⟩
end K50
open PySem PySem.W PyProof.Rows
set_option maxHeartbeats 0 in
theorem PySem.Challenge.cw_wholesound_k50_rows_of_each_size_holds : PySem.Challenge.rw_wholesound_k50_rows_of_each_size.Holds := by
  w_on; o_law; k_head; (case hw => w_witness2)
  k_fill
  refine L2.walk_of (l := PySem.Challenge.rw_wholesound_k50_rows_of_each_size) (n := 63) (k := 7) (x := "_law_script") (CX := fun _ => L2.CX0) (sp := fun w => K50.sp_law _) rfl (by decide) rfl ⟨rfl, by decide, by decide⟩ (fun w h Y => PySem.W.kIn_of Y) ?F (fun _ _ a ns hl _ hS => ⟨a, ns, rfl, hS, hl, fun _ => rfl⟩) (fun _ _ _ _ _ h => h)
  case F =>
    intro w mg fa h KX G hmg
    refine' K50.all_mk KX G hmg ?gC_Guesser ?pg_Guesser ?hd_Guesser ?po_Guesser ?sa_Guesser ?mk_Guesser ?kc_Guesser ?ha_Guesser ?hn_Guesser ?ht_Guesser ?hm_Guesser ?n_Guesser__weights ?n_Guesser__shift ?a1 ?l1 ?e1 ?k1 ?a2 ?l2 ?e2 ?k2 ?a3 ?l3 ?e3 ?k3 ?a4 ?l4 ?e4 ?k4 ?a5 ?l5 ?e5 ?k5 ?a6 ?l6 ?e6 ?k6 ?a7 ?l7 ?e7 ?k7 ?a8 ?l8 ?e8 ?k8 ?a9 ?l9 ?e9 ?k9 ?a10 ?l10 ?e10 ?k10 ?a11 ?i11 ?l11 ?e11 ?k11 ?a12 ?i12 ?l12 ?e12 ?k12 ?a13 ?i13 ?l13 ?e13 ?k13 ?a14 ?i14 ?l14 ?e14 ?k14 ?a15 ?i15 ?l15 ?e15 ?k15 ?a16 ?l16 ?e16 ?k16 ?a17 ?l17 ?e17 ?k17 ?a18 ?l18 ?e18 ?k18 ?a19 ?l19 ?e19 ?k19 ?a20 ?l20 ?e20 ?k20 ?a21 ?l21 ?e21 ?k21 ?a22 ?l22 ?e22 ?k22 ?a23 ?l23 ?e23 ?k23 ?a24 ?l24 ?e24 ?k24 ?a25 ?l25 ?e25 ?k25 ?a26 ?l26 ?e26 ?k26 ?a27 ?l27 ?e27 ?k27 ?a28 ?l28 ?e28 ?k28 ?a29 ?l29 ?e29 ?k29 ?a30 ?l30 ?e30 ?k30 ?a31 ?l31 ?e31 ?k31 ?a32 ?l32 ?e32 ?k32 ?a33 ?l33 ?e33 ?k33 ?a34 ?l34 ?e34 ?k34 ?a35 ?l35 ?e35 ?k35 ?a36 ?l36 ?e36 ?k36 ?c_MOST_WEIGHTS ?c_GREATEST_WEIGHT ?c_GREATEST_SHIFT ?c_GREATEST_DEPTH_guessers ?c_GREATEST_DEPTH_sounds ?c_MOST_SAMPLES ?z_all ?z_bool ?z_enumerate ?z_int ?z_isinstance ?z_len ?z_list ?z_max ?z_min ?z_range ?z_sum ?y_comb
    (case gC_Guesser => k_is); (case pg_Guesser => k_is); (case hd_Guesser => k_is); (case po_Guesser => k_is); (case sa_Guesser => k_is); (case mk_Guesser => k_is)
    (case kc_Guesser => k_is); (case ha_Guesser => k_is); (case hn_Guesser => k_is); (case ht_Guesser => k_is); (case hm_Guesser => k_is); (case n_Guesser__weights => k_is)
    (case n_Guesser__shift => k_is); (case a1 => k_is); (case l1 => k_is); (case e1 => k_is); (case k1 => k_is); (case a2 => k_is)
    (case l2 => k_is); (case e2 => k_is); (case k2 => k_is); (case a3 => k_is); (case l3 => k_is); (case e3 => k_is)
    (case k3 => k_is); (case a4 => k_is); (case l4 => k_is); (case e4 => k_is); (case k4 => k_is); (case a5 => k_is)
    (case l5 => k_is); (case e5 => k_is); (case k5 => k_is); (case a6 => k_is); (case l6 => k_is); (case e6 => k_is)
    (case k6 => k_is); (case a7 => k_is); (case l7 => k_is); (case e7 => k_is); (case k7 => k_is); (case a8 => k_is)
    (case l8 => k_is); (case e8 => k_is); (case k8 => k_is); (case a9 => k_is); (case l9 => k_is); (case e9 => k_is)
    (case k9 => k_is); (case a10 => k_is); (case l10 => k_is); (case e10 => k_is); (case k10 => k_is); (case a11 => k_is)
    (case i11 => k_is); (case l11 => k_is); (case e11 => k_is); (case k11 => k_is); (case a12 => k_is); (case i12 => k_is)
    (case l12 => k_is); (case e12 => k_is); (case k12 => k_is); (case a13 => k_is); (case i13 => k_is); (case l13 => k_is)
    (case e13 => k_is); (case k13 => k_is); (case a14 => k_is); (case i14 => k_is); (case l14 => k_is); (case e14 => k_is)
    (case k14 => k_is); (case a15 => k_is); (case i15 => k_is); (case l15 => k_is); (case e15 => k_is); (case k15 => k_is)
    (case a16 => k_is); (case l16 => k_is); (case e16 => k_is); (case k16 => k_is); (case a17 => k_is); (case l17 => k_is)
    (case e17 => k_is); (case k17 => k_is); (case a18 => k_is); (case l18 => k_is); (case e18 => k_is); (case k18 => k_is)
    (case a19 => k_is); (case l19 => k_is); (case e19 => k_is); (case k19 => k_is); (case a20 => k_is); (case l20 => k_is)
    (case e20 => k_is); (case k20 => k_is); (case a21 => k_is); (case l21 => k_is); (case e21 => k_is); (case k21 => k_is)
    (case a22 => k_is); (case l22 => k_is); (case e22 => k_is); (case k22 => k_is); (case a23 => k_is); (case l23 => k_is)
    (case e23 => k_is); (case k23 => k_is); (case a24 => k_is); (case l24 => k_is); (case e24 => k_is); (case k24 => k_is)
    (case a25 => k_is); (case l25 => k_is); (case e25 => k_is); (case k25 => k_is); (case a26 => k_is); (case l26 => k_is)
    (case e26 => k_is); (case k26 => k_is); (case a27 => k_is); (case l27 => k_is); (case e27 => k_is); (case k27 => k_is)
    (case a28 => k_is); (case l28 => k_is); (case e28 => k_is); (case k28 => k_is); (case a29 => k_is); (case l29 => k_is)
    (case e29 => k_is); (case k29 => k_is); (case a30 => k_is); (case l30 => k_is); (case e30 => k_is); (case k30 => k_is)
    (case a31 => k_is); (case l31 => k_is); (case e31 => k_is); (case k31 => k_is); (case a32 => k_is); (case l32 => k_is)
    (case e32 => k_is); (case k32 => k_is); (case a33 => k_is); (case l33 => k_is); (case e33 => k_is); (case k33 => k_is)
    (case a34 => k_is); (case l34 => k_is); (case e34 => k_is); (case k34 => k_is); (case a35 => k_is); (case l35 => k_is)
    (case e35 => k_is); (case k35 => k_is); (case a36 => k_is); (case l36 => k_is); (case e36 => k_is); (case k36 => k_is)
    (case c_MOST_WEIGHTS => k_is); (case c_GREATEST_WEIGHT => k_is); (case c_GREATEST_SHIFT => k_is); (case c_GREATEST_DEPTH_guessers => k_is); (case c_GREATEST_DEPTH_sounds => k_is); (case c_MOST_SAMPLES => k_is)
    (case z_all => k_is); (case z_bool => k_is); (case z_enumerate => k_is); (case z_int => k_is); (case z_isinstance => k_is); (case z_len => k_is)
    (case z_list => k_is); (case z_max => k_is); (case z_min => k_is); (case z_range => k_is); (case z_sum => k_is); (case y_comb => k_is)
