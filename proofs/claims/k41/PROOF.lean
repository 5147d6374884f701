import PyProof.Rows.All
import Wide.All
import OpenK.AllK
import Wide.FinOn
import HandS.ForMost
import HandS.Evl
import HandS.WideBits
import HandS.WideMore
import HandS.Style
import HandS.IsInst
import HandS.OwnEq
import HandS.Iter
import PySem.Challenge.RW_wholesound_k41_least_widths
set_option Elab.async false
set_option linter.all false
set_option maxRecDepth 100000
set_option maxHeartbeats 2000000
namespace WS
open PySem PySem.Spec PyProof.Rows L2 Evl

/-! ### a power of any size -/
def CPowW (i j : Int) : Prop := 0 ≤ j ∧ (Builtin.Int.intBits i : Int) * j ≤ 2 ^ 27
section
variable {X : Cx}
theorem op_powW : OpR X (binaryOp .Pow) (rI CPowW fun i j => .int (i ^ j.toNat)) := opI fun _ _ _ _ _ _ _ hc q => pow_int hc.1 hc.2 q
end

section
variable {K : PySem.W.Frag} {σ : L2.St} {H H' : Hp} {ta tb te tx tl : TE} {t u : TT} {x y z v : V} {r : R2} {D : Ends} {tu tw tz : TS} {g : TG}
theorem ev_sumN {ns : List Int} (h : EvL te σ H (ns.map V.int)) : Ev (tCB (rSum K) (tCons te tNil)) σ H (.int ns.sum) := fun H1 e Q q =>
  h H1 e _ fun p H2 _ e2 h2 => ⟨p, ns, rfl, sq_of h2, q H2 e2⟩
theorem ev_sum {p : Addr} {ns : List Int} (h : Ev te σ H (.ref p)) (hp : SqL K H p (ns.map V.int)) : Ev (tCB (rSum K) (tCons te tNil)) σ H (.int ns.sum) := fun H1 e Q q =>
  h H1 e _ fun H2 e2 => ⟨p, ns, rfl, ex_l (e.trans e2) hp, q H2 e2⟩
theorem ev_allN {bs : List Bool} (h : EvL te σ H (bs.map V.bl)) : Ev (tCB (rAll K) (tCons te tNil)) σ H (.bl (bs.all id)) := fun H1 e Q q =>
  h H1 e _ fun p H2 _ e2 h2 => ⟨p, bs, rfl, sq_of h2, q H2 e2⟩
theorem ev_min {p : Addr} {ns : List Int} {m : Int} (h : Ev te σ H (.ref p)) (hp : SqL K H p (ns.map V.int)) (hm : m ∈ ns) (hle : ∀ y ∈ ns, m ≤ y) : Ev (tCB (rMin K) (tCons te tNil)) σ H (.int m) := fun H1 e Q q =>
  h H1 e _ fun H2 e2 => ⟨p, ns, rfl, ex_l (e.trans e2) hp, by cases ns with | nil => cases hm | cons a r => simp, fun k hk hkl => by
    have : k = m := Int.le_antisymm (hkl m hm) (hle k hk)
    rw [this]
    exact q H2 e2⟩
def rInt1 : List V → Hp → VK → Prop := fun xs H Q => (∃ i, xs = [.int i] ∧ Q (.int i) H) ∨ ∃ k, xs = [.bl k] ∧ Q (.int (if k then 1 else 0)) H
theorem ev_int {i : Int} (h : Ev te σ H (.int i)) : Ev (tCB rInt1 (tCons te tNil)) σ H (.int i) := fun H1 e Q q =>
  h H1 e _ fun H2 e2 => Or.inl ⟨i, rfl, q H2 e2⟩
theorem ev_intB {k : Bool} (h : Ev te σ H (.bl k)) : Ev (tCB rInt1 (tCons te tNil)) σ H (.int (if k then 1 else 0)) := fun H1 e Q q =>
  h H1 e _ fun H2 e2 => Or.inr ⟨k, rfl, q H2 e2⟩
theorem ev_bits {i : Int} (h : Ev te σ H (.int i)) : Ev (tBits te) σ H (.int (Builtin.Int.intBits i : Nat)) := fun H1 e Q q =>
  h H1 e _ fun H2 e2 => ⟨i, rfl, q H2 e2⟩
/-- isinstance of a scalar -/
theorem ev_isi {ty : Value} {b : Bool} {n : String} (h : Ev te σ H x) (ht : ∀ H1, Ex H H1 → TyX K H1 x ty) (hk : PySem.W.kitOne K ty (.type n) = some b) : Ev (tCB (rIsi K) (tCons te (tCons (tC (.ty n)) tNil))) σ H (.bl b) := fun H1 e Q q =>
  h H1 e _ fun H2 e2 => ⟨x, .ty n, ty, .type n, b, rfl, ClsV.ty n, ht H2 (e.trans e2), hk, q H2 e2⟩
theorem ev_isiI {i : Int} {b : Bool} {n : String} (h : Ev te σ H (.int i)) (hk : kitB "int" n = some b) : Ev (tCB (rIsi K) (tCons te (tCons (tC (.ty n)) tNil))) σ H (.bl b) :=
  ev_isi h (fun _ _ => TyX.base (TyOf.int i)) (kit_ty hk)
theorem ev_isiL {p : Addr} {xs : List V} {b : Bool} {n : String} (h : Ev te σ H (.ref p)) (hp : H p = some (.lst xs)) (hk : kitB "list" n = some b) : Ev (tCB (rIsi K) (tCons te (tCons (tC (.ty n)) tNil))) σ H (.bl b) :=
  ev_isi h (fun _ e => TyX.base (TyOf.lst (e _ _ hp))) (kit_ty hk)
theorem ev_chain {r' : R2} {tc : TE} {w' : V} {k k' : Bool} (ha : Ev ta σ H x) (hb : Ev tb σ H y) (hr : RV r x y H (.bl k)) (hc : Ev tc σ H w') (hr' : RV r' y w' H (.bl k')) : Ev (tChain r r' ta tb tc) σ H (.bl (k && k')) := fun H1 e Q q =>
  ha H1 e _ fun H2 e2 => hb H2 (e.trans e2) _ fun H3 e3 => hr H3 ((e.trans e2).trans e3) _ fun H4 e4 => ⟨k, rfl, by
    have e' := ((e.trans e2).trans e3).trans e4
    cases k with
    | true =>
      rw [if_pos rfl]
      exact hc H4 e' _ fun H5 e5 => hr' H5 (e'.trans e5) Q fun H6 e6 => q H6 ((((e2.trans e3).trans e4).trans e5).trans e6)
    | false =>
      rw [if_neg Bool.false_ne_true]
      exact q H4 ((e2.trans e3).trans e4)⟩
/-- [f(x) for x in ns] -/
theorem given_map {α : Type} (xs : List α) (d : α) (f : α → V) : given xs.length (fun _ => true) (fun i => f (xs.getD i d)) = xs.map f := by
  unfold given
  rw [List.filter_eq_self.mpr (fun _ _ => rfl)]
  apply List.ext_getElem?
  intro i
  rw [List.getElem?_map, List.getElem?_map]
  by_cases h : i < xs.length
  · rw [List.getElem?_range h, List.getElem?_eq_getElem h]
    simp only [Option.map_some]
    rw [List.getD_eq_getElem?_getD, List.getElem?_eq_getElem h] <;> rfl
  · rw [List.getElem?_eq_none (by rw [List.length_range]; omega), List.getElem?_eq_none (by omega)]
    rfl
theorem el_map {a : Addr} {j : Nat} {vs : List Nat} {α : Type} (d : α) {xs : List α} {c : α → V} (f : α → V) (h : Ev tl σ H (.ref a)) (hx : SqL K H a (xs.map c)) (hz : xs.length ≤ 40000) (hw : ∀ x, wipe ((wipe σ vs).set j (some x)) vs = wipe σ vs)
    (he : ∀ (x : α) H1, Ex H H1 → x ∈ xs → Ev te ((wipe σ vs).set j (some (c x))) H1 (f x)) : EvL (tLc (iList K tl) (gName j) tYes te vs) σ H (xs.map f) := by
  rw [← given_map xs d f]
  have hl : (xs.map c).length = xs.length := List.length_map _
  rw [← hl]
  refine el_lcL (fun _ => true) _ h hx (by rw [hl]; exact hz) hw (fun i x H1 e hi => fun H2 _ Q q => q H2 (Ex.refl H2)) (fun i x H1 e hi _ => ?_)
  rw [List.getElem?_map] at hi
  cases hq : xs[i]? with
  | none => rw [hq] at hi; cases hi
  | some y =>
    rw [hq] at hi
    have ey : c y = x := Option.some.inj hi
    rw [← ey, List.getD_eq_getElem?_getD, hq]
    exact he y H1 e (List.mem_of_getElem? hq)
/-- [f(i) for i in range(n)] -/
theorem el_mapR {a : TA} {j : Nat} {vs : List Nat} {n : Nat} (f : Nat → V) (h : EvA a σ H [.int (n : Int)]) (hn : n ≤ 40000) (hw : ∀ x, wipe ((wipe σ vs).set j (some x)) vs = wipe σ vs)
    (he : ∀ (i : Nat) H1, Ex H H1 → i < n → Ev te ((wipe σ vs).set j (some (.int (i : Int)))) H1 (f i)) : EvL (tLc (iRng1 a) (gName j) tYes te vs) σ H ((List.range n).map f) := by
  have k := el_lcR1 (t := tYes) (te := te) (j := j) (vs := vs) (fun _ => true) f h (by omega) hw (fun i H1 e hi => fun H2 _ Q q => q H2 (Ex.refl H2)) (fun i H1 e hi _ => he i H1 e (by omega))
  unfold given at k
  rw [List.filter_eq_self.mpr (fun _ _ => rfl), Int.toNat_natCast] at k
  exact k
theorem et_if {b : Bool} {te1 te2 : TE} (h : EvT t σ H b) (h1 : b = true → Ev te1 σ H v) (h2 : b = false → Ev te2 σ H v) : Ev (tIf t te1 te2) σ H v := ev_if h h1 h2
/-- a call whose argument is a new list -/
theorem ev_callN {sp : Sp} {xs : List V} {E : XK} (h : EvL te σ H xs) (hs : ∀ p H1, H1 p = some (.lst xs) → Ex H H1 → SpV sp [.ref p] H1 z) : Ev (tCall sp [] E (tCons te tNil)) σ H z := fun H1 e Q q =>
  h H1 e _ fun p H2 _ e2 hp => hs p H2 hp (e.trans e2) H2 (Ex.refl H2) Q (fun H3 e3 => q H3 (e2.trans e3)) E
theorem ev_op2 {H0 : Hp} (e : Ex H0 H) (h : Ev te σ H0 v) : Ev te σ H v := h.mono e
end
/-! ### frames where one object may change -/
/-- all that was tracked but at g is as it was -/
def ExB (g : Addr) (H H' : Hp) : Prop := ∀ a o, a ≠ g → H a = some o → H' a = some o
theorem ExB.refl (g : Addr) (H : Hp) : ExB g H H := fun _ _ _ h => h
theorem ExB.trans {g : Addr} {H H1 H2 : Hp} (a : ExB g H H1) (b : ExB g H1 H2) : ExB g H H2 := fun x o n h => b x o n (a x o n h)
theorem ExB.of {g : Addr} {H H1 : Hp} (a : Ex H H1) : ExB g H H1 := fun x o _ h => a x o h
theorem ExB.upd {g : Addr} {H H1 : Hp} {o : HO} (a : ExB g H H1) : ExB g H (upd H1 g o) := fun x u n h => by
  rw [upd_ne n]
  exact a x u n h
theorem exb_new {g : Addr} {H H1 H2 : Hp} (e : Ex H H1) (hg : H g = none) (E : ExB g H1 H2) : Ex H H2 := fun b o h => E b o (ne_of_none h hg) (e b o h)
theorem ExB.back {g : Addr} {H H' : Hp} {o : HO} (e : ExB g H H') (hg : H' g = some o) {p : Addr} (h : H' p = none) : H p = none := by
  cases q : H p with
  | none => rfl
  | some u =>
    by_cases n : p = g
    · rw [n, hg] at h; cases h
    · rw [e p u n q] at h; cases h

/-! ### data: scalars, lists and tuples of them -/
def sD : V → PyData
  | .int i => .int i
  | .bl b => .bool b
  | _ => .none
def isSc : V → Bool
  | .int _ => true
  | .bl _ => true
  | .non => true
  | _ => false
section
variable {K : PySem.W.Frag} {H : Hp}
theorem dp_sc {v : V} (h : isSc v = true) : Dp K H v (sD v) := by
  cases v <;> first | cases h | skip
  · exact .non
  · exact .bl _
  · exact .int _
theorem dpAll_sc : ∀ {vs : List V}, vs.all isSc = true → DpAll K H vs (vs.map sD)
  | [], _ => .nil
  | v :: r, h => by
    rw [List.all_cons, Bool.and_eq_true] at h
    exact .cons (dp_sc h.1) (dpAll_sc h.2)
theorem lay_sc (v : V) : PyData.canLay0 (sD v) = true := by
  cases v <;> rfl
theorem layAll_sc : ∀ vs : List V, PyData.canLayAll0 (vs.map sD) = true
  | [] => rfl
  | v :: r => by
    rw [List.map_cons, PyData.canLayAll0, lay_sc v, layAll_sc r]
    rfl
theorem depth_sc (v : V) : PyData.depth (sD v) = 0 := by
  cases v <;> rfl
theorem depthAll_sc : ∀ vs : List V, PyData.depthAll (vs.map sD) = 0
  | [] => rfl
  | v :: r => by
    rw [List.map_cons, PyData.depthAll, depth_sc v, depthAll_sc r]
    rfl
theorem shaped_tup (vs : List V) : SeqAt.shaped (.tuple (vs.map sD)) = true := by
  unfold SeqAt.shaped
  rw [PyData.canLay0, layAll_sc, PyData.depth, depthAll_sc]
  rfl
theorem shaped_lst (vs : List V) : SeqAt.shaped (.list (vs.map sD)) = true := by
  unfold SeqAt.shaped
  rw [PyData.canLay0, layAll_sc, PyData.depth, depthAll_sc]
  rfl
theorem ints_sc : ∀ ns : List Int, (ns.map V.int).all isSc = true
  | [] => rfl
  | _ :: r => by rw [List.map_cons, List.all_cons, ints_sc r]; rfl
theorem ints_sD (ns : List Int) : (ns.map V.int).map sD = ns.map PyData.int := by rw [List.map_map]; rfl
/-- two tuples with the same scalars -/
theorem rv_neT {a b : Addr} {xs : List V} (ha : H a = some (.tup xs)) (hb : H b = some (.tup xs)) (h : xs.all isSc = true) : RV (rNeD K) (.ref a) (.ref b) H (.bl false) := fun H1 e Q q =>
  ⟨.tuple (xs.map sD), .tuple (xs.map sD), .tup (st_of (e _ _ ha)) (dpAll_sc h), .tup (st_of (e _ _ hb)) (dpAll_sc h), shaped_tup xs, shaped_tup xs, by
    rw [SeqAt.eqv_refl _ (SeqAt.canLay_of_shaped (shaped_tup xs))]
    exact q H1 (Ex.refl H1)⟩
theorem rv_eqT {a b : Addr} {xs : List V} (ha : H a = some (.tup xs)) (hb : H b = some (.tup xs)) (h : xs.all isSc = true) : RV (rEqD K) (.ref a) (.ref b) H (.bl true) := fun H1 e Q q =>
  ⟨.tuple (xs.map sD), .tuple (xs.map sD), .tup (st_of (e _ _ ha)) (dpAll_sc h), .tup (st_of (e _ _ hb)) (dpAll_sc h), shaped_tup xs, shaped_tup xs, by
    rw [SeqAt.eqv_refl _ (SeqAt.canLay_of_shaped (shaped_tup xs))]
    exact q H1 (Ex.refl H1)⟩
/-- two lists of ints -/
theorem rv_eqI {a b : Addr} {ns ms : List Int} (ha : SqL K H a (ns.map V.int)) (hb : SqL K H b (ms.map V.int)) : RV (rEqD K) (.ref a) (.ref b) H (.bl (decide (ns = ms))) := fun H1 e Q q =>
  ⟨.list ((ns.map V.int).map sD), .list ((ms.map V.int).map sD), .lst (ex_l e ha) (dpAll_sc (ints_sc ns)), .lst (ex_l e hb) (dpAll_sc (ints_sc ms)), shaped_lst _, shaped_lst _, by
    rw [ints_sD, ints_sD, PyData.eqv, PySem.W.ked_eqvAll]
    exact q H1 (Ex.refl H1)⟩
theorem rv_neI {a b : Addr} {ns ms : List Int} (ha : SqL K H a (ns.map V.int)) (hb : SqL K H b (ms.map V.int)) : RV (rNeD K) (.ref a) (.ref b) H (.bl (!decide (ns = ms))) := fun H1 e Q q =>
  ⟨.list ((ns.map V.int).map sD), .list ((ms.map V.int).map sD), .lst (ex_l e ha) (dpAll_sc (ints_sc ns)), .lst (ex_l e hb) (dpAll_sc (ints_sc ms)), shaped_lst _, shaped_lst _, by
    rw [ints_sD, ints_sD, PyData.eqv, PySem.W.ked_eqvAll]
    exact q H1 (Ex.refl H1)⟩
end
/-- a new tuple is handed back -/
def RetU (xs : List V) (H : Hp) (Q : VK) : Prop := ∀ p H2, H p = none → Ex H H2 → H2 p = some (.tup xs) → Q (.ref p) H2
theorem RetU.go {xs : List V} {H H' : Hp} {Q : VK} (k : RetU xs H Q) (e : Ex H H') {p : Addr} {H2 : Hp} (hp : H' p = none) (e2 : Ex H' H2) (h : H2 p = some (.tup xs)) : Q (.ref p) H2 := k p H2 (fresh_back e hp) (e.trans e2) h
theorem RetU.ex {xs : List V} {H H' : Hp} {Q : VK} (k : RetU xs H Q) (e : Ex H H') : RetU xs H' Q := fun p H2 hp e2 h => k p H2 (fresh_back e hp) (e.trans e2) h
theorem eu_if {σ : L2.St} {H : Hp} {t : TT} {ta tb : TE} {xs : List V} {b : Bool} (h : EvT t σ H b) (h1 : b = true → EvU ta σ H xs) (h2 : b = false → EvU tb σ H xs) : EvU (tIf t ta tb) σ H xs := fun H1 e Q q => h H1 e _ fun H2 e2 => by
  cases b with
  | true =>
    show ta σ H2 Q
    exact h1 rfl H2 (e.trans e2) Q fun p H3 hp e3 h3 => q p H3 (fresh_back e2 hp) (e2.trans e3) h3
  | false =>
    show tb σ H2 Q
    exact h2 rfl H2 (e.trans e2) Q fun p H3 hp e3 h3 => q p H3 (fresh_back e2 hp) (e2.trans e3) h3
section
variable {K : PySem.W.Frag} {σ : L2.St} {H H' : Hp} {ta tb te tx tl : TE} {tr : TA} {t u : TT} {x y z v : V} {r : R2} {D : Ends} {tu tw tz : TS}
/-- the first operand a new tuple -/
theorem ev_opU1 {xs : List V} (ha : EvU ta σ H xs) (hb : ∀ H1, Ex H H1 → Ev tb σ H1 y) (hr : ∀ p H1, H1 p = some (.tup xs) → Ex H H1 → RV r (.ref p) y H1 z) : Ev (tOp r ta tb) σ H z := fun H1 e Q q =>
  ha H1 e _ fun p H2 _ e2 hp => hb H2 (e.trans e2) H2 (Ex.refl H2) _ fun H3 e3 => hr p H3 (e3 p _ hp) ((e.trans e2).trans e3) H3 (Ex.refl H3) Q fun H4 e4 => q H4 ((e2.trans e3).trans e4)
theorem el_cat {a b : Addr} {xs zs : List V} (ha : Ev ta σ H (.ref a)) (hb : Ev tb σ H (.ref b)) (h1 : H a = some (.lst xs)) (h2 : H b = some (.lst zs)) (hz : xs.length + zs.length ≤ 100000) : EvL (tOp rCat ta tb) σ H (xs ++ zs) := fun H1 e Q q =>
  ha H1 e _ fun H2 e2 => hb H2 (e.trans e2) _ fun H3 e3 => ⟨a, b, xs, zs, rfl, rfl, e3 _ _ (e2 _ _ (e _ _ h1)), e3 _ _ (e2 _ _ (e _ _ h2)), sz_of hz, fun p hp => q p _ (fresh_back (e2.trans e3) hp) ((e2.trans e3).trans (Ex.new hp)) upd_same⟩
/-- the second one a new list -/
theorem el_catN {a : Addr} {xs zs : List V} (ha : Ev ta σ H (.ref a)) (hb : EvL tb σ H zs) (h1 : H a = some (.lst xs)) (hz : xs.length + zs.length ≤ 100000) : EvL (tOp rCat ta tb) σ H (xs ++ zs) := fun H1 e Q q =>
  ha H1 e _ fun H2 e2 => hb H2 (e.trans e2) _ fun b H3 _ e3 h3 => ⟨a, b, xs, zs, rfl, rfl, e3 _ _ (e2 _ _ (e _ _ h1)), h3, sz_of hz, fun p hp => q p _ (fresh_back (e2.trans e3) hp) ((e2.trans e3).trans (Ex.new hp)) upd_same⟩
/-- a slice of a new list -/
theorem el_slN {tl th : TO} {xs : List V} {lo hi : Option Int} (h : EvL te σ H xs) (h1 : ∀ H1, Ex H H1 → EvO tl σ H1 lo) (h2 : ∀ H1, Ex H H1 → EvO th σ H1 hi) : EvL (tSl (rSlL K) te tl th) σ H (cutV xs lo hi) := fun H1 e _ q =>
  h H1 e _ fun a H2 _ e2 ha => h1 H2 (e.trans e2) H2 (Ex.refl H2) _ fun H3 e3 => h2 H3 ((e.trans e2).trans e3) H3 (Ex.refl H3) _ fun H4 e4 =>
    ⟨a, xs, rfl, sq_of (e4 _ _ (e3 _ _ ha)), fun p hp => q p _ (fresh_back ((e2.trans e3).trans e4) hp) (((e2.trans e3).trans e4).trans (Ex.new hp)) upd_same⟩
theorem el_rev {a : Addr} {xs : List V} (h : Ev te σ H (.ref a)) (hx : SqL K H a xs) : EvL (tRevL K te) σ H xs.reverse := fun H1 e _ q =>
  h H1 e _ fun H2 e2 => ⟨a, xs, rfl, ex_l (e.trans e2) hx, fun p hp => q p _ (fresh_back e2 hp) (e2.trans (Ex.new hp)) upd_same⟩
theorem rv_isN {x : V} : RV (fun x y H Q => y = .non ∧ Q (.bl (decide (x = .non))) H) x .non H (.bl (decide (x = .non))) := fun H1 _ _ q => ⟨rfl, q H1 (Ex.refl H1)⟩
theorem q_par {i j : Nat} {tr : TA} (k : tr σ H fun vs H1 => ∃ v w, vs = [v, w] ∧ tz D ((σ.set i (some v)).set j (some w)) H1) : tSeq (tPar i j tr) tz D σ H := k
theorem s_par {i j : Nat} {tr : TA} (k : tr σ H fun vs H1 => ∃ v w, vs = [v, w] ∧ D.nx ((σ.set i (some v)).set j (some w)) H1) : tPar i j tr D σ H := k
theorem q_parV {i j : Nat} {tr : TA} {v w : V} (h : EvA tr σ H [v, w]) (k : ∀ H1, Ex H H1 → tz D ((σ.set i (some v)).set j (some w)) H1) : tSeq (tPar i j tr) tz D σ H := h H (Ex.refl H) _ fun H1 e => ⟨v, w, rfl, k H1 e⟩
/-! steps of a reading at a heap -/
theorem ta_consU {Q : List V → Hp → Prop} {xs : List V} (h : EvU te σ H xs) (k : ∀ p H1, H p = none → Ex H H1 → H1 p = some (.tup xs) → tr σ H1 fun vs H2 => Q (.ref p :: vs) H2) : tCons te tr σ H Q := h H (Ex.refl H) _ fun p H1 hp e h1 => k p H1 hp e h1
theorem ta_consL {Q : List V → Hp → Prop} {xs : List V} (h : EvL te σ H xs) (k : ∀ p H1, H p = none → Ex H H1 → H1 p = some (.lst xs) → tr σ H1 fun vs H2 => Q (.ref p :: vs) H2) : tCons te tr σ H Q := h H (Ex.refl H) _ fun p H1 hp e h1 => k p H1 hp e h1
theorem ta_consV {Q : List V → Hp → Prop} (h : Ev te σ H v) (k : ∀ H1, Ex H H1 → tr σ H1 fun vs H2 => Q (v :: vs) H2) : tCons te tr σ H Q := h H (Ex.refl H) _ fun H1 e => k H1 e
theorem el_use {Q : VK} {xs : List V} (h : EvL te σ H xs) (k : ∀ p H1, H p = none → Ex H H1 → H1 p = some (.lst xs) → Q (.ref p) H1) : te σ H Q := h H (Ex.refl H) _ fun p H1 hp e h1 => k p H1 hp e h1
theorem eu_use {Q : VK} {xs : List V} (h : EvU te σ H xs) (k : ∀ p H1, H p = none → Ex H H1 → H1 p = some (.tup xs) → Q (.ref p) H1) : te σ H Q := h H (Ex.refl H) _ fun p H1 hp e h1 => k p H1 hp e h1
theorem ev_use {Q : VK} (h : Ev te σ H v) (k : ∀ H1, Ex H H1 → Q v H1) : te σ H Q := h H (Ex.refl H) _ fun H1 e => k H1 e
theorem top_in {Q : VK} (k : ta σ H fun x H1 => tb σ H1 fun y H2 => r x y H2 Q) : tOp r ta tb σ H Q := k
theorem q_in {te : TE} {i : Nat} (k : te σ H fun x H1 => tz D (σ.set i (some x)) H1) : tSeq (tAsg te (gName i)) tz D σ H := k
theorem r_in {te : TE} (k : te σ H D.rt) : tRet te D σ H := k
theorem ta_in {Q : List V → Hp → Prop} {te : TE} (k : te σ H fun x H1 => tr σ H1 fun vs H2 => Q (x :: vs) H2) : tCons te tr σ H Q := k
theorem tup_in {Q : VK} (k : tr σ H fun vs H1 => vs.length ≤ sizeLine ∧ ∀ p, H1 p = none → Q (.ref p) (upd H1 p (.tup vs))) : tTup tr σ H Q := k
theorem et_use {Q : Bool → Hp → Prop} {b : Bool} (h : EvT t σ H b) (k : ∀ H1, Ex H H1 → Q b H1) : t σ H Q := h H (Ex.refl H) _ fun H1 e => k H1 e
theorem tif_in {Q : VK} (k : t σ H fun c H1 => if c = true then ta σ H1 Q else tb σ H1 Q) : tIf t ta tb σ H Q := k
theorem tcall_in {sp : Sp} {dvs : List V} {E : XK} {Q : VK} (k : tr σ H fun vs H1 => sp (vs ++ dvs) H1 Q E) : tCall sp dvs E tr σ H Q := k
theorem tb_in {te : TE} {Q : Bool → Hp → Prop} (k : te σ H fun x H1 => ∃ c, x = .bl c ∧ Q c H1) : tB te σ H Q := k
theorem ta_nil {Q : List V → Hp → Prop} (k : Q [] H) : tNil σ H Q := k
theorem tl_lst {Q : VK} (k : tr σ H fun vs H1 => vs.length ≤ sizeLine ∧ ∀ p, H1 p = none → Q (.ref p) (upd H1 p (.lst vs))) : tLst tr σ H Q := k
end
section
variable {K : PySem.W.Frag} {σ : L2.St} {H H' : Hp} {ta tb te tx tl : TE} {tr : TA} {t u : TT} {x y z v : V} {r : R2} {D : Ends} {tu tw tz : TS} {g : TG}
/-- for i, x in enumerate(xs) -/
theorem s_forEnum {a : Addr} {xs : List V} (h : EvA tr σ H [.ref a]) (hx : SqL K H a xs) (Pv : Nat → L2.St → Hp → Prop) (h0 : ∀ H1, Ex H H1 → Pv 0 σ H1) (hl : ∀ i σ' H', i ≤ xs.length → Pv i σ' H' → SqL K H' a xs)
    (hs : ∀ i x σ' H', xs[i]? = some x → Pv i σ' H' → ∀ T, H' T = none → g (.ref T) σ' (upd H' T (.tup [.int (i : Nat), x])) fun σ2 H2 => tu { D with nx := Pv (i + 1), ct := Pv (i + 1), bk := D.nx } σ2 H2) (hd : ∀ σ' H', Pv xs.length σ' H' → D.nx σ' H') : tFor (iEnum K tr) g tu D σ H :=
  h H (Ex.refl H) _ fun H1 e => ⟨a, xs, rfl, ex_l e hx, fun i m σ H => m = xs.length - i ∧ i ≤ xs.length ∧ Pv i σ H, ⟨xs.length, by simp, Nat.zero_le _, h0 H1 e⟩, fun i m σ' H' hw => by
    obtain ⟨rfl, hi, p⟩ := hw
    have q := hl i σ' H' hi p
    by_cases hlt : i < xs.length
    · refine .inr ⟨⟨xs, xs[i], q, by simp [hlt]⟩, Pv (i + 1), fun σ2 H2 p' => ⟨xs.length - (i + 1), by omega, rfl, hlt, p'⟩, fun v H2 y => ?_⟩
      obtain ⟨T, x, rfl, hT, rfl, hy⟩ := y
      exact hs i x σ' H' (hy xs q) p T hT
    · have e : i = xs.length := by omega
      subst e
      exact .inl ⟨⟨xs, q, Nat.le_refl _⟩, hd σ' H' p⟩⟩
/-- o.f, o.m(), C's -/
theorem ev_fld {C a dx : Addr} {fs : List (Str × V)} {f : Str} (h : Ev te σ H (.ref a)) (ho : H a = some (.ins C dx fs)) (c : Cls K C) (n : NoAttr K C f) (l : fs.lookup f = some v) : Ev (tFld K te f) σ H v := fun H1 e Q q =>
  h H1 e _ fun H2 e2 => ⟨a, C, dx, fs, v, rfl, e2 _ _ (e _ _ ho), c, n, l, q H2 e2⟩
theorem ev_meth0 {C a dx : Addr} {fs : List (Str × V)} {m : Str} {sp : Sp} {E : XK} (h : Ev te σ H (.ref a)) (ho : H a = some (.ins C dx fs)) (l : fs.lookup m = none) (hs : SpV sp [.ref a] H v) : Ev (tMeth C m sp [] E te tNil) σ H v := fun H1 e Q q =>
  h H1 e _ fun H2 e2 => ⟨a, dx, fs, rfl, e2 _ _ (e _ _ ho), l, hs H2 (e.trans e2) Q (fun H3 e3 => q H3 (e2.trans e3)) E⟩
theorem el_meth0 {C a dx : Addr} {fs : List (Str × V)} {m : Str} {sp : Sp} {E : XK} {xs : List V} (h : Ev te σ H (.ref a)) (ho : H a = some (.ins C dx fs)) (l : fs.lookup m = none) (hs : ∀ H1, Ex H H1 → ∀ Q : VK, RetL xs H1 Q → ∀ E : XK, sp [.ref a] H1 Q E) : EvL (tMeth C m sp [] E te tNil) σ H xs := fun H1 e Q q =>
  h H1 e _ fun H2 e2 => ⟨a, dx, fs, rfl, e2 _ _ (e _ _ ho), l, hs H2 (e.trans e2) Q (fun p H3 hp e3 h3 => q p H3 (fresh_back e2 hp) (e2.trans e3) h3) E⟩
theorem el_callR {sp : Sp} {dvs vs xs : List V} {E : XK} {ta : TA} (h : EvA ta σ H vs) (hs : ∀ H1, Ex H H1 → ∀ Q : VK, RetL xs H1 Q → ∀ E : XK, sp (vs ++ dvs) H1 Q E) : EvL (tCall sp dvs E ta) σ H xs := el_call h fun H1 e Q q E => hs H1 e Q q E
/-- isinstance of an own class -/
theorem ev_isiC {C a dx : Addr} {fs : List (Str × V)} (h : Ev te σ H (.ref a)) (ho : H a = some (.ins C dx fs)) (c : Cls K C)
    (i : PySem.W.findIn K (.ref C) "__class__" = some (some (.builtin "object.__class__")) ∧ PySem.W.specialIn K (.builtin "object.__class__") "__get__" = some (some (.builtin "getset_descriptor.__get__")) ∧ PySem.W.takesIn K (.builtin "object.__class__") = some true ∧ PySem.W.mroIn K C (.type "object") = some true) :
    Ev (tCB (rIsi K) (tCons te (tCons (tC (.ref C)) tNil))) σ H (.bl true) := fun H1 e Q q =>
  h H1 e _ fun H2 e2 => ⟨.ref a, .ref C, .ref C, .ref C, true, rfl, ClsV.own C, TyX.base (TyOf.ins (e2 _ _ (e _ _ ho)) c i.1 i.2.1 i.2.2.1 i.2.2.2), by
    unfold PySem.W.kitOne
    rw [if_pos (beq_self_eq_true _)], q H2 e2⟩
/-- max of a new list -/
theorem ev_maxN {ns : List Int} {m : Int} (h : EvL te σ H (ns.map V.int)) (hm : m ∈ ns) (hle : ∀ y ∈ ns, y ≤ m) : Ev (tCB (rMax K) (tCons te tNil)) σ H (.int m) := fun H1 e Q q =>
  h H1 e _ fun p H2 _ e2 h2 => ⟨p, ns, rfl, sq_of h2, by cases ns with | nil => cases hm | cons a r => simp, fun k hk hkl => by
    have : k = m := Int.le_antisymm (hle k hk) (hkl m hm)
    rw [this]
    exact q H2 e2⟩
end
theorem ev_min2 {σ : L2.St} {H : Hp} {ta tb : TE} {i j : Int} (ha : Ev ta σ H (.int i)) (hb : Ev tb σ H (.int j)) : Ev (tCB (fun xs H Q => ∃ i j, xs = [.int i, .int j] ∧ Q (.int (if j < i then j else i)) H) (tCons ta (tCons tb tNil))) σ H (.int (if j < i then j else i)) := fun H1 e Q q =>
  ha H1 e _ fun H2 e2 => hb H2 (e.trans e2) _ fun H3 e3 => ⟨i, j, rfl, q H3 (e2.trans e3)⟩
theorem spv {sp : Sp} {vs : List V} {H : Hp} {z : V} (h : ∀ H1, Ex H H1 → ∀ Q : VK, RetV z H1 Q → ∀ E : XK, sp vs H1 Q E) : SpV sp vs H z := fun H1 e Q q E => h H1 e Q q E
/-- a call that hands back a new tuple -/
theorem eu_call {σ : L2.St} {H : Hp} {sp : Sp} {dvs vs xs : List V} {E : XK} {ta : TA} (h : EvA ta σ H vs) (hs : ∀ H1, Ex H H1 → ∀ Q : VK, RetU xs H1 Q → ∀ E : XK, sp (vs ++ dvs) H1 Q E) : EvU (tCall sp dvs E ta) σ H xs := fun H1 e Q q =>
  h H1 e _ fun H2 e2 => hs H2 (e.trans e2) Q (fun p H3 hp e3 h3 => q p H3 (fresh_back e2 hp) (e2.trans e3) h3) E
/-- a call of which an argument is a new list, that hands back a new tuple -/
theorem eu_callN {σ : L2.St} {H : Hp} {sp : Sp} {xs ys : List V} {E : XK} {te : TE} (h : EvL te σ H xs) (hs : ∀ p H1, H1 p = some (.lst xs) → Ex H H1 → ∀ Q : VK, RetU ys H1 Q → ∀ E : XK, sp [.ref p] H1 Q E) : EvU (tCall sp [] E (tCons te tNil)) σ H ys := fun H1 e Q q =>
  h H1 e _ fun p H2 hp e2 h2 => hs p H2 h2 (e.trans e2) Q (fun u H3 hu e3 h3 => q u H3 (fresh_back e2 hu) (e2.trans e3) h3) E
end WS

namespace M41
def qs (fs : List Int) (k : Nat) : Int := (fs.map fun u => u / 2 ^ k).sum
def cst (fs : List Int) (k : Nat) : Int := qs fs k + (fs.length : Int) * (1 + (k : Int))
def hs (fs : List Int) (k : Nat) : Int := (fs.map fun u => (u / 2 ^ k + 1) / 2).sum
def ris (fs : List Int) (k : Nat) : Int := (fs.length : Int) - hs fs k
def Good (fs : List Int) : Prop := ∀ u ∈ fs, 0 ≤ u ∧ u < 2 ^ 40
theorem half_next (u : Int) (k : Nat) : u / 2 ^ (k + 1) = u / 2 ^ k / 2 := by
  rw [Int.pow_succ, Int.ediv_ediv_of_nonneg (Int.le_of_lt (Int.pow_pos (by decide)))]
theorem qs_step : ∀ (fs : List Int) (k : Nat), qs fs k - qs fs (k + 1) = hs fs k
  | [], k => rfl
  | u :: r, k => by
    have ih := qs_step r k
    unfold qs hs at ih ⊢
    simp only [List.map_cons, List.sum_cons]
    rw [half_next u k]
    omega
theorem cst_step (fs : List Int) (k : Nat) : cst fs (k + 1) - cst fs k = ris fs k := by
  have h := qs_step fs k
  unfold cst ris
  have e : (fs.length : Int) * (1 + ((k + 1 : Nat) : Int)) = (fs.length : Int) * (1 + (k : Int)) + (fs.length : Int) := by
    rw [show (1 + ((k + 1 : Nat) : Int)) = (1 + (k : Int)) + 1 by omega, Int.mul_add, Int.mul_one]
  omega
theorem hs_step : ∀ (fs : List Int) (k : Nat), (∀ u ∈ fs, 0 ≤ u) → hs fs (k + 1) ≤ hs fs k
  | [], k, _ => Int.le_refl _
  | u :: r, k, h => by
    have ih := hs_step r k fun x hx => h x (List.mem_cons_of_mem _ hx)
    have hu := h u List.mem_cons_self
    unfold hs at ih ⊢
    simp only [List.map_cons, List.sum_cons]
    rw [half_next u k]
    have : 0 ≤ u / 2 ^ k := Int.ediv_nonneg hu (Int.le_of_lt (Int.pow_pos (by decide)))
    omega
theorem ris_step {fs : List Int} (g : Good fs) (k : Nat) : ris fs k ≤ ris fs (k + 1) := by
  have := hs_step fs k fun u hu => (g u hu).1
  unfold ris
  omega
theorem ris_mono {fs : List Int} (g : Good fs) {j k : Nat} (h : j ≤ k) : ris fs j ≤ ris fs k := by
  induction h with
  | refl => exact Int.le_refl _
  | step _ ih => exact Int.le_trans ih (ris_step g _)
theorem hs_far : ∀ (fs : List Int), (∀ u ∈ fs, 0 ≤ u ∧ u < 2 ^ 40) → hs fs 40 = 0
  | [], _ => rfl
  | u :: r, h => by
    have ih := hs_far r fun x hx => h x (List.mem_cons_of_mem _ hx)
    have hu := h u List.mem_cons_self
    unfold hs at ih ⊢
    simp only [List.map_cons, List.sum_cons]
    rw [ih, Int.ediv_eq_zero_of_lt hu.1 hu.2]
    decide
theorem ris_far {fs : List Int} (g : Good fs) (ne : fs ≠ []) : 0 < ris fs 40 := by
  unfold ris
  rw [hs_far fs g]
  cases fs with
  | nil => exact absurd rfl ne
  | cons a r =>
    rw [List.length_cons]
    omega
/-- least k from `a`, within n, of which p -/
def seek (p : Nat → Bool) : Nat → Nat → Nat
  | 0, a => a
  | n + 1, a => if p a then a else seek p n (a + 1)
theorem seek_ge (p : Nat → Bool) : ∀ (n a : Nat), a ≤ seek p n a
  | 0, a => Nat.le_refl _
  | n + 1, a => by
    unfold seek
    split
    · exact Nat.le_refl _
    · exact Nat.le_trans (Nat.le_succ a) (seek_ge p n (a + 1))
theorem seek_not (p : Nat → Bool) : ∀ (n a j : Nat), a ≤ j → j < seek p n a → p j = false
  | 0, a, j, h1, h2 => by unfold seek at h2; omega
  | n + 1, a, j, h1, h2 => by
    unfold seek at h2
    split at h2
    · omega
    · rename_i hp
      by_cases e : j = a
      · rw [e]; simpa using hp
      · exact seek_not p n (a + 1) j (by omega) h2
theorem seek_is (p : Nat → Bool) : ∀ (n a j : Nat), a ≤ j → j ≤ a + n → p j = true → p (seek p n a) = true
  | 0, a, j, h1, h2, hp => by
    have e : j = a := by omega
    unfold seek
    rw [← e]; exact hp
  | n + 1, a, j, h1, h2, hp => by
    unfold seek
    split
    · assumption
    · rename_i q
      by_cases e : j = a
      · rw [e] at hp; exact absurd hp q
      · exact seek_is p n (a + 1) j (by omega) (by omega) hp
theorem seek_le (p : Nat → Bool) : ∀ (n a j : Nat), a ≤ j → p j = true → seek p n a ≤ j
  | 0, a, j, h1, _ => by unfold seek; exact h1
  | n + 1, a, j, h1, hp => by
    unfold seek
    split
    · exact h1
    · rename_i q
      by_cases e : j = a
      · rw [e] at hp; exact absurd hp q
      · exact seek_le p n (a + 1) j (by omega) hp
def firstW (fs : List Int) : Nat := seek (fun k => decide (0 ≤ ris fs k)) 40 0
def lastW (fs : List Int) : Nat := seek (fun k => decide (ris fs k ≠ 0)) 40 (firstW fs)
structure LW (fs : List Int) (f l : Nat) : Prop where
  lo : ∀ j, j < f → ris fs j < 0
  at0 : 0 ≤ ris fs f
  mid : ∀ j, f ≤ j → j < l → ris fs j = 0
  fl : f ≤ l
  hi : 0 < ris fs l
  l40 : l ≤ 40
theorem lw {fs : List Int} (g : Good fs) (ne : fs ≠ []) : LW fs (firstW fs) (lastW fs) := by
  have far := ris_far g ne
  have f40 : firstW fs ≤ 40 := seek_le _ 40 0 40 (by omega) (by simp; omega)
  have l40 : lastW fs ≤ 40 := seek_le _ 40 (firstW fs) 40 f40 (by simp; omega)
  have fl : firstW fs ≤ lastW fs := seek_ge _ _ _
  have a0 : 0 ≤ ris fs (firstW fs) := by
    have := seek_is (fun k => decide (0 ≤ ris fs k)) 40 0 40 (by omega) (by omega) (by simp; omega)
    simpa [firstW] using this
  have hn : ris fs (lastW fs) ≠ 0 := by
    have := seek_is (fun k => decide (ris fs k ≠ 0)) 40 (firstW fs) 40 f40 (by omega) (by simp; omega)
    simpa [lastW] using this
  refine ⟨fun j hj => ?_, a0, fun j h1 h2 => ?_, fl, ?_, l40⟩
  · have := seek_not (fun k => decide (0 ≤ ris fs k)) 40 0 j (by omega) hj
    simp at this
    omega
  · have := seek_not (fun k => decide (ris fs k ≠ 0)) 40 (firstW fs) j h1 h2
    simpa using this
  · have := ris_mono g fl
    omega
theorem cst_flat {fs : List Int} {f l : Nat} (h : LW fs f l) : ∀ k, f ≤ k → k ≤ l → cst fs k = cst fs f := by
  intro k h1
  induction h1 with
  | refl => intro _; rfl
  | @step m hm ih =>
    intro h2
    have a := ih (by omega)
    have b := h.mid m hm (by omega)
    have c := cst_step fs m
    show cst fs (m + 1) = _
    omega
theorem cst_up {fs : List Int} {f l : Nat} (g : Good fs) (h : LW fs f l) : ∀ k, l < k → cst fs f < cst fs k := by
  intro k hk
  have base : cst fs f < cst fs (l + 1) := by
    have a := cst_flat h l h.fl (Nat.le_refl _)
    have b := cst_step fs l
    have c := h.hi
    omega
  obtain ⟨d, rfl⟩ : ∃ d, k = l + 1 + d := ⟨k - (l + 1), by omega⟩
  induction d with
  | zero => exact base
  | succ n ih =>
    have a := ih (by omega)
    have b := cst_step fs (l + 1 + n)
    have c := ris_mono g (show l ≤ l + 1 + n by omega)
    have d := h.hi
    show cst fs f < cst fs (l + 1 + n + 1)
    omega
theorem cst_down {fs : List Int} {f l : Nat} (h : LW fs f l) : ∀ d k, k + d = f → 0 < d → cst fs f < cst fs k := by
  intro d
  induction d with
  | zero => intro k _ h; omega
  | succ n ih =>
    intro k e _
    have b := cst_step fs k
    have c := h.lo k (by omega)
    by_cases z : n = 0
    · subst z
      have : f = k + 1 := by omega
      subst this
      omega
    · have a := ih (k + 1) (by omega) (by omega)
      omega
theorem cst_least {fs : List Int} {f l : Nat} (g : Good fs) (h : LW fs f l) (k : Nat) : cst fs f ≤ cst fs k := by
  by_cases h1 : k < f
  · exact Int.le_of_lt (cst_down h (f - k) k (by omega) (by omega))
  · by_cases h2 : k ≤ l
    · rw [cst_flat h k (by omega) h2]; exact Int.le_refl _
    · exact Int.le_of_lt (cst_up g h k (by omega))
theorem cst_eq_iff {fs : List Int} {f l : Nat} (g : Good fs) (h : LW fs f l) (k : Nat) : cst fs k = cst fs f ↔ f ≤ k ∧ k ≤ l := by
  constructor
  · intro e
    by_cases h1 : k < f
    · have := cst_down h (f - k) k (by omega) (by omega); omega
    · by_cases h2 : k ≤ l
      · omega
      · have := cst_up g h k (by omega); omega
  · rintro ⟨a, b⟩; exact cst_flat h k a b
theorem wid : ∀ f < 45, ∀ l < 45, f ≤ l → ((List.range 45).filter (fun k => decide (f ≤ k ∧ k ≤ l)))[0]? = some f ∧ ((List.range 45).filter (fun k => decide (f ≤ k ∧ k ≤ l))).getLast? = some l := by
  decide +kernel
/-! reversal and joining -/
theorem sum_app : ∀ (a b : List Int), (a ++ b).sum = a.sum + b.sum
  | [], b => by simp
  | x :: r, b => by
    rw [List.cons_append, List.sum_cons, List.sum_cons, sum_app r b]
    omega
theorem sum_rev : ∀ (a : List Int), a.reverse.sum = a.sum
  | [] => rfl
  | x :: r => by
    rw [List.reverse_cons, sum_app, sum_rev r, List.sum_cons, List.sum_cons]
    simp
    omega
theorem hs_rev (fs : List Int) (k : Nat) : hs fs.reverse k = hs fs k := by
  unfold hs
  rw [List.map_reverse, sum_rev]
theorem qs_rev (fs : List Int) (k : Nat) : qs fs.reverse k = qs fs k := by
  unfold qs
  rw [List.map_reverse, sum_rev]
theorem ris_rev (fs : List Int) : ris fs.reverse = ris fs := by
  funext k
  unfold ris
  rw [hs_rev, List.length_reverse]
theorem cst_rev (fs : List Int) : cst fs.reverse = cst fs := by
  funext k
  unfold cst
  rw [qs_rev, List.length_reverse]
theorem first_rev (fs : List Int) : firstW fs.reverse = firstW fs := by unfold firstW; rw [ris_rev]
theorem last_rev (fs : List Int) : lastW fs.reverse = lastW fs := by unfold lastW; rw [ris_rev, first_rev]
theorem good_rev {fs : List Int} (g : Good fs) : Good fs.reverse := fun u hu => g u (List.mem_reverse.mp hu)
theorem cst_app (a b : List Int) (k : Nat) : cst (a ++ b) k = cst a k + cst b k := by
  unfold cst qs
  rw [List.map_append, sum_app, List.length_append, Int.natCast_add, Int.add_mul]
  omega
def lp (fs : List Int) : Int := if fs = [] then 0 else cst fs (firstW fs)
theorem lp_le {fs : List Int} (g : Good fs) (k : Nat) : lp fs ≤ cst fs k := by
  unfold lp
  split
  · rename_i e; subst e; unfold cst qs; simp
  · rename_i e; exact cst_least g (lw g e) k
theorem lp_app {a b : List Int} (ga : Good a) (gb : Good b) : lp a + lp b ≤ lp (a ++ b) := by
  by_cases e : a ++ b = []
  · obtain ⟨rfl, rfl⟩ := List.append_eq_nil_iff.mp e
    decide
  · have h : lp (a ++ b) = cst (a ++ b) (firstW (a ++ b)) := by unfold lp; rw [if_neg e]
    rw [h, cst_app]
    have := lp_le ga (firstW (a ++ b))
    have := lp_le gb (firstW (a ++ b))
    omega
end M41

set_option Elab.async false
set_option linter.all false
set_option maxRecDepth 100000
set_option maxHeartbeats 2000000
namespace K41
open PySem PySem.Spec PyProof.Rows L2 Evl WS M41
def topS (i : Nat) : Stmt := PySem.Challenge.pw_wholesound_k41_least_widths.main.body.getD i (.Pass ⟨0, 0, 0, 0⟩)
abbrev s_is_number : Stmt := topS 5
theorem sc_is_number : FnScope ["value"] ["value"] (defScope s_is_number) := ⟨rfl, rfl, rfl, by decide +kernel, rfl, by decide +kernel, by decide +kernel⟩
abbrev s_is_within : Stmt := topS 6
theorem sc_is_within : FnScope ["value", "low", "high"] ["value", "low", "high"] (defScope s_is_within) := ⟨rfl, rfl, rfl, by decide +kernel, rfl, by decide +kernel, by decide +kernel⟩
abbrev s_is_count : Stmt := topS 7
theorem sc_is_count : FnScope ["value"] ["value"] (defScope s_is_count) := ⟨rfl, rfl, rfl, by decide +kernel, rfl, by decide +kernel, by decide +kernel⟩
abbrev s_is_counts : Stmt := topS 8
theorem sc_is_counts : FnScope ["value", "item"] ["value"] (defScope s_is_counts) := ⟨rfl, rfl, rfl, by decide +kernel, rfl, by decide +kernel, by decide +kernel⟩
abbrev s_check_folds : Stmt := topS 11
theorem sc_check_folds : FnScope ["folds"] ["folds"] (defScope s_check_folds) := ⟨rfl, rfl, rfl, by decide +kernel, rfl, by decide +kernel, by decide +kernel⟩
abbrev s_check_width : Stmt := topS 12
theorem sc_check_width : FnScope ["width"] ["width"] (defScope s_check_width) := ⟨rfl, rfl, rfl, by decide +kernel, rfl, by decide +kernel, by decide +kernel⟩
abbrev s_cost_at : Stmt := topS 13
theorem sc_cost_at : FnScope ["folds", "width", "number"] ["folds", "width"] (defScope s_cost_at) := ⟨rfl, rfl, rfl, by decide +kernel, rfl, by decide +kernel, by decide +kernel⟩
abbrev s_price : Stmt := topS 14
theorem sc_price : FnScope ["folds", "width"] ["folds", "width"] (defScope s_price) := ⟨rfl, rfl, rfl, by decide +kernel, rfl, by decide +kernel, by decide +kernel⟩
abbrev s_least_width : Stmt := topS 15
theorem sc_least_width : FnScope ["folds"] ["folds"] (defScope s_least_width) := ⟨rfl, rfl, rfl, by decide +kernel, rfl, by decide +kernel, by decide +kernel⟩
abbrev s_best_widths : Stmt := topS 16
theorem sc_best_widths : FnScope ["folds", "first", "last"] ["folds"] (defScope s_best_widths) := ⟨rfl, rfl, rfl, by decide +kernel, rfl, by decide +kernel, by decide +kernel⟩
abbrev s_rise : Stmt := topS 17
theorem sc_rise : FnScope ["folds", "width", "number"] ["folds", "width"] (defScope s_rise) := ⟨rfl, rfl, rfl, by decide +kernel, rfl, by decide +kernel, by decide +kernel⟩
abbrev s__law_cell : Stmt := topS 19
theorem sc__law_cell : FnScope ["_law_script", "_law_index"] ["_law_script", "_law_index"] (defScope s__law_cell) := ⟨rfl, rfl, rfl, by decide +kernel, rfl, by decide +kernel, by decide +kernel⟩
abbrev s__law_hash : Stmt := topS 20
theorem sc__law_hash : FnScope ["_law_seed", "_law_index", "_law_mixed"] ["_law_seed", "_law_index"] (defScope s__law_hash) := ⟨rfl, rfl, rfl, by decide +kernel, rfl, by decide +kernel, by decide +kernel⟩
abbrev s__law_generator : Stmt := topS 21
theorem sc__law_generator : FnScope ["_law_script", "_law_index", "_law_seed"] ["_law_script", "_law_index"] (defScope s__law_generator) := ⟨rfl, rfl, rfl, by decide +kernel, rfl, by decide +kernel, by decide +kernel⟩
abbrev s__law_random : Stmt := topS 22
theorem sc__law_random : FnScope ["_law_generator_here", "_law_bound", "_law_drawn", "_law_turn"] ["_law_generator_here", "_law_bound"] (defScope s__law_random) := ⟨rfl, rfl, rfl, by decide +kernel, rfl, by decide +kernel, by decide +kernel⟩
abbrev s__law_price : Stmt := topS 23
theorem sc__law_price : FnScope ["_law_folds_here", "_law_width", "_law_total", "_law_fold"] ["_law_folds_here", "_law_width"] (defScope s__law_price) := ⟨rfl, rfl, rfl, by decide +kernel, rfl, by decide +kernel, by decide +kernel⟩
abbrev s__law_least : Stmt := topS 24
theorem sc__law_least : FnScope ["_law_folds_here", "_law_prices", "_law_widths", "_law_width"] ["_law_folds_here"] (defScope s__law_least) := ⟨rfl, rfl, rfl, by decide +kernel, rfl, by decide +kernel, by decide +kernel⟩
abbrev s__law_folds : Stmt := topS 25
theorem sc__law_folds : FnScope ["_law_generator_here", "_law_most", "_law_found", "_law_kind", "_law_turn", "_law_small", "_law_deep", "_law_far"] ["_law_generator_here", "_law_most"] (defScope s__law_folds) := ⟨rfl, rfl, rfl, by decide +kernel, rfl, by decide +kernel, by decide +kernel⟩
abbrev s_law : Stmt := topS 26
theorem sc_law : FnScope ["_law_script", "_law_generator_here", "_law_one", "_law_other", "_law_lots", "_law_folds_here", "_law_kept", "_law_due", "_law_width", "_law_prices", "_law_at"] ["_law_script"] (defScope s_law) := ⟨rfl, rfl, rfl, by decide +kernel, rfl, by decide +kernel, by decide +kernel⟩
structure Tx (K : PySem.W.Frag) (mg : Str → Option Value) where
  a_is_number : Addr
  d_is_number : FuncData
  f_is_number : Fun K "is_number" "is_number" s_is_number a_is_number d_is_number
  b_is_number : Binds K d_is_number ["value"] []
  g_is_number : mg "is_number" = some (.ref a_is_number)
  a_is_within : Addr
  d_is_within : FuncData
  f_is_within : Fun K "is_within" "is_within" s_is_within a_is_within d_is_within
  b_is_within : Binds K d_is_within ["value", "low", "high"] []
  g_is_within : mg "is_within" = some (.ref a_is_within)
  a_is_count : Addr
  d_is_count : FuncData
  f_is_count : Fun K "is_count" "is_count" s_is_count a_is_count d_is_count
  b_is_count : Binds K d_is_count ["value"] []
  g_is_count : mg "is_count" = some (.ref a_is_count)
  a_is_counts : Addr
  d_is_counts : FuncData
  f_is_counts : Fun K "is_counts" "is_counts" s_is_counts a_is_counts d_is_counts
  b_is_counts : Binds K d_is_counts ["value"] []
  g_is_counts : mg "is_counts" = some (.ref a_is_counts)
  a_check_folds : Addr
  d_check_folds : FuncData
  f_check_folds : Fun K "check_folds" "check_folds" s_check_folds a_check_folds d_check_folds
  b_check_folds : Binds K d_check_folds ["folds"] []
  g_check_folds : mg "check_folds" = some (.ref a_check_folds)
  a_check_width : Addr
  d_check_width : FuncData
  f_check_width : Fun K "check_width" "check_width" s_check_width a_check_width d_check_width
  b_check_width : Binds K d_check_width ["width"] []
  g_check_width : mg "check_width" = some (.ref a_check_width)
  a_cost_at : Addr
  d_cost_at : FuncData
  f_cost_at : Fun K "cost_at" "cost_at" s_cost_at a_cost_at d_cost_at
  b_cost_at : Binds K d_cost_at ["folds", "width"] []
  g_cost_at : mg "cost_at" = some (.ref a_cost_at)
  a_price : Addr
  d_price : FuncData
  f_price : Fun K "price" "price" s_price a_price d_price
  b_price : Binds K d_price ["folds", "width"] []
  g_price : mg "price" = some (.ref a_price)
  a_least_width : Addr
  d_least_width : FuncData
  f_least_width : Fun K "least_width" "least_width" s_least_width a_least_width d_least_width
  b_least_width : Binds K d_least_width ["folds"] []
  g_least_width : mg "least_width" = some (.ref a_least_width)
  a_best_widths : Addr
  d_best_widths : FuncData
  f_best_widths : Fun K "best_widths" "best_widths" s_best_widths a_best_widths d_best_widths
  b_best_widths : Binds K d_best_widths ["folds"] []
  g_best_widths : mg "best_widths" = some (.ref a_best_widths)
  a_rise : Addr
  d_rise : FuncData
  f_rise : Fun K "rise" "rise" s_rise a_rise d_rise
  b_rise : Binds K d_rise ["folds", "width"] []
  g_rise : mg "rise" = some (.ref a_rise)
  a__law_cell : Addr
  d__law_cell : FuncData
  f__law_cell : Fun K "_law_cell" "_law_cell" s__law_cell a__law_cell d__law_cell
  b__law_cell : Binds K d__law_cell ["_law_script", "_law_index"] []
  g__law_cell : mg "_law_cell" = some (.ref a__law_cell)
  a__law_hash : Addr
  d__law_hash : FuncData
  f__law_hash : Fun K "_law_hash" "_law_hash" s__law_hash a__law_hash d__law_hash
  b__law_hash : Binds K d__law_hash ["_law_seed", "_law_index"] []
  g__law_hash : mg "_law_hash" = some (.ref a__law_hash)
  a__law_generator : Addr
  d__law_generator : FuncData
  f__law_generator : Fun K "_law_generator" "_law_generator" s__law_generator a__law_generator d__law_generator
  b__law_generator : Binds K d__law_generator ["_law_script", "_law_index"] []
  g__law_generator : mg "_law_generator" = some (.ref a__law_generator)
  a__law_random : Addr
  d__law_random : FuncData
  f__law_random : Fun K "_law_random" "_law_random" s__law_random a__law_random d__law_random
  b__law_random : Binds K d__law_random ["_law_generator_here", "_law_bound"] []
  g__law_random : mg "_law_random" = some (.ref a__law_random)
  a__law_price : Addr
  d__law_price : FuncData
  f__law_price : Fun K "_law_price" "_law_price" s__law_price a__law_price d__law_price
  b__law_price : Binds K d__law_price ["_law_folds_here", "_law_width"] []
  g__law_price : mg "_law_price" = some (.ref a__law_price)
  a__law_least : Addr
  d__law_least : FuncData
  f__law_least : Fun K "_law_least" "_law_least" s__law_least a__law_least d__law_least
  b__law_least : Binds K d__law_least ["_law_folds_here"] []
  g__law_least : mg "_law_least" = some (.ref a__law_least)
  a__law_folds : Addr
  d__law_folds : FuncData
  f__law_folds : Fun K "_law_folds" "_law_folds" s__law_folds a__law_folds d__law_folds
  b__law_folds : Binds K d__law_folds ["_law_generator_here", "_law_most"] []
  g__law_folds : mg "_law_folds" = some (.ref a__law_folds)
  a_law : Addr
  d_law : FuncData
  f_law : Fun K "law" "law" s_law a_law d_law
  b_law : Binds K d_law ["_law_script"] []
  g_law : mg "law" = some (.ref a_law)
  t_GREATEST_WIDTH : Tok
  c_GREATEST_WIDTH : mg "GREATEST_WIDTH" = some (.int 120 t_GREATEST_WIDTH)
  m_all : mg "all" = none
  m_bool : mg "bool" = none
  m_int : mg "int" = none
  m_isinstance : mg "isinstance" = none
  m_len : mg "len" = none
  m_list : mg "list" = none
  m_max : mg "max" = none
  m_min : mg "min" = none
  m_range : mg "range" = none
  m_sum : mg "sum" = none
end K41

set_option Elab.async false
set_option linter.all false
set_option maxRecDepth 100000
set_option maxHeartbeats 4000000
namespace K41
open PySem PySem.Spec PyProof.Rows L2 Evl WS M41
/-- folds at a: a tracked list of good numbers -/
structure Fo (H : Hp) (a : Addr) (fs : List Int) : Prop where
  at_ : H a = some (.lst (fs.map V.int))
  good : Good fs
  len : fs.length ≤ 1000
theorem Fo.ex {H H' : Hp} {a : Addr} {fs : List Int} (h : Fo H a fs) (e : Ex H H') : Fo H' a fs := ⟨e _ _ h.at_, h.good, h.len⟩
theorem Fo.sq {K : PySem.W.Frag} {H : Hp} {a : Addr} {fs : List Int} (h : Fo H a fs) : SqL K H a (fs.map V.int) := sq_of h.at_
def sp_is_number (K : PySem.W.Frag) : Sp := fun vs H Q _ => ∃ i, vs = [.int i] ∧ RetV (.bl true) H Q
def sp_is_within (K : PySem.W.Frag) : Sp := fun vs H Q _ => ∃ i j k, vs = [.int i, .int j, .int k] ∧ j ≤ i ∧ i ≤ k ∧ RetV (.bl true) H Q
def sp_is_count (K : PySem.W.Frag) : Sp := fun vs H Q _ => ∃ i, vs = [.int i] ∧ 0 ≤ i ∧ RetV (.bl true) H Q
def sp_is_counts (K : PySem.W.Frag) : Sp := fun vs H Q _ => ∃ a fs, vs = [.ref a] ∧ Fo H a fs ∧ RetV (.bl true) H Q
def sp_check_folds (K : PySem.W.Frag) : Sp := fun vs H Q _ => ∃ a fs, vs = [.ref a] ∧ Fo H a fs ∧ RetV .non H Q
def sp_check_width (K : PySem.W.Frag) : Sp := fun vs H Q _ => ∃ w : Int, vs = [.int w] ∧ 0 ≤ w ∧ w ≤ 120 ∧ RetV .non H Q
def sp_cost_at (K : PySem.W.Frag) : Sp := fun vs H Q _ => ∃ a fs, ∃ k : Nat, vs = [.ref a, .int (k : Int)] ∧ Fo H a fs ∧ k ≤ 1000 ∧ RetV (.int (cst fs k)) H Q
def sp_price (K : PySem.W.Frag) : Sp := fun vs H Q _ => ∃ a fs, ∃ k : Nat, vs = [.ref a, .int (k : Int)] ∧ Fo H a fs ∧ k ≤ 120 ∧ RetV (.int (cst fs k)) H Q
def sp_rise (K : PySem.W.Frag) : Sp := fun vs H Q _ => ∃ a fs, ∃ k : Nat, vs = [.ref a, .int (k : Int)] ∧ Fo H a fs ∧ k ≤ 1000 ∧ RetV (.int (ris fs k)) H Q
def lwV (fs : List Int) : List V := if fs = [] then [.int 0, .int 0, .non] else [.int (cst fs (firstW fs)), .int (firstW fs : Int), .int (lastW fs : Int)]
def sp_best_widths (K : PySem.W.Frag) : Sp := fun vs H Q _ => ∃ a fs, vs = [.ref a] ∧ Fo H a fs ∧ RetU (lwV fs) H Q
def sp_least_width (K : PySem.W.Frag) : Sp := fun vs H Q _ => ∃ a fs, vs = [.ref a] ∧ Fo H a fs ∧ RetU (lwV fs) H Q
section
variable {P : Program} {w : World} {K : PySem.W.Frag} {mg : Str → Option Value} {base : Heap}
theorem ok_is_number (T : Tx K mg) : FnOk P w K mg base CX0 1 T.a_is_number T.d_is_number ["value"] (sp_is_number K) := by
  refine T.f_is_number.ok (k := 0) sc_is_number (fun vs H Q E h => ?_) (fun cdv A outer s H vs Q E hr h => ?_)
  · obtain ⟨i, rfl, _⟩ := h
    rfl
  · obtain ⟨i, rfl, q⟩ := h
    refine ⟨_,       (pss_one (ps_ret (pe_and (pe_callB (id := "isinstance") (r := rIsi K) call_isi (by rfl) T.m_isinstance (by decide +kernel) (pa_cons (pv 0) (pa_cons (pe_bltn (by rfl) T.m_int (v := .ty "int") (by decide +kernel) rfl) pa_nil))) (pe_one (pe_not (pe_callB (id := "isinstance") (r := rIsi K) call_isi (by rfl) T.m_isinstance (by decide +kernel) (pa_cons (pv 0) (pa_cons (pe_bltn (by rfl) T.m_bool (v := .ty "bool") (by decide +kernel) rfl) pa_nil)))))))), ?_⟩
    exact s_ret (ev_andV (ev_isiI (b := true) (ev_var rfl) (by decide +kernel)) fun _ => ev_notV (ev_isiI (b := false) (ev_var rfl) (by decide +kernel))) q
theorem ok_is_within (T : Tx K mg) : FnOk P w K mg base CX0 2 T.a_is_within T.d_is_within ["value", "low", "high"] (sp_is_within K) := by
  refine T.f_is_within.ok (k := 1) sc_is_within (fun vs H Q E h => ?_) (fun cdv A outer s H vs Q E hr h => ?_)
  · obtain ⟨i, j, k, rfl, _⟩ := h
    rfl
  · obtain ⟨i, j, k, rfl, h1, h2, q⟩ := h
    refine ⟨_,       (pss_one (ps_ret (pe_and (pe_call (ok_is_number T) hr (by rfl) T.g_is_number T.f_is_number.kp T.b_is_number .nil pass0 (pa_cons (pv 0) pa_nil)) (pe_one (pe_chain op_le op_le (pv 1) (pv 0) (pv 2)))))), ?_⟩
    refine s_ret (ev_is (ev_andV (ev_call (ea_cons (ev_var rfl) ea_nil) (spv fun H1 e Q q E => ⟨i, rfl, q⟩)) fun _ => ev_chain (ev_var rfl) (ev_var rfl) rv_I0 (ev_var rfl) rv_I0) ?_) q
    rw [decide_eq_true h1, decide_eq_true h2]
    rfl
theorem ok_is_count (T : Tx K mg) : FnOk P w K mg base CX0 2 T.a_is_count T.d_is_count ["value"] (sp_is_count K) := by
  refine T.f_is_count.ok (k := 1) sc_is_count (fun vs H Q E h => ?_) (fun cdv A outer s H vs Q E hr h => ?_)
  · obtain ⟨i, rfl, _⟩ := h
    rfl
  · obtain ⟨i, rfl, h1, q⟩ := h
    refine ⟨_,       (pss_one (ps_ret (pe_and (pe_call (ok_is_number T) hr (by rfl) T.g_is_number T.f_is_number.kp T.b_is_number .nil pass0 (pa_cons (pv 0) pa_nil)) (pe_one (pe_cmpR op_ge (pv 0) pe_int (nomark _)))))), ?_⟩
    refine s_ret (ev_is (ev_andV (ev_call (ea_cons (ev_var rfl) ea_nil) (spv fun H1 e Q q E => ⟨i, rfl, q⟩)) fun _ => ev_op (ev_var rfl) ev_c rv_I0) ?_) q
    rw [decide_eq_true h1]
    rfl
theorem ok_is_counts (T : Tx K mg) : FnOk P w K mg base CX0 3 T.a_is_counts T.d_is_counts ["value"] (sp_is_counts K) := by
  refine T.f_is_counts.ok (k := 2) sc_is_counts (fun vs H Q E h => ?_) (fun cdv A outer s H vs Q E hr h => ?_)
  · obtain ⟨a, fs, rfl, _⟩ := h
    rfl
  · obtain ⟨a, fs, rfl, hf, q⟩ := h
    refine ⟨_,       (pss_one (ps_ret (pe_and (pe_callB (id := "isinstance") (r := rIsi K) call_isi (by rfl) T.m_isinstance (by decide +kernel) (pa_cons (pv 0) (pa_cons (pe_bltn (by rfl) T.m_list (v := .ty "list") (by decide +kernel) rfl) pa_nil))) (pe_one (pe_callB (id := "all") (r := rAll K) (cr_all rfl) (by rfl) T.m_all (by decide +kernel) (pa_cons (pe_lc (own := [("item", 1)]) (g := gName 1) (tt := tYes) rfl sc_is_counts.nd (pi_list (pv 0)) (blkOk_by (own := [("item", 1)]) (N := ["value", "item"]) (sc := defScope s_is_counts) (by decide +kernel)) (fun _ _ _ _ _ => (pg_name (i := 1) sc_is_counts.nd rfl (by first | exact Or.inl rfl | exact Or.inr rfl))) (fun _ _ _ _ _ => pts_nil) (fun _ _ _ _ _ => (pe_call (ok_is_count T) hr (by rfl) T.g_is_count T.f_is_count.kp T.b_is_count .nil pass0 (pa_cons (pv 1) pa_nil)))) pa_nil)))))), ?_⟩
    refine s_ret (ev_is (ev_andV (ev_isiL (b := true) (ev_var rfl) hf.at_ (by decide +kernel)) fun _ => ev_allN (bs := fs.map fun _ => true) ?_) ?_) q
    · rw [List.map_map]
      exact el_map (0 : Int) (V.bl ∘ fun _ => true) (ev_var rfl) hf.sq (by have := hf.len; omega) (fun _ => rfl) (fun x H1 e hx => ev_call (ea_cons (ev_var rfl) ea_nil) (spv fun H1 e Q q E => ⟨x, rfl, (hf.good x hx).1, q⟩))
    · have : (fs.map fun _ => true).all id = true := by simp
      rw [this]
      rfl
theorem ok_check_folds (T : Tx K mg) : FnOk P w K mg base CX0 4 T.a_check_folds T.d_check_folds ["folds"] (sp_check_folds K) := by
  refine T.f_check_folds.ok (k := 3) sc_check_folds (fun vs H Q E h => ?_) (fun cdv A outer s H vs Q E hr h => ?_)
  · obtain ⟨a, fs, rfl, _⟩ := h
    rfl
  · obtain ⟨a, fs, rfl, hf, q⟩ := h
    refine ⟨_,       (pss_one (ps_if (pt_not (pt_val (pe_call (ok_is_counts T) hr (by rfl) T.g_is_counts T.f_is_counts.kp T.b_is_counts .nil pass0 (pa_cons (pv 0) pa_nil)))) 
        (pss_one ps_never) pss_nil)), ?_⟩
    exact s_when (et_not (et_B (ev_call (ea_cons (ev_var rfl) ea_nil) (spv fun H1 e Q q E => ⟨a, fs, rfl, hf.ex e, q⟩)))) (fun z => by cases z) (fun _ => q)
theorem ok_check_width (T : Tx K mg) : FnOk P w K mg base CX0 3 T.a_check_width T.d_check_width ["width"] (sp_check_width K) := by
  refine T.f_check_width.ok (k := 2) sc_check_width (fun vs H Q E h => ?_) (fun cdv A outer s H vs Q E hr h => ?_)
  · obtain ⟨i, rfl, _⟩ := h
    rfl
  · obtain ⟨i, rfl, h1, h2, q⟩ := h
    refine ⟨_,       (pss_one (ps_if (pt_not (pt_val (pe_call (ok_is_within T) hr (by rfl) T.g_is_within T.f_is_within.kp T.b_is_within .nil pass0 (pa_cons (pv 0) (pa_cons pe_int (pa_cons (pe_glob (v := .int 120) rfl T.c_GREATEST_WIDTH ⟨_, rfl⟩) pa_nil)))))) 
        (pss_one ps_never) pss_nil)), ?_⟩
    exact s_when (et_not (et_B (ev_call (ea_cons (ev_var rfl) (ea_cons ev_c (ea_cons ev_c ea_nil))) (spv fun H1 e Q q E => ⟨i, 0, 120, rfl, h1, h2, q⟩)))) (fun z => by cases z) (fun _ => q)
theorem ok_cost_at (T : Tx K mg) : FnOk P w K mg base CX0 1 T.a_cost_at T.d_cost_at ["folds", "width"] (sp_cost_at K) := by
  refine T.f_cost_at.ok (k := 0) sc_cost_at (fun vs H Q E h => ?_) (fun cdv A outer s H vs Q E hr h => ?_)
  · obtain ⟨a, fs, k, rfl, _⟩ := h
    rfl
  · obtain ⟨a, fs, k, rfl, hf, hk, q⟩ := h
    refine ⟨_,       (pss_one (ps_ret (pe_op op_add (pe_callB (id := "sum") (r := rSum K) (cr_sum rfl) (by rfl) T.m_sum (by decide +kernel) (pa_cons (pe_lc (own := [("number", 2)]) (g := gName 2) (tt := tYes) rfl sc_cost_at.nd (pi_list (pv 0)) (blkOk_by (own := [("number", 2)]) (N := ["folds", "width", "number"]) (sc := defScope s_cost_at) (by decide +kernel)) (fun _ _ _ _ _ => (pg_name (i := 2) sc_cost_at.nd rfl (by first | exact Or.inl rfl | exact Or.inr rfl))) (fun _ _ _ _ _ => pts_nil) (fun _ _ _ _ _ => (pe_op op_shr (pv 2) (pv 1)))) pa_nil)) (pe_op op_mul (pe_callB (id := "len") (r := rLenS K) call_len_seq (by rfl) T.m_len PySem.boot_len (pa_cons (pv 0) pa_nil)) (pe_op op_add pe_int (pv 1)))))), ?_⟩
    refine s_ret (ev_op (ev_sumN (ns := fs.map fun u => u / 2 ^ k) ?_) (ev_op (ev_len (K := K) (ev_var rfl) hf.sq) (ev_op ev_c (ev_var rfl) rv_I0) (rv_I ?_)) rv_I0) ?_
    · rw [List.map_map]
      refine el_map (0 : Int) (V.int ∘ fun u => u / 2 ^ k) (ev_var rfl) hf.sq (by have := hf.len; omega) (fun _ => rfl) (fun x H1 e hx => ev_is (ev_op (ev_var rfl) (ev_var rfl) (rv_I (Int.natCast_nonneg k))) ?_)
      show V.int (x / 2 ^ (k : Int).toNat) = V.int (x / 2 ^ k)
      rw [Int.toNat_natCast]
    · have := hf.len
      rw [List.length_map]
      exact Or.inl ⟨by omega, by omega⟩
    · rw [List.length_map]
      exact q
theorem ok_rise (T : Tx K mg) : FnOk P w K mg base CX0 1 T.a_rise T.d_rise ["folds", "width"] (sp_rise K) := by
  refine T.f_rise.ok (k := 0) sc_rise (fun vs H Q E h => ?_) (fun cdv A outer s H vs Q E hr h => ?_)
  · obtain ⟨a, fs, k, rfl, _⟩ := h
    rfl
  · obtain ⟨a, fs, k, rfl, hf, hk, q⟩ := h
    refine ⟨_,       (pss_one (ps_ret (pe_op op_sub (pe_callB (id := "len") (r := rLenS K) call_len_seq (by rfl) T.m_len PySem.boot_len (pa_cons (pv 0) pa_nil)) (pe_callB (id := "sum") (r := rSum K) (cr_sum rfl) (by rfl) T.m_sum (by decide +kernel) (pa_cons (pe_lc (own := [("number", 2)]) (g := gName 2) (tt := tYes) rfl sc_rise.nd (pi_list (pv 0)) (blkOk_by (own := [("number", 2)]) (N := ["folds", "width", "number"]) (sc := defScope s_rise) (by decide +kernel)) (fun _ _ _ _ _ => (pg_name (i := 2) sc_rise.nd rfl (by first | exact Or.inl rfl | exact Or.inr rfl))) (fun _ _ _ _ _ => pts_nil) (fun _ _ _ _ _ => (pe_op op_fdiv (pe_op op_add (pe_op op_shr (pv 2) (pv 1)) pe_int) pe_int))) pa_nil))))), ?_⟩
    refine s_ret (ev_op (ev_len (K := K) (ev_var rfl) hf.sq) (ev_sumN (ns := fs.map fun u => (u / 2 ^ k + 1) / 2) ?_) rv_I0) ?_
    · rw [List.map_map]
      refine el_map (0 : Int) (V.int ∘ fun u => (u / 2 ^ k + 1) / 2) (ev_var rfl) hf.sq (by have := hf.len; omega) (fun _ => rfl) (fun x H1 e hx => ev_is (ev_op (ev_op (ev_op (ev_var rfl) (ev_var rfl) (rv_I (Int.natCast_nonneg k))) ev_c rv_I0) ev_c (rv_I ⟨by decide, by decide⟩)) ?_)
      show V.int ((x / 2 ^ (k : Int).toNat + 1) / 2) = V.int ((x / 2 ^ k + 1) / 2)
      rw [Int.toNat_natCast]
    · rw [List.length_map]
      exact q
theorem ok_price (T : Tx K mg) : FnOk P w K mg base CX0 5 T.a_price T.d_price ["folds", "width"] (sp_price K) := by
  refine T.f_price.ok (k := 4) sc_price (fun vs H Q E h => ?_) (fun cdv A outer s H vs Q E hr h => ?_)
  · obtain ⟨a, fs, k, rfl, _⟩ := h
    rfl
  · obtain ⟨a, fs, k, rfl, hf, hk, q⟩ := h
    refine ⟨_,       (pss_cons (ps_expr (pe_call (ok_check_folds T) hr (by rfl) T.g_check_folds T.f_check_folds.kp T.b_check_folds .nil pass0 (pa_cons (pv 0) pa_nil))) 
      (pss_cons (ps_expr (pe_call (ok_check_width T) (hr.mono (by decide)) (by rfl) T.g_check_width T.f_check_width.kp T.b_check_width .nil pass0 (pa_cons (pv 1) pa_nil))) 
      (pss_one (ps_ret (pe_call (ok_cost_at T) (hr.mono (by decide)) (by rfl) T.g_cost_at T.f_cost_at.kp T.b_cost_at .nil pass0 (pa_cons (pv 0) (pa_cons (pv 1) pa_nil))))))), ?_⟩
    refine q_drop (ev_call (ea_cons (ev_var rfl) ea_nil) (spv fun H1 e Q q E => ⟨a, fs, rfl, hf.ex e, q⟩)) fun H1 e1 => ?_
    refine q_drop (ev_call (ea_cons (ev_var rfl) ea_nil) (spv fun H1 e Q q E => ⟨(k : Int), rfl, Int.natCast_nonneg k, by omega, q⟩)) fun H2 e2 => ?_
    refine s_ret (ev_call (ea_cons (ev_var rfl) (ea_cons (ev_var rfl) ea_nil)) (spv fun H3 e Q q E => ⟨a, fs, k, rfl, hf.ex ((e1.trans e2).trans e), by omega, q⟩)) fun H3 e3 => q H3 ((e1.trans e2).trans e3)
theorem ok_best_widths (T : Tx K mg) : FnOk P w K mg base CX0 2 T.a_best_widths T.d_best_widths ["folds"] (sp_best_widths K) := by
  refine T.f_best_widths.ok (k := 1) sc_best_widths (fun vs H Q E h => ?_) (fun cdv A outer s H vs Q E hr h => ?_)
  · obtain ⟨a, fs, rfl, _⟩ := h
    rfl
  · obtain ⟨a, fs, rfl, hf, q⟩ := h
    refine ⟨_,       (pss_cons (ps_if (pt_cmpR (op_eqD hr.units) (pv 0) (pe_lst pa_nil) (nomark _)) 
        (pss_one (ps_ret (pe_tup (pa_cons pe_int (pa_cons pe_int (pa_cons pe_non pa_nil)))))) pss_nil) 
      (pss_cons (ps_set (i := 1) sc_best_widths.nd rfl (by first | exact Or.inl rfl | exact Or.inr rfl) pe_int) 
      (pss_cons (ps_while PassesOwn.never (pt_cmpR op_lt (pe_call (ok_rise T) hr (by rfl) T.g_rise T.f_rise.kp T.b_rise .nil pass0 (pa_cons (pv 0) (pa_cons (pv 1) pa_nil))) pe_int (nomark _)) 
        (pss_one (ps_aug (i := 1) sc_best_widths.nd rfl (by first | exact Or.inl rfl | exact Or.inr rfl) pe_int ip_add))) 
      (pss_cons (ps_set (i := 2) sc_best_widths.nd rfl (by first | exact Or.inl rfl | exact Or.inr rfl) (pv 1)) 
      (pss_cons (ps_while PassesOwn.never (pt_cmpR op_eq (pe_call (ok_rise T) hr (by rfl) T.g_rise T.f_rise.kp T.b_rise .nil pass0 (pa_cons (pv 0) (pa_cons (pv 2) pa_nil))) pe_int (nomark _)) 
        (pss_one (ps_aug (i := 2) sc_best_widths.nd rfl (by first | exact Or.inl rfl | exact Or.inr rfl) pe_int ip_add))) 
      (pss_one (ps_ret (pe_tup (pa_cons (pe_call (ok_cost_at T) hr (by rfl) T.g_cost_at T.f_cost_at.kp T.b_cost_at .nil pass0 (pa_cons (pv 0) (pa_cons (pv 1) pa_nil))) (pa_cons (pv 1) (pa_cons (pv 2) pa_nil))))))))))), ?_⟩
    have e1 := Ex.refl H
    refine q_when (b := decide (fs = [])) (et_test (ev_opL (xs := []) (ev_var rfl) (el_lst ea_nil (by decide)) fun p H2 hp e => rv_eqI (K := K) (ns := fs) (ms := []) ((hf.ex e1).ex e).sq (sq_of hp))) (fun z H2 e2 => ?_) (fun z H2 e2 => ?_)
    · have hz : fs = [] := of_decide_eq_true z
      refine s_retU (eu_tup (ea_cons ev_c (ea_cons ev_c (ea_cons ev_c ea_nil))) (by decide)) fun p H3 hp e3 h3 => ?_
      refine q.go (e1.trans e2) hp e3 ?_
      rw [h3]
      unfold lwV
      rw [if_pos hz]
    have ne : fs ≠ [] := of_decide_eq_false z
    have L := lw hf.good ne
    have e02 := e1.trans e2
    have hR : ∀ (j : Nat) (k : Nat) (σ : L2.St) (H3 : Hp), Ex H H3 → σ[0]? = some (some (.ref a)) → σ[j]? = some (some (.int (k : Int))) → k ≤ 40 → ∀ E : XK, Ev (tCall (sp_rise K) [] E (tCons (tVar 0) (tCons (tVar j) tNil))) σ H3 (.int (ris fs k)) := fun j k σ H3 e s0 sj hk E =>
      ev_call (ea_cons (ev_var s0) (ea_cons (ev_var sj) ea_nil)) (spv fun H1 e' Q q E => ⟨a, fs, k, rfl, hf.ex (e.trans e'), by omega, q⟩)
    refine q_asg ev_c fun H3 e3 => ?_
    refine q_while (fun m σ' H' => ∃ k : Nat, σ' = [some (.ref a), some (.int (k : Int)), none] ∧ Ex H H' ∧ k ≤ firstW fs ∧ m = 40 - k) 40 ⟨0, rfl, e02.trans e3, Nat.zero_le _, rfl⟩ (fun m σ' H' hW => ?_)
    obtain ⟨k, rfl, eH, hk, rfl⟩ := hW
    have f40 : firstW fs ≤ 40 := Nat.le_trans L.fl L.l40
    refine ⟨decide (ris fs k < 0), et_test (ev_op (hR 1 k _ H' eH rfl rfl (by omega) _) ev_c rv_I0), fun z H4 e4 => ?_, fun z H4 e4 => ?_⟩
    · have hz : ris fs k < 0 := of_decide_eq_true z
      have hlt : k < firstW fs := by
        rcases Nat.lt_or_ge k (firstW fs) with h | h
        · exact h
        · have : k = firstW fs := by omega
          have := L.at0
          subst k
          omega
      refine ⟨fun σ2 H2 => ∃ k' : Nat, σ2 = [some (.ref a), some (.int (k' : Int)), none] ∧ Ex H H2 ∧ k' ≤ firstW fs ∧ k' = k + 1, fun σ2 H2 hN => ?_, ?_⟩
      · obtain ⟨k', rfl, e', hk', rfl⟩ := hN
        exact ⟨40 - (k + 1), by omega, k + 1, rfl, e', hk', rfl⟩
      · refine s_aug (f := fun i j => i + j) rfl ev_c fun H5 e5 => ?_
        exact ⟨k + 1, rfl, (eH.trans e4).trans e5, by omega, rfl⟩
    have hz : ¬ ris fs k < 0 := of_decide_eq_false z
    have ek : k = firstW fs := by
      rcases Nat.lt_or_ge k (firstW fs) with h | h
      · exact absurd (L.lo k h) hz
      · omega
    subst ek
    refine q_asg (ev_var rfl) fun H5 e5 => ?_
    refine q_while (fun m σ' H' => ∃ k : Nat, σ' = [some (.ref a), some (.int (firstW fs : Int)), some (.int (k : Int))] ∧ Ex H H' ∧ firstW fs ≤ k ∧ k ≤ lastW fs ∧ m = 40 - k) (40 - firstW fs) ⟨firstW fs, rfl, (eH.trans e4).trans e5, Nat.le_refl _, L.fl, rfl⟩ (fun m σ' H' hW => ?_)
    obtain ⟨k, rfl, eH', hk1, hk2, rfl⟩ := hW
    have l40 := L.l40
    refine ⟨decide (V.int (ris fs k) = V.int 0), et_test (ev_op (hR 2 k _ H' eH' rfl rfl (by omega) _) ev_c (rv_eq rfl)), fun z H6 e6 => ?_, fun z H6 e6 => ?_⟩
    · have hz : ris fs k = 0 := V.int.inj (of_decide_eq_true z)
      have hlt : k < lastW fs := by
        rcases Nat.lt_or_ge k (lastW fs) with h | h
        · exact h
        · have : k = lastW fs := by omega
          have := L.hi
          subst k
          omega
      refine ⟨fun σ2 H2 => ∃ k' : Nat, σ2 = [some (.ref a), some (.int (firstW fs : Int)), some (.int (k' : Int))] ∧ Ex H H2 ∧ firstW fs ≤ k' ∧ k' ≤ lastW fs ∧ k' = k + 1, fun σ2 H2 hN => ?_, ?_⟩
      · obtain ⟨k', rfl, e', hk', hk'', rfl⟩ := hN
        exact ⟨40 - (k + 1), by omega, k + 1, rfl, e', hk', hk'', rfl⟩
      · refine s_aug (f := fun i j => i + j) rfl ev_c fun H5 e5 => ?_
        exact ⟨k + 1, rfl, (eH'.trans e6).trans e5, by omega, by omega, rfl⟩
    have hz : ¬ ris fs k = 0 := fun h => of_decide_eq_false z (by rw [h])
    have ek : k = lastW fs := by
      rcases Nat.lt_or_ge k (lastW fs) with h | h
      · exact absurd (L.mid k hk1 h) hz
      · omega
    subst ek
    have eA := eH'.trans e6
    refine s_retU (eu_tup (ea_cons (ev_call (ea_cons (ev_var rfl) (ea_cons (ev_var rfl) ea_nil)) (spv fun H1 e' Q q E => ⟨a, fs, firstW fs, rfl, hf.ex (eA.trans e'), by omega, q⟩)) (ea_cons (ev_var rfl) (ea_cons (ev_var rfl) ea_nil))) (by show 3 ≤ 100000; decide)) fun p H7 hp e7 h7 => ?_
    refine q.go eA hp e7 ?_
    rw [h7]
    unfold lwV
    rw [if_neg ne]
theorem ok_least_width (T : Tx K mg) : FnOk P w K mg base CX0 5 T.a_least_width T.d_least_width ["folds"] (sp_least_width K) := by
  refine T.f_least_width.ok (k := 4) sc_least_width (fun vs H Q E h => ?_) (fun cdv A outer s H vs Q E hr h => ?_)
  · obtain ⟨a, fs, rfl, _⟩ := h
    rfl
  · obtain ⟨a, fs, rfl, hf, q⟩ := h
    refine ⟨_,       (pss_cons (ps_expr (pe_call (ok_check_folds T) hr (by rfl) T.g_check_folds T.f_check_folds.kp T.b_check_folds .nil pass0 (pa_cons (pv 0) pa_nil))) 
      (pss_one (ps_ret (pe_call (ok_best_widths T) (hr.mono (by decide)) (by rfl) T.g_best_widths T.f_best_widths.kp T.b_best_widths .nil pass0 (pa_cons (pv 0) pa_nil))))), ?_⟩
    refine q_drop (ev_call (ea_cons (ev_var rfl) ea_nil) (spv fun H1 e Q q E => ⟨a, fs, rfl, hf.ex e, q⟩)) fun H1 e1 => ?_
    exact s_retU (eu_call (ea_cons (ev_var rfl) ea_nil) fun H2 e Q q E => ⟨a, fs, rfl, (hf.ex e1).ex e, q⟩) fun p H2 hp e2 h2 => q.go e1 hp e2 h2
end
end K41

set_option Elab.async false
set_option linter.all false
set_option maxRecDepth 100000
set_option maxHeartbeats 4000000
namespace K41
open PySem PySem.Spec PyProof.Rows L2 Evl WS M41
/-! ### the draws -/
def cellV (ns : List Int) (k : Nat) : Int := if k < ns.length then ns.getD k 0 else (ns.take 1).sum.fmod 1000003
def mixA (s i : Int) : Int := (s * 1299709 + 104729 * i * i + 31 * i + 7).fmod 2147483629
def mixB (s i : Int) : Int := (mixA s i * mixA s i + 48271 * i + 15485863).fmod 2147483587
def hashV (s i : Int) : Int := (mixB s i * 69621).fmod 2147483647
theorem fmod_in (a b : Int) (h : 0 < b) : 0 ≤ a.fmod b ∧ a.fmod b < b := by
  rw [Int.fmod_eq_emod_of_nonneg a (by omega)]
  exact ⟨Int.emod_nonneg a (by omega), Int.emod_lt_of_pos a h⟩
/-- a generator at g, of which so many numbers at most were drawn by counting -/
def Gs (H : Hp) (g : Addr) (C : Nat) : Prop := ∃ A B c : Int, H g = some (.lst [.int A, .int B, .int c]) ∧ 0 ≤ A ∧ (0 ≤ B ∧ B < 2147483648) ∧ 0 ≤ c ∧ c ≤ C
theorem Gs.ex {H H' : Hp} {g : Addr} {C : Nat} (h : Gs H g C) (e : Ex H H') : Gs H' g C := by
  obtain ⟨A, B, c, h1, h2⟩ := h
  exact ⟨A, B, c, e _ _ h1, h2⟩
theorem Gs.mono {H : Hp} {g : Addr} {C C' : Nat} (h : Gs H g C) (e : C ≤ C') : Gs H g C' := by
  obtain ⟨A, B, c, h1, h2, h3, h4, h5⟩ := h
  exact ⟨A, B, c, h1, h2, h3, h4, by omega⟩
theorem Gs.some {H : Hp} {g : Addr} {C : Nat} (h : Gs H g C) : ∃ o, H g = some o := by
  obtain ⟨A, B, c, h1, _⟩ := h
  exact ⟨_, h1⟩
def sp__law_cell (K : PySem.W.Frag) : Sp := fun vs H Q _ => ∃ a, ∃ ns : List Int, ∃ k : Nat, vs = [.ref a, .int (k : Int)] ∧ SqL K H a (ns.map V.int) ∧ ns.length ≤ 63 ∧ RetV (.int (cellV ns k)) H Q
def sp__law_hash (K : PySem.W.Frag) : Sp := fun vs H Q _ => ∃ s i : Int, vs = [.int s, .int i] ∧ (0 ≤ s ∧ s < 2147483648) ∧ (0 ≤ i ∧ i ≤ 1000000000000) ∧ RetV (.int (hashV s i)) H Q
def sp__law_generator (K : PySem.W.Frag) : Sp := fun vs H Q _ => ∃ a, ∃ ns : List Int, ∃ k : Nat, vs = [.ref a, .int (k : Int)] ∧ SqL K H a (ns.map V.int) ∧ ns.length ≤ 63 ∧ k ≤ 1000 ∧ ∀ p H2, H p = none → Ex H H2 → Gs H2 p (1000 * k) → Q (.ref p) H2
def sp__law_random (K : PySem.W.Frag) : Sp := fun vs H Q _ => ∃ g, ∃ n : Int, ∃ C : Nat, vs = [.ref g, .int n] ∧ Gs H g C ∧ C ≤ 1000000000 ∧ 1 ≤ n ∧ n ≤ 1000000000000 ∧
  ∀ z H2, 0 ≤ z → z < n → Gs H2 g (C + 4) → ExB g H H2 → Q (.int z) H2
section
variable {P : Program} {w : World} {K : PySem.W.Frag} {mg : Str → Option Value} {base : Heap}
theorem ok__law_cell (T : Tx K mg) : FnOk P w K mg base CX0 1 T.a__law_cell T.d__law_cell ["_law_script", "_law_index"] (sp__law_cell K) := by
  refine T.f__law_cell.ok (k := 0) sc__law_cell (fun vs H Q E h => ?_) (fun cdv A outer s H vs Q E hr h => ?_)
  · obtain ⟨a, ns, k, rfl, _⟩ := h
    rfl
  · obtain ⟨a, ns, k, rfl, hs, hl, q⟩ := h
    refine ⟨_,       (pss_cons (ps_if (pt_cmpR op_lt (pv 1) (pe_callB (id := "len") (r := rLenS K) call_len_seq (by rfl) T.m_len PySem.boot_len (pa_cons (pv 0) pa_nil)) (nomark _)) 
        (pss_one (ps_ret (pe_ix (r := rIxL K) ix_list (pv 0) (pv 1) (fun _ _ => rfl)))) pss_nil) 
      (pss_one (ps_ret (pe_op op_modN (pe_callB (id := "sum") (r := rSum K) (cr_sum rfl) (by rfl) T.m_sum (by decide +kernel) (pa_cons (pe_slice (r := rSlL K) sl_list (pv 0) po_none (po_some pe_int)) pa_nil)) pe_int)))), ?_⟩
    refine q_when (et_test (ev_op (ev_var rfl) (ev_len (K := K) (ev_var rfl) hs) rv_I0)) (fun z H1 e1 => ?_) (fun z H1 e1 => ?_)
    · have hz : (k : Int) < ((ns.map V.int).length : Int) := of_decide_eq_true z
      rw [List.length_map] at hz
      have hk : k < ns.length := by omega
      refine s_ret (ev_op (ev_var rfl) (ev_var rfl) (rv_ixL (K := K) (v := .int (cellV ns k)) (ex_l e1 hs) ?_)) fun H2 e2 => q H2 (e1.trans e2)
      refine atI_nat ?_
      rw [List.getElem?_map, List.getElem?_eq_getElem hk]
      unfold cellV
      rw [if_pos hk, List.getD_eq_getElem?_getD, List.getElem?_eq_getElem hk] <;> rfl
    · have hz : ¬ (k : Int) < ((ns.map V.int).length : Int) := of_decide_eq_false z
      rw [List.length_map] at hz
      have hk : ¬ k < ns.length := by omega
      refine s_ret (ev_is (ev_op (ev_sumN (K := K) (ns := ns.take 1) ?_) ev_c (rv_I (by decide))) ?_) fun H2 e2 => q H2 (e1.trans e2)
      · have k1 := el_sl (σ := start ["_law_script", "_law_index"] [V.ref a, V.int (k : Int)]) (K := K) (te := tVar 0) (ev_var rfl) eo_none (eo_some (te := tC (.int 1)) ev_c) (ex_l e1 hs)
        have ec : cutV (ns.map V.int) none (some 1) = (ns.take 1).map V.int := by
          unfold cutV
          rw [HT.sIx_none, show HT.sIx (ns.map V.int).length (ns.map V.int).length (some 1) = min 1 (ns.map V.int).length from HT.sIx_nat _ _ 1]
          cases ns with
          | nil => rfl
          | cons x r => simp
        rw [ec] at k1
        exact k1
      · unfold cellV
        rw [if_neg hk]
theorem ok__law_hash (T : Tx K mg) : FnOk P w K mg base CX0 1 T.a__law_hash T.d__law_hash ["_law_seed", "_law_index"] (sp__law_hash K) := by
  refine T.f__law_hash.ok (k := 0) sc__law_hash (fun vs H Q E h => ?_) (fun cdv A outer s H vs Q E hr h => ?_)
  · obtain ⟨s, i, rfl, _⟩ := h
    rfl
  · obtain ⟨s, i, rfl, ⟨s0, s1⟩, ⟨i0, i1⟩, q⟩ := h
    refine ⟨_,       (pss_cons (ps_set (i := 2) sc__law_hash.nd rfl (by first | exact Or.inl rfl | exact Or.inr rfl) (pe_op op_modN (pe_callTy call_int1 (by rfl) T.m_int (by decide +kernel) (pa_cons (pe_op op_add (pe_op op_add (pe_op op_add (pe_op op_mul (pv 0) pe_int) (pe_op op_mul (pe_op op_mul pe_int (pv 1)) (pv 1))) (pe_op op_mul pe_int (pv 1))) pe_int) pa_nil)) pe_int)) 
      (pss_cons (ps_set (i := 2) sc__law_hash.nd rfl (by first | exact Or.inl rfl | exact Or.inr rfl) (pe_op op_modN (pe_callTy call_int1 (by rfl) T.m_int (by decide +kernel) (pa_cons (pe_op op_add (pe_op op_add (pe_op op_mul (pv 2) (pv 2)) (pe_op op_mul pe_int (pv 1))) pe_int) pa_nil)) pe_int)) 
      (pss_one (ps_ret (pe_op op_modN (pe_callTy call_int1 (by rfl) T.m_int (by decide +kernel) (pa_cons (pe_op op_mul (pv 2) pe_int) pa_nil)) pe_int))))), ?_⟩
    have hA := fmod_in (s * 1299709 + 104729 * i * i + 31 * i + 7) 2147483629 (by decide)
    have hB := fmod_in (mixA s i * mixA s i + 48271 * i + 15485863) 2147483587 (by decide)
    refine q_asg (v := .int (mixA s i)) (ev_op (ev_int (ev_op (ev_op (ev_op (ev_op (ev_var rfl) ev_c (rv_I (Or.inr ⟨by decide, by decide⟩))) (ev_op (ev_op ev_c (ev_var rfl) (rv_I (Or.inl ⟨by decide, by decide⟩))) (ev_var rfl) (rv_I (Or.inr ⟨by omega, by omega⟩))) rv_I0) (ev_op ev_c (ev_var rfl) (rv_I (Or.inl ⟨by decide, by decide⟩))) rv_I0) ev_c rv_I0)) ev_c (rv_I (by decide))) fun H1 e1 => ?_
    have hA' : 0 ≤ mixA s i ∧ mixA s i < 2147483629 := hA
    refine q_asg (v := .int (mixB s i)) (ev_op (ev_int (ev_op (ev_op (ev_op (ev_var rfl) (ev_var rfl) (rv_I (Or.inl ⟨by omega, by omega⟩))) (ev_op ev_c (ev_var rfl) (rv_I (Or.inl ⟨by decide, by decide⟩))) rv_I0) ev_c rv_I0)) ev_c (rv_I (by decide))) fun H2 e2 => ?_
    refine s_ret (v := .int (hashV s i)) (ev_op (ev_int (ev_op (ev_var rfl) ev_c (rv_I (Or.inr ⟨by decide, by decide⟩)))) ev_c (rv_I (by decide))) fun H3 e3 => q H3 ((e1.trans e2).trans e3)
theorem ok__law_generator (T : Tx K mg) : FnOk P w K mg base CX0 2 T.a__law_generator T.d__law_generator ["_law_script", "_law_index"] (sp__law_generator K) := by
  refine T.f__law_generator.ok (k := 1) sc__law_generator (fun vs H Q E h => ?_) (fun cdv A outer s H vs Q E hr h => ?_)
  · obtain ⟨a, ns, k, rfl, _⟩ := h
    rfl
  · obtain ⟨a, ns, k, rfl, hs, hl, hk, q⟩ := h
    refine ⟨_,       (pss_cons (ps_set (i := 2) sc__law_generator.nd rfl (by first | exact Or.inl rfl | exact Or.inr rfl) (pe_call (ok__law_cell T) hr (by rfl) T.g__law_cell T.f__law_cell.kp T.b__law_cell .nil pass0 (pa_cons (pv 0) (pa_cons (pv 1) pa_nil)))) 
      (pss_one (ps_ret (pe_lst (pa_cons (pe_op op_modN (pe_callTy call_int1 (by rfl) T.m_int (by decide +kernel) (pa_cons (pe_callB (id := "max") (call_max2 rfl) (by rfl) T.m_max (by decide +kernel) (pa_cons (pe_op op_sub (pv 2) (pe_op op_powW pe_int pe_int)) (pa_cons pe_int pa_nil))) pa_nil)) (pe_op op_powW (pe_op op_powW pe_int pe_int) pe_int)) (pa_cons (pe_op op_modN (pe_callTy call_int1 (by rfl) T.m_int (by decide +kernel) (pa_cons (pv 2) pa_nil)) pe_int) (pa_cons (pe_op op_mul pe_int (pv 1)) pa_nil))))))), ?_⟩
    refine q_asg (ev_call (ea_cons (ev_var rfl) (ea_cons (ev_var rfl) ea_nil)) (spv fun H1 e Q q E => ⟨a, ns, k, rfl, ex_l e hs, hl, q⟩)) fun H1 e1 => ?_
    generalize cellV ns k = seed
    refine s_retL (el_lst (ea_cons (ev_op (ev_int (ev_max2 (ev_op (ev_var rfl) (ev_op ev_c ev_c (rv_I ⟨by decide, by decide +kernel⟩)) rv_I0) ev_c)) (ev_op (ev_op ev_c ev_c (rv_I ⟨by decide, by decide +kernel⟩)) ev_c (rv_I ⟨by decide, by decide +kernel⟩)) (rv_I (by decide +kernel))) (ea_cons (ev_op (ev_int (ev_var rfl)) ev_c (rv_I (by decide))) (ea_cons (ev_op ev_c (ev_var rfl) (rv_I (Or.inl ⟨by decide, by decide⟩))) ea_nil))) (by show 3 ≤ 100000; decide)) fun p H2 hp e2 h2 => ?_
    refine q p H2 (fresh_back e1 hp) (e1.trans e2) ⟨_, _, _, h2, (fmod_in _ _ (by decide +kernel)).1, ?_, ?_, ?_⟩
    · have := fmod_in seed 2147483647 (by decide)
      omega
    · omega
    · omega
theorem ok__law_random (T : Tx K mg) : FnOk P w K mg base CX0 2 T.a__law_random T.d__law_random ["_law_generator_here", "_law_bound"] (sp__law_random K) := by
  refine T.f__law_random.ok (k := 1) sc__law_random (fun vs H Q E h => ?_) (fun cdv A outer s H vs Q E hr h => ?_)
  · obtain ⟨g, n, C, rfl, _⟩ := h
    rfl
  · obtain ⟨g, n, C, rfl, hg, hC, hn1, hn2, q⟩ := h
    obtain ⟨A0, B, c, hg, hA, hB, hc0, hc1⟩ := hg
    refine ⟨_,       (pss_cons (ps_if (pt_cmpR op_gt (pe_ix (r := rIxL K) ix_list (pv 0) pe_int (fun _ _ => rfl)) pe_int (nomark _)) 
        (pss_cons (ps_set (i := 2) sc__law_random.nd rfl (by first | exact Or.inl rfl | exact Or.inr rfl) (pe_op op_modN (pe_callTy call_int1 (by rfl) T.m_int (by decide +kernel) (pa_cons (pe_ix (r := rIxL K) ix_list (pv 0) pe_int (fun _ _ => rfl)) pa_nil)) (pv 1))) 
        (pss_cons (ps_asg (pe_op op_fdivW (pe_ix (r := rIxL K) ix_list (pv 0) pe_int (fun _ _ => rfl)) (pv 1)) (pg_sub (pv 0) pe_int set_list)) 
        (pss_one (ps_ret (pv 2))))) pss_nil) 
      (pss_cons (ps_set (i := 2) sc__law_random.nd rfl (by first | exact Or.inl rfl | exact Or.inr rfl) pe_int) 
      (pss_cons (ps_for PassesOwn.never rfl (pi_range1 rfl T.m_range (pa_cons (pe_op op_add pe_int (pe_op op_fdiv (pe_bits (pv 1)) pe_int)) pa_nil)) (pg_name (i := 3) sc__law_random.nd rfl (by first | exact Or.inl rfl | exact Or.inr rfl)) 
        (pss_cons (ps_asg (pe_op op_add (pe_ix (r := rIxL K) ix_list (pv 0) pe_int (fun _ _ => rfl)) pe_int) (pg_sub (pv 0) pe_int set_list)) 
        (pss_one (ps_set (i := 2) sc__law_random.nd rfl (by first | exact Or.inl rfl | exact Or.inr rfl) (pe_op op_add (pe_op op_mul (pv 2) pe_int) (pe_call (ok__law_hash T) hr (by rfl) T.g__law_hash T.f__law_hash.kp T.b__law_hash .nil pass0 (pa_cons (pe_ix (r := rIxL K) ix_list (pv 0) pe_int (fun _ _ => rfl)) (pa_cons (pe_ix (r := rIxL K) ix_list (pv 0) pe_int (fun _ _ => rfl)) pa_nil)))))))) 
      (pss_one (ps_ret (pe_op op_modN (pe_callTy call_int1 (by rfl) T.m_int (by decide +kernel) (pa_cons (pv 2) pa_nil)) (pv 1))))))), ?_⟩
    refine q_when (b := decide (0 < A0)) (et_test (ev_op (ev_op (ev_var rfl) ev_c (rv_ixL (K := K) (sq_of hg) (atI_nat (j := 0) rfl))) ev_c rv_I0)) (fun z H1 e1 => ?_) (fun z H1 e1 => ?_)
    · have g1 := e1 _ _ hg
      refine q_asg (ev_op (ev_int (ev_op (ev_var rfl) ev_c (rv_ixL (K := K) (sq_of g1) (atI_nat (j := 0) rfl)))) (ev_var rfl) (rv_I (show n ≠ 0 by omega))) fun H2 e2 => ?_
      have g2 := e2 _ _ g1
      refine q_setL (j := 0) (v := .int (A0 / n)) g2 (ev_op (ev_op (ev_var rfl) ev_c (rv_ixL (K := K) (sq_of g2) (atI_nat (j := 0) rfl))) (ev_var rfl) (rv_I (wide_div (b := 64) (by omega) (by omega) (by decide) (by decide)))) (ev_var rfl) ev_c (by show 0 < 3; decide) fun H3 e3 => ?_
      have hm := fmod_in A0 n (by omega)
      refine s_ret (ev_var rfl) fun H4 e4 => q _ H4 hm.1 hm.2 ⟨A0 / n, B, c, e4 _ _ upd_same, Int.ediv_nonneg hA (by omega), hB, hc0, by omega⟩ ?_
      exact ((ExB.of ((e1.trans e2).trans e3)).upd).trans (ExB.of e4)
    · refine q_asg ev_c fun H2 e2 => ?_
      have hbits : Builtin.Int.intBits n ≤ 40 := PyProof.Rows.intBits_le (k := 40) (show n.natAbs < 2 ^ 40 by omega)
      refine q_forR1 (n := 1 + ((Builtin.Int.intBits n : Nat) : Int) / 30) (ea_cons (ev_op ev_c (ev_op (ev_bits (ev_var rfl)) ev_c (rv_I ⟨by decide, by decide⟩)) rv_I0) ea_nil) (by omega)
        (fun i σ' H' => ∃ d y3, σ' = [some (.ref g), some (.int n), some (.int d), y3] ∧ ExB g H H' ∧ H' g = some (.lst [.int A0, .int B, .int (c + (i : Int))])) (fun H3 e3 => ⟨0, none, rfl, ExB.of ((e1.trans e2).trans e3), by
          rw [((e1.trans e2).trans e3) _ _ hg, show c + ((0 : Nat) : Int) = c by omega]⟩) (fun i σ' H' hi hP => ?_) (fun σ' H' hP => ?_)
      · obtain ⟨d, y3, rfl, hE, hg'⟩ := hP
        refine q_setL (j := 2) (v := .int (c + (i : Int) + 1)) hg' (ev_op (ev_op (ev_var rfl) ev_c (rv_ixL (K := K) (sq_of hg') (atI_nat (j := 2) rfl))) ev_c rv_I0) (ev_var rfl) ev_c (by show 2 < 3; decide) fun H3 e3 => ?_
        have g3 : (upd H3 g (.lst [.int A0, .int B, .int (c + (i : Int) + 1)])) g = some (.lst [.int A0, .int B, .int (c + (i : Int) + 1)]) := upd_same
        refine s_asg (ev_op (ev_op (ev_var rfl) ev_c (rv_I (Or.inr ⟨by decide, by decide⟩))) (ev_call (ea_cons (ev_op (ev_var rfl) ev_c (rv_ixL (K := K) (sq_of g3) (atI_nat (j := 1) rfl))) (ea_cons (ev_op (ev_var rfl) ev_c (rv_ixL (K := K) (sq_of g3) (atI_nat (j := 2) rfl))) ea_nil)) (spv fun H1 e Q q E => ⟨B, c + (i : Int) + 1, rfl, hB, by omega, q⟩)) rv_I0) fun H4 e4 => ?_
        refine ⟨_, _, rfl, (hE.trans (ExB.of e3)).upd.trans (ExB.of e4), ?_⟩
        rw [e4 _ _ g3, show c + (i : Int) + 1 = c + ((i + 1 : Nat) : Int) by omega]
      · obtain ⟨d, y3, rfl, hE, hg'⟩ := hP
        have hm := fmod_in d n (by omega)
        refine s_ret (ev_op (ev_int (ev_var rfl)) (ev_var rfl) (rv_I (show n ≠ 0 by omega))) fun H4 e4 => q _ H4 hm.1 hm.2 ⟨A0, B, _, e4 _ _ hg', hA, hB, by omega, by omega⟩ (hE.trans (ExB.of e4))
end
end K41

set_option Elab.async false
set_option linter.all false
set_option maxRecDepth 100000
set_option maxHeartbeats 4000000
namespace K41
open PySem PySem.Spec PyProof.Rows L2 Evl WS M41
theorem two_le {a b : Nat} (h : a ≤ b) : (2 : Int) ^ a ≤ 2 ^ b := by
  induction h with
  | refl => exact Int.le_refl _
  | @step m _ ih =>
    have : (0 : Int) < 2 ^ m := Int.pow_pos (by decide)
    rw [Int.pow_succ]
    omega
theorem cst_one (x : Int) (k : Nat) : cst [x] k = x / 2 ^ k + 1 + (k : Int) := by
  unfold cst qs
  simp
  omega
theorem cst_take {fs : List Int} {i : Nat} {x : Int} (h : fs[i]? = some x) (k : Nat) : cst (fs.take (i + 1)) k = cst (fs.take i) k + x / 2 ^ k + 1 + (k : Int) := by
  rw [List.take_add_one, h]
  show cst (fs.take i ++ [x]) k = _
  rw [cst_app, cst_one]
  omega
theorem filt_eq {fs : List Int} (g : Good fs) (ne : fs ≠ []) : ((List.range 45).filter fun k => decide (V.int (cst fs k) = V.int (lp fs))) = (List.range 45).filter (fun k => decide (firstW fs ≤ k ∧ k ≤ lastW fs)) := by
  have L := lw g ne
  apply List.filter_congr
  intro k _
  have e : lp fs = cst fs (firstW fs) := by unfold lp; rw [if_neg ne]
  rw [e]
  have := cst_eq_iff g L k
  apply decide_eq_decide.mpr
  constructor
  · intro h; exact this.mp (V.int.inj h)
  · intro h; rw [this.mpr h]
def sp__law_price (K : PySem.W.Frag) : Sp := fun vs H Q _ => ∃ a fs, ∃ k : Nat, vs = [.ref a, .int (k : Int)] ∧ Fo H a fs ∧ k ≤ 120 ∧ RetV (.int (cst fs k)) H Q
def sp__law_least (K : PySem.W.Frag) : Sp := fun vs H Q _ => ∃ a fs, vs = [.ref a] ∧ Fo H a fs ∧ RetU (lwV fs) H Q
def sp__law_folds (K : PySem.W.Frag) : Sp := fun vs H Q _ => ∃ g, ∃ n C : Nat, vs = [.ref g, .int (n : Int)] ∧ Gs H g C ∧ n ≤ 100 ∧ C ≤ 100000000 ∧
  ∀ p fs H2, H p = none → Fo H2 p fs → fs.length ≤ n → Gs H2 g (C + 10000) → ExB g H H2 → Q (.ref p) H2
section
variable {P : Program} {w : World} {K : PySem.W.Frag} {mg : Str → Option Value} {base : Heap}
theorem ok__law_price (T : Tx K mg) : FnOk P w K mg base CX0 1 T.a__law_price T.d__law_price ["_law_folds_here", "_law_width"] (sp__law_price K) := by
  refine T.f__law_price.ok (k := 0) sc__law_price (fun vs H Q E h => ?_) (fun cdv A outer s H vs Q E hr h => ?_)
  · obtain ⟨a, fs, k, rfl, _⟩ := h
    rfl
  · obtain ⟨a, fs, k, rfl, hf, hk, q⟩ := h
    refine ⟨_,       (pss_cons (ps_set (i := 2) sc__law_price.nd rfl (by first | exact Or.inl rfl | exact Or.inr rfl) pe_int) 
      (pss_cons (ps_for PassesOwn.never rfl (pi_list (pv 0)) (pg_name (i := 3) sc__law_price.nd rfl (by first | exact Or.inl rfl | exact Or.inr rfl)) 
        (pss_one (ps_set (i := 2) sc__law_price.nd rfl (by first | exact Or.inl rfl | exact Or.inr rfl) (pe_op op_add (pe_op op_add (pe_op op_add (pv 2) (pe_op op_fdivW (pv 3) (pe_op op_shlW pe_int (pv 1)))) pe_int) (pv 1))))) 
      (pss_one (ps_ret (pv 2))))), ?_⟩
    refine q_asg ev_c fun H1 e1 => ?_
    refine q_forLn (xs := fs.map V.int) (K := K) (ev_var rfl) (hf.ex e1).sq (fun i σ' H' => ∃ y, σ' = [some (.ref a), some (.int (k : Int)), some (.int (cst (fs.take i) k)), y] ∧ Ex H H') (fun H2 e2 => ⟨none, ?_, e1.trans e2⟩) (fun i σ' H' _ hP => ?_) (fun i x σ' H' hx hP => ?_) (fun σ' H' hP => ?_)
    · show _ = [some (V.ref a), some (V.int (k : Int)), some (V.int (cst (fs.take 0) k)), none]
      rw [List.take_zero]
      unfold cst qs
      simp
      rfl
    · obtain ⟨y, _, e⟩ := hP
      exact (hf.ex e).sq
    · obtain ⟨y, rfl, e⟩ := hP
      rw [List.getElem?_map] at hx
      cases hq : fs[i]? with
      | none => rw [hq] at hx; cases hx
      | some z =>
        rw [hq] at hx
        have ez : V.int z = x := Option.some.inj hx
        subst ez
        have h2 := show (0 : Int) < 2 ^ k from Int.pow_pos (by decide)
        have hlt : ((1 : Int) * 2 ^ (k : Int).toNat).natAbs < 2 ^ 130 := by
          rw [Int.one_mul, Int.toNat_natCast, Int.natAbs_pow]
          exact Nat.lt_of_le_of_lt (Nat.pow_le_pow_right (by decide) hk) (by decide)
        refine s_asg (ev_op (ev_op (ev_op (ev_var rfl) (ev_op (ev_var rfl) (ev_op ev_c (ev_var rfl) (rv_I (shl_ok (n := 1) (j := k) (by decide) (by omega)))) (rv_I (wide_div (b := 130) ?_ hlt (by decide) (by decide)))) rv_I0) ev_c rv_I0) (ev_var rfl) rv_I0) fun H2 e2 => ?_
        · rw [Int.one_mul, Int.toNat_natCast]
          exact h2
        · refine ⟨some (V.int z), ?_, e.trans e2⟩
          rw [cst_take hq k, Int.one_mul, Int.toNat_natCast]
          rfl
    · obtain ⟨y, rfl, e⟩ := hP
      refine s_ret (ev_var rfl) fun H3 e3 => ?_
      rw [List.length_map, List.take_length]
      exact q H3 (e.trans e3)
theorem ok__law_least (T : Tx K mg) : FnOk P w K mg base CX0 2 T.a__law_least T.d__law_least ["_law_folds_here"] (sp__law_least K) := by
  refine T.f__law_least.ok (k := 1) sc__law_least (fun vs H Q E h => ?_) (fun cdv A outer s H vs Q E hr h => ?_)
  · obtain ⟨a, fs, rfl, _⟩ := h
    rfl
  · obtain ⟨a, fs, rfl, hf, q⟩ := h
    refine ⟨_,       (pss_cons (ps_set (i := 1) sc__law_least.nd rfl (by first | exact Or.inl rfl | exact Or.inr rfl) (pe_lc (own := [("_law_width", 3)]) (g := gName 3) (tt := tYes) rfl sc__law_least.nd (pi_range1 rfl T.m_range (pa_cons pe_int pa_nil)) (blkOk_by (own := [("_law_width", 3)]) (N := ["_law_folds_here", "_law_prices", "_law_widths", "_law_width"]) (sc := defScope s__law_least) (by decide +kernel)) (fun _ _ _ _ _ => (pg_name (i := 3) sc__law_least.nd rfl (by first | exact Or.inl rfl | exact Or.inr rfl))) (fun _ _ _ _ _ => pts_nil) (fun _ _ _ _ _ => (pe_call (ok__law_price T) hr (by rfl) T.g__law_price T.f__law_price.kp T.b__law_price .nil pass0 (pa_cons (pv 0) (pa_cons (pv 3) pa_nil)))))) 
      (pss_cons (ps_setLc (i := 2) (own := [("_law_width", 3)]) (g := gName 3) rfl sc__law_least.nd rfl rfl (sw_true rfl rfl rfl (by decide +kernel)) (pi_range1 rfl T.m_range (pa_cons pe_int pa_nil)) (blkOk_by (own := [("_law_width", 3)]) (N := ["_law_folds_here", "_law_prices", "_law_widths", "_law_width"]) (sc := defScope s__law_least) (by decide +kernel)) (fun _ _ _ _ _ => (pg_name (i := 3) sc__law_least.nd rfl (by first | exact Or.inl rfl | exact Or.inr rfl))) (fun _ _ _ _ _ => (pts_one (pt_cmpR op_eq (pe_ix (r := rIxL K) ix_list (pv 1) (pv 3) (fun _ _ => rfl)) (pe_callB (id := "min") (r := rMin K) (cr_min rfl) (by rfl) T.m_min (by decide +kernel) (pa_cons (pv 1) pa_nil)) (nomark _)))) (fun _ _ _ _ _ => (pv 3))) 
      (pss_one (ps_ret (pe_ifExp (pt_cmpR (op_neD hr.units) (pv 0) (pe_lst pa_nil) (nomark _)) (pe_tup (pa_cons (pe_callB (id := "min") (r := rMin K) (cr_min rfl) (by rfl) T.m_min (by decide +kernel) (pa_cons (pv 1) pa_nil)) (pa_cons (pe_ix (r := rIxL K) ix_list (pv 2) pe_int (fun _ _ => rfl)) (pa_cons (pe_ix (r := rIxL K) ix_list (pv 2) (pe_un un_neg pe_int) (fun _ _ => rfl)) pa_nil)))) (pe_tup (pa_cons pe_int (pa_cons pe_int (pa_cons pe_non pa_nil))))))))), ?_⟩
    refine q_asgL (xs := ((List.range 45).map fun k => cst fs k).map V.int) ?_ fun pp H1 hpp e1 h1 => ?_
    · rw [List.map_map]
      exact el_mapR (n := 45) (V.int ∘ fun k => cst fs k) (ea_cons ev_c ea_nil) (by decide) (fun _ => rfl) (fun i H1 e hi => ev_call (ea_cons (ev_var rfl) (ea_cons (ev_var rfl) ea_nil)) (spv fun H2 e2 Q q E => ⟨a, fs, i, rfl, hf.ex (e.trans e2), by omega, q⟩))
    have hmem : lp fs ∈ (List.range 45).map fun k => cst fs k := by
      rw [List.mem_map]
      by_cases ne : fs = []
      · exact ⟨0, by decide, by subst ne; rfl⟩
      · have L := lw hf.good ne
        refine ⟨firstW fs, List.mem_range.mpr (by have := L.fl; have := L.l40; omega), ?_⟩
        unfold lp
        rw [if_neg ne]
    have hle : ∀ y ∈ (List.range 45).map (fun k => cst fs k), lp fs ≤ y := fun y hy => by
      obtain ⟨k, _, rfl⟩ := List.mem_map.mp hy
      exact lp_le hf.good k
    refine q_asgL (xs := given 45 (fun k => decide (V.int (cst fs k) = V.int (lp fs))) fun k => V.int (k : Int)) (el_lcR1 (n := 45) _ _ (ea_cons ev_c ea_nil) (by decide) (fun _ => rfl) (fun i H2 e hi => ?_) (fun i H2 e hi _ => ev_var rfl)) fun pw H2 hpw e2 h2 => ?_
    · refine et_test (ev_op (ev_op (ev_var rfl) (ev_var rfl) (rv_ixL (K := K) (v := .int (cst fs i)) (sq_of (e _ _ h1)) (atI_nat ?_))) (ev_min (K := K) (ev_var rfl) (sq_of (e _ _ h1)) hmem hle) (rv_eq rfl))
      rw [List.getElem?_map, List.getElem?_map, List.getElem?_range (by omega)]
      rfl
    have e12 := e1.trans e2
    have h1' := e2 _ _ h1
    refine s_retU (xs := lwV fs) (eu_if (b := !decide (fs = [])) (et_test (ev_opL (xs := []) (ev_var rfl) (el_lst ea_nil (by decide)) fun p H3 hp e => rv_neI (K := K) (ns := fs) (ms := []) ((hf.ex e12).ex e).sq (sq_of hp))) (fun z => ?_) (fun z => ?_)) fun p H3 hp e3 h3 => q.go e12 hp e3 h3
    · have ne : fs ≠ [] := fun h => by rw [h] at z; exact absurd z (by decide)
      have L := lw hf.good ne
      have hw := wid (firstW fs) (by have := L.fl; have := L.l40; omega) (lastW fs) (by have := L.l40; omega) L.fl
      have eg : given 45 (fun k => decide (V.int (cst fs k) = V.int (lp fs))) (fun k => V.int (k : Int)) = ((List.range 45).filter (fun k => decide (firstW fs ≤ k ∧ k ≤ lastW fs))).map fun k : Nat => V.int (k : Int) := by
        unfold given
        rw [filt_eq hf.good ne]
      rw [eg] at h2
      have ei : lwV fs = [.int (lp fs), .int (firstW fs : Int), .int (lastW fs : Int)] := by
        unfold lwV lp
        rw [if_neg ne, if_neg ne]
      rw [ei]
      refine eu_tup (ea_cons (ev_min (K := K) (ev_var rfl) (sq_of h1') hmem hle) (ea_cons (ev_op (ev_var rfl) ev_c (rv_ixL (K := K) (sq_of h2) (atI_nat (j := 0) ?_))) (ea_cons (ev_op (ev_var rfl) (ev_un ev_c ru_neg) (rv_ixL (K := K) (sq_of h2) ?_)) ea_nil))) (by show 3 ≤ 100000; decide)
      · rw [List.getElem?_map, hw.1]
        rfl
      · generalize (List.range 45).filter (fun k => decide (firstW fs ≤ k ∧ k ≤ lastW fs)) = F at hw
        have hF : F ≠ [] := fun h => by rw [h] at hw; cases hw.1
        have hl : F.getLast hF = lastW fs := by
          have := hw.2
          rw [List.getLast?_eq_getLast hF] at this
          exact Option.some.inj this
        have hz : (F.map fun k : Nat => V.int (k : Int)) = (F.dropLast.map fun k : Nat => V.int (k : Int)) ++ [V.int (lastW fs : Int)] := by
          rw [← hl, ← List.map_singleton (f := fun k : Nat => V.int (k : Int)), ← List.map_append, List.dropLast_concat_getLast]
        rw [hz]
        exact atI_last _ _
    · have hn : fs = [] := by
        by_cases h : fs = []
        · exact h
        · rw [decide_eq_false h] at z
          cases z
      have ei : lwV fs = [.int 0, .int 0, .non] := by
        unfold lwV
        rw [if_pos hn]
      rw [ei]
      exact eu_tup (ea_cons ev_c (ea_cons ev_c (ea_cons ev_c ea_nil))) (by show 3 ≤ 100000; decide)
theorem ok__law_folds (T : Tx K mg) : FnOk P w K mg base CX0 3 T.a__law_folds T.d__law_folds ["_law_generator_here", "_law_most"] (sp__law_folds K) := by
  refine T.f__law_folds.ok (k := 2) sc__law_folds (fun vs H Q E h => ?_) (fun cdv A outer s H vs Q E hr h => ?_)
  · obtain ⟨g, n, C, rfl, _⟩ := h
    rfl
  · obtain ⟨g, n, C, rfl, hg, hn, hC, q⟩ := h
    refine ⟨_,       (pss_cons (ps_par (i := 2) (j := 3) (by rfl) sc__law_folds.nd rfl rfl (by decide) rfl rfl (pa_cons (pe_lst pa_nil) (pa_cons (pe_call (ok__law_random T) hr (by rfl) T.g__law_random T.f__law_random.kp T.b__law_random .nil pass0 (pa_cons (pv 0) (pa_cons pe_int pa_nil))) pa_nil)) (by rfl)) 
      (pss_cons (ps_for PassesOwn.never rfl (pi_range1 rfl T.m_range (pa_cons (pe_call (ok__law_random T) hr (by rfl) T.g__law_random T.f__law_random.kp T.b__law_random .nil pass0 (pa_cons (pv 0) (pa_cons (pe_op op_add (pv 1) pe_int) pa_nil))) pa_nil)) (pg_name (i := 4) sc__law_folds.nd rfl (by first | exact Or.inl rfl | exact Or.inr rfl)) 
        (pss_cons (ps_par (i := 5) (j := 6) (by rfl) sc__law_folds.nd rfl rfl (by decide) rfl rfl (pa_cons (pe_call (ok__law_random T) hr (by rfl) T.g__law_random T.f__law_random.kp T.b__law_random .nil pass0 (pa_cons (pv 0) (pa_cons pe_int pa_nil))) (pa_cons (pe_call (ok__law_random T) hr (by rfl) T.g__law_random T.f__law_random.kp T.b__law_random .nil pass0 (pa_cons (pv 0) (pa_cons pe_int pa_nil))) pa_nil)) (by rfl)) 
        (pss_cons (ps_set (i := 7) sc__law_folds.nd rfl (by first | exact Or.inl rfl | exact Or.inr rfl) (pe_op op_sub (pe_op op_add (pe_op op_shlW pe_int (pe_call (ok__law_random T) hr (by rfl) T.g__law_random T.f__law_random.kp T.b__law_random .nil pass0 (pa_cons (pv 0) (pa_cons pe_int pa_nil)))) (pe_call (ok__law_random T) hr (by rfl) T.g__law_random T.f__law_random.kp T.b__law_random .nil pass0 (pa_cons (pv 0) (pa_cons pe_int pa_nil)))) pe_int)) 
        (pss_one (ps_expr (pe_bm PySem.F.plainAttrs_list PySem.F.slot_list_append PySem.F.type_list_append mt_append (pv 2) (pa_cons (pe_ix (r := rIxL K) ix_list (pe_lst (pa_cons (pv 5) (pa_cons (pv 5) (pa_cons (pe_call (ok__law_random T) hr (by rfl) T.g__law_random T.f__law_random.kp T.b__law_random .nil pass0 (pa_cons (pv 0) (pa_cons (pe_op op_shlW pe_int (pv 6)) pa_nil))) (pa_cons (pv 7) (pa_cons (pe_op op_mul (pv 5) (pe_callTy call_int1 (by rfl) T.m_int (by decide +kernel) (pa_cons (pe_cmpR op_lt (pv 6) pe_int (nomark _)) pa_nil))) pa_nil)))))) (pv 3) (fun _ _ => rfl)) pa_nil))))))) 
      (pss_one (ps_ret (pv 2))))), ?_⟩
    -- found, kind
    refine ⟨Nat.zero_le _, fun l hl => ?_⟩
    have e0 : Ex H (upd H l (.lst [])) := Ex.new hl
    refine ⟨.ref g, rfl, g, 5, C, rfl, hg.ex e0, by omega, by decide, by decide, fun kind H1 k0 k5 hg1 hE1 => ?_⟩
    obtain ⟨og, hog⟩ := hg.some
    have lg : l ≠ g := fun h => by rw [h, hog] at hl; cases hl
    have hl1 : H1 l = some (.lst ((([] : List Int)).map V.int)) := hE1 l _ lg upd_same
    have hE01 : ExB g H H1 := (ExB.of e0).trans hE1
    refine ⟨_, _, rfl, ?_⟩
    -- range(random(g, most + 1))
    refine ⟨.ref g, rfl, .int (n : Int), rfl, (n : Int), 1, rfl, rfl, g, (n : Int) + 1, C + 4, rfl, hg1, by omega, by omega, by omega, fun turns H2 t0 t1 hg2 hE2 => ?_⟩
    have hl2 : H2 l = some (.lst ((([] : List Int)).map V.int)) := hE2 l _ lg hl1
    refine ⟨turns, rfl, by omega, by omega, for_range (lo := 0) (n := turns.toNat) (fun i σ' H' => ∃ (fs : List Int) (y4 y5 y6 y7 : Option V), σ' = [some (.ref g), some (.int (n : Int)), some (.ref l), some (.int kind), y4, y5, y6, y7] ∧ ExB g H H' ∧ H' l = some (.lst (fs.map V.int)) ∧ Good fs ∧ fs.length = i ∧ Gs H' g (C + 8 + 20 * i))
      ⟨[], none, none, none, none, rfl, hE01.trans hE2, hl2, fun u hu => absurd hu (List.not_mem_nil), rfl, hg2⟩ (fun i σ' H' hi hP => ?_) (fun σ' H' hP => ?_)⟩
    · obtain ⟨fs, y4, y5, y6, y7, rfl, hE, hL, hG, hlen, hg'⟩ := hP
      have hi' : i < 100 := by omega
      -- small, deep
      refine ⟨.ref g, rfl, g, 9, _, rfl, hg', by omega, by decide, by decide, fun small H3 s0 s1 hg3 hE3 => ?_⟩
      refine ⟨.ref g, rfl, g, 12, _, rfl, hg3, by omega, by decide, by decide, fun deep H4 d0 d1 hg4 hE4 => ?_⟩
      refine ⟨_, _, rfl, ?_⟩
      -- far
      refine ⟨.ref g, rfl, g, 38, _, rfl, hg4, by omega, by decide, by decide, fun sh H5 sh0 sh1 hg5 hE5 => ?_⟩
      refine ⟨1, sh, rfl, rfl, ⟨sh0, ?_⟩, ?_⟩
      · have : Builtin.Int.intBits 1 ≤ 1 := PyProof.Rows.intBits_le (k := 1) (by decide)
        have e27 : (2 : Int) ^ 27 = 134217728 := by decide
        omega
      refine ⟨.ref g, rfl, g, 3, _, rfl, hg5, by omega, by decide, by decide, fun th H6 th0 th1 hg6 hE6 => ?_⟩
      refine ⟨_, _, rfl, rfl, _, 1, rfl, rfl, ?_⟩
      have hfar : 0 ≤ 1 * 2 ^ sh.toNat + th - 1 ∧ 1 * 2 ^ sh.toNat + th - 1 < 2 ^ 40 := by
        have a1 : (1 : Int) ≤ 2 ^ sh.toNat := by
          have : (0 : Int) < 2 ^ sh.toNat := Int.pow_pos (by decide)
          omega
        have a2 : (2 : Int) ^ sh.toNat ≤ 2 ^ 37 := two_le (by omega)
        have e37 : (2 : Int) ^ 37 = 137438953472 := by decide
        have e40 : (2 : Int) ^ 40 = 1099511627776 := by decide
        omega
      -- append([..][kind])
      have hE36 : ExB g H H6 := (((hE.trans hE3).trans hE4).trans hE5).trans hE6
      have hL6 : H6 l = some (.lst (fs.map V.int)) := hE6 l _ lg (hE5 l _ lg (hE4 l _ lg (hE3 l _ lg hL)))
      refine ⟨.ref l, rfl, Or.inl ⟨rfl, _, Or.inl (Or.inl hL6)⟩, ?_⟩
      refine ⟨.int small, rfl, .int small, rfl, ?_⟩
      refine ⟨.ref g, rfl, .int deep, rfl, 1, deep, rfl, rfl, ⟨d0, ?_⟩, g, 1 * 2 ^ deep.toNat, _, rfl, hg6, by omega, ?_, ?_, fun rn H7 r0 r1 hg7 hE7 => ?_⟩
      · have : Builtin.Int.intBits 1 ≤ 1 := PyProof.Rows.intBits_le (k := 1) (by decide)
        have e27 : (2 : Int) ^ 27 = 134217728 := by decide
        omega
      · have : (0 : Int) < 2 ^ deep.toNat := Int.pow_pos (by decide)
        omega
      · have a2 : (2 : Int) ^ deep.toNat ≤ 2 ^ 11 := two_le (by omega)
        have e11 : (2 : Int) ^ 11 = 2048 := by decide
        omega
      have hrn : rn < 2048 := by
        have a2 : (2 : Int) ^ deep.toNat ≤ 2 ^ 11 := two_le (by omega)
        have e11 : (2 : Int) ^ 11 = 2048 := by decide
        omega
      refine ⟨_, rfl, .int small, rfl, .int deep, rfl, deep, 3, rfl, rfl, Or.inr ⟨_, rfl, small, _, rfl, rfl, Or.inl ⟨by omega, by omega⟩, ?_⟩⟩
      have hmul : 0 ≤ small * (if decide (deep < 3) = true then 1 else 0) ∧ small * (if decide (deep < 3) = true then 1 else 0) < 9 := by
        split <;> omega
      refine ⟨by show 5 ≤ sizeLine; decide, fun lp hlp => ?_⟩
      have hL7 : H7 l = some (.lst (fs.map V.int)) := hE7 l _ lg hL6
      have lpl : l ≠ lp := fun h => by rw [← h, hL7] at hlp; cases hlp
      have e7 : Ex H7 (upd H7 lp (.lst [.int small, .int small, .int rn, .int (1 * 2 ^ sh.toNat + th - 1), .int (small * (if decide (deep < 3) = true then 1 else 0))])) := Ex.new hlp
      obtain ⟨x, hx, hxg⟩ : ∃ x : Int, atI [V.int small, V.int small, V.int rn, V.int (1 * 2 ^ sh.toNat + th - 1), V.int (small * (if decide (deep < 3) = true then 1 else 0))] kind = some (.int x) ∧ 0 ≤ x ∧ x < 2 ^ 40 := by
        have e40 : (2 : Int) ^ 40 = 1099511627776 := by decide
        have hk : kind = 0 ∨ kind = 1 ∨ kind = 2 ∨ kind = 3 ∨ kind = 4 := by omega
        rcases hk with rfl | rfl | rfl | rfl | rfl
        · exact ⟨small, rfl, by omega, by omega⟩
        · exact ⟨small, rfl, by omega, by omega⟩
        · exact ⟨rn, rfl, by omega, by omega⟩
        · exact ⟨_, rfl, hfar⟩
        · exact ⟨_, rfl, hmul.1, by omega⟩
      refine ⟨.int kind, rfl, lp, _, kind, .int x, rfl, rfl, Or.inl (Or.inl upd_same), hx, ?_⟩
      refine ⟨l, fs.map V.int, .int x, rfl, rfl, e7 _ _ hL7, ?_, ?_⟩
      · rw [List.length_map]
        exact small1000 (by omega)
      · refine ⟨fs ++ [x], _, _, _, _, rfl, ?_, ?_, ?_, ?_, ?_⟩
        · refine fun a o n h => ?_
          have hal : a ≠ l := fun e => by rw [e, hl] at h; cases h
          rw [upd_ne hal]
          exact e7 a o (hE7 a o n (hE36 a o n h))
        · rw [upd_same, List.map_append]
          rfl
        · intro u hu
          rcases List.mem_append.mp hu with h | h
          · exact hG u h
          · rw [List.mem_singleton] at h
            rw [h]
            exact hxg
        · rw [List.length_append, hlen]
          rfl
        · obtain ⟨A0, B0, c0, w1, w2, w3, w4, w5⟩ := hg7
          refine ⟨A0, B0, c0, ?_, w2, w3, w4, by omega⟩
          rw [upd_ne (Ne.symm lg)]
          exact e7 _ _ w1
    · obtain ⟨fs, y4, y5, y6, y7, rfl, hE, hL, hG, hlen, hg'⟩ := hP
      exact ⟨.ref l, rfl, q l fs H' hl ⟨hL, hG, by omega⟩ (by omega) (hg'.mono (by omega)) hE⟩
end
end K41

set_option Elab.async false
set_option linter.all false
set_option maxRecDepth 100000
set_option maxHeartbeats 4000000
namespace K41
open PySem PySem.Spec PyProof.Rows L2 Evl WS M41
/-- what a due tuple holds -/
theorem due_of {fs : List Int} (g : Good fs) : ∃ (c : Int) (f : Nat) (z : V) (n : Int), lwV fs = [.int c, .int (f : Int), z] ∧ isSc z = true ∧ ((z = .non ∧ n = (f : Int)) ∨ ∃ l : Int, z = .int l ∧ n = l + 1) ∧ f ≤ 40 ∧ n ≤ 41 ∧ -100000 ≤ n ∧
    ∀ w : Nat, f ≤ w → (w : Int) < n → cst fs w = c := by
  by_cases e : fs = []
  · refine ⟨0, 0, .non, 0, ?_, rfl, Or.inl ⟨rfl, rfl⟩, by omega, by omega, by omega, fun w h1 h2 => by omega⟩
    unfold lwV
    rw [if_pos e]
    rfl
  · have L := lw g e
    refine ⟨cst fs (firstW fs), firstW fs, .int (lastW fs : Int), (lastW fs : Int) + 1, ?_, rfl, Or.inr ⟨_, rfl, rfl⟩, Nat.le_trans L.fl L.l40, by have := L.l40; omega, by omega, fun w h1 h2 => cst_flat L w h1 (by omega)⟩
    unfold lwV
    rw [if_neg e]
theorem lw_at0 (fs : List Int) : (lwV fs)[0]? = some (.int (lp fs)) := by
  unfold lwV lp
  by_cases e : fs = []
  · rw [if_pos e, if_pos e]; rfl
  · rw [if_neg e, if_neg e]; rfl
theorem lw_rev (fs : List Int) : lwV fs.reverse = lwV fs := by
  unfold lwV
  by_cases e : fs = []
  · subst e; rfl
  · rw [if_neg e, if_neg (by simpa using e), first_rev, last_rev, cst_rev]
theorem lw_sc (fs : List Int) : (lwV fs).all isSc = true := by
  unfold lwV
  split <;> rfl
theorem conv {fs : List Int} (g : Good fs) (k : Nat) : ¬ cst fs (k + 2) - cst fs (k + 1) < cst fs (k + 1) - cst fs k := by
  have a := cst_step fs k
  have b := cst_step fs (k + 1)
  have c := ris_step g k
  have e : k + 1 + 1 = k + 2 := rfl
  rw [e] at b
  omega
instance (fs : List Int) : Decidable (M41.Good fs) := by unfold M41.Good; infer_instance
def AllFo (H : Hp) (xs : List V) : Prop := ∀ x ∈ xs, ∃ p fs, x = V.ref p ∧ Fo H p fs
theorem AllFo.ex {H H' : Hp} {xs : List V} (h : AllFo H xs) (e : Ex H H') : AllFo H' xs := fun x hx => by
  obtain ⟨p, fs, h1, h2⟩ := h x hx
  exact ⟨p, fs, h1, h2.ex e⟩
theorem Fo.exb {g : Addr} {H H' : Hp} {a : Addr} {fs : List Int} (h : Fo H a fs) (e : ExB g H H') (n : a ≠ g) : Fo H' a fs := ⟨e _ _ n h.at_, h.good, h.len⟩
def sp_law (K : PySem.W.Frag) : Sp := fun vs H Q _ => ∃ a, ∃ ns : List Int, vs = [.ref a] ∧ SqL K H a (ns.map V.int) ∧ ns.length ≤ 63 ∧ ∀ H', Q (.bl true) H'
section
variable {P : Program} {w : World} {K : PySem.W.Frag} {mg : Str → Option Value} {base : Heap}
theorem ok_law (T : Tx K mg) : FnOk P w K mg base CX0 6 T.a_law T.d_law ["_law_script"] (sp_law K) := by
  refine T.f_law.ok (k := 5) sc_law (fun vs H Q E h => ?_) (fun cdv A outer s H vs Q E hr h => ?_)
  · obtain ⟨a, ns, rfl, _⟩ := h
    rfl
  · obtain ⟨a, ns, rfl, hS, hl, q⟩ := h
    refine ⟨_,       (pss_cons (ps_set (i := 1) sc_law.nd rfl (by first | exact Or.inl rfl | exact Or.inr rfl) (pe_call (ok__law_generator T) (hr.mono (by decide)) (by rfl) T.g__law_generator T.f__law_generator.kp T.b__law_generator .nil pass0 (pa_cons (pv 0) (pa_cons pe_int pa_nil)))) 
      (pss_cons (ps_par (i := 2) (j := 3) (by rfl) sc_law.nd rfl rfl (by decide) rfl rfl (pa_cons (pe_call (ok__law_folds T) (hr.mono (by decide)) (by rfl) T.g__law_folds T.f__law_folds.kp T.b__law_folds .nil pass0 (pa_cons (pv 1) (pa_cons pe_int pa_nil))) (pa_cons (pe_call (ok__law_folds T) (hr.mono (by decide)) (by rfl) T.g__law_folds T.f__law_folds.kp T.b__law_folds .nil pass0 (pa_cons (pv 1) (pa_cons pe_int pa_nil))) pa_nil)) (by rfl)) 
      (pss_cons (ps_set (i := 4) sc_law.nd rfl (by first | exact Or.inl rfl | exact Or.inr rfl) (pe_lst (pa_cons (pv 2) (pa_cons (pv 3) (pa_cons (pe_op op_cat (pv 2) (pv 3)) (pa_cons (pe_op op_rep (pe_slice (r := rSlL K) sl_list (pe_op op_cat (pv 2) (pe_lst (pa_cons pe_int pa_nil))) po_none (po_some pe_int)) (pe_op op_add pe_int (pe_call (ok__law_random T) (hr.mono (by decide)) (by rfl) T.g__law_random T.f__law_random.kp T.b__law_random .nil pass0 (pa_cons (pv 1) (pa_cons pe_int pa_nil))))) (pa_cons (pe_lst pa_nil) (pa_cons (pe_lst (pa_cons pe_int pa_nil)) (pa_cons (pe_lst (pa_cons pe_int pa_nil)) (pa_cons (pe_lst (pa_cons pe_int (pa_cons pe_int pa_nil))) (pa_cons (pe_lst (pa_cons pe_int (pa_cons pe_int pa_nil))) pa_nil))))))))))) 
      (pss_cons (ps_for PassesOwn.never rfl (pi_list (pe_op op_cat (pv 4) (pe_lst (pa_cons (pe_lst (pa_cons (pe_op op_add (pe_op op_shlW pe_int pe_int) pe_int) (pa_cons pe_int pa_nil))) (pa_cons (pe_lst (pa_cons pe_int (pa_cons pe_int (pa_cons pe_int pa_nil)))) pa_nil))))) (pg_name (i := 5) sc_law.nd rfl (by first | exact Or.inl rfl | exact Or.inr rfl)) 
        (pss_cons (ps_par (i := 6) (j := 7) (by rfl) sc_law.nd rfl rfl (by decide) rfl rfl (pa_cons (pe_callTy (T := "list") (r := rListS K) call_list_of (by rfl) T.m_list (by decide +kernel) (pa_cons (pv 5) pa_nil)) (pa_cons (pe_call (ok__law_least T) (hr.mono (by decide)) (by rfl) T.g__law_least T.f__law_least.kp T.b__law_least .nil pass0 (pa_cons (pv 5) pa_nil)) pa_nil)) (by rfl)) 
        (pss_cons (ps_if (PW.pt (pw_or (pt_cmpR (op_neD hr.units) (pe_call (ok_least_width T) hr (by rfl) T.g_least_width T.f_least_width.kp T.b_least_width .nil pass0 (pa_cons (pv 5) pa_nil)) (pv 7) (nomark _)) (pw_or (pt_cmpR (op_neD hr.units) (pe_call (ok_least_width T) hr (by rfl) T.g_least_width T.f_least_width.kp T.b_least_width .nil pass0 (pa_cons (pe_revL (pv 5)) pa_nil)) (pv 7) (nomark _)) (pw_or1 (pt_cmpR (op_neD hr.units) (pv 5) (pv 6) (nomark _)))))) 
          (pss_one (ps_ret pe_bl)) pss_nil) 
        (pss_cons (ps_for PassesOwn.never rfl (pi_range2 rfl T.m_range (pa_cons (pe_ix (r := rIxT K) ix_tup (pv 7) pe_int (fun _ _ => rfl)) (pa_cons (pe_ifExp (pt_cmpR op_isN (pe_ix (r := rIxT K) ix_tup (pv 7) pe_int (fun _ _ => rfl)) pe_non (nomark _)) (pe_ix (r := rIxT K) ix_tup (pv 7) pe_int (fun _ _ => rfl)) (pe_op op_add (pe_ix (r := rIxT K) ix_tup (pv 7) pe_int (fun _ _ => rfl)) pe_int)) pa_nil))) (pg_name (i := 8) sc_law.nd rfl (by first | exact Or.inl rfl | exact Or.inr rfl)) 
          (pss_one (ps_if (pt_cmpR op_ne (pe_call (ok_price T) hr (by rfl) T.g_price T.f_price.kp T.b_price .nil pass0 (pa_cons (pv 5) (pa_cons (pv 8) pa_nil))) (pe_ix (r := rIxT K) ix_tup (pv 7) pe_int (fun _ _ => rfl)) (nomark _)) 
            (pss_one (ps_ret pe_bl)) pss_nil))) 
        (pss_cons (ps_setLc (i := 9) (own := [("_law_width", 8)]) (g := gName 8) (tt := tYes) rfl sc_law.nd rfl rfl (sw_true rfl rfl rfl (by decide +kernel)) (pi_range1 rfl T.m_range (pa_cons pe_int pa_nil)) (blkOk_by (own := [("_law_width", 8)]) (N := ["_law_script", "_law_generator_here", "_law_one", "_law_other", "_law_lots", "_law_folds_here", "_law_kept", "_law_due", "_law_width", "_law_prices", "_law_at"]) (sc := defScope s_law) (by decide +kernel)) (fun _ _ _ _ _ => (pg_name (i := 8) sc_law.nd rfl (by first | exact Or.inl rfl | exact Or.inr rfl))) (fun _ _ _ _ _ => pts_nil) (fun _ _ _ _ _ => (pe_call (ok_price T) hr (by rfl) T.g_price T.f_price.kp T.b_price .nil pass0 (pa_cons (pv 5) (pa_cons (pv 8) pa_nil))))) 
        (pss_one (ps_for PassesOwn.never rfl (pi_range1 rfl T.m_range (pa_cons pe_int pa_nil)) (pg_name (i := 10) sc_law.nd rfl (by first | exact Or.inl rfl | exact Or.inr rfl)) 
          (pss_one (ps_if (pt_cmpR op_lt (pe_op op_sub (pe_ix (r := rIxL K) ix_list (pv 9) (pe_op op_add (pv 10) pe_int) (fun _ _ => rfl)) (pe_ix (r := rIxL K) ix_list (pv 9) (pe_op op_add (pv 10) pe_int) (fun _ _ => rfl))) (pe_op op_sub (pe_ix (r := rIxL K) ix_list (pv 9) (pe_op op_add (pv 10) pe_int) (fun _ _ => rfl)) (pe_ix (r := rIxL K) ix_list (pv 9) (pv 10) (fun _ _ => rfl))) (nomark _)) 
            (pss_one (ps_ret pe_bl)) pss_nil))))))))) 
      (pss_cons (ps_if (pt_cmpR op_lt (pe_ix (r := rIxT K) ix_tup (pe_call (ok_least_width T) hr (by rfl) T.g_least_width T.f_least_width.kp T.b_least_width .nil pass0 (pa_cons (pe_op op_cat (pv 2) (pv 3)) pa_nil)) pe_int (fun _ _ => rfl)) (pe_op op_add (pe_ix (r := rIxT K) ix_tup (pe_call (ok_least_width T) hr (by rfl) T.g_least_width T.f_least_width.kp T.b_least_width .nil pass0 (pa_cons (pv 2) pa_nil)) pe_int (fun _ _ => rfl)) (pe_ix (r := rIxT K) ix_tup (pe_call (ok_least_width T) hr (by rfl) T.g_least_width T.f_least_width.kp T.b_least_width .nil pass0 (pa_cons (pv 3) pa_nil)) pe_int (fun _ _ => rfl))) (nomark _)) 
        (pss_one (ps_ret pe_bl)) pss_nil) 
      (pss_one (ps_ret (pe_cmpR (op_eqD hr.units) (pe_lst (pa_cons (pe_call (ok_least_width T) hr (by rfl) T.g_least_width T.f_least_width.kp T.b_least_width .nil pass0 (pa_cons (pe_lst (pa_cons pe_int (pa_cons pe_int pa_nil))) pa_nil)) (pa_cons (pe_call (ok_least_width T) hr (by rfl) T.g_least_width T.f_least_width.kp T.b_least_width .nil pass0 (pa_cons (pe_lst (pa_cons pe_int (pa_cons pe_int pa_nil))) pa_nil)) (pa_cons (pe_call (ok_least_width T) hr (by rfl) T.g_least_width T.f_least_width.kp T.b_least_width .nil pass0 (pa_cons (pe_lst pa_nil) pa_nil)) pa_nil)))) (pe_lst (pa_cons (pe_tup (pa_cons pe_int (pa_cons pe_int (pa_cons pe_int pa_nil)))) (pa_cons (pe_tup (pa_cons pe_int (pa_cons pe_int (pa_cons pe_int pa_nil)))) (pa_cons (pe_tup (pa_cons pe_int (pa_cons pe_int (pa_cons pe_non pa_nil)))) pa_nil)))) (nomark _))))))))), ?_⟩
    -- the generator
    refine ⟨.ref a, rfl, a, ns, 0, rfl, hS, hl, by decide, fun g H1 hg0 e1 hg1 => ?_⟩
    obtain ⟨og, hog⟩ := hg1.some
    -- one, other
    refine ⟨.ref g, rfl, g, 7, _, rfl, hg1, by decide, by decide, fun p1 f1 H2 hp1 F1 l1 hg2 E2 => ?_⟩
    have n1 : p1 ≠ g := fun h => by rw [h, hog] at hp1; cases hp1
    refine ⟨.ref g, rfl, g, 5, _, rfl, hg2, by decide, by decide, fun p2 f2 H3 hp2 F2 l2 hg3 E3 => ?_⟩
    obtain ⟨og2, hog2⟩ := hg2.some
    have n2 : p2 ≠ g := fun h => by rw [h, hog2] at hp2; cases hp2
    have F1 := F1.exb E3 n1
    refine ⟨_, _, rfl, ?_⟩
    have g12 : Good (f1 ++ f2) := fun u hu => (List.mem_append.mp hu).elim (F1.good u) (F2.good u)
    -- the lots
    refine ⟨.ref p1, rfl, .ref p2, rfl, ?_⟩
    have e35 := Ex.refl H3
    refine ta_consL (xs := (f1 ++ f2).map V.int) (by rw [List.map_append]; exact el_cat (ev_var rfl) (ev_var rfl) (e35 _ _ F1.at_) (e35 _ _ F2.at_) (by rw [List.length_map, List.length_map]; omega)) fun p3 H6 hp3 e6 k3 => ?_
    have e36 := e35.trans e6
    -- (one + [3])[:1] * (1 + random)
    obtain ⟨fr, efr, hfr, hfl⟩ : ∃ fr : List Int, cutV (f1.map V.int ++ [V.int 3]) none (some 1) = fr.map V.int ∧ Good fr ∧ fr.length = 1 := by
      have ec : ∀ x : V, ∀ r : List V, cutV (x :: r) none (some 1) = [x] := fun x r => by
        unfold cutV
        rw [HT.sIx_none, show HT.sIx (x :: r).length (x :: r).length (some 1) = min 1 (x :: r).length from HT.sIx_nat _ _ 1]
        simp
      cases f1 with
      | nil => exact ⟨[3], ec _ _, fun u hu => by rw [List.mem_singleton] at hu; rw [hu]; decide, rfl⟩
      | cons x r => exact ⟨[x], ec _ _, fun u hu => by rw [List.mem_singleton] at hu; rw [hu]; exact F1.good x List.mem_cons_self, rfl⟩
    refine el_use (te := tSl (rSlL K) _ _ _) (xs := cutV (f1.map V.int ++ [V.int 3]) none (some 1)) ?_ fun ps H7 hps e7 ks => ?_
    · exact el_slN (el_catN (ev_var rfl) (el_lst (ea_cons ev_c ea_nil) (by decide)) (e36 _ _ F1.at_) (by rw [List.length_map]; show f1.length + 1 ≤ 100000; omega)) (fun _ _ => eo_none) (fun _ _ => eo_some ev_c)
    rw [efr] at ks
    have e37 := e36.trans e7
    refine ⟨.ref g, rfl, g, 60, _, rfl, hg3.ex e37, by decide, by decide, by decide, fun rn H8 r0 r1 hg8 E8 => ?_⟩
    have nps : ps ≠ g := fun h => by
      obtain ⟨o, ho⟩ := (hg3.ex e36).some
      rw [h, ho] at hps; cases hps
    have np3 : p3 ≠ g := fun h => by
      obtain ⟨o, ho⟩ := (hg3.ex e35).some
      rw [h, ho] at hp3; cases hp3
    have F1 := (F1.ex e37).exb E8 n1
    have F2 := (F2.ex e37).exb E8 n2
    have F3 : Fo H8 p3 (f1 ++ f2) := ⟨E8 _ _ np3 (e7 _ _ k3), g12, by rw [List.length_append]; omega⟩
    have ks := E8 _ _ nps ks
    refine ⟨1, rn, rfl, rfl, ps, 1 + rn, _, rfl, rfl, ks, by omega, by omega, ?_, fun p4 hp4 => ?_⟩
    · rw [List.length_map, hfl, Nat.one_mul]
      exact Nat.le_of_lt (small1000 (by omega))
    have e9 : Ex H8 (upd H8 p4 (.lst (List.replicate (1 + rn).toNat (fr.map V.int)).flatten)) := Ex.new hp4
    have F4 : Fo (upd H8 p4 (.lst (List.replicate (1 + rn).toNat (fr.map V.int)).flatten)) p4 (List.replicate (1 + rn).toNat fr).flatten := by
      refine ⟨?_, fun u hu => ?_, ?_⟩
      · rw [upd_same, List.map_flatten, List.map_replicate]
      · obtain ⟨l, h1, h2⟩ := List.mem_flatten.mp hu
        rw [(List.mem_replicate.mp h1).2] at h2
        exact hfr u h2
      · rw [List.length_flatten, List.map_replicate, List.sum_replicate_nat, hfl]
        omega
    generalize upd H8 p4 (.lst (List.replicate (1 + rn).toNat (fr.map V.int)).flatten) = H9 at e9 F4 ⊢
    refine ta_consL (el_lst ea_nil (by decide)) fun p5 H10 _ e10 k5 => ?_
    refine ta_consL (el_lst (ea_cons ev_c ea_nil) (by decide)) fun p6 H11 _ e11 k6 => ?_
    refine ta_consL (el_lst (ea_cons ev_c ea_nil) (by decide)) fun p7 H12 _ e12 k7 => ?_
    refine ta_consL (el_lst (ea_cons ev_c (ea_cons ev_c ea_nil)) (by decide)) fun p8 H13 _ e13 k8 => ?_
    refine ta_consL (el_lst (ea_cons ev_c (ea_cons ev_c ea_nil)) (by decide)) fun p9 H14 _ e14 k9 => ?_
    refine ⟨by show 9 ≤ sizeLine; decide, fun pl hpl => ?_⟩
    have F5 : Fo H14 p5 [] := ⟨e14 _ _ (e13 _ _ (e12 _ _ (e11 _ _ k5))), fun u hu => absurd hu List.not_mem_nil, by decide⟩
    have F6 : Fo H14 p6 [0] := ⟨e14 _ _ (e13 _ _ (e12 _ _ k6)), by decide, by decide⟩
    have F7 : Fo H14 p7 [2] := ⟨e14 _ _ (e13 _ _ k7), by decide, by decide⟩
    have F8 : Fo H14 p8 [2, 2] := ⟨e14 _ _ k8, by decide, by decide⟩
    have F9 : Fo H14 p9 [1, 3] := ⟨k9, by decide, by decide⟩
    have e914 := (((e10.trans e11).trans e12).trans e13).trans e14
    have F4 := F4.ex e914
    have e814 := e9.trans e914
    have F1 := F1.ex e814
    have F2 := F2.ex e814
    have F3 := F3.ex e814
    have el : Ex H14 (upd H14 pl (.lst [.ref p1, .ref p2, .ref p3, .ref p4, .ref p5, .ref p6, .ref p7, .ref p8, .ref p9])) := Ex.new hpl
    have kl : (upd H14 pl (.lst [V.ref p1, V.ref p2, V.ref p3, V.ref p4, V.ref p5, V.ref p6, V.ref p7, V.ref p8, V.ref p9])) pl = some (.lst [V.ref p1, V.ref p2, V.ref p3, V.ref p4, V.ref p5, V.ref p6, V.ref p7, V.ref p8, V.ref p9]) := upd_same
    have A9 : AllFo H14 [V.ref p1, V.ref p2, V.ref p3, V.ref p4, V.ref p5, V.ref p6, V.ref p7, V.ref p8, V.ref p9] := fun x hx => by
      simp only [List.mem_cons, List.not_mem_nil, or_false] at hx
      rcases hx with rfl | rfl | rfl | rfl | rfl | rfl | rfl | rfl | rfl
      · exact ⟨_, _, rfl, F1⟩
      · exact ⟨_, _, rfl, F2⟩
      · exact ⟨_, _, rfl, F3⟩
      · exact ⟨_, _, rfl, F4⟩
      · exact ⟨_, _, rfl, F5⟩
      · exact ⟨_, _, rfl, F6⟩
      · exact ⟨_, _, rfl, F7⟩
      · exact ⟨_, _, rfl, F8⟩
      · exact ⟨_, _, rfl, F9⟩
    have A9 := A9.ex el
    have F1 := F1.ex el
    have F2 := F2.ex el
    have hlen9 : [V.ref p1, V.ref p2, V.ref p3, V.ref p4, V.ref p5, V.ref p6, V.ref p7, V.ref p8, V.ref p9].length = 9 := rfl
    generalize upd H14 pl (.lst [V.ref p1, V.ref p2, V.ref p3, V.ref p4, V.ref p5, V.ref p6, V.ref p7, V.ref p8, V.ref p9]) = H15 at kl A9 F1 F2 ⊢
    generalize [V.ref p1, V.ref p2, V.ref p3, V.ref p4, V.ref p5, V.ref p6, V.ref p7, V.ref p8, V.ref p9] = lots at kl A9 hlen9
    -- the loop's list
    have hshl : (Builtin.Int.intBits 1 : Int) + 39 ≤ 2 ^ 27 := by
      have : Builtin.Int.intBits 1 ≤ 1 := PyProof.Rows.intBits_le (k := 1) (by decide)
      have e27 : (2 : Int) ^ 27 = 134217728 := by decide
      omega
    refine ⟨.ref pl, rfl, 1, 39, rfl, rfl, ⟨by decide, hshl⟩, _, 1, rfl, rfl, by show 2 ≤ sizeLine; decide, fun q1 hq1 => ⟨by show 3 ≤ sizeLine; decide, fun q2 hq2 => ⟨by show 2 ≤ sizeLine; decide, fun q3 hq3 => ?_⟩⟩⟩
    have u1 := Ex.new (o := .lst [V.int (1 * 2 ^ (39 : Int).toNat + 1), V.int 0]) hq1
    have u2 := Ex.new (o := .lst [V.int 5, V.int 5, V.int 5]) hq2
    have u3 := Ex.new (o := .lst [V.ref q1, V.ref q2]) hq3
    have u13 := (u1.trans u2).trans u3
    refine ⟨pl, q3, lots, [.ref q1, .ref q2], rfl, rfl, u13 _ _ kl, upd_same, by rw [hlen9]; show 9 + 2 ≤ sizeLine; decide, fun pL hpL => ?_⟩
    have e815 : Ex H15 _ := u13.trans (Ex.new (o := .lst (lots ++ [V.ref q1, V.ref q2])) hpL)
    have G1 : Fo _ q1 [1 * 2 ^ (39 : Int).toNat + 1, 0] := Fo.ex (⟨u3 _ _ (u2 _ _ upd_same), by decide, by decide⟩ : Fo _ q1 [1 * 2 ^ (39 : Int).toNat + 1, 0]) (Ex.new (o := .lst (lots ++ [V.ref q1, V.ref q2])) hpL)
    have G2 : Fo _ q2 [5, 5, 5] := Fo.ex (⟨u3 _ _ upd_same, by decide, by decide⟩ : Fo _ q2 [5, 5, 5]) (Ex.new (o := .lst (lots ++ [V.ref q1, V.ref q2])) hpL)
    refine ⟨pL, rfl, ⟨_, sq_of upd_same⟩, for_list (xs := lots ++ [V.ref q1, V.ref q2]) (fun i σ' H' => ∃ y5 y6 y7 y8 y9 y10, σ' = [some (V.ref a), some (V.ref g), some (V.ref p1), some (V.ref p2), some (V.ref pl), y5, y6, y7, y8, y9, y10] ∧ Ex H15 H' ∧ H' pL = some (.lst (lots ++ [V.ref q1, V.ref q2])) ∧ AllFo H' (lots ++ [V.ref q1, V.ref q2]))
      ⟨none, none, none, none, none, none, rfl, e815, upd_same, fun x hx => ?_⟩ (fun i σ' H' _ hP => ?_) (fun i x σ' H' hx hP => ?_) (fun σ' H' hP => ?_)⟩
    · rcases List.mem_append.mp hx with h | h
      · exact (A9.ex e815) x h
      · simp only [List.mem_cons, List.not_mem_nil, or_false] at h
        rcases h with rfl | rfl
        · exact ⟨_, _, rfl, G1⟩
        · exact ⟨_, _, rfl, G2⟩
    · obtain ⟨_, _, _, _, _, _, _, _, kL, _⟩ := hP
      exact sq_of kL
    · obtain ⟨y5, y6, y7, y8, y9, y10, rfl, eH, kL, AL⟩ := hP
      obtain ⟨p, fs, rfl, hF⟩ := AL x (List.mem_of_getElem? hx)
      obtain ⟨c, f, z, n, ed, hsc, hz, hf40, hn, hn', hcs⟩ := due_of hF.good
      -- kept, due
      refine ⟨.ref p, rfl, p, _, rfl, Or.inl hF.sq, fun pk hpk => ?_⟩
      have v1 := Ex.new (o := .lst (fs.map V.int)) hpk
      refine ⟨.ref p, rfl, p, fs, rfl, hF.ex v1, fun pd H16 hpd e16 kd => ?_⟩
      refine ⟨_, _, rfl, ?_⟩
      have v2 := v1.trans e16
      have hF := hF.ex v2
      have kk : H16 pk = some (.lst (fs.map V.int)) := e16 _ _ upd_same
      have hlw : ∀ (H : Hp) (Q : VK), Fo H p fs → RetU (lwV fs) H Q → ∀ E : XK, sp_least_width K [.ref p] H Q E := fun H Q hF k E => ⟨p, fs, rfl, hF, k⟩
      refine q_when (b := false) (et_or (a := false) (et_test (ev_opU1 (xs := lwV fs) (eu_call (ea_cons (ev_var rfl) ea_nil) fun H1 e Q k E => hlw H1 Q (hF.ex e) k E) (fun H1 e => ev_var rfl) fun u H1 hu e => rv_neT (K := K) hu (e _ _ kd) (lw_sc fs))) fun _ =>
        et_or (a := false) (et_test (ev_opU1 (xs := lwV fs) (eu_callN (el_rev (K := K) (ev_var rfl) hF.sq) fun u H1 hu e Q k E => ⟨u, fs.reverse, rfl, ⟨by rw [hu, List.map_reverse], good_rev hF.good, by rw [List.length_reverse]; exact hF.len⟩, by rw [lw_rev]; exact k⟩) (fun H1 e => ev_var rfl) fun u H1 hu e => rv_neT (K := K) hu (e _ _ kd) (lw_sc fs))) fun _ =>
        et_test (ev_op (ev_var rfl) (ev_var rfl) (by
          have h := rv_neI (K := K) (ns := fs) (ms := fs) hF.sq (sq_of kk)
          rw [decide_eq_true (rfl : fs = fs)] at h
          exact h))) (fun z => by cases z) (fun _ H17 e17 => ?_)
      have hF := hF.ex e17
      have kd := e17 _ _ kd
      rw [ed] at kd
      -- the widths that have it
      refine q_forR2 (lo := (f : Int)) (n := n) (ea_cons (ev_op (ev_var rfl) ev_c (rv_ixT (K := K) (st_of kd) (atI_nat (j := 1) rfl))) (ea_cons (ev_if (b := decide (z = .non)) (et_test (ev_op (ev_op (ev_var rfl) ev_c (rv_ixT (K := K) (st_of kd) (atI_nat (j := 2) rfl))) ev_c rv_isN)) (fun hb => ?_) (fun hb => ?_)) ea_nil)) ⟨by omega, by omega, hn', by omega⟩
        (fun i σ' H' => ∃ y8, σ' = [some (V.ref a), some (V.ref g), some (V.ref p1), some (V.ref p2), some (V.ref pl), some (V.ref p), some (V.ref pk), some (V.ref pd), y8, y9, y10] ∧ Ex H17 H') (fun H1 e1 => ⟨y8, rfl, e1⟩) (fun i σ' H' hi hP => ?_) (fun σ' H' hP => ?_)
      · rcases hz with ⟨rfl, rfl⟩ | ⟨l, rfl, rfl⟩
        · exact ev_op (ev_var rfl) ev_c (rv_ixT (K := K) (st_of kd) (atI_nat (j := 1) rfl))
        · exact absurd (of_decide_eq_true hb) (by intro h; cases h)
      · rcases hz with ⟨rfl, rfl⟩ | ⟨l, rfl, rfl⟩
        · exact absurd hb (by decide)
        · exact ev_op (ev_op (ev_var rfl) ev_c (rv_ixT (K := K) (st_of kd) (atI_nat (j := 2) rfl))) ev_c rv_I0
      · obtain ⟨y8', rfl, e18⟩ := hP
        have hw : cst fs (f + i) = c := hcs (f + i) (by omega) (by omega)
        refine s_when (b := false) (et_is (et_test (ev_op (ev_call (ea_cons (ev_var rfl) (ea_cons (ev_var rfl) ea_nil)) (spv fun H1 e Q q E => ⟨p, fs, f + i, rfl, (hF.ex e18).ex e, by omega, q⟩)) (ev_op (ev_var rfl) ev_c (rv_ixT (K := K) (st_of (e18 _ _ kd)) (atI_nat (j := 0) rfl))) (rv_ne rfl))) ?_) (fun z => by cases z) (fun _ H19 e19 => ⟨_, rfl, e18.trans e19⟩)
        rw [hw, decide_eq_true (rfl : V.int c = V.int c)]
        rfl
      obtain ⟨y8', rfl, e18⟩ := hP
      have hF := hF.ex e18
      -- prices
      refine q_asgL (xs := (List.range 9).map (V.int ∘ fun k => cst fs k)) ?_ fun pp H20 hpp e20 kp => ?_
      · exact el_mapR (n := 9) _ (ea_cons ev_c ea_nil) (by decide) (fun _ => rfl) (fun i H1 e hi => ev_call (ea_cons (ev_var rfl) (ea_cons (ev_var rfl) ea_nil)) (spv fun H2 e2 Q q E => ⟨p, fs, i, rfl, (hF.ex e).ex e2, by omega, q⟩))
      have eB := ((v2.trans e17).trans e18).trans e20
      refine s_forR1 (n := 7) (ea_cons ev_c ea_nil) (by decide) (fun i σ' H' => ∃ y10, σ' = [some (V.ref a), some (V.ref g), some (V.ref p1), some (V.ref p2), some (V.ref pl), some (V.ref p), some (V.ref pk), some (V.ref pd), y8', some (V.ref pp), y10] ∧ Ex H20 H') (fun H1 e1 => ⟨y10, rfl, e1⟩) (fun i σ' H' hi hP => ?_) (fun σ' H' hP => ?_)
      · obtain ⟨y10', rfl, e21⟩ := hP
        have kp' := e21 _ _ kp
        have at9 : ∀ j : Nat, j < 9 → ((List.range 9).map (V.int ∘ fun k => cst fs k))[j]? = some (V.int (cst fs j)) := fun j hj => by
          rw [List.getElem?_map, List.getElem?_range hj]
          rfl
        refine s_when (b := false) (et_is (et_test (ev_op (ev_op (ev_op (ev_var rfl) (ev_op (ev_var rfl) ev_c rv_I0) (rv_ixL (K := K) (sq_of kp') (at_of (j := i + 2) (by omega) (at9 _ (by omega))))) (ev_op (ev_var rfl) (ev_op (ev_var rfl) ev_c rv_I0) (rv_ixL (K := K) (sq_of kp') (at_of (j := i + 1) (by omega) (at9 _ (by omega))))) rv_I0)
          (ev_op (ev_op (ev_var rfl) (ev_op (ev_var rfl) ev_c rv_I0) (rv_ixL (K := K) (sq_of kp') (at_of (j := i + 1) (by omega) (at9 _ (by omega))))) (ev_op (ev_var rfl) (ev_var rfl) (rv_ixL (K := K) (sq_of kp') (at_of (j := i) (by omega) (at9 _ (by omega))))) rv_I0) rv_I0)) ?_) (fun z => by cases z) (fun _ H22 e22 => ⟨_, rfl, e21.trans e22⟩)
        exact decide_eq_false (conv hF.good i)
      · obtain ⟨y10', rfl, e21⟩ := hP
        have eC := eB.trans e21
        exact ⟨_, _, _, _, _, _, rfl, eH.trans eC, eC _ _ kL, AL.ex eC⟩
    obtain ⟨y5, y6, y7, y8, y9, y10, rfl, eH, kL, AL⟩ := hP
    have F1 := F1.ex eH
    have F2 := F2.ex eH
    have hP1 : ∀ (p : Addr) (fs : List Int) (σ : L2.St) (i : Nat) (H1 : Hp) (E : XK), Fo H1 p fs → σ[i]? = some (some (.ref p)) → Ev (tOp (rIxT K) (tCall (sp_least_width K) [] E (tCons (tVar i) tNil)) (tC (.int 0))) σ H1 (.int (lp fs)) := fun p fs σ i H1 E hF hi =>
      ev_opU1 (xs := lwV fs) (eu_call (ea_cons (ev_var hi) ea_nil) fun H1 e Q k E => ⟨p, fs, rfl, hF.ex e, k⟩) (fun _ _ => ev_c) fun u H1 hu e => rv_ixT (K := K) (st_of hu) (atI_nat (j := 0) (lw_at0 fs))
    refine q_when (b := false) (et_is (et_test (ev_op (x := .int (lp (f1 ++ f2))) (ev_opU1 (xs := lwV (f1 ++ f2)) (eu_callN (el_cat (ev_var rfl) (ev_var rfl) F1.at_ F2.at_ (by rw [List.length_map, List.length_map]; omega)) fun u H1 hu e Q k E => ⟨u, f1 ++ f2, rfl, ⟨by rw [hu, List.map_append], g12, by rw [List.length_append]; omega⟩, k⟩) (fun _ _ => ev_c) fun u H1 hu e => rv_ixT (K := K) (st_of hu) (atI_nat (j := 0) (lw_at0 _)))
      (ev_op (hP1 p1 f1 _ 2 _ _ F1 rfl) (hP1 p2 f2 _ 3 _ _ F2 rfl) rv_I0) rv_I0)) ?_) (fun z => by cases z) (fun _ H30 e30 => ?_)
    · refine decide_eq_false ?_
      have := lp_app F1.good F2.good
      show ¬ lp (f1 ++ f2) < lp f1 + lp f2
      omega
    have w1 : lwV [1, 3] = [.int 5, .int 1, .int 1] := by decide +kernel
    have w2 : lwV [2, 2] = [.int 6, .int 0, .int 2] := by decide +kernel
    have w3 : lwV [] = [.int 0, .int 0, .non] := rfl
    refine eu_use (te := tCall (sp_least_width K) [] _ (tCons (tLst _) tNil)) (xs := lwV [1, 3]) ?_ fun r1 H31 _ e31 k1 => ?_
    · exact eu_callN (el_lst (ea_cons ev_c (ea_cons ev_c ea_nil)) (by decide)) fun u H1 hu e Q k E => ⟨u, [1, 3], rfl, ⟨hu, by decide, by decide⟩, k⟩
    refine ta_consU (xs := lwV [2, 2]) ?_ fun r2 H32 _ e32 k2 => ?_
    · exact eu_callN (el_lst (ea_cons ev_c (ea_cons ev_c ea_nil)) (by decide)) fun u H1 hu e Q k E => ⟨u, [2, 2], rfl, ⟨hu, by decide, by decide⟩, k⟩
    refine ta_consU (xs := lwV []) ?_ fun r3 H33 _ e33 k3 => ?_
    · exact eu_callN (el_lst ea_nil (by decide)) fun u H1 hu e Q k E => ⟨u, [], rfl, ⟨hu, by decide, by decide⟩, k⟩
    rw [w1] at k1
    rw [w2] at k2
    rw [w3] at k3
    have k1 := e33 _ _ (e32 _ _ k1)
    have k2 := e33 _ _ k2
    refine ⟨by show 3 ≤ sizeLine; decide, fun m1 hm1 => ?_⟩
    have x1 := Ex.new (o := .lst [V.ref r1, V.ref r2, V.ref r3]) hm1
    refine ⟨by show 3 ≤ sizeLine; decide, fun t1 ht1 => ?_⟩
    have x2 := Ex.new (o := .tup [V.int 5, V.int 1, V.int 1]) ht1
    refine ⟨by show 3 ≤ sizeLine; decide, fun t2 ht2 => ?_⟩
    have x3 := Ex.new (o := .tup [V.int 6, V.int 0, V.int 2]) ht2
    refine ⟨by show 3 ≤ sizeLine; decide, fun t3 ht3 => ?_⟩
    have x4 := Ex.new (o := .tup [V.int 0, V.int 0, V.non]) ht3
    refine ⟨by show 3 ≤ sizeLine; decide, fun m2 hm2 => ?_⟩
    have x5 := Ex.new (o := .lst [V.ref t1, V.ref t2, V.ref t3]) hm2
    have y := (((x1.trans x2).trans x3).trans x4).trans x5
    refine ⟨.list [.tuple ([V.int 5, V.int 1, V.int 1].map sD), .tuple ([V.int 6, V.int 0, V.int 2].map sD), .tuple ([V.int 0, V.int 0, V.non].map sD)], .list [.tuple ([V.int 5, V.int 1, V.int 1].map sD), .tuple ([V.int 6, V.int 0, V.int 2].map sD), .tuple ([V.int 0, V.int 0, V.non].map sD)],
      .lst (sq_of ((((x2.trans x3).trans x4).trans x5) _ _ upd_same)) (.cons (.tup (st_of (y _ _ k1)) (dpAll_sc rfl)) (.cons (.tup (st_of (y _ _ k2)) (dpAll_sc rfl)) (.cons (.tup (st_of (y _ _ k3)) (dpAll_sc rfl)) .nil))),
      .lst (sq_of upd_same) (.cons (.tup (st_of (((x3.trans x4).trans x5) _ _ upd_same)) (dpAll_sc rfl)) (.cons (.tup (st_of ((x4.trans x5) _ _ upd_same)) (dpAll_sc rfl)) (.cons (.tup (st_of (x5 _ _ upd_same)) (dpAll_sc rfl)) .nil))), by decide, by decide, ?_⟩
    rw [SeqAt.eqv_refl _ (by decide)]
    exact q _
end
end K41

set_option Elab.async false
set_option linter.all false
set_option maxRecDepth 100000
set_option maxHeartbeats 4000000
namespace K41
open PySem PySem.Spec PyProof.Rows L2 Evl WS M41
theorem all_mk {l : PySem.W.OpenLaw} {w : World} {K : PySem.W.Frag} {h : Heap} {mg : Str → Option Value} {fa f1 f2 f3 f4 f5 f6 f7 f8 f9 f10 f11 f12 f13 f14 f15 f16 f17 f18 f19 : Addr} (X : K.In h) (G : h.Ns mainGlobals mg) (hfa : mg "law" = some (.ref fa))
    {od1 an1 od2 an2 od3 an3 od4 an4 od5 an5 od6 an6 od7 an7 od8 an8 od9 an9 od10 an10 od11 an11 od12 an12 od13 an13 od14 an14 od15 an15 od16 an16 od17 an17 od18 an18 od19 an19 : Option Addr} {sl1 sl2 sl3 sl4 sl5 sl6 sl7 sl8 sl9 sl10 sl11 sl12 sl13 sl14 sl15 sl16 sl17 sl18 sl19 : Array (Option Value)} {oc1 kV1 dc1 pm1 cd1 ct1 oc2 kV2 dc2 pm2 cd2 ct2 oc3 kV3 dc3 pm3 cd3 ct3 oc4 kV4 dc4 pm4 cd4 ct4 oc5 kV5 dc5 pm5 cd5 ct5 oc6 kV6 dc6 pm6 cd6 ct6 oc7 kV7 dc7 pm7 cd7 ct7 oc8 kV8 dc8 pm8 cd8 ct8 oc9 kV9 dc9 pm9 cd9 ct9 oc10 kV10 dc10 pm10 cd10 ct10 oc11 kV11 dc11 pm11 cd11 ct11 oc12 kV12 dc12 pm12 cd12 ct12 oc13 kV13 dc13 pm13 cd13 ct13 oc14 kV14 dc14 pm14 cd14 ct14 oc15 kV15 dc15 pm15 cd15 ct15 oc16 kV16 dc16 pm16 cd16 ct16 oc17 kV17 dc17 pm17 cd17 ct17 oc18 kV18 dc18 pm18 cd18 ct18 oc19 kV19 dc19 pm19 cd19 ct19 : Value}
    {t_GREATEST_WIDTH : Tok}
    (a1 : PySem.W.nsIn K mainGlobals "is_number" = some (some (.ref f1)))
    (l1 : K.lookup f1 = some ⟨oc1, od1, .func (PySem.W.fnOf "is_number" "is_number" (defArgs s_is_number) (defBody s_is_number) (defScope s_is_number) .none kV1 dc1 pm1 an1 cd1 ct1), sl1⟩)
    (e1 : PySem.W.codeIn K cd1 "is_number" = true)
    (k1 : PySem.W.keepIn K (.ref f1) = true)
    (a2 : PySem.W.nsIn K mainGlobals "is_within" = some (some (.ref f2)))
    (l2 : K.lookup f2 = some ⟨oc2, od2, .func (PySem.W.fnOf "is_within" "is_within" (defArgs s_is_within) (defBody s_is_within) (defScope s_is_within) .none kV2 dc2 pm2 an2 cd2 ct2), sl2⟩)
    (e2 : PySem.W.codeIn K cd2 "is_within" = true)
    (k2 : PySem.W.keepIn K (.ref f2) = true)
    (a3 : PySem.W.nsIn K mainGlobals "is_count" = some (some (.ref f3)))
    (l3 : K.lookup f3 = some ⟨oc3, od3, .func (PySem.W.fnOf "is_count" "is_count" (defArgs s_is_count) (defBody s_is_count) (defScope s_is_count) .none kV3 dc3 pm3 an3 cd3 ct3), sl3⟩)
    (e3 : PySem.W.codeIn K cd3 "is_count" = true)
    (k3 : PySem.W.keepIn K (.ref f3) = true)
    (a4 : PySem.W.nsIn K mainGlobals "is_counts" = some (some (.ref f4)))
    (l4 : K.lookup f4 = some ⟨oc4, od4, .func (PySem.W.fnOf "is_counts" "is_counts" (defArgs s_is_counts) (defBody s_is_counts) (defScope s_is_counts) .none kV4 dc4 pm4 an4 cd4 ct4), sl4⟩)
    (e4 : PySem.W.codeIn K cd4 "is_counts" = true)
    (k4 : PySem.W.keepIn K (.ref f4) = true)
    (a5 : PySem.W.nsIn K mainGlobals "check_folds" = some (some (.ref f5)))
    (l5 : K.lookup f5 = some ⟨oc5, od5, .func (PySem.W.fnOf "check_folds" "check_folds" (defArgs s_check_folds) (defBody s_check_folds) (defScope s_check_folds) .none kV5 dc5 pm5 an5 cd5 ct5), sl5⟩)
    (e5 : PySem.W.codeIn K cd5 "check_folds" = true)
    (k5 : PySem.W.keepIn K (.ref f5) = true)
    (a6 : PySem.W.nsIn K mainGlobals "check_width" = some (some (.ref f6)))
    (l6 : K.lookup f6 = some ⟨oc6, od6, .func (PySem.W.fnOf "check_width" "check_width" (defArgs s_check_width) (defBody s_check_width) (defScope s_check_width) .none kV6 dc6 pm6 an6 cd6 ct6), sl6⟩)
    (e6 : PySem.W.codeIn K cd6 "check_width" = true)
    (k6 : PySem.W.keepIn K (.ref f6) = true)
    (a7 : PySem.W.nsIn K mainGlobals "cost_at" = some (some (.ref f7)))
    (l7 : K.lookup f7 = some ⟨oc7, od7, .func (PySem.W.fnOf "cost_at" "cost_at" (defArgs s_cost_at) (defBody s_cost_at) (defScope s_cost_at) .none kV7 dc7 pm7 an7 cd7 ct7), sl7⟩)
    (e7 : PySem.W.codeIn K cd7 "cost_at" = true)
    (k7 : PySem.W.keepIn K (.ref f7) = true)
    (a8 : PySem.W.nsIn K mainGlobals "price" = some (some (.ref f8)))
    (l8 : K.lookup f8 = some ⟨oc8, od8, .func (PySem.W.fnOf "price" "price" (defArgs s_price) (defBody s_price) (defScope s_price) .none kV8 dc8 pm8 an8 cd8 ct8), sl8⟩)
    (e8 : PySem.W.codeIn K cd8 "price" = true)
    (k8 : PySem.W.keepIn K (.ref f8) = true)
    (a9 : PySem.W.nsIn K mainGlobals "least_width" = some (some (.ref f9)))
    (l9 : K.lookup f9 = some ⟨oc9, od9, .func (PySem.W.fnOf "least_width" "least_width" (defArgs s_least_width) (defBody s_least_width) (defScope s_least_width) .none kV9 dc9 pm9 an9 cd9 ct9), sl9⟩)
    (e9 : PySem.W.codeIn K cd9 "least_width" = true)
    (k9 : PySem.W.keepIn K (.ref f9) = true)
    (a10 : PySem.W.nsIn K mainGlobals "best_widths" = some (some (.ref f10)))
    (l10 : K.lookup f10 = some ⟨oc10, od10, .func (PySem.W.fnOf "best_widths" "best_widths" (defArgs s_best_widths) (defBody s_best_widths) (defScope s_best_widths) .none kV10 dc10 pm10 an10 cd10 ct10), sl10⟩)
    (e10 : PySem.W.codeIn K cd10 "best_widths" = true)
    (k10 : PySem.W.keepIn K (.ref f10) = true)
    (a11 : PySem.W.nsIn K mainGlobals "rise" = some (some (.ref f11)))
    (l11 : K.lookup f11 = some ⟨oc11, od11, .func (PySem.W.fnOf "rise" "rise" (defArgs s_rise) (defBody s_rise) (defScope s_rise) .none kV11 dc11 pm11 an11 cd11 ct11), sl11⟩)
    (e11 : PySem.W.codeIn K cd11 "rise" = true)
    (k11 : PySem.W.keepIn K (.ref f11) = true)
    (a12 : PySem.W.nsIn K mainGlobals "_law_cell" = some (some (.ref f12)))
    (l12 : K.lookup f12 = some ⟨oc12, od12, .func (PySem.W.fnOf "_law_cell" "_law_cell" (defArgs s__law_cell) (defBody s__law_cell) (defScope s__law_cell) .none kV12 dc12 pm12 an12 cd12 ct12), sl12⟩)
    (e12 : PySem.W.codeIn K cd12 "_law_cell" = true)
    (k12 : PySem.W.keepIn K (.ref f12) = true)
    (a13 : PySem.W.nsIn K mainGlobals "_law_hash" = some (some (.ref f13)))
    (l13 : K.lookup f13 = some ⟨oc13, od13, .func (PySem.W.fnOf "_law_hash" "_law_hash" (defArgs s__law_hash) (defBody s__law_hash) (defScope s__law_hash) .none kV13 dc13 pm13 an13 cd13 ct13), sl13⟩)
    (e13 : PySem.W.codeIn K cd13 "_law_hash" = true)
    (k13 : PySem.W.keepIn K (.ref f13) = true)
    (a14 : PySem.W.nsIn K mainGlobals "_law_generator" = some (some (.ref f14)))
    (l14 : K.lookup f14 = some ⟨oc14, od14, .func (PySem.W.fnOf "_law_generator" "_law_generator" (defArgs s__law_generator) (defBody s__law_generator) (defScope s__law_generator) .none kV14 dc14 pm14 an14 cd14 ct14), sl14⟩)
    (e14 : PySem.W.codeIn K cd14 "_law_generator" = true)
    (k14 : PySem.W.keepIn K (.ref f14) = true)
    (a15 : PySem.W.nsIn K mainGlobals "_law_random" = some (some (.ref f15)))
    (l15 : K.lookup f15 = some ⟨oc15, od15, .func (PySem.W.fnOf "_law_random" "_law_random" (defArgs s__law_random) (defBody s__law_random) (defScope s__law_random) .none kV15 dc15 pm15 an15 cd15 ct15), sl15⟩)
    (e15 : PySem.W.codeIn K cd15 "_law_random" = true)
    (k15 : PySem.W.keepIn K (.ref f15) = true)
    (a16 : PySem.W.nsIn K mainGlobals "_law_price" = some (some (.ref f16)))
    (l16 : K.lookup f16 = some ⟨oc16, od16, .func (PySem.W.fnOf "_law_price" "_law_price" (defArgs s__law_price) (defBody s__law_price) (defScope s__law_price) .none kV16 dc16 pm16 an16 cd16 ct16), sl16⟩)
    (e16 : PySem.W.codeIn K cd16 "_law_price" = true)
    (k16 : PySem.W.keepIn K (.ref f16) = true)
    (a17 : PySem.W.nsIn K mainGlobals "_law_least" = some (some (.ref f17)))
    (l17 : K.lookup f17 = some ⟨oc17, od17, .func (PySem.W.fnOf "_law_least" "_law_least" (defArgs s__law_least) (defBody s__law_least) (defScope s__law_least) .none kV17 dc17 pm17 an17 cd17 ct17), sl17⟩)
    (e17 : PySem.W.codeIn K cd17 "_law_least" = true)
    (k17 : PySem.W.keepIn K (.ref f17) = true)
    (a18 : PySem.W.nsIn K mainGlobals "_law_folds" = some (some (.ref f18)))
    (l18 : K.lookup f18 = some ⟨oc18, od18, .func (PySem.W.fnOf "_law_folds" "_law_folds" (defArgs s__law_folds) (defBody s__law_folds) (defScope s__law_folds) .none kV18 dc18 pm18 an18 cd18 ct18), sl18⟩)
    (e18 : PySem.W.codeIn K cd18 "_law_folds" = true)
    (k18 : PySem.W.keepIn K (.ref f18) = true)
    (a19 : PySem.W.nsIn K mainGlobals "law" = some (some (.ref f19)))
    (l19 : K.lookup f19 = some ⟨oc19, od19, .func (PySem.W.fnOf "law" "law" (defArgs s_law) (defBody s_law) (defScope s_law) .none kV19 dc19 pm19 an19 cd19 ct19), sl19⟩)
    (e19 : PySem.W.codeIn K cd19 "law" = true)
    (k19 : PySem.W.keepIn K (.ref f19) = true)
    (c_GREATEST_WIDTH : PySem.W.nsIn K mainGlobals "GREATEST_WIDTH" = some (some (.int 120 t_GREATEST_WIDTH)))
    (z_all : PySem.W.nsIn K mainGlobals "all" = some none)
    (z_bool : PySem.W.nsIn K mainGlobals "bool" = some none)
    (z_int : PySem.W.nsIn K mainGlobals "int" = some none)
    (z_isinstance : PySem.W.nsIn K mainGlobals "isinstance" = some none)
    (z_len : PySem.W.nsIn K mainGlobals "len" = some none)
    (z_list : PySem.W.nsIn K mainGlobals "list" = some none)
    (z_max : PySem.W.nsIn K mainGlobals "max" = some none)
    (z_min : PySem.W.nsIn K mainGlobals "min" = some none)
    (z_range : PySem.W.nsIn K mainGlobals "range" = some none)
    (z_sum : PySem.W.nsIn K mainGlobals "sum" = some none) :
    ∃ fd : FuncData, (∀ (s : Shared) (v : Value), BindsTo s fd ⟨[v], []⟩ [("_law_script", v)]) ∧ ∀ base : Heap, K.In base → base.Ns mainGlobals mg → FnOk l.prog w K mg base CX0 6 fa fd ["_law_script"] (sp_law K) := by
  have e := hfa.symm.trans (PySem.W.mg_of X G a19)
  cases e
  have F1 := fun_mk (st := s_is_number) l1 e1 k1
  have b1 := F1.binds (ps := ["value"]) fun _ _ _ _ _ _ us hl => match us, hl with | [_], _ => rfl
  have F2 := fun_mk (st := s_is_within) l2 e2 k2
  have b2 := F2.binds (ps := ["value", "low", "high"]) fun _ _ _ _ _ _ us hl => match us, hl with | [_, _, _], _ => rfl
  have F3 := fun_mk (st := s_is_count) l3 e3 k3
  have b3 := F3.binds (ps := ["value"]) fun _ _ _ _ _ _ us hl => match us, hl with | [_], _ => rfl
  have F4 := fun_mk (st := s_is_counts) l4 e4 k4
  have b4 := F4.binds (ps := ["value"]) fun _ _ _ _ _ _ us hl => match us, hl with | [_], _ => rfl
  have F5 := fun_mk (st := s_check_folds) l5 e5 k5
  have b5 := F5.binds (ps := ["folds"]) fun _ _ _ _ _ _ us hl => match us, hl with | [_], _ => rfl
  have F6 := fun_mk (st := s_check_width) l6 e6 k6
  have b6 := F6.binds (ps := ["width"]) fun _ _ _ _ _ _ us hl => match us, hl with | [_], _ => rfl
  have F7 := fun_mk (st := s_cost_at) l7 e7 k7
  have b7 := F7.binds (ps := ["folds", "width"]) fun _ _ _ _ _ _ us hl => match us, hl with | [_, _], _ => rfl
  have F8 := fun_mk (st := s_price) l8 e8 k8
  have b8 := F8.binds (ps := ["folds", "width"]) fun _ _ _ _ _ _ us hl => match us, hl with | [_, _], _ => rfl
  have F9 := fun_mk (st := s_least_width) l9 e9 k9
  have b9 := F9.binds (ps := ["folds"]) fun _ _ _ _ _ _ us hl => match us, hl with | [_], _ => rfl
  have F10 := fun_mk (st := s_best_widths) l10 e10 k10
  have b10 := F10.binds (ps := ["folds"]) fun _ _ _ _ _ _ us hl => match us, hl with | [_], _ => rfl
  have F11 := fun_mk (st := s_rise) l11 e11 k11
  have b11 := F11.binds (ps := ["folds", "width"]) fun _ _ _ _ _ _ us hl => match us, hl with | [_, _], _ => rfl
  have F12 := fun_mk (st := s__law_cell) l12 e12 k12
  have b12 := F12.binds (ps := ["_law_script", "_law_index"]) fun _ _ _ _ _ _ us hl => match us, hl with | [_, _], _ => rfl
  have F13 := fun_mk (st := s__law_hash) l13 e13 k13
  have b13 := F13.binds (ps := ["_law_seed", "_law_index"]) fun _ _ _ _ _ _ us hl => match us, hl with | [_, _], _ => rfl
  have F14 := fun_mk (st := s__law_generator) l14 e14 k14
  have b14 := F14.binds (ps := ["_law_script", "_law_index"]) fun _ _ _ _ _ _ us hl => match us, hl with | [_, _], _ => rfl
  have F15 := fun_mk (st := s__law_random) l15 e15 k15
  have b15 := F15.binds (ps := ["_law_generator_here", "_law_bound"]) fun _ _ _ _ _ _ us hl => match us, hl with | [_, _], _ => rfl
  have F16 := fun_mk (st := s__law_price) l16 e16 k16
  have b16 := F16.binds (ps := ["_law_folds_here", "_law_width"]) fun _ _ _ _ _ _ us hl => match us, hl with | [_, _], _ => rfl
  have F17 := fun_mk (st := s__law_least) l17 e17 k17
  have b17 := F17.binds (ps := ["_law_folds_here"]) fun _ _ _ _ _ _ us hl => match us, hl with | [_], _ => rfl
  have F18 := fun_mk (st := s__law_folds) l18 e18 k18
  have b18 := F18.binds (ps := ["_law_generator_here", "_law_most"]) fun _ _ _ _ _ _ us hl => match us, hl with | [_, _], _ => rfl
  have F19 := fun_mk (st := s_law) l19 e19 k19
  have b19 := F19.binds (ps := ["_law_script"]) fun _ _ _ _ _ _ us hl => match us, hl with | [_], _ => rfl
  exact ⟨_, fun s v => .of_eq rfl, fun base _ _ => ok_law { a_is_number := f1, d_is_number := _, f_is_number := F1, b_is_number := b1, g_is_number := PySem.W.mg_of X G a1, a_is_within := f2, d_is_within := _, f_is_within := F2, b_is_within := b2, g_is_within := PySem.W.mg_of X G a2, a_is_count := f3, d_is_count := _, f_is_count := F3, b_is_count := b3, g_is_count := PySem.W.mg_of X G a3, a_is_counts := f4, d_is_counts := _, f_is_counts := F4, b_is_counts := b4, g_is_counts := PySem.W.mg_of X G a4, a_check_folds := f5, d_check_folds := _, f_check_folds := F5, b_check_folds := b5, g_check_folds := PySem.W.mg_of X G a5, a_check_width := f6, d_check_width := _, f_check_width := F6, b_check_width := b6, g_check_width := PySem.W.mg_of X G a6, a_cost_at := f7, d_cost_at := _, f_cost_at := F7, b_cost_at := b7, g_cost_at := PySem.W.mg_of X G a7, a_price := f8, d_price := _, f_price := F8, b_price := b8, g_price := PySem.W.mg_of X G a8, a_least_width := f9, d_least_width := _, f_least_width := F9, b_least_width := b9, g_least_width := PySem.W.mg_of X G a9, a_best_widths := f10, d_best_widths := _, f_best_widths := F10, b_best_widths := b10, g_best_widths := PySem.W.mg_of X G a10, a_rise := f11, d_rise := _, f_rise := F11, b_rise := b11, g_rise := PySem.W.mg_of X G a11, a__law_cell := f12, d__law_cell := _, f__law_cell := F12, b__law_cell := b12, g__law_cell := PySem.W.mg_of X G a12, a__law_hash := f13, d__law_hash := _, f__law_hash := F13, b__law_hash := b13, g__law_hash := PySem.W.mg_of X G a13, a__law_generator := f14, d__law_generator := _, f__law_generator := F14, b__law_generator := b14, g__law_generator := PySem.W.mg_of X G a14, a__law_random := f15, d__law_random := _, f__law_random := F15, b__law_random := b15, g__law_random := PySem.W.mg_of X G a15, a__law_price := f16, d__law_price := _, f__law_price := F16, b__law_price := b16, g__law_price := PySem.W.mg_of X G a16, a__law_least := f17, d__law_least := _, f__law_least := F17, b__law_least := b17, g__law_least := PySem.W.mg_of X G a17, a__law_folds := f18, d__law_folds := _, f__law_folds := F18, b__law_folds := b18, g__law_folds := PySem.W.mg_of X G a18, a_law := fa, d_law := _, f_law := F19, b_law := b19, g_law := PySem.W.mg_of X G a19, t_GREATEST_WIDTH := t_GREATEST_WIDTH, c_GREATEST_WIDTH := PySem.W.mg_of X G c_GREATEST_WIDTH, m_all := PySem.W.mg_none_of X G z_all, m_bool := PySem.W.mg_none_of X G z_bool, m_int := PySem.W.mg_none_of X G z_int, m_isinstance := PySem.W.mg_none_of X G z_isinstance, m_len := PySem.W.mg_none_of X G z_len, m_list := PySem.W.mg_none_of X G z_list, m_max := PySem.W.mg_none_of X G z_max, m_min := PySem.W.mg_none_of X G z_min, m_range := PySem.W.mg_none_of X G z_range, m_sum := PySem.W.mg_none_of X G z_sum }⟩
end K41
open PySem PySem.W PyProof.Rows
set_option maxHeartbeats 0 in
theorem PySem.Challenge.cw_wholesound_k41_least_widths_holds : PySem.Challenge.rw_wholesound_k41_least_widths.Holds := by
  w_on; o_law; k_head; (case hw => w_witness2)
  k_fill
  refine L2.walk_of (l := PySem.Challenge.rw_wholesound_k41_least_widths) (n := 63) (k := 6) (x := "_law_script") (CX := fun _ => L2.CX0) (sp := fun w => K41.sp_law _) rfl (by decide) rfl ⟨rfl, by decide, by decide⟩ (fun w h Y => PySem.W.kIn_of Y) ?F (fun _ _ a ns hl _ hS => ⟨a, ns, rfl, hS, hl, fun _ => rfl⟩) (fun _ _ _ _ _ h => h)
  case F =>
    intro w mg fa h KX G hmg
    refine' K41.all_mk KX G hmg ?a1 ?l1 ?e1 ?k1 ?a2 ?l2 ?e2 ?k2 ?a3 ?l3 ?e3 ?k3 ?a4 ?l4 ?e4 ?k4 ?a5 ?l5 ?e5 ?k5 ?a6 ?l6 ?e6 ?k6 ?a7 ?l7 ?e7 ?k7 ?a8 ?l8 ?e8 ?k8 ?a9 ?l9 ?e9 ?k9 ?a10 ?l10 ?e10 ?k10 ?a11 ?l11 ?e11 ?k11 ?a12 ?l12 ?e12 ?k12 ?a13 ?l13 ?e13 ?k13 ?a14 ?l14 ?e14 ?k14 ?a15 ?l15 ?e15 ?k15 ?a16 ?l16 ?e16 ?k16 ?a17 ?l17 ?e17 ?k17 ?a18 ?l18 ?e18 ?k18 ?a19 ?l19 ?e19 ?k19 ?c_GREATEST_WIDTH ?z_all ?z_bool ?z_int ?z_isinstance ?z_len ?z_list ?z_max ?z_min ?z_range ?z_sum
    (case a1 => k_is); (case l1 => k_is); (case e1 => k_is); (case k1 => k_is); (case a2 => k_is); (case l2 => k_is)
    (case e2 => k_is); (case k2 => k_is); (case a3 => k_is); (case l3 => k_is); (case e3 => k_is); (case k3 => k_is)
    (case a4 => k_is); (case l4 => k_is); (case e4 => k_is); (case k4 => k_is); (case a5 => k_is); (case l5 => k_is)
    (case e5 => k_is); (case k5 => k_is); (case a6 => k_is); (case l6 => k_is); (case e6 => k_is); (case k6 => k_is)
    (case a7 => k_is); (case l7 => k_is); (case e7 => k_is); (case k7 => k_is); (case a8 => k_is); (case l8 => k_is)
    (case e8 => k_is); (case k8 => k_is); (case a9 => k_is); (case l9 => k_is); (case e9 => k_is); (case k9 => k_is)
    (case a10 => k_is); (case l10 => k_is); (case e10 => k_is); (case k10 => k_is); (case a11 => k_is); (case l11 => k_is)
    (case e11 => k_is); (case k11 => k_is); (case a12 => k_is); (case l12 => k_is); (case e12 => k_is); (case k12 => k_is)
    (case a13 => k_is); (case l13 => k_is); (case e13 => k_is); (case k13 => k_is); (case a14 => k_is); (case l14 => k_is)
    (case e14 => k_is); (case k14 => k_is); (case a15 => k_is); (case l15 => k_is); (case e15 => k_is); (case k15 => k_is)
    (case a16 => k_is); (case l16 => k_is); (case e16 => k_is); (case k16 => k_is); (case a17 => k_is); (case l17 => k_is)
    (case e17 => k_is); (case k17 => k_is); (case a18 => k_is); (case l18 => k_is); (case e18 => k_is); (case k18 => k_is)
    (case a19 => k_is); (case l19 => k_is); (case e19 => k_is); (case k19 => k_is); (case c_GREATEST_WIDTH => k_is); (case z_all => k_is)
    (case z_bool => k_is); (case z_int => k_is); (case z_isinstance => k_is); (case z_len => k_is); (case z_list => k_is); (case z_max => k_is)
    (case z_min => k_is); (case z_range => k_is); (case z_sum => k_is)
