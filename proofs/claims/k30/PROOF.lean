import PyProof.Rows.All
import Wide.All
import OpenK.AllK
import Wide.FinOn
import HandS.ForMost
import HandS.Evl
import HandS.WideBits
import HandS.WideMore
import HandS.Style
import HandS.IsInst
import HandS.OwnEq
import HandS.Iter
import HandS.More
import PySem.Challenge.RW_wholesound_k30_mixed_and_led_back
set_option Elab.async false
set_option linter.all false
set_option maxRecDepth 100000
set_option maxHeartbeats 2000000
namespace WS
open PySem PySem.Spec PyProof.Rows L2 Evl

/-! ### a power of any size -/
def CPowW (i j : Int) : Prop := 0 ≤ j ∧ (Builtin.Int.intBits i : Int) * j ≤ 2 ^ 27
section
variable {X : Cx}
theorem op_powW : OpR X (binaryOp .Pow) (rI CPowW fun i j => .int (i ^ j.toNat)) := opI fun _ _ _ _ _ _ _ hc q => pow_int hc.1 hc.2 q
end

section
variable {K : PySem.W.Frag} {σ : L2.St} {H H' : Hp} {ta tb te tx tl : TE} {t u : TT} {x y z v : V} {r : R2} {D : Ends} {tu tw tz : TS} {g : TG}
theorem ev_sumN {ns : List Int} (h : EvL te σ H (ns.map V.int)) : Ev (tCB (rSum K) (tCons te tNil)) σ H (.int ns.sum) := fun H1 e Q q =>
  h H1 e _ fun p H2 _ e2 h2 => ⟨p, ns, rfl, sq_of h2, q H2 e2⟩
theorem ev_sum {p : Addr} {ns : List Int} (h : Ev te σ H (.ref p)) (hp : SqL K H p (ns.map V.int)) : Ev (tCB (rSum K) (tCons te tNil)) σ H (.int ns.sum) := fun H1 e Q q =>
  h H1 e _ fun H2 e2 => ⟨p, ns, rfl, ex_l (e.trans e2) hp, q H2 e2⟩
theorem ev_allN {bs : List Bool} (h : EvL te σ H (bs.map V.bl)) : Ev (tCB (rAll K) (tCons te tNil)) σ H (.bl (bs.all id)) := fun H1 e Q q =>
  h H1 e _ fun p H2 _ e2 h2 => ⟨p, bs, rfl, sq_of h2, q H2 e2⟩
theorem ev_min {p : Addr} {ns : List Int} {m : Int} (h : Ev te σ H (.ref p)) (hp : SqL K H p (ns.map V.int)) (hm : m ∈ ns) (hle : ∀ y ∈ ns, m ≤ y) : Ev (tCB (rMin K) (tCons te tNil)) σ H (.int m) := fun H1 e Q q =>
  h H1 e _ fun H2 e2 => ⟨p, ns, rfl, ex_l (e.trans e2) hp, by cases ns with | nil => cases hm | cons a r => simp, fun k hk hkl => by
    have : k = m := Int.le_antisymm (hkl m hm) (hle k hk)
    rw [this]
    exact q H2 e2⟩
def rInt1 : List V → Hp → VK → Prop := fun xs H Q => (∃ i, xs = [.int i] ∧ Q (.int i) H) ∨ ∃ k, xs = [.bl k] ∧ Q (.int (if k then 1 else 0)) H
theorem ev_int {i : Int} (h : Ev te σ H (.int i)) : Ev (tCB rInt1 (tCons te tNil)) σ H (.int i) := fun H1 e Q q =>
  h H1 e _ fun H2 e2 => Or.inl ⟨i, rfl, q H2 e2⟩
theorem ev_intB {k : Bool} (h : Ev te σ H (.bl k)) : Ev (tCB rInt1 (tCons te tNil)) σ H (.int (if k then 1 else 0)) := fun H1 e Q q =>
  h H1 e _ fun H2 e2 => Or.inr ⟨k, rfl, q H2 e2⟩
theorem ev_bits {i : Int} (h : Ev te σ H (.int i)) : Ev (tBits te) σ H (.int (Builtin.Int.intBits i : Nat)) := fun H1 e Q q =>
  h H1 e _ fun H2 e2 => ⟨i, rfl, q H2 e2⟩
/-- isinstance of a scalar -/
theorem ev_isi {ty : Value} {b : Bool} {n : String} (h : Ev te σ H x) (ht : ∀ H1, Ex H H1 → TyX K H1 x ty) (hk : PySem.W.kitOne K ty (.type n) = some b) : Ev (tCB (rIsi K) (tCons te (tCons (tC (.ty n)) tNil))) σ H (.bl b) := fun H1 e Q q =>
  h H1 e _ fun H2 e2 => ⟨x, .ty n, ty, .type n, b, rfl, ClsV.ty n, ht H2 (e.trans e2), hk, q H2 e2⟩
theorem ev_isiI {i : Int} {b : Bool} {n : String} (h : Ev te σ H (.int i)) (hk : kitB "int" n = some b) : Ev (tCB (rIsi K) (tCons te (tCons (tC (.ty n)) tNil))) σ H (.bl b) :=
  ev_isi h (fun _ _ => TyX.base (TyOf.int i)) (kit_ty hk)
theorem ev_isiL {p : Addr} {xs : List V} {b : Bool} {n : String} (h : Ev te σ H (.ref p)) (hp : H p = some (.lst xs)) (hk : kitB "list" n = some b) : Ev (tCB (rIsi K) (tCons te (tCons (tC (.ty n)) tNil))) σ H (.bl b) :=
  ev_isi h (fun _ e => TyX.base (TyOf.lst (e _ _ hp))) (kit_ty hk)
theorem ev_chain {r' : R2} {tc : TE} {w' : V} {k k' : Bool} (ha : Ev ta σ H x) (hb : Ev tb σ H y) (hr : RV r x y H (.bl k)) (hc : Ev tc σ H w') (hr' : RV r' y w' H (.bl k')) : Ev (tChain r r' ta tb tc) σ H (.bl (k && k')) := fun H1 e Q q =>
  ha H1 e _ fun H2 e2 => hb H2 (e.trans e2) _ fun H3 e3 => hr H3 ((e.trans e2).trans e3) _ fun H4 e4 => ⟨k, rfl, by
    have e' := ((e.trans e2).trans e3).trans e4
    cases k with
    | true =>
      rw [if_pos rfl]
      exact hc H4 e' _ fun H5 e5 => hr' H5 (e'.trans e5) Q fun H6 e6 => q H6 ((((e2.trans e3).trans e4).trans e5).trans e6)
    | false =>
      rw [if_neg Bool.false_ne_true]
      exact q H4 ((e2.trans e3).trans e4)⟩
/-- [f(x) for x in ns] -/
theorem given_map {α : Type} (xs : List α) (d : α) (f : α → V) : given xs.length (fun _ => true) (fun i => f (xs.getD i d)) = xs.map f := by
  unfold given
  rw [List.filter_eq_self.mpr (fun _ _ => rfl)]
  apply List.ext_getElem?
  intro i
  rw [List.getElem?_map, List.getElem?_map]
  by_cases h : i < xs.length
  · rw [List.getElem?_range h, List.getElem?_eq_getElem h]
    simp only [Option.map_some]
    rw [List.getD_eq_getElem?_getD, List.getElem?_eq_getElem h] <;> rfl
  · rw [List.getElem?_eq_none (by rw [List.length_range]; omega), List.getElem?_eq_none (by omega)]
    rfl
theorem el_map {a : Addr} {j : Nat} {vs : List Nat} {α : Type} (d : α) {xs : List α} {c : α → V} (f : α → V) (h : Ev tl σ H (.ref a)) (hx : SqL K H a (xs.map c)) (hz : xs.length ≤ 40000) (hw : ∀ x, wipe ((wipe σ vs).set j (some x)) vs = wipe σ vs)
    (he : ∀ (x : α) H1, Ex H H1 → x ∈ xs → Ev te ((wipe σ vs).set j (some (c x))) H1 (f x)) : EvL (tLc (iList K tl) (gName j) tYes te vs) σ H (xs.map f) := by
  rw [← given_map xs d f]
  have hl : (xs.map c).length = xs.length := List.length_map _
  rw [← hl]
  refine el_lcL (fun _ => true) _ h hx (by rw [hl]; exact hz) hw (fun i x H1 e hi => fun H2 _ Q q => q H2 (Ex.refl H2)) (fun i x H1 e hi _ => ?_)
  rw [List.getElem?_map] at hi
  cases hq : xs[i]? with
  | none => rw [hq] at hi; cases hi
  | some y =>
    rw [hq] at hi
    have ey : c y = x := Option.some.inj hi
    rw [← ey, List.getD_eq_getElem?_getD, hq]
    exact he y H1 e (List.mem_of_getElem? hq)
/-- [f(i) for i in range(n)] -/
theorem el_mapR {a : TA} {j : Nat} {vs : List Nat} {n : Nat} (f : Nat → V) (h : EvA a σ H [.int (n : Int)]) (hn : n ≤ 40000) (hw : ∀ x, wipe ((wipe σ vs).set j (some x)) vs = wipe σ vs)
    (he : ∀ (i : Nat) H1, Ex H H1 → i < n → Ev te ((wipe σ vs).set j (some (.int (i : Int)))) H1 (f i)) : EvL (tLc (iRng1 a) (gName j) tYes te vs) σ H ((List.range n).map f) := by
  have k := el_lcR1 (t := tYes) (te := te) (j := j) (vs := vs) (fun _ => true) f h (by omega) hw (fun i H1 e hi => fun H2 _ Q q => q H2 (Ex.refl H2)) (fun i H1 e hi _ => he i H1 e (by omega))
  unfold given at k
  rw [List.filter_eq_self.mpr (fun _ _ => rfl), Int.toNat_natCast] at k
  exact k
theorem et_if {b : Bool} {te1 te2 : TE} (h : EvT t σ H b) (h1 : b = true → Ev te1 σ H v) (h2 : b = false → Ev te2 σ H v) : Ev (tIf t te1 te2) σ H v := ev_if h h1 h2
/-- a call whose argument is a new list -/
theorem ev_callN {sp : Sp} {xs : List V} {E : XK} (h : EvL te σ H xs) (hs : ∀ p H1, H1 p = some (.lst xs) → Ex H H1 → SpV sp [.ref p] H1 z) : Ev (tCall sp [] E (tCons te tNil)) σ H z := fun H1 e Q q =>
  h H1 e _ fun p H2 _ e2 hp => hs p H2 hp (e.trans e2) H2 (Ex.refl H2) Q (fun H3 e3 => q H3 (e2.trans e3)) E
theorem ev_op2 {H0 : Hp} (e : Ex H0 H) (h : Ev te σ H0 v) : Ev te σ H v := h.mono e
end
/-! ### frames where one object may change -/
/-- all that was tracked but at g is as it was -/
def ExB (g : Addr) (H H' : Hp) : Prop := ∀ a o, a ≠ g → H a = some o → H' a = some o
theorem ExB.refl (g : Addr) (H : Hp) : ExB g H H := fun _ _ _ h => h
theorem ExB.trans {g : Addr} {H H1 H2 : Hp} (a : ExB g H H1) (b : ExB g H1 H2) : ExB g H H2 := fun x o n h => b x o n (a x o n h)
theorem ExB.of {g : Addr} {H H1 : Hp} (a : Ex H H1) : ExB g H H1 := fun x o _ h => a x o h
theorem ExB.upd {g : Addr} {H H1 : Hp} {o : HO} (a : ExB g H H1) : ExB g H (upd H1 g o) := fun x u n h => by
  rw [upd_ne n]
  exact a x u n h
theorem exb_new {g : Addr} {H H1 H2 : Hp} (e : Ex H H1) (hg : H g = none) (E : ExB g H1 H2) : Ex H H2 := fun b o h => E b o (ne_of_none h hg) (e b o h)
theorem ExB.back {g : Addr} {H H' : Hp} {o : HO} (e : ExB g H H') (hg : H' g = some o) {p : Addr} (h : H' p = none) : H p = none := by
  cases q : H p with
  | none => rfl
  | some u =>
    by_cases n : p = g
    · rw [n, hg] at h; cases h
    · rw [e p u n q] at h; cases h

/-! ### data: scalars, lists and tuples of them -/
def sD : V → PyData
  | .int i => .int i
  | .bl b => .bool b
  | _ => .none
def isSc : V → Bool
  | .int _ => true
  | .bl _ => true
  | .non => true
  | _ => false
section
variable {K : PySem.W.Frag} {H : Hp}
theorem dp_sc {v : V} (h : isSc v = true) : Dp K H v (sD v) := by
  cases v <;> first | cases h | skip
  · exact .non
  · exact .bl _
  · exact .int _
theorem dpAll_sc : ∀ {vs : List V}, vs.all isSc = true → DpAll K H vs (vs.map sD)
  | [], _ => .nil
  | v :: r, h => by
    rw [List.all_cons, Bool.and_eq_true] at h
    exact .cons (dp_sc h.1) (dpAll_sc h.2)
theorem lay_sc (v : V) : PyData.canLay0 (sD v) = true := by
  cases v <;> rfl
theorem layAll_sc : ∀ vs : List V, PyData.canLayAll0 (vs.map sD) = true
  | [] => rfl
  | v :: r => by
    rw [List.map_cons, PyData.canLayAll0, lay_sc v, layAll_sc r]
    rfl
theorem depth_sc (v : V) : PyData.depth (sD v) = 0 := by
  cases v <;> rfl
theorem depthAll_sc : ∀ vs : List V, PyData.depthAll (vs.map sD) = 0
  | [] => rfl
  | v :: r => by
    rw [List.map_cons, PyData.depthAll, depth_sc v, depthAll_sc r]
    rfl
theorem shaped_tup (vs : List V) : SeqAt.shaped (.tuple (vs.map sD)) = true := by
  unfold SeqAt.shaped
  rw [PyData.canLay0, layAll_sc, PyData.depth, depthAll_sc]
  rfl
theorem shaped_lst (vs : List V) : SeqAt.shaped (.list (vs.map sD)) = true := by
  unfold SeqAt.shaped
  rw [PyData.canLay0, layAll_sc, PyData.depth, depthAll_sc]
  rfl
theorem ints_sc : ∀ ns : List Int, (ns.map V.int).all isSc = true
  | [] => rfl
  | _ :: r => by rw [List.map_cons, List.all_cons, ints_sc r]; rfl
theorem ints_sD (ns : List Int) : (ns.map V.int).map sD = ns.map PyData.int := by rw [List.map_map]; rfl
/-- two tuples with the same scalars -/
theorem rv_neT {a b : Addr} {xs : List V} (ha : H a = some (.tup xs)) (hb : H b = some (.tup xs)) (h : xs.all isSc = true) : RV (rNeD K) (.ref a) (.ref b) H (.bl false) := fun H1 e Q q =>
  ⟨.tuple (xs.map sD), .tuple (xs.map sD), .tup (st_of (e _ _ ha)) (dpAll_sc h), .tup (st_of (e _ _ hb)) (dpAll_sc h), shaped_tup xs, shaped_tup xs, by
    rw [SeqAt.eqv_refl _ (SeqAt.canLay_of_shaped (shaped_tup xs))]
    exact q H1 (Ex.refl H1)⟩
theorem rv_eqT {a b : Addr} {xs : List V} (ha : H a = some (.tup xs)) (hb : H b = some (.tup xs)) (h : xs.all isSc = true) : RV (rEqD K) (.ref a) (.ref b) H (.bl true) := fun H1 e Q q =>
  ⟨.tuple (xs.map sD), .tuple (xs.map sD), .tup (st_of (e _ _ ha)) (dpAll_sc h), .tup (st_of (e _ _ hb)) (dpAll_sc h), shaped_tup xs, shaped_tup xs, by
    rw [SeqAt.eqv_refl _ (SeqAt.canLay_of_shaped (shaped_tup xs))]
    exact q H1 (Ex.refl H1)⟩
/-- two lists of ints -/
theorem rv_eqI {a b : Addr} {ns ms : List Int} (ha : SqL K H a (ns.map V.int)) (hb : SqL K H b (ms.map V.int)) : RV (rEqD K) (.ref a) (.ref b) H (.bl (decide (ns = ms))) := fun H1 e Q q =>
  ⟨.list ((ns.map V.int).map sD), .list ((ms.map V.int).map sD), .lst (ex_l e ha) (dpAll_sc (ints_sc ns)), .lst (ex_l e hb) (dpAll_sc (ints_sc ms)), shaped_lst _, shaped_lst _, by
    rw [ints_sD, ints_sD, PyData.eqv, PySem.W.ked_eqvAll]
    exact q H1 (Ex.refl H1)⟩
theorem rv_neI {a b : Addr} {ns ms : List Int} (ha : SqL K H a (ns.map V.int)) (hb : SqL K H b (ms.map V.int)) : RV (rNeD K) (.ref a) (.ref b) H (.bl (!decide (ns = ms))) := fun H1 e Q q =>
  ⟨.list ((ns.map V.int).map sD), .list ((ms.map V.int).map sD), .lst (ex_l e ha) (dpAll_sc (ints_sc ns)), .lst (ex_l e hb) (dpAll_sc (ints_sc ms)), shaped_lst _, shaped_lst _, by
    rw [ints_sD, ints_sD, PyData.eqv, PySem.W.ked_eqvAll]
    exact q H1 (Ex.refl H1)⟩
end
/-- a new tuple is handed back -/
def RetU (xs : List V) (H : Hp) (Q : VK) : Prop := ∀ p H2, H p = none → Ex H H2 → H2 p = some (.tup xs) → Q (.ref p) H2
theorem RetU.go {xs : List V} {H H' : Hp} {Q : VK} (k : RetU xs H Q) (e : Ex H H') {p : Addr} {H2 : Hp} (hp : H' p = none) (e2 : Ex H' H2) (h : H2 p = some (.tup xs)) : Q (.ref p) H2 := k p H2 (fresh_back e hp) (e.trans e2) h
theorem RetU.ex {xs : List V} {H H' : Hp} {Q : VK} (k : RetU xs H Q) (e : Ex H H') : RetU xs H' Q := fun p H2 hp e2 h => k p H2 (fresh_back e hp) (e.trans e2) h
theorem eu_if {σ : L2.St} {H : Hp} {t : TT} {ta tb : TE} {xs : List V} {b : Bool} (h : EvT t σ H b) (h1 : b = true → EvU ta σ H xs) (h2 : b = false → EvU tb σ H xs) : EvU (tIf t ta tb) σ H xs := fun H1 e Q q => h H1 e _ fun H2 e2 => by
  cases b with
  | true =>
    show ta σ H2 Q
    exact h1 rfl H2 (e.trans e2) Q fun p H3 hp e3 h3 => q p H3 (fresh_back e2 hp) (e2.trans e3) h3
  | false =>
    show tb σ H2 Q
    exact h2 rfl H2 (e.trans e2) Q fun p H3 hp e3 h3 => q p H3 (fresh_back e2 hp) (e2.trans e3) h3
section
variable {K : PySem.W.Frag} {σ : L2.St} {H H' : Hp} {ta tb te tx tl : TE} {tr : TA} {t u : TT} {x y z v : V} {r : R2} {D : Ends} {tu tw tz : TS}
/-- the first operand a new tuple -/
theorem ev_opU1 {xs : List V} (ha : EvU ta σ H xs) (hb : ∀ H1, Ex H H1 → Ev tb σ H1 y) (hr : ∀ p H1, H1 p = some (.tup xs) → Ex H H1 → RV r (.ref p) y H1 z) : Ev (tOp r ta tb) σ H z := fun H1 e Q q =>
  ha H1 e _ fun p H2 _ e2 hp => hb H2 (e.trans e2) H2 (Ex.refl H2) _ fun H3 e3 => hr p H3 (e3 p _ hp) ((e.trans e2).trans e3) H3 (Ex.refl H3) Q fun H4 e4 => q H4 ((e2.trans e3).trans e4)
theorem el_cat {a b : Addr} {xs zs : List V} (ha : Ev ta σ H (.ref a)) (hb : Ev tb σ H (.ref b)) (h1 : H a = some (.lst xs)) (h2 : H b = some (.lst zs)) (hz : xs.length + zs.length ≤ 100000) : EvL (tOp rCat ta tb) σ H (xs ++ zs) := fun H1 e Q q =>
  ha H1 e _ fun H2 e2 => hb H2 (e.trans e2) _ fun H3 e3 => ⟨a, b, xs, zs, rfl, rfl, e3 _ _ (e2 _ _ (e _ _ h1)), e3 _ _ (e2 _ _ (e _ _ h2)), sz_of hz, fun p hp => q p _ (fresh_back (e2.trans e3) hp) ((e2.trans e3).trans (Ex.new hp)) upd_same⟩
/-- the second one a new list -/
theorem el_catN {a : Addr} {xs zs : List V} (ha : Ev ta σ H (.ref a)) (hb : EvL tb σ H zs) (h1 : H a = some (.lst xs)) (hz : xs.length + zs.length ≤ 100000) : EvL (tOp rCat ta tb) σ H (xs ++ zs) := fun H1 e Q q =>
  ha H1 e _ fun H2 e2 => hb H2 (e.trans e2) _ fun b H3 _ e3 h3 => ⟨a, b, xs, zs, rfl, rfl, e3 _ _ (e2 _ _ (e _ _ h1)), h3, sz_of hz, fun p hp => q p _ (fresh_back (e2.trans e3) hp) ((e2.trans e3).trans (Ex.new hp)) upd_same⟩
/-- a slice of a new list -/
theorem el_slN {tl th : TO} {xs : List V} {lo hi : Option Int} (h : EvL te σ H xs) (h1 : ∀ H1, Ex H H1 → EvO tl σ H1 lo) (h2 : ∀ H1, Ex H H1 → EvO th σ H1 hi) : EvL (tSl (rSlL K) te tl th) σ H (cutV xs lo hi) := fun H1 e _ q =>
  h H1 e _ fun a H2 _ e2 ha => h1 H2 (e.trans e2) H2 (Ex.refl H2) _ fun H3 e3 => h2 H3 ((e.trans e2).trans e3) H3 (Ex.refl H3) _ fun H4 e4 =>
    ⟨a, xs, rfl, sq_of (e4 _ _ (e3 _ _ ha)), fun p hp => q p _ (fresh_back ((e2.trans e3).trans e4) hp) (((e2.trans e3).trans e4).trans (Ex.new hp)) upd_same⟩
theorem el_rev {a : Addr} {xs : List V} (h : Ev te σ H (.ref a)) (hx : SqL K H a xs) : EvL (tRevL K te) σ H xs.reverse := fun H1 e _ q =>
  h H1 e _ fun H2 e2 => ⟨a, xs, rfl, ex_l (e.trans e2) hx, fun p hp => q p _ (fresh_back e2 hp) (e2.trans (Ex.new hp)) upd_same⟩
theorem rv_isN {x : V} : RV (fun x y H Q => y = .non ∧ Q (.bl (decide (x = .non))) H) x .non H (.bl (decide (x = .non))) := fun H1 _ _ q => ⟨rfl, q H1 (Ex.refl H1)⟩
theorem q_par {i j : Nat} {tr : TA} (k : tr σ H fun vs H1 => ∃ v w, vs = [v, w] ∧ tz D ((σ.set i (some v)).set j (some w)) H1) : tSeq (tPar i j tr) tz D σ H := k
theorem s_par {i j : Nat} {tr : TA} (k : tr σ H fun vs H1 => ∃ v w, vs = [v, w] ∧ D.nx ((σ.set i (some v)).set j (some w)) H1) : tPar i j tr D σ H := k
theorem q_parV {i j : Nat} {tr : TA} {v w : V} (h : EvA tr σ H [v, w]) (k : ∀ H1, Ex H H1 → tz D ((σ.set i (some v)).set j (some w)) H1) : tSeq (tPar i j tr) tz D σ H := h H (Ex.refl H) _ fun H1 e => ⟨v, w, rfl, k H1 e⟩
/-! steps of a reading at a heap -/
theorem ta_consU {Q : List V → Hp → Prop} {xs : List V} (h : EvU te σ H xs) (k : ∀ p H1, H p = none → Ex H H1 → H1 p = some (.tup xs) → tr σ H1 fun vs H2 => Q (.ref p :: vs) H2) : tCons te tr σ H Q := h H (Ex.refl H) _ fun p H1 hp e h1 => k p H1 hp e h1
theorem ta_consL {Q : List V → Hp → Prop} {xs : List V} (h : EvL te σ H xs) (k : ∀ p H1, H p = none → Ex H H1 → H1 p = some (.lst xs) → tr σ H1 fun vs H2 => Q (.ref p :: vs) H2) : tCons te tr σ H Q := h H (Ex.refl H) _ fun p H1 hp e h1 => k p H1 hp e h1
theorem ta_consV {Q : List V → Hp → Prop} (h : Ev te σ H v) (k : ∀ H1, Ex H H1 → tr σ H1 fun vs H2 => Q (v :: vs) H2) : tCons te tr σ H Q := h H (Ex.refl H) _ fun H1 e => k H1 e
theorem el_use {Q : VK} {xs : List V} (h : EvL te σ H xs) (k : ∀ p H1, H p = none → Ex H H1 → H1 p = some (.lst xs) → Q (.ref p) H1) : te σ H Q := h H (Ex.refl H) _ fun p H1 hp e h1 => k p H1 hp e h1
theorem eu_use {Q : VK} {xs : List V} (h : EvU te σ H xs) (k : ∀ p H1, H p = none → Ex H H1 → H1 p = some (.tup xs) → Q (.ref p) H1) : te σ H Q := h H (Ex.refl H) _ fun p H1 hp e h1 => k p H1 hp e h1
theorem ev_use {Q : VK} (h : Ev te σ H v) (k : ∀ H1, Ex H H1 → Q v H1) : te σ H Q := h H (Ex.refl H) _ fun H1 e => k H1 e
theorem top_in {Q : VK} (k : ta σ H fun x H1 => tb σ H1 fun y H2 => r x y H2 Q) : tOp r ta tb σ H Q := k
theorem q_in {te : TE} {i : Nat} (k : te σ H fun x H1 => tz D (σ.set i (some x)) H1) : tSeq (tAsg te (gName i)) tz D σ H := k
theorem r_in {te : TE} (k : te σ H D.rt) : tRet te D σ H := k
theorem ta_in {Q : List V → Hp → Prop} {te : TE} (k : te σ H fun x H1 => tr σ H1 fun vs H2 => Q (x :: vs) H2) : tCons te tr σ H Q := k
theorem tup_in {Q : VK} (k : tr σ H fun vs H1 => vs.length ≤ sizeLine ∧ ∀ p, H1 p = none → Q (.ref p) (upd H1 p (.tup vs))) : tTup tr σ H Q := k
theorem et_use {Q : Bool → Hp → Prop} {b : Bool} (h : EvT t σ H b) (k : ∀ H1, Ex H H1 → Q b H1) : t σ H Q := h H (Ex.refl H) _ fun H1 e => k H1 e
theorem tif_in {Q : VK} (k : t σ H fun c H1 => if c = true then ta σ H1 Q else tb σ H1 Q) : tIf t ta tb σ H Q := k
theorem tcall_in {sp : Sp} {dvs : List V} {E : XK} {Q : VK} (k : tr σ H fun vs H1 => sp (vs ++ dvs) H1 Q E) : tCall sp dvs E tr σ H Q := k
theorem tb_in {te : TE} {Q : Bool → Hp → Prop} (k : te σ H fun x H1 => ∃ c, x = .bl c ∧ Q c H1) : tB te σ H Q := k
theorem ta_nil {Q : List V → Hp → Prop} (k : Q [] H) : tNil σ H Q := k
theorem tl_lst {Q : VK} (k : tr σ H fun vs H1 => vs.length ≤ sizeLine ∧ ∀ p, H1 p = none → Q (.ref p) (upd H1 p (.lst vs))) : tLst tr σ H Q := k
end
section
variable {K : PySem.W.Frag} {σ : L2.St} {H H' : Hp} {ta tb te tx tl : TE} {tr : TA} {t u : TT} {x y z v : V} {r : R2} {D : Ends} {tu tw tz : TS} {g : TG}
/-- for i, x in enumerate(xs) -/
theorem s_forEnum {a : Addr} {xs : List V} (h : EvA tr σ H [.ref a]) (hx : SqL K H a xs) (Pv : Nat → L2.St → Hp → Prop) (h0 : ∀ H1, Ex H H1 → Pv 0 σ H1) (hl : ∀ i σ' H', i ≤ xs.length → Pv i σ' H' → SqL K H' a xs)
    (hs : ∀ i x σ' H', xs[i]? = some x → Pv i σ' H' → ∀ T, H' T = none → g (.ref T) σ' (upd H' T (.tup [.int (i : Nat), x])) fun σ2 H2 => tu { D with nx := Pv (i + 1), ct := Pv (i + 1), bk := D.nx } σ2 H2) (hd : ∀ σ' H', Pv xs.length σ' H' → D.nx σ' H') : tFor (iEnum K tr) g tu D σ H :=
  h H (Ex.refl H) _ fun H1 e => ⟨a, xs, rfl, ex_l e hx, fun i m σ H => m = xs.length - i ∧ i ≤ xs.length ∧ Pv i σ H, ⟨xs.length, by simp, Nat.zero_le _, h0 H1 e⟩, fun i m σ' H' hw => by
    obtain ⟨rfl, hi, p⟩ := hw
    have q := hl i σ' H' hi p
    by_cases hlt : i < xs.length
    · refine .inr ⟨⟨xs, xs[i], q, by simp [hlt]⟩, Pv (i + 1), fun σ2 H2 p' => ⟨xs.length - (i + 1), by omega, rfl, hlt, p'⟩, fun v H2 y => ?_⟩
      obtain ⟨T, x, rfl, hT, rfl, hy⟩ := y
      exact hs i x σ' H' (hy xs q) p T hT
    · have e : i = xs.length := by omega
      subst e
      exact .inl ⟨⟨xs, q, Nat.le_refl _⟩, hd σ' H' p⟩⟩
/-- o.f, o.m(), C's -/
theorem ev_fld {C a dx : Addr} {fs : List (Str × V)} {f : Str} (h : Ev te σ H (.ref a)) (ho : H a = some (.ins C dx fs)) (c : Cls K C) (n : NoAttr K C f) (l : fs.lookup f = some v) : Ev (tFld K te f) σ H v := fun H1 e Q q =>
  h H1 e _ fun H2 e2 => ⟨a, C, dx, fs, v, rfl, e2 _ _ (e _ _ ho), c, n, l, q H2 e2⟩
theorem ev_meth0 {C a dx : Addr} {fs : List (Str × V)} {m : Str} {sp : Sp} {E : XK} (h : Ev te σ H (.ref a)) (ho : H a = some (.ins C dx fs)) (l : fs.lookup m = none) (hs : SpV sp [.ref a] H v) : Ev (tMeth C m sp [] E te tNil) σ H v := fun H1 e Q q =>
  h H1 e _ fun H2 e2 => ⟨a, dx, fs, rfl, e2 _ _ (e _ _ ho), l, hs H2 (e.trans e2) Q (fun H3 e3 => q H3 (e2.trans e3)) E⟩
theorem el_meth0 {C a dx : Addr} {fs : List (Str × V)} {m : Str} {sp : Sp} {E : XK} {xs : List V} (h : Ev te σ H (.ref a)) (ho : H a = some (.ins C dx fs)) (l : fs.lookup m = none) (hs : ∀ H1, Ex H H1 → ∀ Q : VK, RetL xs H1 Q → ∀ E : XK, sp [.ref a] H1 Q E) : EvL (tMeth C m sp [] E te tNil) σ H xs := fun H1 e Q q =>
  h H1 e _ fun H2 e2 => ⟨a, dx, fs, rfl, e2 _ _ (e _ _ ho), l, hs H2 (e.trans e2) Q (fun p H3 hp e3 h3 => q p H3 (fresh_back e2 hp) (e2.trans e3) h3) E⟩
theorem el_callR {sp : Sp} {dvs vs xs : List V} {E : XK} {ta : TA} (h : EvA ta σ H vs) (hs : ∀ H1, Ex H H1 → ∀ Q : VK, RetL xs H1 Q → ∀ E : XK, sp (vs ++ dvs) H1 Q E) : EvL (tCall sp dvs E ta) σ H xs := el_call h fun H1 e Q q E => hs H1 e Q q E
/-- isinstance of an own class -/
theorem ev_isiC {C a dx : Addr} {fs : List (Str × V)} (h : Ev te σ H (.ref a)) (ho : H a = some (.ins C dx fs)) (c : Cls K C)
    (i : PySem.W.findIn K (.ref C) "__class__" = some (some (.builtin "object.__class__")) ∧ PySem.W.specialIn K (.builtin "object.__class__") "__get__" = some (some (.builtin "getset_descriptor.__get__")) ∧ PySem.W.takesIn K (.builtin "object.__class__") = some true ∧ PySem.W.mroIn K C (.type "object") = some true) :
    Ev (tCB (rIsi K) (tCons te (tCons (tC (.ref C)) tNil))) σ H (.bl true) := fun H1 e Q q =>
  h H1 e _ fun H2 e2 => ⟨.ref a, .ref C, .ref C, .ref C, true, rfl, ClsV.own C, TyX.base (TyOf.ins (e2 _ _ (e _ _ ho)) c i.1 i.2.1 i.2.2.1 i.2.2.2), by
    unfold PySem.W.kitOne
    rw [if_pos (beq_self_eq_true _)], q H2 e2⟩
/-- max of a new list -/
theorem ev_maxN {ns : List Int} {m : Int} (h : EvL te σ H (ns.map V.int)) (hm : m ∈ ns) (hle : ∀ y ∈ ns, y ≤ m) : Ev (tCB (rMax K) (tCons te tNil)) σ H (.int m) := fun H1 e Q q =>
  h H1 e _ fun p H2 _ e2 h2 => ⟨p, ns, rfl, sq_of h2, by cases ns with | nil => cases hm | cons a r => simp, fun k hk hkl => by
    have : k = m := Int.le_antisymm (hle k hk) (hkl m hm)
    rw [this]
    exact q H2 e2⟩
end
theorem ev_min2 {σ : L2.St} {H : Hp} {ta tb : TE} {i j : Int} (ha : Ev ta σ H (.int i)) (hb : Ev tb σ H (.int j)) : Ev (tCB (fun xs H Q => ∃ i j, xs = [.int i, .int j] ∧ Q (.int (if j < i then j else i)) H) (tCons ta (tCons tb tNil))) σ H (.int (if j < i then j else i)) := fun H1 e Q q =>
  ha H1 e _ fun H2 e2 => hb H2 (e.trans e2) _ fun H3 e3 => ⟨i, j, rfl, q H3 (e2.trans e3)⟩
theorem spv {sp : Sp} {vs : List V} {H : Hp} {z : V} (h : ∀ H1, Ex H H1 → ∀ Q : VK, RetV z H1 Q → ∀ E : XK, sp vs H1 Q E) : SpV sp vs H z := fun H1 e Q q E => h H1 e Q q E
/-- a call that hands back a new tuple -/
theorem eu_call {σ : L2.St} {H : Hp} {sp : Sp} {dvs vs xs : List V} {E : XK} {ta : TA} (h : EvA ta σ H vs) (hs : ∀ H1, Ex H H1 → ∀ Q : VK, RetU xs H1 Q → ∀ E : XK, sp (vs ++ dvs) H1 Q E) : EvU (tCall sp dvs E ta) σ H xs := fun H1 e Q q =>
  h H1 e _ fun H2 e2 => hs H2 (e.trans e2) Q (fun p H3 hp e3 h3 => q p H3 (fresh_back e2 hp) (e2.trans e3) h3) E
/-- a call of which an argument is a new list, that hands back a new tuple -/
theorem eu_callN {σ : L2.St} {H : Hp} {sp : Sp} {xs ys : List V} {E : XK} {te : TE} (h : EvL te σ H xs) (hs : ∀ p H1, H1 p = some (.lst xs) → Ex H H1 → ∀ Q : VK, RetU ys H1 Q → ∀ E : XK, sp [.ref p] H1 Q E) : EvU (tCall sp [] E (tCons te tNil)) σ H ys := fun H1 e Q q =>
  h H1 e _ fun p H2 hp e2 h2 => hs p H2 h2 (e.trans e2) Q (fun u H3 hu e3 h3 => q u H3 (fresh_back e2 hu) (e2.trans e3) h3) E
end WS

set_option Elab.async false
set_option linter.all false
set_option maxRecDepth 100000
set_option maxHeartbeats 2000000
/-! rules of my own: == and != by an own __eq__ that tells True or False; comb -/
namespace WS
open PySem PySem.Spec PyProof.Rows L2 Evl
section
variable {X : Cx} {n : Nat} {CX : CXT} {C f : Addr} {fd : FuncData} {ps : List Str} {sp : Sp} {E : XK}
/-- a right side whose type has no say ahead of C's -/
def Rhs (K : PySem.W.Frag) (C : Addr) (H : Hp) (y : V) : Prop := ∃ t, TyX K H y t ∧ PySem.W.notFirst K C t = true
def rOwn (K : PySem.W.Frag) (C : Addr) (sp : Sp) (E : XK) (neg : Bool) : R2 := fun x y H Q =>
  ∃ a dx fs, x = .ref a ∧ H a = some (.ins C dx fs) ∧ Rhs K C H y ∧ sp [.ref a, y] H (fun v H' => ∃ b, v = .bl b ∧ Q (.bl (if neg then !b else b)) H') E
theorem sub_list (K : PySem.W.Frag) (C : Addr) : PySem.W.subIn K (.type "list") (.ref C) = some false := by
  unfold PySem.W.subIn
  have h : fastBuiltinMro "list" = some [.type "list", .type "object"] := by decide +kernel
  simp [h]
theorem rhs_list {K : PySem.W.Frag} {C a : Addr} {H : Hp} {xs : List V} (h : H a = some (.lst xs)) : Rhs K C H (.ref a) :=
  ⟨.type "list", TyX.base (TyOf.lst h), by unfold PySem.W.notFirst; rw [sub_list]; rfl⟩
theorem notFirst_self (K : PySem.W.Frag) (C : Addr) : PySem.W.notFirst K C (.ref C) = true := by unfold PySem.W.notFirst; simp
/-- the callee runs anywhere below the body -/
theorem own_run (F : FnOk X.prog X.w X.K X.mg X.base CX n f fd ps sp) (hb : Binds X.K fd ps []) (hx : Passes CX X E) {A : Around} (sb : Sub X n A) {pins : List (Addr × Obj)} {s : Shared} {σ : L2.St} {H : Hp} {vs : List V} {us : List Value} {Q : VK}
    (I : Inv X pins σ H s) (r : Vals vs us) (h : sp vs H Q E) : wpAny (model X.prog X.w) A (call (.ref f) us) (EP X pins σ Q) X.xe s := by
  have k := I.env0
  have k' : Env0 X.prog X.w X.K X.mg X.base A X.stack s H := { frames := sb.fr.trans k.frames, mod := k.mod, bs := k.bs, bsz := k.bsz, funs := k.funs, frf := k.frf, hok := k.hok, bare := k.bare }
  have bd := hb s us I.kIn (by rw [List.append_nil, ← r.length]; exact F.len _ _ _ _ h)
  rw [List.append_nil] at bd
  refine wpAny_call (codeAny_mono (F.run A X.stack s H ⟨us, []⟩ us vs Q E sb.room k' bd r h) ?_)
  intro res s' z
  match res, z with
  | .error e, z => exact hx pins σ H s e s' I z
  | .ok (.ret u), z => exact I.after z
theorem cmp_back {σ : L2.St} {pins : List (Addr × Obj)} {Q : VK} (v : Value) (s' : Shared) (z : EP X pins σ (fun w H' => ∃ b, w = .bl b ∧ Q (.bl b) H') v s') : PySem.W.CmpBack (EP X pins σ Q) v s' := by
  obtain ⟨w, H', I', rw', b, rfl, q⟩ := z
  cases (show v = Value.bool b from rw')
  exact ⟨.bl b, H', I', rfl, q⟩
theorem op_own (F : FnOk X.prog X.w X.K X.mg X.base CX n f fd ps sp) (hs : PySem.W.findIn X.K (.ref C) "__eq__" = some (some (.ref f))) (hf : PySem.W.isFn X.K (.ref f) = true) (hb : Binds X.K fd ps []) (hx : Passes CX X E) (hr : Room n X.A) : OpR X (compareOp .Eq) (rOwn X.K C sp E false) := by
  intro pins s σ H x y v u Q I rx ry h
  obtain ⟨a, dx, fs, rfl, ha, ⟨t, ty, nf⟩, q⟩ := h
  cases (show v = Value.ref a from rx)
  obtain ⟨mA, J0, _⟩ := ins_get I.hok ha
  obtain ⟨od, J, _⟩ := J0.look
  obtain ⟨mm, hF⟩ := I.fr
  obtain ⟨P, kx, hp, _⟩ := kit_of I ry ty
  exact PySem.W.cmp_K (op := .Eq) (tb := t) hr.units0 hF I.ok.mod.kin J (kx.ty _ _ I.kIn hp) nf hs hf
    (wpAny_mono (own_run F hb hx ⟨hr, rfl⟩ I (Paired.cons (show RelV (V.ref a) (Value.ref a) from rfl) (Paired.cons ry Paired.nil)) q) cmp_back fun _ _ e => e)
/-- object's != asks the own == -/
theorem bound_ne {A : Around} {s : Shared} {K : PySem.W.Frag} {x : Addr} {ox : Obj} {od : Option Obj} {M : Model} {args : List Value} {R : Option Value → Shared → Prop} {E' : Value → Shared → Prop} (k : K.In s.heap) (J : PySem.W.InstAt s.heap x ox C od)
    (hN : PySem.W.findIn K (.ref C) "__ne__" = some (some (.builtin "object.__ne__"))) (h : wpAny M A (call (.builtin "object.__ne__") (.ref x :: args)) (fun v => R (some v)) E' s) : wpAny M A (callSpecialIfBound? (.ref x) "__ne__" args) R E' s := by
  unfold callSpecialIfBound? bindSpecialIfBound?
  have done : wpAny M A (do let v ← call (.builtin "object.__ne__") ([.ref x] ++ args); pure (some v)) R E' s := wpAny_bind (wpAny_mono h (fun _ _ z => wpAny_pure z) fun _ _ z => z)
  have bd : bindSpecial (.builtin "object.__ne__") (.ref x) = pure (.builtin "object.__ne__", [.ref x]) := F.cmp_object.ne.bind _
  refine wpAny_holding (wpAny_bind (wpAny_bind (wpAny_bind (J.type.here ((PySem.W.looks_findIn k hN).here (wpAny_bind (wpAny_askSetting (wpAny_ite ?_))))))))
  split
  · refine wpAny_bind (wpAny_of_eq bd (wpAny_pure ?_))
    exact done
  · refine wpAny_tryCatch (wpAny_bind (wpAny_of_eq bd (wpAny_pure ?_)))
    exact done
theorem op_ownNe (F : FnOk X.prog X.w X.K X.mg X.base CX n f fd ps sp) (hs : PySem.W.findIn X.K (.ref C) "__eq__" = some (some (.ref f))) (hN : PySem.W.findIn X.K (.ref C) "__ne__" = some (some (.builtin "object.__ne__"))) (hm : PySem.W.mroIn X.K C (.type "object") = some true)
    (hf : PySem.W.isFn X.K (.ref f) = true) (hb : Binds X.K fd ps []) (hx : Passes CX X E) (hr : Room (n + 1) X.A) : OpR X (compareOp .NotEq) (rOwn X.K C sp E true) := by
  intro pins s σ H x y v u Q I rx ry h
  obtain ⟨a, dx, fs, rfl, ha, ⟨t, ty, nf⟩, q⟩ := h
  cases (show v = Value.ref a from rx)
  obtain ⟨mA, J0, _⟩ := ins_get I.hok ha
  obtain ⟨od, J, _⟩ := J0.look
  obtain ⟨P, kx, hp, _⟩ := kit_of I ry ty
  have k := I.kIn
  have hu1 : X.A.in1.units < cLine := by have := hr.un; show X.A.units + 1 < cLine; omega
  have one : wpAny (model X.prog X.w) X.A (tryCompare (.ref a) "__ne__" u) (fun r s' => ∃ z, r = some z ∧ EP X pins σ Q z s') X.xe s := by
    unfold tryCompare
    refine wpAny_bind (bound_ne k J hN (wpAny_call (codeAny_call_builtin PySem.F.cmp_object.ne.plain PySem.F.cmpEntry_ne (PySem.W.check_slot PySem.F.cmpKind_ne PySem.F.cmpSplit_ne (J.type.andThen (PySem.W.looks_mroIn k hm)) (PySem.F.cmpArgs_ne _ _) ?_))))
    unfold Builtin.«object.__ne__» slotArgs
    refine wpAny_bind (wpAny_pure (wpAny_bind (wpAny_cRoomFor hu1 (wpAny_bind ?_))))
    refine PySem.W.ifBound_K k J hs hf (wpAny_mono (own_run (A := X.A.in1) F hb hx ⟨hr.in1, rfl⟩ I (Paired.cons (show RelV (V.ref a) (Value.ref a) from rfl) (Paired.cons ry Paired.nil)) q) (fun z s' e => ?_) fun _ _ e => e)
    obtain ⟨w', H', I', rw', b, rfl, q'⟩ := e
    cases (show z = Value.bool b from rw')
    refine wpAny_bind (wpAny_truthy_bool (wpAny_pure ?_))
    exact wpAny_pure ⟨_, rfl, .bl _, H', I', rfl, q'⟩
  show wpAny _ _ (richCompare .NotEq (.ref a) u) _ _ _
  unfold richCompare
  simp only [oneThing_ref]
  refine wpAny_holding (wpAny_bind (wpAny_cRoomFor hr.units0 (wpAny_bind (J.type.here (wpAny_bind ((kx.ty _ _ k hp).here ?_))))))
  have last : ∀ (g : Option Value → Sem Value), (∀ z, g (some z) = pure z) → wpAny (model X.prog X.w) X.A (tryCompare (.ref a) "__ne__" u >>= g) (EP X pins σ Q) X.xe s := fun g hg =>
    wpAny_bind (wpAny_mono one (fun r s' e => by obtain ⟨z, rfl, hz⟩ := e; rw [hg]; exact wpAny_pure hz) fun _ _ e => e)
  split
  · rename_i ne
    have e : PySem.W.subIn X.K t (.ref C) = some false := by
      unfold PySem.W.notFirst at nf
      rw [Bool.or_eq_true] at nf
      rcases nf with e | e
      · rw [beq_iff_eq.mp e] at ne; simp at ne
      · exact beq_iff_eq.mp e
    refine wpAny_bind ((PySem.W.looks_subIn k e).here ?_)
    simp only [Bool.false_eq_true, if_false]
    exact last _ fun _ => rfl
  · refine wpAny_bind (wpAny_pure ?_)
    simp only [Bool.false_eq_true, if_false]
    exact last _ fun _ => rfl
end
end WS

namespace M30
inductive Stp where
  | lift (to : Nat) (ws : List Int) (sh : Nat)
  | turn (at_ : Nat)
  | swap (a b : Nat)
deriving DecidableEq
def dot (ws row : List Int) : Int := (List.zipWith (fun w x => w * x) ws row).sum
/-- one step, forth (sg = 1) or back (sg = -1) -/
def go (sg : Int) : Stp → List Int → List Int
  | .lift to ws sh, r => r.set to (r.getD to 0 + sg * (dot ws r / 2 ^ sh))
  | .turn i, r => r.set i (-r.getD i 0)
  | .swap a b, r => (r.set a (r.getD b 0)).set b (r.getD a 0)
def runs (sg : Int) (sts : List Stp) (r : List Int) : List Int := sts.foldl (fun r st => go sg st r) r
/-- a step of so many ways -/
def Ok (n : Nat) : Stp → Prop
  | .lift to ws sh => to < n ∧ ws.length = n ∧ ws.getD to 0 = 0 ∧ sh ≤ 100 ∧ ∀ w ∈ ws, w.natAbs ≤ 32768
  | .turn i => i < n
  | .swap a b => a < n ∧ b < n ∧ a ≠ b
theorem go_len (sg : Int) (st : Stp) (r : List Int) : (go sg st r).length = r.length := by
  cases st <;> simp [go]
theorem runs_len (sg : Int) (sts : List Stp) : ∀ r : List Int, (runs sg sts r).length = r.length := by
  induction sts with
  | nil => intro r; rfl
  | cons st sts ih =>
    intro r
    show (runs sg sts (go sg st r)).length = _
    rw [ih, go_len]
theorem dot_set : ∀ (ws r : List Int) (i : Nat) (x : Int), ws.getD i 0 = 0 → dot ws (r.set i x) = dot ws r
  | [], r, i, x, _ => by simp [dot]
  | w :: ws, [], i, x, _ => by simp [dot]
  | w :: ws, y :: r, 0, x, h => by
    have h0 : w = 0 := by simpa using h
    subst h0
    simp [dot]
  | w :: ws, y :: r, i + 1, x, h => by
    have h1 : ws.getD i 0 = 0 := by simpa using h
    have := dot_set ws r i x h1
    unfold dot at this ⊢
    simp only [List.set_cons_succ, List.zipWith_cons_cons, List.sum_cons]
    rw [this]
theorem getD_set_self {r : List Int} {i : Nat} (h : i < r.length) (x : Int) : (r.set i x).getD i 0 = x := by
  rw [List.getD_eq_getElem?_getD, List.getElem?_set_self h]
  rfl
theorem getD_set_ne {r : List Int} {i j : Nat} (h : i ≠ j) (x : Int) : (r.set i x).getD j 0 = r.getD j 0 := by
  rw [List.getD_eq_getElem?_getD, List.getElem?_set_ne h, List.getD_eq_getElem?_getD]
theorem set_getD {r : List Int} {i : Nat} : r.set i (r.getD i 0) = r := by
  apply List.ext_getElem?
  intro j
  by_cases h : i = j
  · subst h
    by_cases hl : i < r.length
    · rw [List.getElem?_set_self hl, List.getD_eq_getElem?_getD, List.getElem?_eq_getElem hl] <;> rfl
    · rw [List.getElem?_eq_none (by rw [List.length_set]; omega), List.getElem?_eq_none (by omega)]
  · rw [List.getElem?_set_ne h]
/-- back and forth, forth and back -/
theorem go_back {n : Nat} {st : Stp} (o : Ok n st) {r : List Int} (h : r.length = n) (sg : Int) (hs : sg = 1 ∨ sg = -1) : go (-sg) st (go sg st r) = r := by
  cases st with
  | lift to ws sh =>
    obtain ⟨h1, h2, h3, _, _⟩ := o
    show (r.set to _).set to ((r.set to _).getD to 0 + -sg * (dot ws (r.set to _) / 2 ^ sh)) = r
    rw [dot_set ws r to _ h3, getD_set_self (by omega), List.set_set]
    have e : r.getD to 0 + sg * (dot ws r / 2 ^ sh) + -sg * (dot ws r / 2 ^ sh) = r.getD to 0 := by
      rw [Int.add_assoc, ← Int.add_mul, Int.add_right_neg, Int.zero_mul, Int.add_zero]
    rw [e]
    exact set_getD
  | turn i =>
    have h1 : i < r.length := by rw [h]; exact o
    show (r.set i (-r.getD i 0)).set i (-(r.set i (-r.getD i 0)).getD i 0) = r
    rw [getD_set_self h1, List.set_set, Int.neg_neg]
    exact set_getD
  | swap a b =>
    obtain ⟨h1, h2, h3⟩ := o
    show ((((r.set a (r.getD b 0)).set b (r.getD a 0)).set a _).set b _) = r
    have e1 : ((r.set a (r.getD b 0)).set b (r.getD a 0)).getD b 0 = r.getD a 0 := getD_set_self (by rw [List.length_set]; omega) _
    have e2 : ((r.set a (r.getD b 0)).set b (r.getD a 0)).getD a 0 = r.getD b 0 := by
      rw [getD_set_ne (Ne.symm h3), getD_set_self (by omega)]
    rw [show (go sg (Stp.swap a b) r).getD b 0 = r.getD a 0 from e1, show (go sg (Stp.swap a b) r).getD a 0 = r.getD b 0 from e2]
    apply List.ext_getElem?
    intro j
    by_cases hb : b = j
    · subst hb
      rw [List.getElem?_set_self (by simp only [List.length_set]; omega), List.getD_eq_getElem?_getD, List.getElem?_eq_getElem (by omega)] <;> rfl
    · rw [List.getElem?_set_ne hb]
      by_cases ha : a = j
      · subst ha
        rw [List.getElem?_set_self (by simp only [List.length_set]; omega), List.getD_eq_getElem?_getD, List.getElem?_eq_getElem (by omega)] <;> rfl
      · rw [List.getElem?_set_ne ha, List.getElem?_set_ne hb, List.getElem?_set_ne ha]
theorem runs_app (sg : Int) (a b : List Stp) (r : List Int) : runs sg (a ++ b) r = runs sg b (runs sg a r) := by
  unfold runs
  rw [List.foldl_append]
theorem runs_back {n : Nat} (sg : Int) (hs : sg = 1 ∨ sg = -1) : ∀ {sts : List Stp}, (∀ st ∈ sts, Ok n st) → ∀ {r : List Int}, r.length = n → runs (-sg) sts.reverse (runs sg sts r) = r
  | [], _, r, _ => rfl
  | st :: sts, o, r, h => by
    rw [List.reverse_cons, runs_app]
    have ih := runs_back sg hs (sts := sts) (fun x hx => o x (List.mem_cons_of_mem _ hx)) (r := go sg st r) (by rw [go_len]; exact h)
    show runs (-sg) [st] (runs (-sg) sts.reverse (runs sg sts (go sg st r))) = r
    rw [ih]
    exact go_back (o st List.mem_cons_self) h sg hs
theorem forth {n : Nat} {sts : List Stp} (o : ∀ st ∈ sts, Ok n st) {r : List Int} (h : r.length = n) : runs (-1) sts.reverse (runs 1 sts r) = r := runs_back 1 (.inl rfl) o h
theorem back {n : Nat} {sts : List Stp} (o : ∀ st ∈ sts, Ok n st) {r : List Int} (h : r.length = n) : runs 1 sts (runs (-1) sts.reverse r) = r := by
  have k := runs_back (n := n) (-1) (.inr rfl) (sts := sts.reverse) (fun x hx => o x (List.mem_reverse.mp hx)) h
  rw [List.reverse_reverse] at k
  exact k
/-! sizes -/
def Sm (b : Nat) (r : List Int) : Prop := ∀ x ∈ r, x.natAbs < 2 ^ b
theorem Sm.mono {b c : Nat} {r : List Int} (h : Sm b r) (k : b ≤ c) : Sm c r := fun x hx => Nat.lt_of_lt_of_le (h x hx) (Nat.pow_le_pow_right (by decide) k)
theorem Sm.getD {b : Nat} {r : List Int} (h : Sm b r) (i : Nat) : (r.getD i 0).natAbs < 2 ^ b := by
  rw [List.getD_eq_getElem?_getD]
  cases q : r[i]? with
  | none => exact Nat.two_pow_pos b
  | some x => exact h x (List.mem_of_getElem? q)
theorem abs_div (a : Int) (k : Nat) : (a / 2 ^ k).natAbs ≤ a.natAbs := by
  have hd : (0 : Int) < 2 ^ k := Int.pow_pos (by decide)
  by_cases h : 0 ≤ a
  · have h1 := Int.ediv_nonneg h (Int.le_of_lt hd)
    have h2 : a / 2 ^ k ≤ a := Int.ediv_le_self _ h
    omega
  · have h1 : a / 2 ^ k ≤ 0 := Int.le_of_lt (Int.ediv_neg_of_neg_of_pos (by omega) hd)
    have h2 : a ≤ a / 2 ^ k := by
      refine Int.le_ediv_of_mul_le hd ?_
      have h3 : a * (2 ^ k - 1) ≤ 0 := Int.mul_nonpos_of_nonpos_of_nonneg (by omega) (by omega)
      rw [Int.mul_sub, Int.mul_one] at h3
      omega
    omega
theorem dot_abs {b : Nat} : ∀ {ws r : List Int}, (∀ w ∈ ws, w.natAbs ≤ 32768) → Sm b r → (dot ws r).natAbs ≤ r.length * (32768 * 2 ^ b)
  | [], r, _, _ => by simp [dot]
  | _ :: _, [], _, _ => by simp [dot]
  | w :: ws, x :: r, hw, hr => by
    have ih := dot_abs (b := b) (ws := ws) (r := r) (fun u hu => hw u (List.mem_cons_of_mem _ hu)) (fun u hu => hr u (List.mem_cons_of_mem _ hu))
    have h1 : (w * x).natAbs ≤ 32768 * 2 ^ b := by
      rw [Int.natAbs_mul]
      exact Nat.mul_le_mul (hw w List.mem_cons_self) (Nat.le_of_lt (hr x List.mem_cons_self))
    have e : dot (w :: ws) (x :: r) = w * x + dot ws r := by simp [dot]
    rw [e, List.length_cons, Nat.add_mul, Nat.one_mul]
    have := Int.natAbs_add_le (w * x) (dot ws r)
    omega
theorem dot_sm {b : Nat} {ws r : List Int} (hw : ∀ w ∈ ws, w.natAbs ≤ 32768) (hr : Sm b r) (h4 : r.length ≤ 4) : (dot ws r).natAbs < 2 ^ (b + 18) := by
  have h := dot_abs hw hr
  have h2 : r.length * (32768 * 2 ^ b) ≤ 4 * (32768 * 2 ^ b) := Nat.mul_le_mul_right _ h4
  have h3 : 2 ^ (b + 18) = 2 ^ b * 262144 := by rw [Nat.pow_add]
  have h5 := Nat.two_pow_pos b
  omega
theorem set_sm {b : Nat} {r : List Int} {i : Nat} {x : Int} (h : Sm b r) (hx : x.natAbs < 2 ^ b) : Sm b (r.set i x) := fun y hy => by
  rcases List.mem_or_eq_of_mem_set hy with h1 | h1
  · exact h y h1
  · rw [h1]; exact hx
theorem go_sm {n b : Nat} {st : Stp} (o : Ok n st) {r : List Int} (hr : Sm b r) (h4 : r.length ≤ 4) {sg : Int} (hs : sg = 1 ∨ sg = -1) : Sm (b + 20) (go sg st r) := by
  have up := hr.mono (show b ≤ b + 20 by omega)
  cases st with
  | lift to ws sh =>
    obtain ⟨_, _, _, _, hw⟩ := o
    refine set_sm up ?_
    have h1 := dot_sm hw hr h4
    have h2 := abs_div (dot ws r) sh
    have h3 := hr.getD to
    have e18 : 2 ^ (b + 18) = 2 ^ b * 262144 := by rw [Nat.pow_add]
    have e20 : 2 ^ (b + 20) = 2 ^ b * 1048576 := by rw [Nat.pow_add]
    generalize dot ws r / 2 ^ sh = q at h2 ⊢
    generalize r.getD to 0 = z at h3 ⊢
    rcases hs with rfl | rfl <;> omega
  | turn i =>
    refine set_sm up ?_
    rw [Int.natAbs_neg]
    exact up.getD i
  | swap a c => exact set_sm (set_sm up (up.getD c)) (up.getD a)
theorem runs_sm {n : Nat} {sg : Int} (hs : sg = 1 ∨ sg = -1) : ∀ {sts : List Stp} {b : Nat} {r : List Int}, (∀ st ∈ sts, Ok n st) → Sm b r → r.length ≤ 4 → Sm (b + 20 * sts.length) (runs sg sts r)
  | [], b, r, _, h, _ => h
  | st :: sts, b, r, o, h, h4 => by
    have k := runs_sm (n := n) hs (sts := sts) (fun x hx => o x (List.mem_cons_of_mem _ hx)) (go_sm (o st List.mem_cons_self) h h4 hs) (by rw [go_len]; exact h4)
    have e : b + 20 * (st :: sts).length = b + 20 + 20 * sts.length := by rw [List.length_cons]; omega
    rw [e]
    exact k
end M30

set_option Elab.async false
set_option linter.all false
set_option maxRecDepth 100000
set_option maxHeartbeats 2000000
namespace K30
open PySem PySem.Spec PyProof.Rows L2 Evl WS M30
def topS (i : Nat) : Stmt := PySem.Challenge.pw_wholesound_k30_mixed_and_led_back.main.body.getD i (.Pass ⟨0, 0, 0, 0⟩)
abbrev s_is_number : Stmt := topS 8
theorem sc_is_number : FnScope ["value"] ["value"] (defScope s_is_number) := ⟨rfl, rfl, rfl, by decide +kernel, rfl, by decide +kernel, by decide +kernel⟩
abbrev s_is_within : Stmt := topS 9
theorem sc_is_within : FnScope ["value", "low", "high"] ["value", "low", "high"] (defScope s_is_within) := ⟨rfl, rfl, rfl, by decide +kernel, rfl, by decide +kernel, by decide +kernel⟩
abbrev s_is_count : Stmt := topS 10
theorem sc_is_count : FnScope ["value"] ["value"] (defScope s_is_count) := ⟨rfl, rfl, rfl, by decide +kernel, rfl, by decide +kernel, by decide +kernel⟩
abbrev s_is_numbers : Stmt := topS 11
theorem sc_is_numbers : FnScope ["value", "item"] ["value"] (defScope s_is_numbers) := ⟨rfl, rfl, rfl, by decide +kernel, rfl, by decide +kernel, by decide +kernel⟩
abbrev s_check_within : Stmt := topS 12
theorem sc_check_within : FnScope ["number", "low", "high"] ["number", "low", "high"] (defScope s_check_within) := ⟨rfl, rfl, rfl, by decide +kernel, rfl, by decide +kernel, by decide +kernel⟩
abbrev s_wrapped : Stmt := topS 14
theorem sc_wrapped : FnScope ["number", "depth", "half"] ["number", "depth"] (defScope s_wrapped) := ⟨rfl, rfl, rfl, by decide +kernel, rfl, by decide +kernel, by decide +kernel⟩
abbrev s_Mixer___init__ : Stmt := inClass (topS 17) 0
theorem sc_Mixer___init__ : FnScope ["self", "wide", "steps", "step"] ["self", "wide", "steps"] (defScope s_Mixer___init__) := ⟨rfl, rfl, rfl, by decide +kernel, rfl, by decide +kernel, by decide +kernel⟩
abbrev s_Mixer_wide : Stmt := inClass (topS 17) 1
theorem sc_Mixer_wide : FnScope ["self"] ["self"] (defScope s_Mixer_wide) := ⟨rfl, rfl, rfl, by decide +kernel, rfl, by decide +kernel, by decide +kernel⟩
abbrev s_Mixer_steps : Stmt := inClass (topS 17) 2
theorem sc_Mixer_steps : FnScope ["self", "step"] ["self"] (defScope s_Mixer_steps) := ⟨rfl, rfl, rfl, by decide +kernel, rfl, by decide +kernel, by decide +kernel⟩
abbrev s_Mixer___eq__ : Stmt := inClass (topS 17) 3
theorem sc_Mixer___eq__ : FnScope ["self", "other"] ["self", "other"] (defScope s_Mixer___eq__) := ⟨rfl, rfl, rfl, by decide +kernel, rfl, by decide +kernel, by decide +kernel⟩
abbrev s_is_step : Stmt := topS 18
theorem sc_is_step : FnScope ["value", "wide", "at"] ["value", "wide"] (defScope s_is_step) := ⟨rfl, rfl, rfl, by decide +kernel, rfl, by decide +kernel, by decide +kernel⟩
abbrev s_is_lift : Stmt := topS 19
theorem sc_is_lift : FnScope ["value", "wide"] ["value", "wide"] (defScope s_is_lift) := ⟨rfl, rfl, rfl, by decide +kernel, rfl, by decide +kernel, by decide +kernel⟩
abbrev s_copied : Stmt := topS 20
theorem sc_copied : FnScope ["step"] ["step"] (defScope s_copied) := ⟨rfl, rfl, rfl, by decide +kernel, rfl, by decide +kernel, by decide +kernel⟩
abbrev s_check_mixer : Stmt := topS 21
theorem sc_check_mixer : FnScope ["mixer"] ["mixer"] (defScope s_check_mixer) := ⟨rfl, rfl, rfl, by decide +kernel, rfl, by decide +kernel, by decide +kernel⟩
abbrev s_check_moment : Stmt := topS 22
theorem sc_check_moment : FnScope ["mixer", "samples"] ["mixer", "samples"] (defScope s_check_moment) := ⟨rfl, rfl, rfl, by decide +kernel, rfl, by decide +kernel, by decide +kernel⟩
abbrev s_lifted : Stmt := topS 23
theorem sc_lifted : FnScope ["step", "samples", "weight", "number"] ["step", "samples"] (defScope s_lifted) := ⟨rfl, rfl, rfl, by decide +kernel, rfl, by decide +kernel, by decide +kernel⟩
abbrev s_step_done : Stmt := topS 24
theorem sc_step_done : FnScope ["step", "samples", "sign", "at"] ["step", "samples", "sign"] (defScope s_step_done) := ⟨rfl, rfl, rfl, by decide +kernel, rfl, by decide +kernel, by decide +kernel⟩
abbrev s_run : Stmt := topS 25
theorem sc_run : FnScope ["steps", "samples", "sign", "depth", "step", "at", "number"] ["steps", "samples", "sign", "depth"] (defScope s_run) := ⟨rfl, rfl, rfl, by decide +kernel, rfl, by decide +kernel, by decide +kernel⟩
abbrev s_mixed : Stmt := topS 26
theorem sc_mixed : FnScope ["mixer", "samples"] ["mixer", "samples"] (defScope s_mixed) := ⟨rfl, rfl, rfl, by decide +kernel, rfl, by decide +kernel, by decide +kernel⟩
abbrev s_unmixed : Stmt := topS 27
theorem sc_unmixed : FnScope ["mixer", "samples"] ["mixer", "samples"] (defScope s_unmixed) := ⟨rfl, rfl, rfl, by decide +kernel, rfl, by decide +kernel, by decide +kernel⟩
abbrev s__law_purse : Stmt := topS 29
theorem sc__law_purse : FnScope ["_law_script", "_law_at", "_law_cell"] ["_law_script", "_law_at"] (defScope s__law_purse) := ⟨rfl, rfl, rfl, by decide +kernel, rfl, by decide +kernel, by decide +kernel⟩
abbrev s__law_draw : Stmt := topS 30
theorem sc__law_draw : FnScope ["_law_purse_here", "_law_many", "_law_digit", "_law_number_here"] ["_law_purse_here", "_law_many"] (defScope s__law_draw) := ⟨rfl, rfl, rfl, by decide +kernel, rfl, by decide +kernel, by decide +kernel⟩
abbrev s__law_number : Stmt := topS 31
theorem sc__law_number : FnScope ["_law_purse_here", "_law_broad", "_law_number_here", "_law_turn"] ["_law_purse_here"] (defScope s__law_number) := ⟨rfl, rfl, rfl, by decide +kernel, rfl, by decide +kernel, by decide +kernel⟩
abbrev s__law_weight : Stmt := topS 32
theorem sc__law_weight : FnScope ["_law_purse_here", "_law_small"] ["_law_purse_here"] (defScope s__law_weight) := ⟨rfl, rfl, rfl, by decide +kernel, rfl, by decide +kernel, by decide +kernel⟩
abbrev s__law_lift : Stmt := topS 33
theorem sc__law_lift : FnScope ["_law_purse_here", "_law_broad", "_law_most", "_law_to", "_law_shift", "_law_weights", "_law_way"] ["_law_purse_here", "_law_broad", "_law_most"] (defScope s__law_lift) := ⟨rfl, rfl, rfl, by decide +kernel, rfl, by decide +kernel, by decide +kernel⟩
abbrev s__law_steps : Stmt := topS 34
theorem sc__law_steps : FnScope ["_law_purse_here", "_law_broad", "_law_many", "_law_bits", "_law_found", "_law_left", "_law_turn", "_law_way", "_law_step"] ["_law_purse_here", "_law_broad", "_law_many", "_law_bits"] (defScope s__law_steps) := ⟨rfl, rfl, rfl, by decide +kernel, rfl, by decide +kernel, by decide +kernel⟩
abbrev s__law_copied : Stmt := topS 35
theorem sc__law_copied : FnScope ["_law_steps_here", "_law_step"] ["_law_steps_here"] (defScope s__law_copied) := ⟨rfl, rfl, rfl, by decide +kernel, rfl, by decide +kernel, by decide +kernel⟩
abbrev s__law_stepped : Stmt := topS 36
theorem sc__law_stepped : FnScope ["_law_step", "_law_row", "_law_way", "_law_found", "_law_total", "_law_at"] ["_law_step", "_law_row", "_law_way"] (defScope s__law_stepped) := ⟨rfl, rfl, rfl, by decide +kernel, rfl, by decide +kernel, by decide +kernel⟩
abbrev s__law_played : Stmt := topS 37
theorem sc__law_played : FnScope ["_law_steps_here", "_law_row", "_law_found", "_law_step"] ["_law_steps_here", "_law_row"] (defScope s__law_played) := ⟨rfl, rfl, rfl, by decide +kernel, rfl, by decide +kernel, by decide +kernel⟩
abbrev s__law_led_back : Stmt := topS 38
theorem sc__law_led_back : FnScope ["_law_steps_here", "_law_row", "_law_found", "_law_step"] ["_law_steps_here", "_law_row"] (defScope s__law_led_back) := ⟨rfl, rfl, rfl, by decide +kernel, rfl, by decide +kernel, by decide +kernel⟩
abbrev s__law_whole : Stmt := topS 39
theorem sc__law_whole : FnScope ["_law_value"] ["_law_value"] (defScope s__law_whole) := ⟨rfl, rfl, rfl, by decide +kernel, rfl, by decide +kernel, by decide +kernel⟩
abbrev s__law_numbers_right : Stmt := topS 40
theorem sc__law_numbers_right : FnScope ["_law_row", "_law_broad", "_law_one"] ["_law_row", "_law_broad"] (defScope s__law_numbers_right) := ⟨rfl, rfl, rfl, by decide +kernel, rfl, by decide +kernel, by decide +kernel⟩
abbrev s__law_spoil : Stmt := topS 41
theorem sc__law_spoil : FnScope ["_law_steps_here", "_law_step"] ["_law_steps_here"] (defScope s__law_spoil) := ⟨rfl, rfl, rfl, by decide +kernel, rfl, by decide +kernel, by decide +kernel⟩
abbrev s__law_kept : Stmt := topS 42
theorem sc__law_kept : FnScope ["_law_mixer", "_law_wide", "_law_steps_here", "_law_told"] ["_law_mixer", "_law_wide", "_law_steps_here"] (defScope s__law_kept) := ⟨rfl, rfl, rfl, by decide +kernel, rfl, by decide +kernel, by decide +kernel⟩
abbrev s_law : Stmt := topS 43
theorem sc_law : FnScope ["_law_script", "_law_at", "_law_purse_here", "_law_wide", "_law_steps_here", "_law_handed", "_law_mixer", "_law_rows", "_law_turn", "_law_row", "_law_passed", "_law_told", "_law_back", "_law_side", "_law_way"] ["_law_script"] (defScope s_law) := ⟨rfl, rfl, rfl, by decide +kernel, rfl, by decide +kernel, by decide +kernel⟩
structure Tx (K : PySem.W.Frag) (mg : Str → Option Value) where
  C_Mixer : Addr
  cl_Mixer : Cls K C_Mixer
  gC_Mixer : mg "Mixer" = some (.ref C_Mixer)
  is_Mixer : PySem.W.findIn K (.ref C_Mixer) "__class__" = some (some (.builtin "object.__class__")) ∧ PySem.W.specialIn K (.builtin "object.__class__") "__get__" = some (some (.builtin "getset_descriptor.__get__")) ∧ PySem.W.takesIn K (.builtin "object.__class__") = some true ∧ PySem.W.mroIn K C_Mixer (.type "object") = some true
  n_Mixer__wide : NoAttr K C_Mixer "_wide"
  n_Mixer__steps : NoAttr K C_Mixer "_steps"
  ne_Mixer : PySem.W.findIn K (.ref C_Mixer) "__ne__" = some (some (.builtin "object.__ne__"))
  ty_Mixer : PySem.W.typeIn K (.ref C_Mixer) = some (.type "type")
  a_is_number : Addr
  d_is_number : FuncData
  f_is_number : Fun K "is_number" "is_number" s_is_number a_is_number d_is_number
  b_is_number : Binds K d_is_number ["value"] []
  g_is_number : mg "is_number" = some (.ref a_is_number)
  a_is_within : Addr
  d_is_within : FuncData
  f_is_within : Fun K "is_within" "is_within" s_is_within a_is_within d_is_within
  b_is_within : Binds K d_is_within ["value", "low", "high"] []
  g_is_within : mg "is_within" = some (.ref a_is_within)
  a_is_count : Addr
  d_is_count : FuncData
  f_is_count : Fun K "is_count" "is_count" s_is_count a_is_count d_is_count
  b_is_count : Binds K d_is_count ["value"] []
  g_is_count : mg "is_count" = some (.ref a_is_count)
  a_is_numbers : Addr
  d_is_numbers : FuncData
  f_is_numbers : Fun K "is_numbers" "is_numbers" s_is_numbers a_is_numbers d_is_numbers
  b_is_numbers : Binds K d_is_numbers ["value"] []
  g_is_numbers : mg "is_numbers" = some (.ref a_is_numbers)
  a_check_within : Addr
  d_check_within : FuncData
  f_check_within : Fun K "check_within" "check_within" s_check_within a_check_within d_check_within
  b_check_within : Binds K d_check_within ["number", "low", "high"] []
  g_check_within : mg "check_within" = some (.ref a_check_within)
  a_wrapped : Addr
  d_wrapped : FuncData
  f_wrapped : Fun K "wrapped" "wrapped" s_wrapped a_wrapped d_wrapped
  b_wrapped : Binds K d_wrapped ["number", "depth"] []
  g_wrapped : mg "wrapped" = some (.ref a_wrapped)
  a_Mixer___init__ : Addr
  d_Mixer___init__ : FuncData
  f_Mixer___init__ : Fun K "__init__" "Mixer.__init__" s_Mixer___init__ a_Mixer___init__ d_Mixer___init__
  b_Mixer___init__ : Binds K d_Mixer___init__ ["self", "wide", "steps"] []
  mk_Mixer : Mk K C_Mixer a_Mixer___init__
  a_Mixer_wide : Addr
  d_Mixer_wide : FuncData
  f_Mixer_wide : Fun K "wide" "Mixer.wide" s_Mixer_wide a_Mixer_wide d_Mixer_wide
  b_Mixer_wide : Binds K d_Mixer_wide ["self"] []
  me_Mixer_wide : Meth K C_Mixer "wide" a_Mixer_wide
  a_Mixer_steps : Addr
  d_Mixer_steps : FuncData
  f_Mixer_steps : Fun K "steps" "Mixer.steps" s_Mixer_steps a_Mixer_steps d_Mixer_steps
  b_Mixer_steps : Binds K d_Mixer_steps ["self"] []
  me_Mixer_steps : Meth K C_Mixer "steps" a_Mixer_steps
  a_Mixer___eq__ : Addr
  d_Mixer___eq__ : FuncData
  f_Mixer___eq__ : Fun K "__eq__" "Mixer.__eq__" s_Mixer___eq__ a_Mixer___eq__ d_Mixer___eq__
  b_Mixer___eq__ : Binds K d_Mixer___eq__ ["self", "other"] []
  q_Mixer : PySem.W.findIn K (.ref C_Mixer) "__eq__" = some (some (.ref a_Mixer___eq__)) ∧ PySem.W.isFn K (.ref a_Mixer___eq__) = true
  a_is_step : Addr
  d_is_step : FuncData
  f_is_step : Fun K "is_step" "is_step" s_is_step a_is_step d_is_step
  b_is_step : Binds K d_is_step ["value", "wide"] []
  g_is_step : mg "is_step" = some (.ref a_is_step)
  a_is_lift : Addr
  d_is_lift : FuncData
  f_is_lift : Fun K "is_lift" "is_lift" s_is_lift a_is_lift d_is_lift
  b_is_lift : Binds K d_is_lift ["value", "wide"] []
  g_is_lift : mg "is_lift" = some (.ref a_is_lift)
  a_copied : Addr
  d_copied : FuncData
  f_copied : Fun K "copied" "copied" s_copied a_copied d_copied
  b_copied : Binds K d_copied ["step"] []
  g_copied : mg "copied" = some (.ref a_copied)
  a_check_mixer : Addr
  d_check_mixer : FuncData
  f_check_mixer : Fun K "check_mixer" "check_mixer" s_check_mixer a_check_mixer d_check_mixer
  b_check_mixer : Binds K d_check_mixer ["mixer"] []
  g_check_mixer : mg "check_mixer" = some (.ref a_check_mixer)
  a_check_moment : Addr
  d_check_moment : FuncData
  f_check_moment : Fun K "check_moment" "check_moment" s_check_moment a_check_moment d_check_moment
  b_check_moment : Binds K d_check_moment ["mixer", "samples"] []
  g_check_moment : mg "check_moment" = some (.ref a_check_moment)
  a_lifted : Addr
  d_lifted : FuncData
  f_lifted : Fun K "lifted" "lifted" s_lifted a_lifted d_lifted
  b_lifted : Binds K d_lifted ["step", "samples"] []
  g_lifted : mg "lifted" = some (.ref a_lifted)
  a_step_done : Addr
  d_step_done : FuncData
  f_step_done : Fun K "step_done" "step_done" s_step_done a_step_done d_step_done
  b_step_done : Binds K d_step_done ["step", "samples", "sign"] []
  g_step_done : mg "step_done" = some (.ref a_step_done)
  a_run : Addr
  d_run : FuncData
  f_run : Fun K "run" "run" s_run a_run d_run
  b_run : Binds K d_run ["steps", "samples", "sign", "depth"] []
  g_run : mg "run" = some (.ref a_run)
  a_mixed : Addr
  d_mixed : FuncData
  f_mixed : Fun K "mixed" "mixed" s_mixed a_mixed d_mixed
  b_mixed : Binds K d_mixed ["mixer", "samples"] []
  g_mixed : mg "mixed" = some (.ref a_mixed)
  a_unmixed : Addr
  d_unmixed : FuncData
  f_unmixed : Fun K "unmixed" "unmixed" s_unmixed a_unmixed d_unmixed
  b_unmixed : Binds K d_unmixed ["mixer", "samples"] []
  g_unmixed : mg "unmixed" = some (.ref a_unmixed)
  a__law_purse : Addr
  d__law_purse : FuncData
  f__law_purse : Fun K "_law_purse" "_law_purse" s__law_purse a__law_purse d__law_purse
  b__law_purse : Binds K d__law_purse ["_law_script", "_law_at"] []
  g__law_purse : mg "_law_purse" = some (.ref a__law_purse)
  a__law_draw : Addr
  d__law_draw : FuncData
  f__law_draw : Fun K "_law_draw" "_law_draw" s__law_draw a__law_draw d__law_draw
  b__law_draw : Binds K d__law_draw ["_law_purse_here", "_law_many"] []
  g__law_draw : mg "_law_draw" = some (.ref a__law_draw)
  a__law_number : Addr
  d__law_number : FuncData
  f__law_number : Fun K "_law_number" "_law_number" s__law_number a__law_number d__law_number
  b__law_number : Binds K d__law_number ["_law_purse_here"] []
  g__law_number : mg "_law_number" = some (.ref a__law_number)
  a__law_weight : Addr
  d__law_weight : FuncData
  f__law_weight : Fun K "_law_weight" "_law_weight" s__law_weight a__law_weight d__law_weight
  b__law_weight : Binds K d__law_weight ["_law_purse_here"] []
  g__law_weight : mg "_law_weight" = some (.ref a__law_weight)
  a__law_lift : Addr
  d__law_lift : FuncData
  f__law_lift : Fun K "_law_lift" "_law_lift" s__law_lift a__law_lift d__law_lift
  b__law_lift : Binds K d__law_lift ["_law_purse_here", "_law_broad", "_law_most"] []
  g__law_lift : mg "_law_lift" = some (.ref a__law_lift)
  a__law_steps : Addr
  d__law_steps : FuncData
  f__law_steps : Fun K "_law_steps" "_law_steps" s__law_steps a__law_steps d__law_steps
  b__law_steps : Binds K d__law_steps ["_law_purse_here", "_law_broad", "_law_many", "_law_bits"] []
  g__law_steps : mg "_law_steps" = some (.ref a__law_steps)
  a__law_copied : Addr
  d__law_copied : FuncData
  f__law_copied : Fun K "_law_copied" "_law_copied" s__law_copied a__law_copied d__law_copied
  b__law_copied : Binds K d__law_copied ["_law_steps_here"] []
  g__law_copied : mg "_law_copied" = some (.ref a__law_copied)
  a__law_stepped : Addr
  d__law_stepped : FuncData
  f__law_stepped : Fun K "_law_stepped" "_law_stepped" s__law_stepped a__law_stepped d__law_stepped
  b__law_stepped : Binds K d__law_stepped ["_law_step", "_law_row", "_law_way"] []
  g__law_stepped : mg "_law_stepped" = some (.ref a__law_stepped)
  a__law_played : Addr
  d__law_played : FuncData
  f__law_played : Fun K "_law_played" "_law_played" s__law_played a__law_played d__law_played
  b__law_played : Binds K d__law_played ["_law_steps_here", "_law_row"] []
  g__law_played : mg "_law_played" = some (.ref a__law_played)
  a__law_led_back : Addr
  d__law_led_back : FuncData
  f__law_led_back : Fun K "_law_led_back" "_law_led_back" s__law_led_back a__law_led_back d__law_led_back
  b__law_led_back : Binds K d__law_led_back ["_law_steps_here", "_law_row"] []
  g__law_led_back : mg "_law_led_back" = some (.ref a__law_led_back)
  a__law_whole : Addr
  d__law_whole : FuncData
  f__law_whole : Fun K "_law_whole" "_law_whole" s__law_whole a__law_whole d__law_whole
  b__law_whole : Binds K d__law_whole ["_law_value"] []
  g__law_whole : mg "_law_whole" = some (.ref a__law_whole)
  a__law_numbers_right : Addr
  d__law_numbers_right : FuncData
  f__law_numbers_right : Fun K "_law_numbers_right" "_law_numbers_right" s__law_numbers_right a__law_numbers_right d__law_numbers_right
  b__law_numbers_right : Binds K d__law_numbers_right ["_law_row", "_law_broad"] []
  g__law_numbers_right : mg "_law_numbers_right" = some (.ref a__law_numbers_right)
  a__law_spoil : Addr
  d__law_spoil : FuncData
  f__law_spoil : Fun K "_law_spoil" "_law_spoil" s__law_spoil a__law_spoil d__law_spoil
  b__law_spoil : Binds K d__law_spoil ["_law_steps_here"] []
  g__law_spoil : mg "_law_spoil" = some (.ref a__law_spoil)
  a__law_kept : Addr
  d__law_kept : FuncData
  f__law_kept : Fun K "_law_kept" "_law_kept" s__law_kept a__law_kept d__law_kept
  b__law_kept : Binds K d__law_kept ["_law_mixer", "_law_wide", "_law_steps_here"] []
  g__law_kept : mg "_law_kept" = some (.ref a__law_kept)
  a_law : Addr
  d_law : FuncData
  f_law : Fun K "law" "law" s_law a_law d_law
  b_law : Binds K d_law ["_law_script"] []
  g_law : mg "law" = some (.ref a_law)
  t_MOST_WAYS : Tok
  c_MOST_WAYS : mg "MOST_WAYS" = some (.int 4 t_MOST_WAYS)
  m_all : mg "all" = none
  m_bool : mg "bool" = none
  m_int : mg "int" = none
  m_isinstance : mg "isinstance" = none
  m_len : mg "len" = none
  m_list : mg "list" = none
  m_min : mg "min" = none
  m_range : mg "range" = none
  m_sum : mg "sum" = none
  m_tuple : mg "tuple" = none
  m_zip : mg "zip" = none
end K30

set_option Elab.async false
set_option linter.all false
set_option maxRecDepth 100000
set_option maxHeartbeats 4000000
namespace K30
open PySem PySem.Spec PyProof.Rows L2 Evl WS M30
theorem kws : ¬ (("_wide" : Str) = "_steps") := by decide +kernel
theorem ksw : ¬ (("_steps" : Str) = "_wide") := by decide +kernel
/-- a mixer's attributes -/
def mf (n : Nat) (q : Addr) : List (Str × V) := putF "_steps" (.ref q) (putF "_wide" (.int (n : Int)) [])
theorem mf_s (n : Nat) (q : Addr) : (mf n q).lookup ("_steps" : Str) = some (.ref q) := by
  unfold mf
  rw [lookup_putF, if_pos rfl]
theorem mf_w (n : Nat) (q : Addr) : (mf n q).lookup ("_wide" : Str) = some (.int (n : Int)) := by
  unfold mf
  rw [lookup_putF, if_neg kws, lookup_putF, if_pos rfl]
theorem mf_no (n : Nat) (q : Addr) {m : Str} (h1 : ¬ m = "_steps") (h2 : ¬ m = "_wide") : (mf n q).lookup m = none := by
  unfold mf
  rw [lookup_putF, if_neg h1, lookup_putF, if_neg h2]
  all_goals rfl
def Li (H : Hp) (a : Addr) (ns : List Int) : Prop := H a = some (.lst (ns.map V.int))
theorem Li.ex {H H' : Hp} {a : Addr} {ns : List Int} (h : Li H a ns) (e : Ex H H') : Li H' a ns := e _ _ h
theorem Li.sq {K : PySem.W.Frag} {H : Hp} {a : Addr} {ns : List Int} (h : Li H a ns) : SqL K H a (ns.map V.int) := sq_of h
/-- a step; its list is one of F -/
def StV (F : Addr → Prop) (H : Hp) (v : V) : Stp → Prop
  | .lift to ws sh => ∃ t u, v = .ref t ∧ H t = some (.tup [.str "lift", .int (to : Int), .ref u, .int (sh : Int)]) ∧ Li H u ws ∧ F u
  | .turn i => ∃ t, v = .ref t ∧ H t = some (.tup [.str "turn", .int (i : Int)])
  | .swap a b => ∃ t, v = .ref t ∧ H t = some (.tup [.str "swap", .int (a : Int), .int (b : Int)])
/-- what F says of lists stays, and all else -/
def Fr (F : Addr → Prop) (H H' : Hp) : Prop := ∀ b o, H b = some o → ((∃ xs, o = .lst xs) → F b) → H' b = some o
theorem Fr.of {F : Addr → Prop} {H H' : Hp} (e : Ex H H') : Fr F H H' := fun b o h _ => e b o h
theorem StV.fr {F : Addr → Prop} {H H' : Hp} {v : V} {st : Stp} (h : StV F H v st) (e : Fr F H H') : StV F H' v st := by
  cases st with
  | lift to ws sh =>
    obtain ⟨t, u, rfl, h1, h2, h3⟩ := h
    exact ⟨t, u, rfl, e _ _ h1 (fun z => by obtain ⟨_, z⟩ := z; cases z), e _ _ h2 (fun _ => h3), h3⟩
  | turn i =>
    obtain ⟨t, rfl, h1⟩ := h
    exact ⟨t, rfl, e _ _ h1 (fun z => by obtain ⟨_, z⟩ := z; cases z)⟩
  | swap a b =>
    obtain ⟨t, rfl, h1⟩ := h
    exact ⟨t, rfl, e _ _ h1 (fun z => by obtain ⟨_, z⟩ := z; cases z)⟩
theorem StV.mono {F G : Addr → Prop} {H : Hp} {v : V} {st : Stp} (h : StV F H v st) (k : ∀ b o, H b = some o → F b → G b) : StV G H v st := by
  cases st with
  | lift to ws sh =>
    obtain ⟨t, u, rfl, h1, h2, h3⟩ := h
    exact ⟨t, u, rfl, h1, h2, k _ _ h2 h3⟩
  | turn i => exact h
  | swap a b => exact h
theorem StV.ex {F : Addr → Prop} {H H' : Hp} {v : V} {st : Stp} (h : StV F H v st) (e : Ex H H') : StV F H' v st := h.fr (.of e)
/-- steps in order -/
def Ss (F : Addr → Prop) (H : Hp) (vs : List V) (sts : List Stp) : Prop := vs.length = sts.length ∧ ∀ (i : Nat) v st, vs[i]? = some v → sts[i]? = some st → StV F H v st
theorem Ss.fr {F : Addr → Prop} {H H' : Hp} {vs : List V} {sts : List Stp} (h : Ss F H vs sts) (e : Fr F H H') : Ss F H' vs sts := ⟨h.1, fun i v st a b => (h.2 i v st a b).fr e⟩
theorem Ss.mono {F G : Addr → Prop} {H : Hp} {vs : List V} {sts : List Stp} (h : Ss F H vs sts) (k : ∀ b o, H b = some o → F b → G b) : Ss G H vs sts := ⟨h.1, fun i v st a b => (h.2 i v st a b).mono k⟩
theorem Ss.get {F : Addr → Prop} {H : Hp} {vs : List V} {sts : List Stp} (h : Ss F H vs sts) {i : Nat} {v : V} (hv : vs[i]? = some v) : ∃ st, sts[i]? = some st ∧ StV F H v st := by
  have hi := (List.getElem?_eq_some_iff.mp hv).1
  have hj : i < sts.length := by rw [← h.1]; exact hi
  exact ⟨sts[i], List.getElem?_eq_getElem hj, h.2 i v _ hv (List.getElem?_eq_getElem hj)⟩
theorem Ss.snoc {F : Addr → Prop} {H : Hp} {vs : List V} {sts : List Stp} {v : V} {st : Stp} (h : Ss F H vs sts) (k : StV F H v st) : Ss F H (vs ++ [v]) (sts ++ [st]) := by
  refine ⟨by simp [h.1], fun i u s hu hs => ?_⟩
  by_cases hi : i < vs.length
  · rw [List.getElem?_append_left hi] at hu
    rw [List.getElem?_append_left (by rw [← h.1]; exact hi)] at hs
    exact h.2 i u s hu hs
  · rw [List.getElem?_append_right (by omega)] at hu
    rw [List.getElem?_append_right (by rw [← h.1]; omega), ← h.1] at hs
    cases hd : i - vs.length with
    | zero =>
      rw [hd] at hu hs
      cases hu
      cases hs
      exact k
    | succ m => rw [hd] at hu; simp at hu
theorem Ss.rev {F : Addr → Prop} {H : Hp} {vs : List V} {sts : List Stp} (h : Ss F H vs sts) : Ss F H vs.reverse sts.reverse := by
  refine ⟨by simp [h.1], fun i v st hv hs => ?_⟩
  have hi := (List.getElem?_eq_some_iff.mp hv).1
  rw [List.length_reverse] at hi
  rw [List.getElem?_reverse hi] at hv
  rw [List.getElem?_reverse (by rw [← h.1]; exact hi), ← h.1] at hs
  exact h.2 _ v st hv hs
def Sts (F : Addr → Prop) (H : Hp) (a : Addr) (sts : List Stp) : Prop := F a ∧ ∃ vs, H a = some (.lst vs) ∧ Ss F H vs sts
theorem Sts.fr {F : Addr → Prop} {H H' : Hp} {a : Addr} {sts : List Stp} (h : Sts F H a sts) (e : Fr F H H') : Sts F H' a sts := by
  obtain ⟨ha, vs, h1, h2⟩ := h
  exact ⟨ha, vs, e _ _ h1 (fun _ => ha), h2.fr e⟩
theorem Sts.ex {F : Addr → Prop} {H H' : Hp} {a : Addr} {sts : List Stp} (h : Sts F H a sts) (e : Ex H H') : Sts F H' a sts := h.fr (.of e)
theorem Sts.mono {F G : Addr → Prop} {H : Hp} {a : Addr} {sts : List Stp} (h : Sts F H a sts) (k : ∀ b o, H b = some o → F b → G b) : Sts G H a sts := by
  obtain ⟨ha, vs, h1, h2⟩ := h
  exact ⟨k _ _ h1 ha, vs, h1, h2.mono k⟩
/-- a mixer at p -/
structure Mx {K : PySem.W.Frag} {mg : Str → Option Value} (T : Tx K mg) (F : Addr → Prop) (H : Hp) (p : Addr) (n : Nat) (sts : List Stp) : Prop where
  ob : ∃ dx q, H p = some (.ins T.C_Mixer dx (mf n q)) ∧ Sts F H q sts
  n1 : 1 ≤ n
  n4 : n ≤ 4
  ok : ∀ st ∈ sts, Ok n st
  len : sts.length ≤ 1000
theorem Mx.fr {K : PySem.W.Frag} {mg : Str → Option Value} {T : Tx K mg} {F : Addr → Prop} {H H' : Hp} {p : Addr} {n : Nat} {sts : List Stp} (h : Mx T F H p n sts) (e : Fr F H H') : Mx T F H' p n sts := by
  obtain ⟨⟨dx, q, h1, h2⟩, n1, n4, ok, len⟩ := h
  exact ⟨⟨dx, q, e _ _ h1 (fun z => by obtain ⟨_, z⟩ := z; cases z), h2.fr e⟩, n1, n4, ok, len⟩
theorem Mx.ex {K : PySem.W.Frag} {mg : Str → Option Value} {T : Tx K mg} {F : Addr → Prop} {H H' : Hp} {p : Addr} {n : Nat} {sts : List Stp} (h : Mx T F H p n sts) (e : Ex H H') : Mx T F H' p n sts := h.fr (.of e)
theorem Mx.mono {K : PySem.W.Frag} {mg : Str → Option Value} {T : Tx K mg} {F G : Addr → Prop} {H : Hp} {p : Addr} {n : Nat} {sts : List Stp} (h : Mx T F H p n sts) (k : ∀ b o, H b = some o → F b → G b) : Mx T G H p n sts := by
  obtain ⟨⟨dx, q, h1, h2⟩, n1, n4, ok, len⟩ := h
  exact ⟨⟨dx, q, h1, h2.mono k⟩, n1, n4, ok, len⟩
section
variable {K : PySem.W.Frag} {mg : Str → Option Value}
def sp_is_number (T : Tx K mg) : Sp := fun vs H Q _ => ∃ i, vs = [.int i] ∧ RetV (.bl true) H Q
def sp_is_within (T : Tx K mg) : Sp := fun vs H Q _ => ∃ i j k, vs = [.int i, .int j, .int k] ∧ j ≤ i ∧ i ≤ k ∧ RetV (.bl true) H Q
def sp_is_count (T : Tx K mg) : Sp := fun vs H Q _ => ∃ i, vs = [.int i] ∧ 0 ≤ i ∧ RetV (.bl true) H Q
def sp_is_numbers (T : Tx K mg) : Sp := fun vs H Q _ => ∃ a ns, vs = [.ref a] ∧ Li H a ns ∧ ns.length ≤ 1000 ∧ RetV (.bl true) H Q
def sp_check_within (T : Tx K mg) : Sp := fun vs H Q _ => ∃ i j k, vs = [.int i, .int j, .int k] ∧ j ≤ i ∧ i ≤ k ∧ RetV .non H Q
def sp_wrapped (T : Tx K mg) : Sp := fun _ _ _ _ => False
def sp_Mixer___init__ (T : Tx K mg) : Sp := fun vs H Q _ => ∃ p dx a F sts, ∃ n : Nat, vs = [.ref p, .int (n : Int), .ref a] ∧ H p = some (.ins T.C_Mixer dx []) ∧ Sts F H a sts ∧ 1 ≤ n ∧ n ≤ 4 ∧ (∀ st ∈ sts, Ok n st) ∧ sts.length ≤ 1000 ∧
  ∀ H', Mx T (fun b => H b = none) H' p n sts → (∀ b o, b ≠ p → H b = some o → H' b = some o) → Q .non H'
def sp_Mixer_wide (T : Tx K mg) : Sp := fun vs H Q _ => ∃ p F n sts, vs = [.ref p] ∧ Mx T F H p n sts ∧ RetV (.int (n : Int)) H Q
/-- new steps are handed back -/
def RetS (sts : List Stp) (H : Hp) (Q : VK) : Prop := ∀ D H', H D = none → Ex H H' → Sts (fun b => H b = none) H' D sts → Q (.ref D) H'
def sp_Mixer_steps (T : Tx K mg) : Sp := fun vs H Q _ => ∃ p F n sts, vs = [.ref p] ∧ Mx T F H p n sts ∧ RetS sts H Q
def EqM (T : Tx K mg) (H : Hp) (n : Nat) (sts : List Stp) (y : V) (b : Bool) : Prop :=
  (∃ q F m sts', y = .ref q ∧ Mx T F H q m sts' ∧ ((n = m ∧ sts = sts' ∧ b = true) ∨ (n ≠ m ∧ b = false) ∨ (n = m ∧ sts.length ≠ sts'.length ∧ b = false))) ∨ ∃ a xs, y = .ref a ∧ H a = some (.lst xs) ∧ b = false
def sp_Mixer___eq__ (T : Tx K mg) : Sp := fun vs H Q _ => ∃ p F n sts y b, vs = [.ref p, y] ∧ Mx T F H p n sts ∧ EqM T H n sts y b ∧ RetV (.bl b) H Q
def sp_is_step (T : Tx K mg) : Sp := fun vs H Q _ => ∃ v F st, ∃ n : Nat, vs = [v, .int (n : Int)] ∧ StV F H v st ∧ Ok n st ∧ n ≤ 4 ∧ RetV (.bl true) H Q
def sp_is_lift (T : Tx K mg) : Sp := fun vs H Q _ => ∃ v F to ws sh, ∃ n : Nat, vs = [v, .int (n : Int)] ∧ StV F H v (.lift to ws sh) ∧ Ok n (.lift to ws sh) ∧ n ≤ 4 ∧ RetV (.bl true) H Q
def sp_copied (T : Tx K mg) : Sp := fun vs H Q _ => ∃ v F st, vs = [v] ∧ StV F H v st ∧ ∀ v' H', Ex H H' → StV (fun b => H b = none) H' v' st → Q v' H'
def sp_check_mixer (T : Tx K mg) : Sp := fun vs H Q _ => ∃ p F n sts, vs = [.ref p] ∧ Mx T F H p n sts ∧ RetV .non H Q
def sp_check_moment (T : Tx K mg) : Sp := fun vs H Q _ => ∃ p F n sts a row, vs = [.ref p, .ref a] ∧ Mx T F H p n sts ∧ Li H a row ∧ row.length = n ∧ RetV .non H Q
def sp_lifted (T : Tx K mg) : Sp := fun vs H Q _ => ∃ v F to ws sh a row, vs = [v, .ref a] ∧ StV F H v (.lift to ws sh) ∧ Li H a row ∧ ws.length = row.length ∧ row.length ≤ 4 ∧ (∀ w ∈ ws, w.natAbs ≤ 32768) ∧ (∃ m, Sm m row ∧ m ≤ 900000) ∧ RetV (.int (dot ws row / 2 ^ sh)) H Q
/-- the place and the number of a step that changes one place -/
def one_ (sg : Int) (r : List Int) : Stp → Option (Nat × Int)
  | .lift to ws sh => some (to, r.getD to 0 + sg * (dot ws r / 2 ^ sh))
  | .turn i => some (i, -r.getD i 0)
  | .swap _ _ => none
def sp_step_done (T : Tx K mg) : Sp := fun vs H Q _ => ∃ v F st a row sg i x, vs = [v, .ref a, .int sg] ∧ StV F H v st ∧ Ok row.length st ∧ Li H a row ∧ row.length ≤ 4 ∧ (sg = 1 ∨ sg = -1) ∧ (∃ m, Sm m row ∧ m ≤ 800000) ∧ one_ sg row st = some (i, x) ∧ RetU [.int (i : Int), .int x] H Q
def sp_run (T : Tx K mg) : Sp := fun vs H Q _ => ∃ a F sts b row sg, vs = [.ref a, .ref b, .int sg, .non] ∧ Sts F H a sts ∧ (∀ st ∈ sts, Ok row.length st) ∧ sts.length ≤ 1000 ∧ Li H b row ∧ row.length ≤ 4 ∧ (sg = 1 ∨ sg = -1) ∧ (∃ m, Sm m row ∧ m + 20 * sts.length ≤ 700000) ∧ RetL ((runs sg sts row).map V.int) H Q
def sp_mixed (T : Tx K mg) : Sp := fun vs H Q _ => ∃ p F n sts a row, vs = [.ref p, .ref a] ∧ Mx T F H p n sts ∧ Li H a row ∧ row.length = n ∧ (∃ m, Sm m row ∧ m ≤ 600000) ∧ RetL ((runs 1 sts row).map V.int) H Q
def sp_unmixed (T : Tx K mg) : Sp := fun vs H Q _ => ∃ p F n sts a row, vs = [.ref p, .ref a] ∧ Mx T F H p n sts ∧ Li H a row ∧ row.length = n ∧ (∃ m, Sm m row ∧ m ≤ 600000) ∧ RetL ((runs (-1) sts.reverse row).map V.int) H Q
theorem Mx.isi {T : Tx K mg} {F : Addr → Prop} {H : Hp} {p : Addr} {n : Nat} {sts : List Stp} (h : Mx T F H p n sts) {te : TE} {σ : L2.St} (he : Ev te σ H (.ref p)) : Ev (tCB (rIsi K) (tCons te (tCons (tC (.ref T.C_Mixer)) tNil))) σ H (.bl true) := by
  obtain ⟨dx, d, h1, _⟩ := h.ob
  exact ev_isiC he h1 T.cl_Mixer T.is_Mixer
theorem list_no {T : Tx K mg} : PySem.W.kitOne K (.type "list") (.ref T.C_Mixer) = some false := by
  have hm := T.is_Mixer.2.2.2
  unfold PySem.W.mroIn at hm
  obtain ⟨cd, hc, _⟩ := Option.bind_eq_some_iff.mp hm
  unfold PySem.W.kitOne PySem.W.kitCls
  show (if (Value.type "list" == Value.ref T.C_Mixer) = true then some true else if ((W.clsIn K T.C_Mixer).isSome && W.typeIn K (Value.ref T.C_Mixer) == some (Value.type "type")) = true then W.subIn K (Value.type "list") (Value.ref T.C_Mixer) else none) = some false
  rw [T.ty_Mixer, hc, sub_list]
  simp
theorem Mx.wideE {T : Tx K mg} {F : Addr → Prop} {H : Hp} {p : Addr} {n : Nat} {sts : List Stp} (h : Mx T F H p n sts) {te : TE} {σ : L2.St} {E : XK} (he : Ev te σ H (.ref p)) : Ev (tMeth T.C_Mixer "wide" (sp_Mixer_wide T) [] E te tNil) σ H (.int (n : Int)) := by
  obtain ⟨dx, d, h1, _⟩ := h.ob
  exact ev_meth0 he h1 (mf_no _ _ (by decide +kernel) (by decide +kernel)) (spv fun H1 e Q q E => ⟨p, F, n, sts, rfl, h.ex e, q⟩)
end
end K30

set_option Elab.async false
set_option linter.all false
set_option maxRecDepth 100000
set_option maxHeartbeats 4000000
namespace K30
open PySem PySem.Spec PyProof.Rows L2 Evl WS M30
/-! words about texts of heads -/
theorem s_ll : decide (V.str ("lift" : Str) = V.str "lift") = true := by decide +kernel
theorem s_tl : decide (V.str ("turn" : Str) = V.str "lift") = false := by decide +kernel
theorem s_tt : decide (V.str ("turn" : Str) = V.str "turn") = true := by decide +kernel
theorem s_sl : decide (V.str ("swap" : Str) = V.str "lift") = false := by decide +kernel
theorem s_st : decide (V.str ("swap" : Str) = V.str "turn") = false := by decide +kernel
theorem s_ss : decide (V.str ("swap" : Str) = V.str "swap") = true := by decide +kernel
theorem s_ls : decide (V.str ("lift" : Str) = V.str "swap") = false := by decide +kernel
theorem s_ts : decide (V.str ("turn" : Str) = V.str "swap") = false := by decide +kernel
theorem s_lt : decide (V.str ("lift" : Str) = V.str "turn") = false := by decide +kernel
section
variable {K : PySem.W.Frag} {σ : L2.St} {H : Hp} {te tl : TE}
/-- t[j] of a tuple -/
theorem ev_at {p : Addr} {xs : List V} {j : Nat} {v : V} (h : Ev te σ H (.ref p)) (hp : H p = some (.tup xs)) (hj : xs[j]? = some v) : Ev (tOp (rIxT K) te (tC (.int (j : Int)))) σ H v :=
  ev_op h ev_c (rv_ixT (K := K) (st_of hp) (atI_nat hj))
theorem ev_lenT {p : Addr} {xs : List V} (h : Ev te σ H (.ref p)) (hp : H p = some (.tup xs)) : Ev (tCB (rLenS K) (tCons te tNil)) σ H (.int (xs.length : Int)) := fun H1 e Q q =>
  h H1 e _ fun H2 e2 => ⟨p, xs, rfl, Or.inr (st_of (e2 _ _ (e _ _ hp))), q H2 e2⟩
end
section
variable {K : PySem.W.Frag} {mg : Str → Option Value}
/-- [copied(step) for step in steps] -/
theorem copied_use {T : Tx K mg} {σ : L2.St} {H : Hp} {tl : TE} {a : Addr} {F : Addr → Prop} {sts : List Stp} {j : Nat} {ws : List Nat} {E : XK} {Q : VK} (h : Ev tl σ H (.ref a)) (hs : Sts F H a sts) (hz : sts.length ≤ 10000)
    (hw : ∀ x, wipe ((wipe σ ws).set j (some x)) ws = wipe σ ws) (hj : ∀ x, ((wipe σ ws).set j (some x))[j]? = some (some x)) (k : RetS sts H Q) :
    tLc (iList K tl) (gName j) tYes (tCall (sp_copied T) [] E (tCons (tVar j) tNil)) ws σ H Q := by
  obtain ⟨_, vs, h1, h2⟩ := hs
  refine h H (Ex.refl H) _ fun H1 e1 => ⟨a, rfl, ⟨vs, sq_of (e1 _ _ h1)⟩, fun D hD => ?_⟩
  have hD0 : H D = none := fresh_back e1 hD
  refine lc_list (xs := vs) (fun i H' => Ex H H' ∧ ∃ acc, H' D = some (.lst acc) ∧ Ss (fun b => H b = none ∧ b ≠ D) H' acc (sts.take i)) ⟨e1.trans (Ex.new hD), [], upd_same, by simp, fun i v st hv => by simp at hv⟩ (fun i H' _ p => sq_of (p.1 _ _ h1)) (fun i x H' hi p => ?_) (fun H' p => ?_)
  · obtain ⟨e, acc, ha, hss⟩ := p
    obtain ⟨st, hst, hv⟩ := h2.get hi
    have hlt := (List.getElem?_eq_some_iff.mp hst).1
    refine ⟨hw x, x, hj x, x, F, st, rfl, hv.ex e, fun v' H2 e2 hv' => ⟨acc, e2 _ _ ha, sz_lt (by have := hss.1; rw [List.length_take] at this; omega), Ex.mut (e.trans e2) hD0, acc ++ [v'], upd_same, ?_⟩⟩
    have fr : Fr (fun b => H b = none ∧ b ≠ D) H2 (upd H2 D (.lst (acc ++ [v']))) := fun b o hb hl => by
      by_cases n : b = D
      · subst n
        rw [e2 _ _ ha] at hb
        exact absurd rfl (hl ⟨acc, (Option.some.inj hb).symm⟩).2
      · rw [upd_ne n]
        exact hb
    rw [List.take_add_one, hst]
    exact ((hss.fr (Fr.of e2)).snoc (hv'.mono fun b o hb hn => ⟨fresh_back e hn, fun z => by rw [z, ha] at hn; cases hn⟩)).fr fr
  · obtain ⟨e, acc, ha, hss⟩ := p
    rw [h2.1, List.take_length] at hss
    exact k D H' hD0 e ⟨hD0, acc, ha, hss.mono fun b o hb hn => hn.1⟩
end
section
variable {P : Program} {w : World} {K : PySem.W.Frag} {mg : Str → Option Value} {base : Heap}
theorem ok_is_number (T : Tx K mg) : FnOk P w K mg base CX0 1 T.a_is_number T.d_is_number ["value"] (sp_is_number T) := by
  refine T.f_is_number.ok (k := 0) sc_is_number (fun vs H Q E h => ?_) (fun cdv A outer s H vs Q E hr h => ?_)
  · obtain ⟨i, rfl, _⟩ := h
    rfl
  · obtain ⟨i, rfl, q⟩ := h
    refine ⟨_,       (pss_one (ps_ret (pe_and (pe_callB (id := "isinstance") (r := rIsi K) call_isi (by rfl) T.m_isinstance (by decide +kernel) (pa_cons (pv 0) (pa_cons (pe_bltn (by rfl) T.m_int (v := .ty "int") (by decide +kernel) rfl) pa_nil))) (pe_one (pe_not (pe_callB (id := "isinstance") (r := rIsi K) call_isi (by rfl) T.m_isinstance (by decide +kernel) (pa_cons (pv 0) (pa_cons (pe_bltn (by rfl) T.m_bool (v := .ty "bool") (by decide +kernel) rfl) pa_nil)))))))), ?_⟩
    exact s_ret (ev_andV (ev_isiI (b := true) (ev_var rfl) (by decide +kernel)) fun _ => ev_notV (ev_isiI (b := false) (ev_var rfl) (by decide +kernel))) q
theorem ok_is_within (T : Tx K mg) : FnOk P w K mg base CX0 2 T.a_is_within T.d_is_within ["value", "low", "high"] (sp_is_within T) := by
  refine T.f_is_within.ok (k := 1) sc_is_within (fun vs H Q E h => ?_) (fun cdv A outer s H vs Q E hr h => ?_)
  · obtain ⟨i, j, k, rfl, _⟩ := h
    rfl
  · obtain ⟨i, j, k, rfl, h1, h2, q⟩ := h
    refine ⟨_,       (pss_one (ps_ret (pe_and (pe_call (ok_is_number T) hr (by rfl) T.g_is_number T.f_is_number.kp T.b_is_number .nil pass0 (pa_cons (pv 0) pa_nil)) (pe_one (pe_chain op_le op_le (pv 1) (pv 0) (pv 2)))))), ?_⟩
    refine s_ret (ev_is (ev_andV (ev_call (ea_cons (ev_var rfl) ea_nil) (spv fun H1 e Q q E => ⟨i, rfl, q⟩)) fun _ => ev_chain (ev_var rfl) (ev_var rfl) rv_I0 (ev_var rfl) rv_I0) ?_) q
    rw [decide_eq_true h1, decide_eq_true h2]
    rfl
theorem ok_is_count (T : Tx K mg) : FnOk P w K mg base CX0 2 T.a_is_count T.d_is_count ["value"] (sp_is_count T) := by
  refine T.f_is_count.ok (k := 1) sc_is_count (fun vs H Q E h => ?_) (fun cdv A outer s H vs Q E hr h => ?_)
  · obtain ⟨i, rfl, _⟩ := h
    rfl
  · obtain ⟨i, rfl, h1, q⟩ := h
    refine ⟨_,       (pss_one (ps_ret (pe_and (pe_call (ok_is_number T) hr (by rfl) T.g_is_number T.f_is_number.kp T.b_is_number .nil pass0 (pa_cons (pv 0) pa_nil)) (pe_one (pe_cmpR op_ge (pv 0) pe_int (nomark _)))))), ?_⟩
    refine s_ret (ev_is (ev_andV (ev_call (ea_cons (ev_var rfl) ea_nil) (spv fun H1 e Q q E => ⟨i, rfl, q⟩)) fun _ => ev_op (ev_var rfl) ev_c rv_I0) ?_) q
    rw [decide_eq_true (show i ≥ 0 from h1)]
    rfl
theorem ok_is_numbers (T : Tx K mg) : FnOk P w K mg base CX0 2 T.a_is_numbers T.d_is_numbers ["value"] (sp_is_numbers T) := by
  refine T.f_is_numbers.ok (k := 1) sc_is_numbers (fun vs H Q E h => ?_) (fun cdv A outer s H vs Q E hr h => ?_)
  · obtain ⟨a, fs, rfl, _⟩ := h
    rfl
  · obtain ⟨a, fs, rfl, hf, hl, q⟩ := h
    refine ⟨_,       (pss_one (ps_ret (pe_and (pe_callB (id := "isinstance") (r := rIsi K) call_isi (by rfl) T.m_isinstance (by decide +kernel) (pa_cons (pv 0) (pa_cons (pe_bltn (by rfl) T.m_list (v := .ty "list") (by decide +kernel) rfl) pa_nil))) (pe_one (pe_callB (id := "all") (r := rAll K) (cr_all rfl) (by rfl) T.m_all (by decide +kernel) (pa_cons (pe_lc (own := [("item", 1)]) (g := gName 1) (tt := tYes) rfl sc_is_numbers.nd (pi_list (pv 0)) (blkOk_by (own := [("item", 1)]) (N := ["value", "item"]) (sc := defScope s_is_numbers) (by decide +kernel)) (fun _ _ _ _ _ => (pg_name (i := 1) sc_is_numbers.nd rfl (by first | exact Or.inl rfl | exact Or.inr rfl))) (fun _ _ _ _ _ => pts_nil) (fun _ _ _ _ _ => (pe_call (ok_is_number T) hr (by rfl) T.g_is_number T.f_is_number.kp T.b_is_number .nil pass0 (pa_cons (pv 1) pa_nil)))) pa_nil)))))), ?_⟩
    refine s_ret (ev_is (ev_andV (ev_isiL (b := true) (ev_var rfl) hf (by decide +kernel)) fun _ => ev_allN (bs := fs.map fun _ => true) ?_) ?_) q
    · rw [List.map_map]
      exact el_map (0 : Int) (V.bl ∘ fun _ => true) (ev_var rfl) hf.sq (by omega) (fun _ => rfl) (fun x H1 e hx => ev_call (ea_cons (ev_var rfl) ea_nil) (spv fun H1 e Q q E => ⟨x, rfl, q⟩))
    · have : (fs.map fun _ => true).all id = true := by simp
      rw [this]
      rfl
theorem ok_check_within (T : Tx K mg) : FnOk P w K mg base CX0 3 T.a_check_within T.d_check_within ["number", "low", "high"] (sp_check_within T) := by
  refine T.f_check_within.ok (k := 2) sc_check_within (fun vs H Q E h => ?_) (fun cdv A outer s H vs Q E hr h => ?_)
  · obtain ⟨i, j, k, rfl, _⟩ := h
    rfl
  · obtain ⟨i, j, k, rfl, h1, h2, q⟩ := h
    refine ⟨_,       (pss_one (ps_if (pt_not (pt_val (pe_call (ok_is_within T) hr (by rfl) T.g_is_within T.f_is_within.kp T.b_is_within .nil pass0 (pa_cons (pv 0) (pa_cons (pv 1) (pa_cons (pv 2) pa_nil)))))) 
        (pss_one ps_never) pss_nil)), ?_⟩
    exact s_when (et_not (et_B (ev_call (ea_cons (ev_var rfl) (ea_cons (ev_var rfl) (ea_cons (ev_var rfl) ea_nil))) (spv fun H1 e Q q E => ⟨i, j, k, rfl, h1, h2, q⟩)))) (fun z => by cases z) (fun _ => q)
theorem ok_wrapped (T : Tx K mg) : FnOk P w K mg base CX0 1 T.a_wrapped T.d_wrapped ["number", "depth"] (sp_wrapped T) := by
  refine T.f_wrapped.ok (k := 0) sc_wrapped (fun vs H Q E h => ?_) (fun cdv A outer s H vs Q E hr h => ?_)
  · exact h.elim
  · exact h.elim
theorem ok_is_lift (T : Tx K mg) : FnOk P w K mg base CX0 3 T.a_is_lift T.d_is_lift ["value", "wide"] (sp_is_lift T) := by
  refine T.f_is_lift.ok (k := 2) sc_is_lift (fun vs H Q E h => ?_) (fun cdv A outer s H vs Q E hr h => ?_)
  · obtain ⟨v, F, to, ws, sh, n, rfl, _⟩ := h
    rfl
  · obtain ⟨v, F, to, ws, sh, n, rfl, hv, hok, hn, q⟩ := h
    obtain ⟨t, u, rfl, h1, h2, h3⟩ := hv
    obtain ⟨o1, o2, o3, o4, o5⟩ := hok
    refine ⟨_,       (pss_cons (ps_if (PW.pt (pw_or (pt_cmpR op_ne (pe_callB (id := "len") (r := rLenS K) call_len_seq (by rfl) T.m_len PySem.boot_len (pa_cons (pv 0) pa_nil)) pe_int (nomark _)) (pw_or (pt_not (pt_val (pe_call (ok_is_within T) hr (by rfl) T.g_is_within T.f_is_within.kp T.b_is_within .nil pass0 (pa_cons (pe_ix (r := rIxT K) ix_tup (pv 0) pe_int (fun _ _ => rfl)) (pa_cons pe_int (pa_cons (pe_op op_sub (pv 1) pe_int) pa_nil)))))) (pw_or1 (pt_not (pt_val (pe_call (ok_is_count T) hr (by rfl) T.g_is_count T.f_is_count.kp T.b_is_count .nil pass0 (pa_cons (pe_ix (r := rIxT K) ix_tup (pv 0) pe_int (fun _ _ => rfl)) pa_nil)))))))) 
        (pss_one (ps_ret pe_bl)) pss_nil) 
      (pss_one (ps_ret (pe_and (pe_call (ok_is_numbers T) hr (by rfl) T.g_is_numbers T.f_is_numbers.kp T.b_is_numbers .nil pass0 (pa_cons (pe_ix (r := rIxT K) ix_tup (pv 0) pe_int (fun _ _ => rfl)) pa_nil)) (pe_and (pe_cmpR op_eq (pe_callB (id := "len") (r := rLenS K) call_len_seq (by rfl) T.m_len PySem.boot_len (pa_cons (pe_ix (r := rIxT K) ix_tup (pv 0) pe_int (fun _ _ => rfl)) pa_nil)) (pv 1) (nomark _)) (pe_one (pe_cmpR op_eq (pe_ix (r := rIxL K) ix_list (pe_ix (r := rIxT K) ix_tup (pv 0) pe_int (fun _ _ => rfl)) (pe_ix (r := rIxT K) ix_tup (pv 0) pe_int (fun _ _ => rfl)) (fun _ _ => rfl)) pe_int (nomark _)))))))), ?_⟩
    refine q_when (b := false) (et_or (a := false) (et_is (et_test (ev_op (ev_lenT (K := K) (ev_var rfl) h1) ev_c (rv_ne rfl))) (show (!decide (V.int ((4 : Nat) : Int) = V.int 4)) = false from by decide +kernel)) fun _ =>
      et_or (a := false) (et_not (a := true) (et_B (ev_call (ea_cons (ev_at (K := K) (j := 1) (ev_var rfl) h1 rfl) (ea_cons ev_c (ea_cons (ev_op (ev_var rfl) ev_c rv_I0) ea_nil))) (spv fun H1 e Q q E => ⟨_, _, _, rfl, by omega, by omega, q⟩)))) fun _ =>
      et_not (a := true) (et_B (ev_call (ea_cons (ev_at (K := K) (j := 3) (ev_var rfl) h1 rfl) ea_nil) (spv fun H1 e Q q E => ⟨_, rfl, by omega, q⟩)))) (fun z => by cases z) (fun _ H1 e1 => ?_)
    have h1 := e1 _ _ h1
    have h2 := h2.ex e1
    refine s_ret (ev_is (ev_andV (ev_call (ea_cons (ev_at (K := K) (j := 2) (ev_var rfl) h1 rfl) ea_nil) (spv fun H1 e Q q E => ⟨u, ws, rfl, h2.ex e, by omega, q⟩)) fun _ =>
      ev_andV (ev_op (ev_len (K := K) (ev_at (K := K) (j := 2) (ev_var rfl) h1 rfl) h2.sq) (ev_var rfl) (rv_eq rfl)) fun _ =>
      ev_op (ev_op (ev_at (K := K) (j := 2) (ev_var rfl) h1 rfl) (ev_at (K := K) (j := 1) (ev_var rfl) h1 rfl) (rv_ixL (K := K) h2.sq (atI_nat (j := to) (v := .int 0) ?_))) ev_c (rv_eq rfl)) ?_) fun H2 e2 => q H2 (e1.trans e2)
    · rw [List.getElem?_map]
      rw [List.getD_eq_getElem?_getD, List.getElem?_eq_getElem (by omega)] at o3
      rw [List.getElem?_eq_getElem (by omega)]
      exact congrArg (fun x => some (V.int x)) o3
    · rw [List.length_map, o2, decide_eq_true (rfl : V.int (n : Int) = V.int (n : Int)), decide_eq_true (rfl : V.int 0 = V.int 0)]
      rfl
end
end K30

set_option Elab.async false
set_option linter.all false
set_option maxRecDepth 100000
set_option maxHeartbeats 4000000
namespace K30
open PySem PySem.Spec PyProof.Rows L2 Evl WS M30
theorem n2eq : decide (V.int ((2 : Nat) : Int) = V.int 2) = true := by decide +kernel
theorem n3eq : decide (V.int ((3 : Nat) : Int) = V.int 3) = true := by decide +kernel
section
variable {P : Program} {w : World} {K : PySem.W.Frag} {mg : Str → Option Value} {base : Heap}
theorem ok_is_step (T : Tx K mg) : FnOk P w K mg base CX0 4 T.a_is_step T.d_is_step ["value", "wide"] (sp_is_step T) := by
  refine T.f_is_step.ok (k := 3) sc_is_step (fun vs H Q E h => ?_) (fun cdv A outer s H vs Q E hr h => ?_)
  · obtain ⟨v, F, st, n, rfl, _⟩ := h
    rfl
  · obtain ⟨v, F, st, n, rfl, hv, hok, hn, q⟩ := h
    refine ⟨_,       (pss_cons (ps_if (PW.pt (pw_or (pt_not (pt_val (pe_callB (id := "isinstance") (r := rIsi K) call_isi (by rfl) T.m_isinstance (by decide +kernel) (pa_cons (pv 0) (pa_cons (pe_bltn (by rfl) T.m_tuple (v := .ty "tuple") (by decide +kernel) rfl) pa_nil))))) (pw_or1 (pt_cmpR op_eq (pe_callB (id := "len") (r := rLenS K) call_len_seq (by rfl) T.m_len PySem.boot_len (pa_cons (pv 0) pa_nil)) pe_int (nomark _))))) 
        (pss_one (ps_ret pe_bl)) pss_nil) 
      (pss_cons (ps_if (pt_cmpR op_eq (pe_ix (r := rIxT K) ix_tup (pv 0) pe_int (fun _ _ => rfl)) pe_str (nomark _)) 
        (pss_one (ps_ret (pe_call (ok_is_lift T) hr (by rfl) T.g_is_lift T.f_is_lift.kp T.b_is_lift .nil pass0 (pa_cons (pv 0) (pa_cons (pv 1) pa_nil))))) pss_nil) 
      (pss_cons (ps_if (pt_cmpR op_eq (pe_ix (r := rIxT K) ix_tup (pv 0) pe_int (fun _ _ => rfl)) pe_str (nomark _)) 
        (pss_one (ps_ret (pe_and (pe_cmpR op_eq (pe_callB (id := "len") (r := rLenS K) call_len_seq (by rfl) T.m_len PySem.boot_len (pa_cons (pv 0) pa_nil)) pe_int (nomark _)) (pe_one (pe_call (ok_is_within T) (hr.mono (by decide)) (by rfl) T.g_is_within T.f_is_within.kp T.b_is_within .nil pass0 (pa_cons (pe_ix (r := rIxT K) ix_tup (pv 0) pe_int (fun _ _ => rfl)) (pa_cons pe_int (pa_cons (pe_op op_sub (pv 1) pe_int) pa_nil)))))))) pss_nil) 
      (pss_cons (ps_if (pt_cmpR op_eq (pe_ix (r := rIxT K) ix_tup (pv 0) pe_int (fun _ _ => rfl)) pe_str (nomark _)) 
        (pss_one (ps_ret (pe_and (pe_cmpR op_eq (pe_callB (id := "len") (r := rLenS K) call_len_seq (by rfl) T.m_len PySem.boot_len (pa_cons (pv 0) pa_nil)) pe_int (nomark _)) (pe_and (pe_callB (id := "all") (r := rAll K) (cr_all rfl) (by rfl) T.m_all (by decide +kernel) (pa_cons (pe_lc (own := [("at", 2)]) (g := gName 2) (tt := tYes) rfl sc_is_step.nd (pi_tup (pe_slice (r := rSlT K) sl_tup (pv 0) (po_some pe_int) po_none)) (blkOk_by (own := [("at", 2)]) (N := ["value", "wide", "at"]) (sc := defScope s_is_step) (by decide +kernel)) (fun _ _ _ _ _ => (pg_name (i := 2) sc_is_step.nd rfl (by first | exact Or.inl rfl | exact Or.inr rfl))) (fun _ _ _ _ _ => pts_nil) (fun _ _ _ _ _ => (pe_call (ok_is_within T) (hr.mono (by decide)) (by rfl) T.g_is_within T.f_is_within.kp T.b_is_within .nil pass0 (pa_cons (pv 2) (pa_cons pe_int (pa_cons (pe_op op_sub (pv 1) pe_int) pa_nil)))))) pa_nil)) (pe_one (pe_cmpR op_ne (pe_ix (r := rIxT K) ix_tup (pv 0) pe_int (fun _ _ => rfl)) (pe_ix (r := rIxT K) ix_tup (pv 0) pe_int (fun _ _ => rfl)) (nomark _))))))) pss_nil) 
      (pss_one (ps_ret pe_bl)))))), ?_⟩
    have isT : ∀ {p : Addr} {xs : List V} {H : Hp} {te : TE} {σ : L2.St}, Ev te σ H (.ref p) → H p = some (.tup xs) → Ev (tCB (rIsi K) (tCons te (tCons (tC (.ty "tuple")) tNil))) σ H (.bl true) := fun h hp =>
      ev_isi h (fun _ e => TyX.base (TyOf.tup (e _ _ hp))) (kit_ty (by decide +kernel))
    cases st with
    | lift to ws sh =>
      obtain ⟨t, u, rfl, h1, h2, h3⟩ := hv
      refine q_when (b := false) (et_or (a := false) (et_not (a := true) (et_B (isT (ev_var rfl) h1))) fun _ => et_is (et_test (ev_op (ev_lenT (K := K) (ev_var rfl) h1) ev_c (rv_eq rfl))) (show decide (V.int ((4 : Nat) : Int) = V.int 0) = false from by decide +kernel)) (fun z => by cases z) (fun _ H1 e1 => ?_)
      have h1 := e1 _ _ h1
      refine q_when (b := true) (et_is (et_test (ev_op (ev_at (K := K) (j := 0) (ev_var rfl) h1 rfl) ev_c (rv_eq rfl))) s_ll) (fun _ H2 e2 => ?_) (fun z => by cases z)
      have h1 := e2 _ _ h1
      exact s_ret (ev_call (ea_cons (ev_var rfl) (ea_cons (ev_var rfl) ea_nil)) (spv fun H3 e Q q E => ⟨_, F, to, ws, sh, n, rfl, ⟨t, u, rfl, e _ _ h1, (h2.ex (e1.trans e2)).ex e, h3⟩, hok, hn, q⟩)) fun H3 e3 => q H3 ((e1.trans e2).trans e3)
    | turn i =>
      obtain ⟨t, rfl, h1⟩ := hv
      refine q_when (b := false) (et_or (a := false) (et_not (a := true) (et_B (isT (ev_var rfl) h1))) fun _ => et_is (et_test (ev_op (ev_lenT (K := K) (ev_var rfl) h1) ev_c (rv_eq rfl))) (show decide (V.int ((2 : Nat) : Int) = V.int 0) = false from by decide +kernel)) (fun z => by cases z) (fun _ H1 e1 => ?_)
      have h1 := e1 _ _ h1
      refine q_when (b := false) (et_is (et_test (ev_op (ev_at (K := K) (j := 0) (ev_var rfl) h1 rfl) ev_c (rv_eq rfl))) s_tl) (fun z => by cases z) (fun _ H2 e2 => ?_)
      have h1 := e2 _ _ h1
      refine q_when (b := true) (et_is (et_test (ev_op (ev_at (K := K) (j := 0) (ev_var rfl) h1 rfl) ev_c (rv_eq rfl))) s_tt) (fun _ H3 e3 => ?_) (fun z => by cases z)
      have h1 := e3 _ _ h1
      have hi : i < n := hok
      refine s_ret (ev_is (ev_andV (ev_op (ev_lenT (K := K) (ev_var rfl) h1) ev_c (rv_eq rfl)) fun _ => ev_call (ea_cons (ev_at (K := K) (j := 1) (ev_var rfl) h1 rfl) (ea_cons ev_c (ea_cons (ev_op (ev_var rfl) ev_c rv_I0) ea_nil))) (spv fun H1 e Q q E => ⟨_, _, _, rfl, by omega, by omega, q⟩)) ?_) fun H4 e4 => q H4 (((e1.trans e2).trans e3).trans e4)
      exact congrArg V.bl (by rw [Bool.and_true]; exact n2eq)
    | swap a b =>
      obtain ⟨t, rfl, h1⟩ := hv
      obtain ⟨o1, o2, o3⟩ := hok
      refine q_when (b := false) (et_or (a := false) (et_not (a := true) (et_B (isT (ev_var rfl) h1))) fun _ => et_is (et_test (ev_op (ev_lenT (K := K) (ev_var rfl) h1) ev_c (rv_eq rfl))) (show decide (V.int ((3 : Nat) : Int) = V.int 0) = false from by decide +kernel)) (fun z => by cases z) (fun _ H1 e1 => ?_)
      have h1 := e1 _ _ h1
      refine q_when (b := false) (et_is (et_test (ev_op (ev_at (K := K) (j := 0) (ev_var rfl) h1 rfl) ev_c (rv_eq rfl))) s_sl) (fun z => by cases z) (fun _ H2 e2 => ?_)
      have h1 := e2 _ _ h1
      refine q_when (b := false) (et_is (et_test (ev_op (ev_at (K := K) (j := 0) (ev_var rfl) h1 rfl) ev_c (rv_eq rfl))) s_st) (fun z => by cases z) (fun _ H3 e3 => ?_)
      have h1 := e3 _ _ h1
      refine q_when (b := true) (et_is (et_test (ev_op (ev_at (K := K) (j := 0) (ev_var rfl) h1 rfl) ev_c (rv_eq rfl))) s_ss) (fun _ H4 e4 => ?_) (fun z => by cases z)
      have h1 := e4 _ _ h1
      refine s_ret (ev_is (ev_andV (ev_op (ev_lenT (K := K) (ev_var rfl) h1) ev_c (rv_eq rfl)) fun _ => ev_andV (ev_allN (bs := [true, true]) ?_) fun _ => ev_op (ev_at (K := K) (j := 1) (ev_var rfl) h1 rfl) (ev_at (K := K) (j := 2) (ev_var rfl) h1 rfl) (rv_ne rfl)) ?_) fun H5 e5 => q H5 ((((e1.trans e2).trans e3).trans e4).trans e5)
      · -- [is_within(at, 0, wide - 1) for at in value[1:]]
        intro H5 e5 Q kk
        refine ⟨.ref t, rfl, ?_⟩
        refine ⟨1, rfl, t, _, rfl, st_of (e5 _ _ h1), show ¬ (HT.sIx 3 0 (some 1) = 0 ∧ HT.sIx 3 3 none = 3) from by decide, fun p hp => ?_⟩
        have hcut : cutV [V.str (Str.ofString "swap"), V.int (a : Int), V.int (b : Int)] (some 1) none = [V.int (a : Int), V.int (b : Int)] := rfl
        refine ⟨p, rfl, ⟨_, st_of upd_same⟩, fun D hD => ?_⟩
        have hDp : D ≠ p := fun z => by rw [z, upd_same] at hD; cases hD
        have eD : Ex H5 (upd H5 p (.tup (cutV [V.str (Str.ofString "swap"), V.int (a : Int), V.int (b : Int)] (some 1) none))) := Ex.new hp
        have hD0 := fresh_back eD hD
        refine lc_tup (xs := [V.int (a : Int), V.int (b : Int)]) (fun i H' => Ex (upd H5 p (.tup (cutV [V.str (Str.ofString "swap"), V.int (a : Int), V.int (b : Int)] (some 1) none))) H' ∧ H' D = some (.lst (List.replicate i (V.bl true)))) ⟨Ex.new hD, upd_same⟩ (fun i H' _ p' => st_of (p'.1 _ _ (by rw [upd_same, hcut]))) (fun i x H' hi p' => ?_) (fun H' p' => kk D H' hD0 (eD.trans p'.1) p'.2)
        obtain ⟨e', hL⟩ := p'
        have hx : ∃ m : Nat, x = V.int (m : Int) ∧ m < n := by
          have hi2 := (List.getElem?_eq_some_iff.mp hi).1
          have : i = 0 ∨ i = 1 := by simp at hi2; omega
          rcases this with rfl | rfl
          · exact ⟨a, (Option.some.inj hi).symm, o1⟩
          · exact ⟨b, (Option.some.inj hi).symm, o2⟩
        obtain ⟨m, rfl, hm⟩ := hx
        refine ⟨rfl, ?_⟩
        refine ⟨_, rfl, .int (n : Int), rfl, (n : Int), 1, rfl, rfl, _, _, _, rfl, by omega, by omega, fun H6 e6 => ⟨_, e6 _ _ hL, ?_, Ex.mut (e'.trans e6) hD, ?_⟩⟩
        · have hi2 := (List.getElem?_eq_some_iff.mp hi).1
          rw [List.length_replicate]
          exact sz_lt (by simp at hi2; omega)
        · rw [upd_same, List.replicate_succ']
      · rw [show decide (V.int (([V.str (Str.ofString "swap"), V.int (a : Int), V.int (b : Int)] : List V).length : Int) = V.int 3) = true from n3eq, decide_eq_false (show ¬ V.int (a : Int) = V.int (b : Int) from fun z => by have := V.int.inj z; omega)]
        rfl
theorem ok_copied (T : Tx K mg) : FnOk P w K mg base CX0 1 T.a_copied T.d_copied ["step"] (sp_copied T) := by
  refine T.f_copied.ok (k := 0) sc_copied (fun vs H Q E h => ?_) (fun cdv A outer s H vs Q E hr h => ?_)
  · obtain ⟨v, F, st, rfl, _⟩ := h
    rfl
  · obtain ⟨v, F, st, rfl, hv, q⟩ := h
    refine ⟨_,       (pss_one (ps_ret (pe_ifExp (pt_cmpR op_eq (pe_ix (r := rIxT K) ix_tup (pv 0) pe_int (fun _ _ => rfl)) pe_str (nomark _)) (pe_tup (pa_cons pe_str (pa_cons (pe_ix (r := rIxT K) ix_tup (pv 0) pe_int (fun _ _ => rfl)) (pa_cons (pe_callTy (T := "list") (r := rListS K) call_list_of (by rfl) T.m_list (by decide +kernel) (pa_cons (pe_ix (r := rIxT K) ix_tup (pv 0) pe_int (fun _ _ => rfl)) pa_nil)) (pa_cons (pe_ix (r := rIxT K) ix_tup (pv 0) pe_int (fun _ _ => rfl)) pa_nil))))) (pv 0)))), ?_⟩
    cases st with
    | lift to ws sh =>
      obtain ⟨t, u, rfl, h1, h2, h3⟩ := hv
      refine r_in (tif_in (et_use (et_is (et_test (ev_op (ev_at (K := K) (j := 0) (ev_var rfl) h1 rfl) ev_c (rv_eq rfl))) s_ll) fun H1 e1 => ?_))
      rw [if_pos rfl]
      have h1 := e1 _ _ h1
      refine tup_in (ta_consV ev_c fun H2 e2 => ta_consV (ev_at (K := K) (j := 1) (ev_var rfl) (e2 _ _ h1) rfl) fun H3 e3 => ta_consL (el_list (K := K) (ev_at (K := K) (j := 2) (ev_var rfl) (e3 _ _ (e2 _ _ h1)) rfl) (((h2.ex e1).ex e2).ex e3).sq) fun p H4 hp e4 k4 => ta_consV (ev_at (K := K) (j := 3) (ev_var rfl) (e4 _ _ (e3 _ _ (e2 _ _ h1))) rfl) fun H5 e5 => ?_)
      refine ⟨by show 4 ≤ sizeLine; decide, fun t' ht' => ?_⟩
      have e15 := (((e1.trans e2).trans e3).trans e4).trans e5
      exact q _ _ (e15.trans (Ex.new ht')) ⟨t', p, rfl, upd_same, Ex.new ht' _ _ (e5 _ _ k4), fresh_back ((e1.trans e2).trans e3) hp⟩
    | turn i =>
      obtain ⟨t, rfl, h1⟩ := hv
      refine r_in (tif_in (et_use (et_is (et_test (ev_op (ev_at (K := K) (j := 0) (ev_var rfl) h1 rfl) ev_c (rv_eq rfl))) s_tl) fun H1 e1 => ?_))
      rw [if_neg Bool.false_ne_true]
      exact ⟨_, rfl, q _ _ e1 ⟨t, rfl, e1 _ _ h1⟩⟩
    | swap a b =>
      obtain ⟨t, rfl, h1⟩ := hv
      refine r_in (tif_in (et_use (et_is (et_test (ev_op (ev_at (K := K) (j := 0) (ev_var rfl) h1 rfl) ev_c (rv_eq rfl))) s_sl) fun H1 e1 => ?_))
      rw [if_neg Bool.false_ne_true]
      exact ⟨_, rfl, q _ _ e1 ⟨t, rfl, e1 _ _ h1⟩⟩
end
end K30

set_option Elab.async false
set_option linter.all false
set_option maxRecDepth 100000
set_option maxHeartbeats 4000000
namespace K30
open PySem PySem.Spec PyProof.Rows L2 Evl WS M30
/-! steps as data -/
def stD : Stp → PyData
  | .lift to ws sh => .tuple [.str "lift", .int (to : Int), .list (ws.map PyData.int), .int (sh : Int)]
  | .turn i => .tuple [.str "turn", .int (i : Int)]
  | .swap a b => .tuple [.str "swap", .int (a : Int), .int (b : Int)]
theorem lay_ints : ∀ ws : List Int, PyData.canLayAll0 (ws.map PyData.int) = true
  | [] => rfl
  | _ :: r => by rw [List.map_cons, PyData.canLayAll0, lay_ints r]; rfl
theorem dep_ints : ∀ ws : List Int, PyData.depthAll (ws.map PyData.int) = 0
  | [] => rfl
  | _ :: r => by rw [List.map_cons, PyData.depthAll, dep_ints r]; rfl
theorem lay_st (st : Stp) : PyData.canLay0 (stD st) = true := by
  cases st with
  | lift to ws sh => simp [stD, PyData.canLay0, PyData.canLayAll0, lay_ints]; decide +kernel
  | turn i => simp [stD, PyData.canLay0, PyData.canLayAll0]; decide +kernel
  | swap a b => simp [stD, PyData.canLay0, PyData.canLayAll0]; decide +kernel
theorem dep_st (st : Stp) : PyData.depth (stD st) ≤ 3 := by
  cases st with
  | lift to ws sh => simp [stD, PyData.depth, PyData.depthAll, dep_ints]
  | turn i => simp [stD, PyData.depth, PyData.depthAll]
  | swap a b => simp [stD, PyData.depth, PyData.depthAll]
theorem lay_sts : ∀ sts : List Stp, PyData.canLayAll0 (sts.map stD) = true
  | [] => rfl
  | st :: r => by rw [List.map_cons, PyData.canLayAll0, lay_st, lay_sts r]; rfl
theorem dep_sts : ∀ sts : List Stp, PyData.depthAll (sts.map stD) ≤ 3
  | [] => by simp [PyData.depthAll]
  | st :: r => by
    have h1 := dep_st st
    have h2 := dep_sts r
    rw [List.map_cons, PyData.depthAll]
    omega
theorem shaped_sts (sts : List Stp) : SeqAt.shaped (.list (sts.map stD)) = true := by
  unfold SeqAt.shaped
  have h := dep_sts sts
  rw [PyData.canLay0, lay_sts, PyData.depth]
  simp
  omega
section
variable {K : PySem.W.Frag} {H : Hp}
theorem dp_st {F : Addr → Prop} {v : V} {st : Stp} (h : StV F H v st) : Dp K H v (stD st) := by
  cases st with
  | lift to ws sh =>
    obtain ⟨t, u, rfl, h1, h2, _⟩ := h
    refine .tup (st_of h1) (.cons (.str _) (.cons (.int _) (.cons (.lst (sq_of h2) ?_) (.cons (.int _) .nil))))
    rw [← ints_sD]
    exact dpAll_sc (ints_sc ws)
  | turn i =>
    obtain ⟨t, rfl, h1⟩ := h
    exact .tup (st_of h1) (.cons (.str _) (.cons (.int _) .nil))
  | swap a b =>
    obtain ⟨t, rfl, h1⟩ := h
    exact .tup (st_of h1) (.cons (.str _) (.cons (.int _) (.cons (.int _) .nil)))
theorem dp_all {F : Addr → Prop} : ∀ {vs : List V} {sts : List Stp}, Ss F H vs sts → DpAll K H vs (sts.map stD)
  | [], [], _ => .nil
  | [], _ :: _, h => by have := h.1; simp at this
  | _ :: _, [], h => by have := h.1; simp at this
  | v :: vs, st :: sts, h => .cons (dp_st (h.2 0 v st rfl rfl)) (dp_all ⟨by have := h.1; simpa using this, fun i u s a b => h.2 (i + 1) u s a b⟩)
theorem dp_sts {F : Addr → Prop} {a : Addr} {sts : List Stp} (h : Sts F H a sts) : Dp K H (.ref a) (.list (sts.map stD)) := by
  obtain ⟨_, vs, h1, h2⟩ := h
  exact .lst (sq_of h1) (dp_all h2)
theorem eqv_len : ∀ {xs ys : List PyData}, xs.length ≠ ys.length → PyData.eqvAll xs ys = false
  | [], [], h => absurd rfl h
  | [], _ :: _, _ => by simp [PyData.eqvAll]
  | _ :: _, [], _ => by simp [PyData.eqvAll]
  | x :: xs, y :: ys, h => by
    rw [PyData.eqvAll, eqv_len (xs := xs) (ys := ys) (fun e => h (by simp [e]))]
    simp
theorem rv_eqS {F G : Addr → Prop} {a b : Addr} {sts ss : List Stp} (ha : Sts F H a sts) (hb : Sts G H b ss) {r : Bool} (h : (sts = ss ∧ r = true) ∨ (sts.length ≠ ss.length ∧ r = false)) : RV (rEqD K) (.ref a) (.ref b) H (.bl r) := fun H1 e Q q =>
  ⟨.list (sts.map stD), .list (ss.map stD), dp_sts (ha.ex e), dp_sts (hb.ex e), shaped_sts _, shaped_sts _, by
    rcases h with ⟨rfl, rfl⟩ | ⟨h, rfl⟩
    · rw [SeqAt.eqv_refl _ (SeqAt.canLay_of_shaped (shaped_sts sts))]
      exact q H1 (Ex.refl H1)
    · rw [PyData.eqv, eqv_len (by simpa using h)]
      exact q H1 (Ex.refl H1)⟩
theorem rv_neS {F G : Addr → Prop} {a b : Addr} {sts : List Stp} (ha : Sts F H a sts) (hb : Sts G H b sts) : RV (rNeD K) (.ref a) (.ref b) H (.bl false) := fun H1 e Q q =>
  ⟨.list (sts.map stD), .list (sts.map stD), dp_sts (ha.ex e), dp_sts (hb.ex e), shaped_sts _, shaped_sts _, by
    rw [SeqAt.eqv_refl _ (SeqAt.canLay_of_shaped (shaped_sts sts))]
    exact q H1 (Ex.refl H1)⟩
end
theorem fld_in {K : PySem.W.Frag} {ta tv : TE} {f : Str} {D : Ends} {σ : L2.St} {H : Hp} (k : tv σ H fun y H1 => ta σ H1 fun x H2 => ∃ a C dx fs, x = .ref a ∧ H2 a = some (.ins C dx fs) ∧ Cls K C ∧ NoAttr K C f ∧ fs.length < 1000 ∧ D.nx σ (upd H2 a (.ins C dx (putF f y fs)))) : sFld K ta tv f D σ H := k
theorem StV.ins {F : Addr → Prop} {H : Hp} {v : V} {st : Stp} {p C dx : Addr} {fs : List (Str × V)} {o : HO} (h : StV F H v st) (hp : H p = some (.ins C dx fs)) : StV F (upd H p o) v st := by
  have ne : ∀ {b u}, H b = some u → (∀ C dx fs, u ≠ .ins C dx fs) → (upd H p o) b = some u := fun {b u} hb k => by
    by_cases z : b = p
    · rw [z, hp] at hb
      exact absurd (Option.some.inj hb).symm (k _ _ _)
    · rw [upd_ne z]
      exact hb
  cases st with
  | lift to ws sh =>
    obtain ⟨t, u, rfl, h1, h2, h3⟩ := h
    exact ⟨t, u, rfl, ne h1 (fun _ _ _ z => by cases z), ne h2 (fun _ _ _ z => by cases z), h3⟩
  | turn i =>
    obtain ⟨t, rfl, h1⟩ := h
    exact ⟨t, rfl, ne h1 (fun _ _ _ z => by cases z)⟩
  | swap a b =>
    obtain ⟨t, rfl, h1⟩ := h
    exact ⟨t, rfl, ne h1 (fun _ _ _ z => by cases z)⟩
theorem Sts.ins {F : Addr → Prop} {H : Hp} {a : Addr} {sts : List Stp} {p C dx : Addr} {fs : List (Str × V)} {o : HO} (h : Sts F H a sts) (hp : H p = some (.ins C dx fs)) : Sts F (upd H p o) a sts := by
  obtain ⟨ha, vs, h1, h2⟩ := h
  have n : a ≠ p := fun z => by rw [z, hp] at h1; cases h1
  exact ⟨ha, vs, by rw [upd_ne n]; exact h1, h2.1, fun i v st x y => (h2.2 i v st x y).ins hp⟩
section
variable {P : Program} {w : World} {K : PySem.W.Frag} {mg : Str → Option Value} {base : Heap}
theorem ok_Mixer___init__ (T : Tx K mg) : FnOk P w K mg base CX0 5 T.a_Mixer___init__ T.d_Mixer___init__ ["self", "wide", "steps"] (sp_Mixer___init__ T) := by
  refine T.f_Mixer___init__.ok (k := 4) sc_Mixer___init__ (fun vs H Q E h => ?_) (fun cdv A outer s H vs Q E hr h => ?_)
  · obtain ⟨p, dx, a, F, sts, n, rfl, _⟩ := h
    rfl
  · obtain ⟨p, dx, a, F, sts, n, rfl, hp, ha, h1, h4, hok, hl, q⟩ := h
    refine ⟨_,       (pss_cons (ps_expr (pe_call (ok_check_within T) (hr.mono (by decide)) (by rfl) T.g_check_within T.f_check_within.kp T.b_check_within .nil pass0 (pa_cons (pv 1) (pa_cons pe_int (pa_cons (pe_glob (v := .int 4) rfl T.c_MOST_WAYS ⟨_, rfl⟩) pa_nil))))) 
      (pss_cons (ps_if (pt_not (pt_val (pe_callB (id := "isinstance") (r := rIsi K) call_isi (by rfl) T.m_isinstance (by decide +kernel) (pa_cons (pv 2) (pa_cons (pe_bltn (by rfl) T.m_list (v := .ty "list") (by decide +kernel) rfl) pa_nil))))) 
        (pss_one ps_never) pss_nil) 
      (pss_cons (ps_for PassesOwn.never rfl (pi_list (pv 2)) (pg_name (i := 3) sc_Mixer___init__.nd rfl (by first | exact Or.inl rfl | exact Or.inr rfl)) 
        (pss_one (ps_if (pt_not (pt_val (pe_call (ok_is_step T) hr (by rfl) T.g_is_step T.f_is_step.kp T.b_is_step .nil pass0 (pa_cons (pv 3) (pa_cons (pv 1) pa_nil))))) 
          (pss_one ps_never) pss_nil))) 
      (pss_cons (ps_fld (pv 0) (pv 1) rfl) 
      (pss_one (ps_fld (pv 0) (pe_lc (own := [("step", 3)]) (g := gName 3) (tt := tYes) rfl sc_Mixer___init__.nd (pi_list (pv 2)) (blkOk_by (own := [("step", 3)]) (N := ["self", "wide", "steps", "step"]) (sc := defScope s_Mixer___init__) (by decide +kernel)) (fun _ _ _ _ _ => (pg_name (i := 3) sc_Mixer___init__.nd rfl (by first | exact Or.inl rfl | exact Or.inr rfl))) (fun _ _ _ _ _ => pts_nil) (fun _ _ _ _ _ => (pe_call (ok_copied T) (hr.mono (by decide)) (by rfl) T.g_copied T.f_copied.kp T.b_copied .nil pass0 (pa_cons (pv 3) pa_nil)))) rfl)))))), ?_⟩
    refine q_drop (ev_call (ea_cons (ev_var rfl) (ea_cons ev_c (ea_cons ev_c ea_nil))) (spv fun H1 e Q q E => ⟨(n : Int), 1, 4, rfl, by omega, by omega, q⟩)) fun H1 e1 => ?_
    obtain ⟨vs, hvs, hss⟩ := (ha.ex e1).2
    refine q_when (b := false) (et_not (a := true) (et_B (ev_isiL (b := true) (ev_var rfl) hvs (by decide +kernel)))) (fun z => by cases z) (fun _ H2 e2 => ?_)
    have hvs := e2 _ _ hvs
    refine q_forLn (xs := vs) (K := K) (ev_var rfl) (sq_of hvs) (fun i σ' H' => ∃ y, σ' = [some (.ref p), some (.int (n : Int)), some (.ref a), y] ∧ Ex H2 H') (fun H3 e3 => ⟨none, rfl, e3⟩) (fun i σ' H' _ hP => ?_) (fun i x σ' H' hx hP => ?_) (fun σ' H' hP => ?_)
    · obtain ⟨y, _, e⟩ := hP
      exact sq_of (e _ _ hvs)
    · obtain ⟨y, rfl, e⟩ := hP
      obtain ⟨st, hst, hv⟩ := hss.get hx
      exact s_when (b := false) (et_not (a := true) (et_B (ev_call (ea_cons (ev_var rfl) (ea_cons (ev_var rfl) ea_nil)) (spv fun H1 e' Q q E => ⟨x, F, st, n, rfl, (hv.ex (e2.trans e)).ex e', hok st (List.mem_of_getElem? hst), h4, q⟩)))) (fun z => by cases z) (fun _ H4 e4 => ⟨_, rfl, e.trans e4⟩)
    obtain ⟨y, rfl, e⟩ := hP
    have e03 := (e1.trans e2).trans e
    -- self._wide = wide
    refine ⟨.int (n : Int), rfl, .ref p, rfl, p, T.C_Mixer, dx, [], rfl, e03 _ _ hp, T.cl_Mixer, T.n_Mixer__wide, by show 0 < 1000; decide, ?_⟩
    -- self._steps = ..
    have hp3 := e03 _ _ hp
    dsimp only [sFld]
    refine copied_use (ev_var rfl) ((ha.ex e03).ins hp3) (by omega) (fun _ => rfl) (fun _ => rfl) fun D H4 hD e4 hS => ?_
    refine ⟨.ref p, rfl, p, T.C_Mixer, dx, _, rfl, e4 _ _ upd_same, T.cl_Mixer, T.n_Mixer__steps, by show 1 < 1000; decide, ?_⟩
    have old : ∀ b o, b ≠ p → H b = some o → H4 b = some o := fun b o hb h => e4 _ _ (by rw [upd_ne hb]; exact e03 _ _ h)
    refine q _ ⟨⟨dx, D, upd_same, (hS.ins (e4 _ _ upd_same)).mono fun b o _ hn => ?_⟩, h1, h4, hok, hl⟩ fun b o hb h => by rw [upd_ne hb]; exact old b o hb h
    cases hb : H b with
    | none => rfl
    | some u =>
      by_cases z : b = p
      · rw [z, upd_same] at hn; cases hn
      · rw [upd_ne z, e03 _ _ hb] at hn; cases hn
theorem ok_Mixer_wide (T : Tx K mg) : FnOk P w K mg base CX0 1 T.a_Mixer_wide T.d_Mixer_wide ["self"] (sp_Mixer_wide T) := by
  refine T.f_Mixer_wide.ok (k := 0) sc_Mixer_wide (fun vs H Q E h => ?_) (fun cdv A outer s H vs Q E hr h => ?_)
  · obtain ⟨p, F, n, sts, rfl, _⟩ := h
    rfl
  · obtain ⟨p, F, n, sts, rfl, hm, q⟩ := h
    obtain ⟨dx, d, h1, h2⟩ := hm.ob
    refine ⟨_,       (pss_one (ps_ret (pe_fld (pv 0) rfl))), ?_⟩
    exact s_ret (ev_fld (ev_var rfl) h1 T.cl_Mixer T.n_Mixer__wide (mf_w _ _)) q
theorem ok_Mixer_steps (T : Tx K mg) : FnOk P w K mg base CX0 2 T.a_Mixer_steps T.d_Mixer_steps ["self"] (sp_Mixer_steps T) := by
  refine T.f_Mixer_steps.ok (k := 1) sc_Mixer_steps (fun vs H Q E h => ?_) (fun cdv A outer s H vs Q E hr h => ?_)
  · obtain ⟨p, F, n, sts, rfl, _⟩ := h
    rfl
  · obtain ⟨p, F, n, sts, rfl, hm, q⟩ := h
    obtain ⟨dx, d, h1, h2⟩ := hm.ob
    have hl := hm.len
    refine ⟨_,       (pss_one (ps_ret (pe_lc (own := [("step", 1)]) (g := gName 1) (tt := tYes) rfl sc_Mixer_steps.nd (pi_list (pe_fld (pv 0) rfl)) (blkOk_by (own := [("step", 1)]) (N := ["self", "step"]) (sc := defScope s_Mixer_steps) (by decide +kernel)) (fun _ _ _ _ _ => (pg_name (i := 1) sc_Mixer_steps.nd rfl (by first | exact Or.inl rfl | exact Or.inr rfl))) (fun _ _ _ _ _ => pts_nil) (fun _ _ _ _ _ => (pe_call (ok_copied T) hr (by rfl) T.g_copied T.f_copied.kp T.b_copied .nil pass0 (pa_cons (pv 1) pa_nil)))))), ?_⟩
    exact r_in (copied_use (ev_fld (ev_var rfl) h1 T.cl_Mixer T.n_Mixer__steps (mf_s _ _)) h2 (by omega) (fun _ => rfl) (fun _ => rfl) q)
theorem ok_Mixer___eq__ (T : Tx K mg) : FnOk P w K mg base CX0 1 T.a_Mixer___eq__ T.d_Mixer___eq__ ["self", "other"] (sp_Mixer___eq__ T) := by
  refine T.f_Mixer___eq__.ok (k := 0) sc_Mixer___eq__ (fun vs H Q E h => ?_) (fun cdv A outer s H vs Q E hr h => ?_)
  · obtain ⟨p, F, n, sts, y, b, rfl, _⟩ := h
    rfl
  · obtain ⟨p, F, n, sts, y, b, rfl, hm, hy, q⟩ := h
    obtain ⟨dx, d, h1, h2⟩ := hm.ob
    refine ⟨_,       (pss_one (ps_ret (pe_and (pe_callB (id := "isinstance") (r := rIsi K) call_isi (by rfl) T.m_isinstance (by decide +kernel) (pa_cons (pv 1) (pa_cons (pe_glob (v := .ref T.C_Mixer) rfl T.gC_Mixer rfl) pa_nil))) (pe_and (pe_cmpR op_eq (pe_fld (pv 0) rfl) (pe_fld (pv 1) rfl) (nomark _)) (pe_one (pe_cmpR (op_eqD hr.units) (pe_fld (pv 0) rfl) (pe_fld (pv 1) rfl) (nomark _))))))), ?_⟩
    rcases hy with ⟨r, G, m, ss, rfl, hm', c⟩ | ⟨a, xs, rfl, ha, rfl⟩
    · obtain ⟨dy, d', h3, h4⟩ := hm'.ob
      have isM := hm'.isi (te := tVar 1) (σ := [some (.ref p), some (.ref r)]) (ev_var rfl)
      rcases c with ⟨rfl, e, rfl⟩ | ⟨ne, rfl⟩ | ⟨rfl, ne, rfl⟩
      · refine s_ret (v := .bl true) (ev_is (ev_andV (b := true) isM fun _ => ev_is (ev_andV (ev_op (ev_fld (ev_var rfl) h1 T.cl_Mixer T.n_Mixer__wide (mf_w _ _)) (ev_fld (ev_var rfl) h3 T.cl_Mixer T.n_Mixer__wide (mf_w _ _)) (rv_eq rfl)) fun _ => ev_op (ev_fld (ev_var rfl) h1 T.cl_Mixer T.n_Mixer__steps (mf_s _ _)) (ev_fld (ev_var rfl) h3 T.cl_Mixer T.n_Mixer__steps (mf_s _ _)) (rv_eqS (K := K) (r := true) h2 h4 (.inl ⟨e, rfl⟩))) ?_) rfl) q
        rw [decide_eq_true (rfl : V.int (n : Int) = V.int (n : Int))]
        rfl
      · refine s_ret (v := .bl false) (ev_is (ev_andV (b := false) isM fun _ => ev_is (ev_andV (b := false) (ev_op (ev_fld (ev_var rfl) h1 T.cl_Mixer T.n_Mixer__wide (mf_w _ _)) (ev_fld (ev_var rfl) h3 T.cl_Mixer T.n_Mixer__wide (mf_w _ _)) (rv_eq rfl)) fun z => ?_) ?_) rfl) q
        · exact absurd (by have := V.int.inj (of_decide_eq_true z); omega) ne
        · rw [Bool.and_false]
      · refine s_ret (v := .bl false) (ev_is (ev_andV (b := false) isM fun _ => ev_is (ev_andV (ev_op (ev_fld (ev_var rfl) h1 T.cl_Mixer T.n_Mixer__wide (mf_w _ _)) (ev_fld (ev_var rfl) h3 T.cl_Mixer T.n_Mixer__wide (mf_w _ _)) (rv_eq rfl)) fun _ => ev_op (ev_fld (ev_var rfl) h1 T.cl_Mixer T.n_Mixer__steps (mf_s _ _)) (ev_fld (ev_var rfl) h3 T.cl_Mixer T.n_Mixer__steps (mf_s _ _)) (rv_eqS (K := K) (r := false) h2 h4 (.inr ⟨ne, rfl⟩))) ?_) rfl) q
        rw [Bool.and_false]
    · refine s_ret (v := .bl false) (ev_is (ev_andV (a := false) (b := false) ?_ fun z => by cases z) rfl) q
      exact fun H1 e Q q => ⟨.ref a, rfl, .ref a, .ref T.C_Mixer, .type "list", .ref T.C_Mixer, false, rfl, ClsV.own T.C_Mixer, TyX.base (TyOf.lst (e _ _ ha)), list_no, q H1 (Ex.refl H1)⟩
theorem ok_check_mixer (T : Tx K mg) : FnOk P w K mg base CX0 1 T.a_check_mixer T.d_check_mixer ["mixer"] (sp_check_mixer T) := by
  refine T.f_check_mixer.ok (k := 0) sc_check_mixer (fun vs H Q E h => ?_) (fun cdv A outer s H vs Q E hr h => ?_)
  · obtain ⟨p, F, n, sts, rfl, _⟩ := h
    rfl
  · obtain ⟨p, F, n, sts, rfl, hg, q⟩ := h
    refine ⟨_,       (pss_one (ps_if (pt_not (pt_val (pe_callB (id := "isinstance") (r := rIsi K) call_isi (by rfl) T.m_isinstance (by decide +kernel) (pa_cons (pv 0) (pa_cons (pe_glob (v := .ref T.C_Mixer) rfl T.gC_Mixer rfl) pa_nil))))) 
        (pss_one ps_never) pss_nil)), ?_⟩
    exact s_when (b := false) (et_not (a := true) (et_B (hg.isi (ev_var rfl)))) (fun z => by cases z) (fun _ => q)
theorem ok_check_moment (T : Tx K mg) : FnOk P w K mg base CX0 3 T.a_check_moment T.d_check_moment ["mixer", "samples"] (sp_check_moment T) := by
  refine T.f_check_moment.ok (k := 2) sc_check_moment (fun vs H Q E h => ?_) (fun cdv A outer s H vs Q E hr h => ?_)
  · obtain ⟨p, F, n, sts, a, row, rfl, _⟩ := h
    rfl
  · obtain ⟨p, F, n, sts, a, row, rfl, hm, ha, hl, q⟩ := h
    have n4 := hm.n4
    refine ⟨_,       (pss_one (ps_if (PW.pt (pw_or (pt_not (pt_val (pe_call (ok_is_numbers T) hr (by rfl) T.g_is_numbers T.f_is_numbers.kp T.b_is_numbers .nil pass0 (pa_cons (pv 1) pa_nil)))) (pw_or1 (pt_cmpR op_ne (pe_callB (id := "len") (r := rLenS K) call_len_seq (by rfl) T.m_len PySem.boot_len (pa_cons (pv 1) pa_nil)) (pe_meth0 (pv 0) T.cl_Mixer T.me_Mixer_wide (ok_Mixer_wide T) (hr.mono (by decide)) T.b_Mixer_wide .nil pass0) (nomark _))))) 
        (pss_one ps_never) pss_nil)), ?_⟩
    refine s_when (b := false) (et_or (a := false) (et_not (a := true) (et_B (ev_call (ea_cons (ev_var rfl) ea_nil) (spv fun H1 e Q q E => ⟨a, row, rfl, ha.ex e, by omega, q⟩)))) fun _ => et_is (et_test (ev_op (ev_len (K := K) (ev_var rfl) ha.sq) (hm.wideE (ev_var rfl)) (rv_ne rfl))) ?_) (fun z => by cases z) (fun _ => q)
    rw [List.length_map, hl, decide_eq_true (rfl : V.int (n : Int) = V.int (n : Int))]
    rfl
end
end K30

set_option Elab.async false
set_option linter.all false
set_option maxRecDepth 100000
set_option maxHeartbeats 4000000
namespace K30
open PySem PySem.Spec PyProof.Rows L2 Evl WS M30
section
variable {K : PySem.W.Frag}
/-- [x * y for x, y in zip(ws, row)] -/
theorem el_zip {σ : L2.St} {H : Hp} {ta : TA} {a b : Addr} {ws row : List Int} {m : Nat} (h : EvA ta σ H [.ref a, .ref b]) (ha : Li H a ws) (hb : Li H b row) (hl : ws.length = row.length) (h4 : row.length ≤ 4) (hm : m ≤ 900000) (hws : ∀ w ∈ ws, w.natAbs ≤ 32768) (hr : Sm m row)
    (hσ : ∃ u v y z, σ = [u, v, y, z]) : EvL (tLc (iZip K ta) (gTup K 2 (gCons (gName 2) (gCons (gName 3) gNil))) tYes (tOp (rI CMulW fun i j => .int (i * j)) (tVar 2) (tVar 3)) [2, 3]) σ H ((List.zipWith (fun w x => w * x) ws row).map V.int) := by
  obtain ⟨u, v, y, z, rfl⟩ := hσ
  intro H0 e0 Q q
  refine h H0 e0 _ fun H1 e1 => ⟨a, b, _, _, rfl, (ha.ex (e0.trans e1)).sq, (hb.ex (e0.trans e1)).sq, fun D hD => ?_⟩
  have hD0 := fresh_back e1 hD
  have la := ha.ex (e0.trans e1)
  have lb := hb.ex (e0.trans e1)
  refine ⟨fun i k H' => k = row.length - i ∧ i ≤ row.length ∧ Ex H1 H' ∧ H' D = some (.lst (((List.zipWith (fun w x => w * x) ws row).map V.int).take i)), ⟨row.length, rfl, Nat.zero_le _, Ex.new hD, by rw [List.take_zero]; exact upd_same⟩, ?_⟩
  rintro i k H' ⟨rfl, hi, e, hL⟩
  by_cases hlt : i < row.length
  · have gw : ws[i]? = some (ws[i]'(by omega)) := List.getElem?_eq_getElem (by omega)
    have gr : row[i]? = some (row[i]'hlt) := List.getElem?_eq_getElem hlt
    refine .inr ⟨⟨_, _, .int (ws[i]'(by omega)), .int (row[i]'hlt), (la.ex e).sq, (lb.ex e).sq, by rw [List.getElem?_map, gw]; rfl, by rw [List.getElem?_map, gr]; rfl⟩, fun H2 => ∃ k', k' < row.length - i ∧ k' = row.length - (i + 1) ∧ i + 1 ≤ row.length ∧ Ex H1 H2 ∧ H2 D = some (.lst (((List.zipWith (fun w x => w * x) ws row).map V.int).take (i + 1))), fun H2 p => ?_, fun xx H2 yy => ?_⟩
    · obtain ⟨k', p1, p2⟩ := p
      exact ⟨k', p1, p2⟩
    · obtain ⟨t, x1, x2, rfl, ht, rfl, y1, y2⟩ := yy
      have z1 := y1 _ (la.ex e).sq
      have z2 := y2 _ (lb.ex e).sq
      rw [List.getElem?_map, gw] at z1
      rw [List.getElem?_map, gr] at z2
      cases z1
      cases z2
      refine ⟨t, _, rfl, st_of upd_same, rfl, _, _, rfl, _, _, rfl, rfl, ?_⟩
      refine ⟨rfl, ?_⟩
      refine ⟨_, rfl, _, rfl, _, _, rfl, rfl, ?_, ?_⟩
      · refine wide_mul (a := 17) (b := m + 1) (Nat.lt_of_le_of_lt (hws _ (List.getElem_mem _)) (by decide)) (Nat.lt_of_lt_of_le (hr _ (List.getElem_mem _)) (Nat.pow_le_pow_right (by decide) (by omega))) (by decide) (by omega) (by omega)
      · have nD : D ≠ t := fun z => by rw [← z, hL] at ht; cases ht
        refine ⟨_, by rw [upd_ne nD]; exact hL, sz_lt ?_, row.length - (i + 1), by omega, rfl, hlt, Ex.mut (e.trans (Ex.new ht)) hD, ?_⟩
        · rw [List.length_take]
          omega
        · rw [upd_same, List.take_add_one]
          congr 3
          rw [List.getElem?_map, List.getElem?_zipWith, gw, gr]
          rfl
  · have hi2 : i = row.length := by omega
    subst hi2
    refine .inl ⟨⟨_, _, (la.ex e).sq, (lb.ex e).sq, .inr (by rw [List.length_map]; omega)⟩, ?_⟩
    rw [List.take_of_length_le (by rw [List.length_map, List.length_zipWith]; omega)] at hL
    exact q D H' hD0 (e1.trans e) hL
end
end K30

set_option Elab.async false
set_option linter.all false
set_option maxRecDepth 100000
set_option maxHeartbeats 4000000
namespace K30
open PySem PySem.Spec PyProof.Rows L2 Evl WS M30
theorem at_row {row : List Int} {i : Nat} (h : i < row.length) : (row.map V.int)[i]? = some (V.int (row.getD i 0)) := by
  rw [List.getElem?_map, List.getElem?_eq_getElem h, List.getD_eq_getElem?_getD, List.getElem?_eq_getElem h] <;> rfl
theorem set_row {row : List Int} {i : Nat} {x : Int} : (row.map V.int).set i (V.int x) = (row.set i x).map V.int := (List.map_set ..).symm
theorem runs_take {sg : Int} {sts : List Stp} {row : List Int} {i : Nat} {st : Stp} (h : sts[i]? = some st) : runs sg (sts.take (i + 1)) row = go sg st (runs sg (sts.take i) row) := by
  rw [List.take_add_one, h]
  exact runs_app sg _ _ _
theorem one_go {sg : Int} {st : Stp} {r : List Int} {i : Nat} {x : Int} (h : one_ sg r st = some (i, x)) : go sg st r = r.set i x := by
  cases st with
  | lift to ws sh => cases h; rfl
  | turn j => cases h; rfl
  | swap a b => cases h
section
variable {P : Program} {w : World} {K : PySem.W.Frag} {mg : Str → Option Value} {base : Heap}
theorem ok_lifted (T : Tx K mg) : FnOk P w K mg base CX0 1 T.a_lifted T.d_lifted ["step", "samples"] (sp_lifted T) := by
  refine T.f_lifted.ok (k := 0) sc_lifted (fun vs H Q E h => ?_) (fun cdv A outer s H vs Q E hr h => ?_)
  · obtain ⟨v, F, to, ws, sh, a, row, rfl, _⟩ := h
    rfl
  · obtain ⟨v, F, to, ws, sh, a, row, rfl, hv, ha, hl, h4, hw, ⟨m, hm, hm9⟩, q⟩ := h
    obtain ⟨t, u, rfl, h1, h2, h3⟩ := hv
    refine ⟨_,       (pss_one (ps_ret (pe_op op_shr (pe_callB (id := "sum") (r := rSum K) (cr_sum rfl) (by rfl) T.m_sum (by decide +kernel) (pa_cons (pe_lc (own := [("weight", 2), ("number", 3)]) (g := gTup K 2 (gCons (gName 2) (gCons (gName 3) gNil))) (tt := tYes) rfl sc_lifted.nd (pi_zip (by rfl) T.m_zip (pa_cons (pe_ix (r := rIxT K) ix_tup (pv 0) pe_int (fun _ _ => rfl)) (pa_cons (pv 1) pa_nil))) (blkOk_by (own := [("weight", 2), ("number", 3)]) (N := ["step", "samples", "weight", "number"]) (sc := defScope s_lifted) (by decide +kernel)) (fun _ _ _ _ _ => by exact (pg_tup rfl (pgs_cons (pg_name (i := 2) sc_lifted.nd rfl (by first | exact Or.inl rfl | exact Or.inr rfl)) (pgs_cons (pg_name (i := 3) sc_lifted.nd rfl (by first | exact Or.inl rfl | exact Or.inr rfl)) pgs_nil)))) (fun _ _ _ _ _ => pts_nil) (fun _ _ _ _ _ => (pe_op op_mulW (pv 2) (pv 3)))) pa_nil)) (pe_ix (r := rIxT K) ix_tup (pv 0) pe_int (fun _ _ => rfl))))), ?_⟩
    refine s_ret (ev_is (ev_op (ev_sumN (K := K) (ns := List.zipWith (fun w x => w * x) ws row) (el_zip (K := K) (ea_cons (ev_at (K := K) (j := 2) (ev_var rfl) h1 rfl) (ea_cons (ev_var rfl) ea_nil)) h2 ha hl h4 hm9 hw hm ⟨_, _, _, _, rfl⟩)) (ev_at (K := K) (j := 3) (ev_var rfl) h1 rfl) (rv_I (show (0 : Int) ≤ (sh : Int) by omega))) ?_) q
    rw [Int.toNat_natCast]
    rfl
theorem ok_step_done (T : Tx K mg) : FnOk P w K mg base CX0 2 T.a_step_done T.d_step_done ["step", "samples", "sign"] (sp_step_done T) := by
  refine T.f_step_done.ok (k := 1) sc_step_done (fun vs H Q E h => ?_) (fun cdv A outer s H vs Q E hr h => ?_)
  · obtain ⟨v, F, st, a, row, sg, i, x, rfl, _⟩ := h
    rfl
  · obtain ⟨v, F, st, a, row, sg, i, x, rfl, hv, hok, ha, h4, hs, ⟨m, hm, hm8⟩, ho, q⟩ := h
    refine ⟨_,       (pss_cons (ps_set (i := 3) sc_step_done.nd rfl (by first | exact Or.inl rfl | exact Or.inr rfl) (pe_ix (r := rIxT K) ix_tup (pv 0) pe_int (fun _ _ => rfl))) 
      (pss_cons (ps_if (pt_cmpR op_eq (pe_ix (r := rIxT K) ix_tup (pv 0) pe_int (fun _ _ => rfl)) pe_str (nomark _)) 
        (pss_one (ps_ret (pe_tup (pa_cons (pv 3) (pa_cons (pe_un un_neg (pe_ix (r := rIxL K) ix_list (pv 1) (pv 3) (fun _ _ => rfl))) pa_nil))))) pss_nil) 
      (pss_one (ps_ret (pe_tup (pa_cons (pv 3) (pa_cons (pe_op op_add (pe_ix (r := rIxL K) ix_list (pv 1) (pv 3) (fun _ _ => rfl)) (pe_op op_mulW (pv 2) (pe_call (ok_lifted T) hr (by rfl) T.g_lifted T.f_lifted.kp T.b_lifted .nil pass0 (pa_cons (pv 0) (pa_cons (pv 1) pa_nil))))) pa_nil))))))), ?_⟩
    cases st with
    | lift to ws sh =>
      obtain ⟨o1, o2, o3, o4, o5⟩ := hok
      cases ho
      have hv0 := hv
      obtain ⟨t, u, rfl, h1, h2, h3⟩ := hv
      refine q_asg (ev_at (K := K) (j := 1) (ev_var rfl) h1 rfl) fun H1 e1 => ?_
      refine q_when (b := false) (et_is (et_test (ev_op (ev_at (K := K) (j := 0) (ev_var rfl) (e1 _ _ h1) rfl) ev_c (rv_eq rfl))) s_lt) (fun z => by cases z) (fun _ H2 e2 => ?_)
      have e12 := e1.trans e2
      have hd := dot_sm o5 hm h4
      have hq := abs_div (dot ws row) sh
      refine s_retU (eu_tup (ea_cons (ev_var rfl) (ea_cons (ev_op (ev_op (ev_var rfl) (ev_var rfl) (rv_ixL (K := K) (ha.ex e12).sq (atI_nat (at_row o1)))) (ev_op (ev_var rfl) (ev_call (ea_cons (ev_var rfl) (ea_cons (ev_var rfl) ea_nil)) (spv fun H3 e Q q E => ⟨_, F, _, ws, sh, a, row, rfl, hv0.ex (e12.trans e), ha.ex (e12.trans e), o2, h4, o5, ⟨m, hm, by omega⟩, q⟩)) (rv_I (wide_mul (a := 1) (b := m + 18) ?_ (Nat.lt_of_le_of_lt hq hd) (by decide) (by omega) (by omega)))) rv_I0) ea_nil)) (by show 2 ≤ 100000; decide)) fun p H3 hp e3 h3 => q.go e12 hp e3 h3
      rcases hs with rfl | rfl <;> decide
    | turn j =>
      cases ho
      obtain ⟨t, rfl, h1⟩ := hv
      refine q_asg (ev_at (K := K) (j := 1) (ev_var rfl) h1 rfl) fun H1 e1 => ?_
      refine q_when (b := true) (et_is (et_test (ev_op (ev_at (K := K) (j := 0) (ev_var rfl) (e1 _ _ h1) rfl) ev_c (rv_eq rfl))) s_tt) (fun _ H2 e2 => ?_) (fun z => by cases z)
      have e12 := e1.trans e2
      exact s_retU (eu_tup (ea_cons (ev_var rfl) (ea_cons (ev_un (ev_op (ev_var rfl) (ev_var rfl) (rv_ixL (K := K) (ha.ex e12).sq (atI_nat (at_row hok)))) ru_neg) ea_nil)) (by show 2 ≤ 100000; decide)) fun p H3 hp e3 h3 => q.go e12 hp e3 h3
    | swap c d => cases ho
theorem ok_run (T : Tx K mg) : FnOk P w K mg base CX0 3 T.a_run T.d_run ["steps", "samples", "sign", "depth"] (sp_run T) := by
  refine T.f_run.ok (k := 2) sc_run (fun vs H Q E h => ?_) (fun cdv A outer s H vs Q E hr h => ?_)
  · obtain ⟨a, F, sts, b, row, sg, rfl, _⟩ := h
    rfl
  · obtain ⟨a, F, sts, b, row, sg, rfl, hs, hok, hl, hb, h4, hsg, ⟨m, hm, hm7⟩, q⟩ := h
    refine ⟨_,       (pss_cons (ps_set (i := 1) sc_run.nd rfl (by first | exact Or.inl rfl | exact Or.inr rfl) (pe_callTy (T := "list") (r := rListS K) call_list_of (by rfl) T.m_list (by decide +kernel) (pa_cons (pv 1) pa_nil))) 
      (pss_cons (ps_for PassesOwn.never rfl (pi_list (pv 0)) (pg_name (i := 4) sc_run.nd rfl (by first | exact Or.inl rfl | exact Or.inr rfl)) 
        (pss_one (ps_if (pt_cmpR op_eq (pe_ix (r := rIxT K) ix_tup (pv 4) pe_int (fun _ _ => rfl)) pe_str (nomark _)) 
          (pss_one (ps_asg (pe_tup (pa_cons (pe_ix (r := rIxL K) ix_list (pv 1) (pe_ix (r := rIxT K) ix_tup (pv 4) pe_int (fun _ _ => rfl)) (fun _ _ => rfl)) (pa_cons (pe_ix (r := rIxL K) ix_list (pv 1) (pe_ix (r := rIxT K) ix_tup (pv 4) pe_int (fun _ _ => rfl)) (fun _ _ => rfl)) pa_nil))) (pg_tup rfl (pgs_cons (pg_sub (pv 1) (pe_ix (r := rIxT K) ix_tup (pv 4) pe_int (fun _ _ => rfl)) set_list) (pgs_cons (pg_sub (pv 1) (pe_ix (r := rIxT K) ix_tup (pv 4) pe_int (fun _ _ => rfl)) set_list) pgs_nil))))) 
          (pss_cons (ps_asg (pe_call (ok_step_done T) hr (by rfl) T.g_step_done T.f_step_done.kp T.b_step_done .nil pass0 (pa_cons (pv 4) (pa_cons (pv 1) (pa_cons (pv 2) pa_nil)))) (pg_tup rfl (pgs_cons (pg_name (i := 5) sc_run.nd rfl (by first | exact Or.inl rfl | exact Or.inr rfl)) (pgs_cons (pg_name (i := 6) sc_run.nd rfl (by first | exact Or.inl rfl | exact Or.inr rfl)) pgs_nil)))) 
          (pss_one (ps_asg (pe_ifExp (pt_cmpR op_isN (pv 3) pe_non (nomark _)) (pv 6) (pe_call (ok_wrapped T) (hr.mono (by decide)) (by rfl) T.g_wrapped T.f_wrapped.kp T.b_wrapped .nil pass0 (pa_cons (pv 6) (pa_cons (pv 3) pa_nil)))) (pg_sub (pv 1) (pv 5) set_list))))))) 
      (pss_one (ps_ret (pv 1))))), ?_⟩
    obtain ⟨_, vs, hvs, hss⟩ := hs
    refine q_asgL (el_list (K := K) (ev_var rfl) hb.sq) fun l H1 hl1 e1 k1 => ?_
    refine q_forLn (xs := vs) (K := K) (ev_var rfl) (sq_of (e1 _ _ hvs)) (fun i σ' H' => ∃ y4 y5 y6, σ' = [some (.ref a), some (.ref l), some (.int sg), some .non, y4, y5, y6] ∧ Ex H H' ∧ Li H' l (runs sg (sts.take i) row)) (fun H2 e2 => ⟨none, none, none, rfl, e1.trans e2, ?_⟩) (fun i σ' H' _ hP => ?_) (fun i x σ' H' hx hP => ?_) (fun σ' H' hP => ?_)
    · rw [List.take_zero]
      exact e2 _ _ k1
    · obtain ⟨_, _, _, _, e, _⟩ := hP
      exact sq_of (e _ _ hvs)
    · obtain ⟨y4, y5, y6, rfl, e, hL⟩ := hP
      obtain ⟨st, hst, hv⟩ := hss.get hx
      have hv := hv.ex e
      have ok1 := hok st (List.mem_of_getElem? hst)
      have len : (runs sg (sts.take i) row).length = row.length := runs_len _ _ _
      have hi := (List.getElem?_eq_some_iff.mp hst).1
      have sm := runs_sm (n := row.length) hsg (sts := sts.take i) (fun s h => hok s (List.mem_of_mem_take h)) hm h4
      rw [List.length_take] at sm
      generalize hr : runs sg (sts.take i) row = r at hL len sm
      have done : ∀ (y5 y6 : Option V) (H2 : Hp), Ex H H2 → Li H2 l (go sg st r) → ∃ y4 y5' y6', ([some (.ref a), some (.ref l), some (.int sg), some .non, some x, y5, y6] : L2.St) = [some (.ref a), some (.ref l), some (.int sg), some .non, y4, y5', y6'] ∧ Ex H H2 ∧ Li H2 l (runs sg (sts.take (i + 1)) row) := fun y5 y6 H2 e2 h2 => ⟨_, _, _, rfl, e2, by rw [runs_take hst, hr]; exact h2⟩
      cases st with
      | swap c d =>
        obtain ⟨o1, o2, o3⟩ := ok1
        obtain ⟨t, rfl, h1⟩ := hv
        refine s_if (b := true) (et_is (et_test (ev_op (ev_at (K := K) (j := 0) (ev_var rfl) h1 rfl) ev_c (rv_eq rfl))) s_ss) (fun _ H2 e2 => ?_) (fun z => by cases z)
        have h1 := e2 _ _ h1
        have hL := hL.ex e2
        refine eu_use (te := tTup _) (xs := [.int (r.getD d 0), .int (r.getD c 0)]) (eu_tup (ea_cons (ev_op (ev_var rfl) (ev_at (K := K) (j := 2) (ev_var rfl) h1 rfl) (rv_ixL (K := K) hL.sq (atI_nat (at_row (by omega))))) (ea_cons (ev_op (ev_var rfl) (ev_at (K := K) (j := 1) (ev_var rfl) h1 rfl) (rv_ixL (K := K) hL.sq (atI_nat (at_row (by omega))))) ea_nil)) (by show 2 ≤ 100000; decide)) fun u H3 hu e3 k3 => ?_
        have h1 := e3 _ _ h1
        have hL := hL.ex e3
        have e3' := (e.trans e2).trans e3
        have ntl : t ≠ l := fun z => by rw [z, hL] at h1; cases h1
        refine ⟨u, _, rfl, st_of k3, rfl, _, _, rfl, .ref l, rfl, .ref t, rfl, t, _, 1, _, rfl, rfl, st_of h1, rfl, l, _, (c : Int), c, rfl, rfl, hL, ixN_nat (by rw [List.length_map]; omega), ?_⟩
        refine ⟨_, _, rfl, .ref l, rfl, .ref t, rfl, t, _, 2, _, rfl, rfl, st_of (by rw [upd_ne ntl]; exact h1), rfl, l, _, (d : Int), d, rfl, rfl, upd_same, ixN_nat (by rw [List.length_set, List.length_map]; omega), ?_⟩
        refine ⟨rfl, done _ _ _ (Ex.mut (Ex.mut e3' hl1) hl1) ?_⟩
        show _ = _
        rw [upd_same, set_row, set_row]
        rfl
      | lift to ws sh =>
        have hv0 := hv
        obtain ⟨t, u, rfl, h1, h2, h3⟩ := hv
        refine s_if (b := false) (et_is (et_test (ev_op (ev_at (K := K) (j := 0) (ev_var rfl) h1 rfl) ev_c (rv_eq rfl))) s_ls) (fun z => by cases z) (fun _ H2 e2 => ?_)
        have hL := hL.ex e2
        refine eu_use (te := tCall (sp_step_done T) [] _ _) (xs := [.int (to : Int), .int (r.getD to 0 + sg * (dot ws r / 2 ^ sh))]) (eu_call (ea_cons (ev_var rfl) (ea_cons (ev_var rfl) (ea_cons (ev_var rfl) ea_nil))) fun H3 e' Q q E => ⟨_, F, .lift to ws sh, l, r, sg, to, _, rfl, (hv0.ex e2).ex e', by rw [len]; exact ok1, hL.ex e', by omega, hsg, ⟨_, sm, by omega⟩, rfl, q⟩) fun p H3 hp e3 k3 => ?_
        have hL := hL.ex e3
        refine ⟨p, _, rfl, st_of k3, rfl, _, _, rfl, _, _, rfl, rfl, ?_⟩
        refine s_setL (l := l) (j := to) hL (ev_if (b := true) (et_is (et_test (ev_op (ev_var rfl) ev_c rv_isN)) (by decide)) (fun _ => ev_var rfl) (fun z => by cases z)) (ev_var rfl) (ev_var rfl) (by rw [List.length_map, len]; exact ok1.1) fun H4 e4 => done _ _ _ (Ex.mut (((e.trans e2).trans e3).trans e4) hl1) ?_
        show _ = _
        rw [upd_same, set_row]
        rfl
      | turn j =>
        have hv0 := hv
        obtain ⟨t, rfl, h1⟩ := hv
        refine s_if (b := false) (et_is (et_test (ev_op (ev_at (K := K) (j := 0) (ev_var rfl) h1 rfl) ev_c (rv_eq rfl))) s_ts) (fun z => by cases z) (fun _ H2 e2 => ?_)
        have hL := hL.ex e2
        refine eu_use (te := tCall (sp_step_done T) [] _ _) (xs := [.int (j : Int), .int (-r.getD j 0)]) (eu_call (ea_cons (ev_var rfl) (ea_cons (ev_var rfl) (ea_cons (ev_var rfl) ea_nil))) fun H3 e' Q q E => ⟨_, F, .turn j, l, r, sg, j, _, rfl, (hv0.ex e2).ex e', by rw [len]; exact ok1, hL.ex e', by omega, hsg, ⟨_, sm, by omega⟩, rfl, q⟩) fun p H3 hp e3 k3 => ?_
        have hL := hL.ex e3
        refine ⟨p, _, rfl, st_of k3, rfl, _, _, rfl, _, _, rfl, rfl, ?_⟩
        refine s_setL (l := l) (j := j) hL (ev_if (b := true) (et_is (et_test (ev_op (ev_var rfl) ev_c rv_isN)) (by decide)) (fun _ => ev_var rfl) (fun z => by cases z)) (ev_var rfl) (ev_var rfl) (by rw [List.length_map, len]; exact ok1) fun H4 e4 => done _ _ _ (Ex.mut (((e.trans e2).trans e3).trans e4) hl1) ?_
        show _ = _
        rw [upd_same, set_row]
        rfl
    · obtain ⟨y4, y5, y6, rfl, e, hL⟩ := hP
      rw [hss.1, List.take_length] at hL
      exact ⟨.ref l, rfl, q l H' hl1 e hL⟩
end
end K30

set_option Elab.async false
set_option linter.all false
set_option maxRecDepth 100000
set_option maxHeartbeats 4000000
namespace K30
open PySem PySem.Spec PyProof.Rows L2 Evl WS M30
def cellV (ns : List Int) (k : Nat) : Int := if k < ns.length then ns.getD k 0 else (ns.take 1).sum.fmod 1000003
theorem fmod_in (a b : Int) (h : 0 < b) : 0 ≤ a.fmod b ∧ a.fmod b < b := by
  rw [Int.fmod_eq_emod_of_nonneg a (by omega)]
  exact ⟨Int.emod_nonneg a (by omega), Int.emod_lt_of_pos a h⟩
/-- a purse at g, of which so many numbers at most were drawn by counting -/
def Gs (H : Hp) (g : Addr) (C : Nat) : Prop := ∃ A B c : Int, H g = some (.lst [.int A, .int B, .int c]) ∧ 0 ≤ A ∧ (0 ≤ B ∧ B < 2147483648) ∧ 0 ≤ c ∧ c ≤ C
theorem Gs.ex {H H' : Hp} {g : Addr} {C : Nat} (h : Gs H g C) (e : Ex H H') : Gs H' g C := by
  obtain ⟨A, B, c, h1, h2⟩ := h
  exact ⟨A, B, c, e _ _ h1, h2⟩
theorem Gs.mono {H : Hp} {g : Addr} {C C' : Nat} (h : Gs H g C) (e : C ≤ C') : Gs H g C' := by
  obtain ⟨A, B, c, h1, h2, h3, h4, h5⟩ := h
  exact ⟨A, B, c, h1, h2, h3, h4, by omega⟩
theorem Gs.some {H : Hp} {g : Addr} {C : Nat} (h : Gs H g C) : ∃ o, H g = some o := by
  obtain ⟨A, B, c, h1, _⟩ := h
  exact ⟨_, h1⟩
theorem Gs.upd {H : Hp} {g D : Addr} {C : Nat} {o : HO} (h : Gs H g C) (n : g ≠ D) : Gs (upd H D o) g C := by
  obtain ⟨A, B, c, h1, h2⟩ := h
  exact ⟨A, B, c, by rw [upd_ne n]; exact h1, h2⟩
section
variable {K : PySem.W.Frag} {mg : Str → Option Value}
def sp__law_purse (T : Tx K mg) : Sp := fun vs H Q _ => ∃ a, ∃ ns : List Int, ∃ k : Nat, vs = [.ref a, .int (k : Int)] ∧ SqL K H a (ns.map V.int) ∧ ns.length ≤ 63 ∧ k ≤ 1000 ∧ ∀ p H2, H p = none → Ex H H2 → Gs H2 p (1000 * k) → Q (.ref p) H2
def sp__law_draw (T : Tx K mg) : Sp := fun vs H Q _ => ∃ g, ∃ n : Int, ∃ C : Nat, vs = [.ref g, .int n] ∧ Gs H g C ∧ C ≤ 1000000000 ∧ 1 ≤ n ∧ n ≤ 1000000000000 ∧
  ∀ z H2, 0 ≤ z → z < n → Gs H2 g (C + 1) → ExB g H H2 → Q (.int z) H2
def sp__law_number (T : Tx K mg) : Sp := fun vs H Q _ => ∃ g, ∃ C : Nat, vs = [.ref g] ∧ Gs H g C ∧ C ≤ 900000000 ∧ ∀ z H2, z.natAbs < 2 ^ 100 → Gs H2 g (C + 10) → ExB g H H2 → Q (.int z) H2
def sp__law_weight (T : Tx K mg) : Sp := fun vs H Q _ => ∃ g, ∃ C : Nat, vs = [.ref g] ∧ Gs H g C ∧ C ≤ 900000000 ∧ ∀ z H2, z.natAbs ≤ 32768 → Gs H2 g (C + 10) → ExB g H H2 → Q (.int z) H2
theorem draw_use {T : Tx K mg} {σ : L2.St} {H : Hp} {ta tb : TE} {g : Addr} {n : Int} {C : Nat} {E : XK} {Q : VK} (ha : Ev ta σ H (.ref g)) (hb : Ev tb σ H (.int n)) (hg : Gs H g C) (hC : C ≤ 1000000000) (h1 : 1 ≤ n) (h2 : n ≤ 1000000000000)
    (k : ∀ z H2, 0 ≤ z → z < n → Gs H2 g (C + 1) → ExB g H H2 → Q (.int z) H2) : tCall (sp__law_draw T) [] E (tCons ta (tCons tb tNil)) σ H Q :=
  ha H (Ex.refl H) _ fun H1 e1 => hb H1 e1 _ fun H2 e2 => ⟨g, n, C, rfl, hg.ex (e1.trans e2), hC, h1, h2, fun z H3 a b c d => k z H3 a b c ((ExB.of (e1.trans e2)).trans d)⟩
theorem steps_use {T : Tx K mg} {σ : L2.St} {H : Hp} {te : TE} {F : Addr → Prop} {p : Addr} {n : Nat} {sts : List Stp} {E : XK} {Q : VK} (he : Ev te σ H (.ref p)) (h : Mx T F H p n sts) (k : RetS sts H Q) : tMeth T.C_Mixer "steps" (sp_Mixer_steps T) [] E te tNil σ H Q := by
  obtain ⟨dx, d, h1, _⟩ := h.ob
  exact he H (Ex.refl H) _ fun H1 e1 => ⟨p, dx, _, rfl, e1 _ _ h1, mf_no _ _ (by decide +kernel) (by decide +kernel), p, F, n, sts, rfl, h.ex e1, fun D H' hD e hS => k D H' (fresh_back e1 hD) (e1.trans e) (hS.mono fun b o _ hn => fresh_back e1 hn)⟩
/-- [f() for .. in range(n)], f draws -/
theorem ints_use {σ : L2.St} {H : Hp} {ta : TA} {te : TE} {j : Nat} {ws : List Nat} {n : Nat} {g : Addr} {C d : Nat} {Q : VK} (P : Int → Prop) (h : EvA ta σ H [.int (n : Int)]) (hn : n ≤ 100) (hw : ∀ x, wipe ((wipe σ ws).set j (some x)) ws = wipe σ ws) (hg : Gs H g C)
    (step : ∀ (i : Nat) H' (R : VK), i < n → Gs H' g (C + d * i) → ExB g H H' → (∀ z H2, P z → Gs H2 g (C + d * i + d) → ExB g H' H2 → R (.int z) H2) → te ((wipe σ ws).set j (some (.int (i : Int)))) H' R)
    (k : ∀ D H' zs, H D = none → zs.length = n → (∀ z ∈ zs, P z) → Li H' D zs → Gs H' g (C + d * n) → ExB g H H' → Q (.ref D) H') : tLc (iRng1 ta) (gName j) tYes te ws σ H Q := by
  obtain ⟨og, hog⟩ := hg.some
  refine h H (Ex.refl H) _ fun H1 e1 => ⟨(n : Int), rfl, by omega, by omega, fun D hD => ?_⟩
  have hD0 := fresh_back e1 hD
  have gD : g ≠ D := fun z => by rw [z, hD0] at hog; cases hog
  rw [Int.toNat_natCast]
  refine lc_range (lo := 0) (n := n) (fun i H' => ∃ zs : List Int, zs.length = i ∧ (∀ z ∈ zs, P z) ∧ Li H' D zs ∧ Gs H' g (C + d * i) ∧ ExB g H H') ⟨[], rfl, fun z hz => absurd hz List.not_mem_nil, upd_same, (hg.ex e1).upd gD, fun b o hb hh => by rw [upd_ne (ne_of_none hh hD0)]; exact e1 _ _ hh⟩ (fun i H' hi p => ?_) (fun H' p => ?_)
  · obtain ⟨zs, hl, hz, hL, hG, hE⟩ := p
    rw [Int.zero_add]
    refine ⟨hw _, step i H' _ hi hG hE fun z H2 pz hG2 hE2 => ⟨zs.map V.int, hE2 D _ (Ne.symm gD) hL, sz_lt (by rw [List.length_map]; omega), zs ++ [z], by rw [List.length_append, hl]; rfl, fun y hy => ?_, ?_, ?_, ?_⟩⟩
    · rcases List.mem_append.mp hy with h | h
      · exact hz y h
      · rw [List.mem_singleton] at h
        rw [h]
        exact pz
    · show _ = _
      rw [upd_same, List.map_append]
      rfl
    · rw [Nat.mul_add, Nat.mul_one, ← Nat.add_assoc]
      exact hG2.upd gD
    · exact fun b o hb hh => by rw [upd_ne (ne_of_none hh hD0)]; exact (hE.trans hE2) b o hb hh
  · obtain ⟨zs, hl, hz, hL, hG, hE⟩ := p
    exact k D H' zs hD0 hl hz hL hG hE
end
section
variable {P : Program} {w : World} {K : PySem.W.Frag} {mg : Str → Option Value} {base : Heap}
theorem ok_mixed (T : Tx K mg) : FnOk P w K mg base CX0 4 T.a_mixed T.d_mixed ["mixer", "samples"] (sp_mixed T) := by
  refine T.f_mixed.ok (k := 3) sc_mixed (fun vs H Q E h => ?_) (fun cdv A outer s H vs Q E hr h => ?_)
  · obtain ⟨p, F, n, sts, a, row, rfl, _⟩ := h
    rfl
  · obtain ⟨p, F, n, sts, a, row, rfl, hm, ha, hl, ⟨m, hsm, hm6⟩, q⟩ := h
    have n4 := hm.n4
    have hlen := hm.len
    refine ⟨_,       (pss_cons (ps_expr (pe_call (ok_check_mixer T) (hr.mono (by decide)) (by rfl) T.g_check_mixer T.f_check_mixer.kp T.b_check_mixer .nil pass0 (pa_cons (pv 0) pa_nil))) 
      (pss_cons (ps_expr (pe_call (ok_check_moment T) hr (by rfl) T.g_check_moment T.f_check_moment.kp T.b_check_moment .nil pass0 (pa_cons (pv 0) (pa_cons (pv 1) pa_nil)))) 
      (pss_one (ps_ret (pe_call (ok_run T) hr (by rfl) T.g_run T.f_run.kp T.b_run .nil pass0 (pa_cons (pe_meth0 (pv 0) T.cl_Mixer T.me_Mixer_steps (ok_Mixer_steps T) (hr.mono (by decide)) T.b_Mixer_steps .nil pass0) (pa_cons (pv 1) (pa_cons pe_int (pa_cons pe_non pa_nil))))))))), ?_⟩
    refine q_drop (ev_call (ea_cons (ev_var rfl) ea_nil) (spv fun H1 e Q q E => ⟨p, F, n, sts, rfl, hm.ex e, q⟩)) fun H1 e1 => ?_
    refine q_drop (ev_call (ea_cons (ev_var rfl) (ea_cons (ev_var rfl) ea_nil)) (spv fun H2 e Q q E => ⟨p, F, n, sts, a, row, rfl, (hm.ex e1).ex e, (ha.ex e1).ex e, hl, q⟩)) fun H2 e2 => ?_
    have e12 := e1.trans e2
    refine r_in (tcall_in (ta_in (steps_use (ev_var rfl) (hm.ex e12) fun D H3 hD e3 hS => ?_)))
    refine ta_consV (ev_var rfl) fun H4 e4 => ta_consV ev_c fun H5 e5 => ta_consV ev_c fun H6 e6 => ?_
    have e36 := (e4.trans e5).trans e6
    have e16 := (e12.trans e3).trans e36
    exact ⟨D, _, sts, a, row, 1, rfl, hS.ex e36, by rw [hl]; exact hm.ok, hlen, ha.ex e16, by omega, .inl rfl, ⟨m, hsm, by omega⟩, fun x H7 hx e7 k7 => q x H7 (fresh_back e16 hx) (e16.trans e7) k7⟩
theorem ok_unmixed (T : Tx K mg) : FnOk P w K mg base CX0 4 T.a_unmixed T.d_unmixed ["mixer", "samples"] (sp_unmixed T) := by
  refine T.f_unmixed.ok (k := 3) sc_unmixed (fun vs H Q E h => ?_) (fun cdv A outer s H vs Q E hr h => ?_)
  · obtain ⟨p, F, n, sts, a, row, rfl, _⟩ := h
    rfl
  · obtain ⟨p, F, n, sts, a, row, rfl, hm, ha, hl, ⟨m, hsm, hm6⟩, q⟩ := h
    have n4 := hm.n4
    have hlen := hm.len
    refine ⟨_,       (pss_cons (ps_expr (pe_call (ok_check_mixer T) (hr.mono (by decide)) (by rfl) T.g_check_mixer T.f_check_mixer.kp T.b_check_mixer .nil pass0 (pa_cons (pv 0) pa_nil))) 
      (pss_cons (ps_expr (pe_call (ok_check_moment T) hr (by rfl) T.g_check_moment T.f_check_moment.kp T.b_check_moment .nil pass0 (pa_cons (pv 0) (pa_cons (pv 1) pa_nil)))) 
      (pss_one (ps_ret (pe_call (ok_run T) hr (by rfl) T.g_run T.f_run.kp T.b_run .nil pass0 (pa_cons (pe_revL (pe_meth0 (pv 0) T.cl_Mixer T.me_Mixer_steps (ok_Mixer_steps T) (hr.mono (by decide)) T.b_Mixer_steps .nil pass0)) (pa_cons (pv 1) (pa_cons (pe_un un_neg pe_int) (pa_cons pe_non pa_nil))))))))), ?_⟩
    refine q_drop (ev_call (ea_cons (ev_var rfl) ea_nil) (spv fun H1 e Q q E => ⟨p, F, n, sts, rfl, hm.ex e, q⟩)) fun H1 e1 => ?_
    refine q_drop (ev_call (ea_cons (ev_var rfl) (ea_cons (ev_var rfl) ea_nil)) (spv fun H2 e Q q E => ⟨p, F, n, sts, a, row, rfl, (hm.ex e1).ex e, (ha.ex e1).ex e, hl, q⟩)) fun H2 e2 => ?_
    have e12 := e1.trans e2
    refine r_in (tcall_in (ta_in (steps_use (ev_var rfl) (hm.ex e12) fun D H3 hD e3 hS => ?_)))
    obtain ⟨_, vs, hvs, hss⟩ := hS
    refine ⟨D, vs, rfl, sq_of hvs, fun r hr => ?_⟩
    have er : Ex H3 (upd H3 r (.lst vs.reverse)) := Ex.new hr
    refine ta_consV (ev_var rfl) fun H4 e4 => ta_consV (ev_un ev_c ru_neg) fun H5 e5 => ta_consV ev_c fun H6 e6 => ?_
    have e36 := (e4.trans e5).trans e6
    have e16 := ((e12.trans e3).trans er).trans e36
    refine ⟨r, fun _ => True, sts.reverse, a, row, -1, rfl, ⟨trivial, _, e36 _ _ upd_same, ((hss.mono fun _ _ _ _ => trivial).fr (Fr.of (er.trans e36))).rev⟩, by rw [hl]; exact fun st h => hm.ok st (List.mem_reverse.mp h), by rw [List.length_reverse]; exact hlen, ha.ex e16, by omega, .inr rfl, ⟨m, hsm, by rw [List.length_reverse]; omega⟩, fun x H7 hx e7 k7 => q x H7 (fresh_back e16 hx) (e16.trans e7) k7⟩
theorem ok__law_purse (T : Tx K mg) : FnOk P w K mg base CX0 1 T.a__law_purse T.d__law_purse ["_law_script", "_law_at"] (sp__law_purse T) := by
  refine T.f__law_purse.ok (k := 0) sc__law_purse (fun vs H Q E h => ?_) (fun cdv A outer s H vs Q E hr h => ?_)
  · obtain ⟨a, ns, k, rfl, _⟩ := h
    rfl
  · obtain ⟨a, ns, k, rfl, hs, hl, hk, q⟩ := h
    refine ⟨_,       (pss_cons (ps_set (i := 2) sc__law_purse.nd rfl (by first | exact Or.inl rfl | exact Or.inr rfl) (pe_callTy call_int1 (by rfl) T.m_int (by decide +kernel) (pa_cons (pe_ifExp (pt_cmpR op_lt (pv 1) (pe_callB (id := "len") (r := rLenS K) call_len_seq (by rfl) T.m_len PySem.boot_len (pa_cons (pv 0) pa_nil)) (nomark _)) (pe_ix (r := rIxL K) ix_list (pv 0) (pv 1) (fun _ _ => rfl)) (pe_op op_modN (pe_callB (id := "sum") (r := rSum K) (cr_sum rfl) (by rfl) T.m_sum (by decide +kernel) (pa_cons (pe_slice (r := rSlL K) sl_list (pv 0) po_none (po_some pe_int)) pa_nil)) pe_int)) pa_nil))) 
      (pss_one (ps_ret (pe_lst (pa_cons (pe_op op_mulW (pe_callTy call_int1 (by rfl) T.m_int (by decide +kernel) (pa_cons (pe_cmpR op_ge (pv 2) (pe_op op_powW pe_int pe_int) (nomark _)) pa_nil)) (pe_op op_modN (pv 2) (pe_op op_powW (pe_op op_powW pe_int pe_int) pe_int))) (pa_cons (pe_op op_modN (pv 2) pe_int) (pa_cons (pe_op op_mulW pe_int (pv 1)) pa_nil))))))), ?_⟩
    have hcut : cutV (ns.map V.int) none (some 1) = (ns.take 1).map V.int := by
      unfold cutV
      rw [HT.sIx_none, show HT.sIx (ns.map V.int).length (ns.map V.int).length (some 1) = min 1 (ns.map V.int).length from HT.sIx_nat _ _ 1]
      cases ns with
      | nil => rfl
      | cons x r => simp
    refine q_asg (v := .int (cellV ns k)) (ev_int (ev_if (b := decide ((k : Int) < ((ns.map V.int).length : Int))) (et_test (ev_op (ev_var rfl) (ev_len (K := K) (ev_var rfl) hs) rv_I0)) (fun z => ?_) (fun z => ?_))) fun H1 e1 => ?_
    · have hz : (k : Int) < ((ns.map V.int).length : Int) := of_decide_eq_true z
      rw [List.length_map] at hz
      have hk : k < ns.length := by omega
      refine ev_op (ev_var rfl) (ev_var rfl) (rv_ixL (K := K) (v := .int (cellV ns k)) hs (atI_nat ?_))
      rw [List.getElem?_map, List.getElem?_eq_getElem hk]
      unfold cellV
      rw [if_pos hk, List.getD_eq_getElem?_getD, List.getElem?_eq_getElem hk] <;> rfl
    · have hz : ¬ (k : Int) < ((ns.map V.int).length : Int) := of_decide_eq_false z
      rw [List.length_map] at hz
      have hk : ¬ k < ns.length := by omega
      refine ev_is (ev_op (ev_sumN (K := K) (ns := ns.take 1) ?_) ev_c (rv_I (by decide))) ?_
      · have k1 := el_sl (σ := start ["_law_script", "_law_at"] [V.ref a, V.int (k : Int)]) (K := K) (te := tVar 0) (ev_var rfl) eo_none (eo_some (te := tC (.int 1)) ev_c) hs
        rw [hcut] at k1
        exact k1
      · unfold cellV
        rw [if_neg hk]
    generalize cellV ns k = seed
    have hbig := fmod_in seed ((10 ^ (60 : Int).toNat : Int) ^ (10 : Int).toNat) (by decide +kernel)
    have hmul : ∀ b : Bool, CMulW (if b then 1 else 0) (seed.fmod ((10 ^ (60 : Int).toNat : Int) ^ (10 : Int).toNat)) := fun b => by
      refine wide_mul (a := 1) (b := 2000) (by cases b <;> decide) ?_ (by decide) (by decide) (by decide)
      have e : ((10 ^ (60 : Int).toNat : Int) ^ (10 : Int).toNat) ≤ 2 ^ 2000 := by decide +kernel
      have h2 : ((2 ^ 2000 : Nat) : Int) = (2 : Int) ^ 2000 := by decide +kernel
      generalize (10 ^ (60 : Int).toNat : Int) ^ (10 : Int).toNat = M at hbig e ⊢
      generalize seed.fmod M = y at hbig ⊢
      rw [← h2] at e
      omega
    refine s_retL (el_lst (ea_cons (ev_op (ev_intB (ev_op (ev_var rfl) (ev_op ev_c ev_c (rv_I ⟨by decide, by decide +kernel⟩)) rv_I0)) (ev_op (ev_var rfl) (ev_op (ev_op ev_c ev_c (rv_I ⟨by decide, by decide +kernel⟩)) ev_c (rv_I ⟨by decide, by decide +kernel⟩)) (rv_I (by decide +kernel))) (rv_I (hmul _))) (ea_cons (ev_op (ev_var rfl) ev_c (rv_I (by decide))) (ea_cons (ev_op ev_c (ev_var rfl) (rv_I (wide_mul (a := 10) (b := 40) (by decide) (by omega) (by decide) (by decide) (by decide)))) ea_nil))) (by show 3 ≤ 100000; decide)) fun p H2 hp e2 h2 => ?_
    refine q p H2 (fresh_back e1 hp) (e1.trans e2) ⟨_, _, _, h2, ?_, ?_, ?_, ?_⟩
    · exact Int.mul_nonneg (by split <;> decide) hbig.1
    · have := fmod_in seed 2147483629 (by decide)
      omega
    · omega
    · omega
theorem ok__law_draw (T : Tx K mg) : FnOk P w K mg base CX0 1 T.a__law_draw T.d__law_draw ["_law_purse_here", "_law_many"] (sp__law_draw T) := by
  refine T.f__law_draw.ok (k := 0) sc__law_draw (fun vs H Q E h => ?_) (fun cdv A outer s H vs Q E hr h => ?_)
  · obtain ⟨g, n, C, rfl, _⟩ := h
    rfl
  · obtain ⟨g, n, C, rfl, hg, hC, hn1, hn2, q⟩ := h
    obtain ⟨A0, B, c, hg, hA, hB, hc0, hc1⟩ := hg
    refine ⟨_,       (pss_cons (ps_if (pt_cmpR op_gt (pe_ix (r := rIxL K) ix_list (pv 0) pe_int (fun _ _ => rfl)) pe_int (nomark _)) 
        (pss_cons (ps_set (i := 2) sc__law_draw.nd rfl (by first | exact Or.inl rfl | exact Or.inr rfl) (pe_op op_modN (pe_ix (r := rIxL K) ix_list (pv 0) pe_int (fun _ _ => rfl)) (pv 1))) 
        (pss_cons (ps_asg (pe_op op_fdivW (pe_ix (r := rIxL K) ix_list (pv 0) pe_int (fun _ _ => rfl)) (pv 1)) (pg_sub (pv 0) pe_int set_list)) 
        (pss_one (ps_ret (pv 2))))) pss_nil) 
      (pss_cons (ps_asg (pe_op op_add (pe_ix (r := rIxL K) ix_list (pv 0) pe_int (fun _ _ => rfl)) pe_int) (pg_sub (pv 0) pe_int set_list)) 
      (pss_cons (ps_set (i := 3) sc__law_draw.nd rfl (by first | exact Or.inl rfl | exact Or.inr rfl) (pe_op op_modN (pe_op op_add (pe_op op_add (pe_op op_mulW (pe_ix (r := rIxL K) ix_list (pv 0) pe_int (fun _ _ => rfl)) pe_int) (pe_op op_mulW (pe_ix (r := rIxL K) ix_list (pv 0) pe_int (fun _ _ => rfl)) pe_int)) pe_int) pe_int)) 
      (pss_cons (ps_set (i := 3) sc__law_draw.nd rfl (by first | exact Or.inl rfl | exact Or.inr rfl) (pe_op op_modN (pe_op op_add (pe_op op_mulW (pv 3) (pv 3)) (pe_ix (r := rIxL K) ix_list (pv 0) pe_int (fun _ _ => rfl))) pe_int)) 
      (pss_cons (ps_set (i := 3) sc__law_draw.nd rfl (by first | exact Or.inl rfl | exact Or.inr rfl) (pe_op op_modN (pe_op op_add (pe_op op_mulW (pv 3) (pv 3)) pe_int) pe_int)) 
      (pss_one (ps_ret (pe_op op_modN (pe_op op_fdiv (pv 3) pe_int) (pv 1))))))))), ?_⟩
    refine q_when (b := decide (0 < A0)) (et_test (ev_op (ev_op (ev_var rfl) ev_c (rv_ixL (K := K) (sq_of hg) (atI_nat (j := 0) rfl))) ev_c rv_I0)) (fun z H1 e1 => ?_) (fun z H1 e1 => ?_)
    · have g1 := e1 _ _ hg
      refine q_asg (ev_op (ev_op (ev_var rfl) ev_c (rv_ixL (K := K) (sq_of g1) (atI_nat (j := 0) rfl))) (ev_var rfl) (rv_I (show n ≠ 0 by omega))) fun H2 e2 => ?_
      have g2 := e2 _ _ g1
      refine q_setL (j := 0) (v := .int (A0 / n)) g2 (ev_op (ev_op (ev_var rfl) ev_c (rv_ixL (K := K) (sq_of g2) (atI_nat (j := 0) rfl))) (ev_var rfl) (rv_I (wide_div (b := 64) (by omega) (by omega) (by decide) (by decide)))) (ev_var rfl) ev_c (by show 0 < 3; decide) fun H3 e3 => ?_
      have hm := fmod_in A0 n (by omega)
      refine s_ret (ev_var rfl) fun H4 e4 => q _ H4 hm.1 hm.2 ⟨A0 / n, B, c, e4 _ _ upd_same, Int.ediv_nonneg hA (by omega), hB, hc0, by omega⟩ ?_
      exact ((ExB.of ((e1.trans e2).trans e3)).upd).trans (ExB.of e4)
    · have g1 := e1 _ _ hg
      refine q_setL (j := 2) (v := .int (c + 1)) g1 (ev_op (ev_op (ev_var rfl) ev_c (rv_ixL (K := K) (sq_of g1) (atI_nat (j := 2) rfl))) ev_c rv_I0) (ev_var rfl) ev_c (by show 2 < 3; decide) fun H3 e3 => ?_
      have g3 : (upd H3 g (.lst [.int A0, .int B, .int (c + 1)])) g = some (.lst [.int A0, .int B, .int (c + 1)]) := upd_same
      have k1 := fmod_in (B * 48271 + (c + 1) * 1299709 + 907) 2147483629 (by decide)
      refine q_asg (ev_op (ev_op (ev_op (ev_op (ev_op (ev_var rfl) ev_c (rv_ixL (K := K) (sq_of g3) (atI_nat (j := 1) rfl))) ev_c (rv_I (wide_mul (a := 31) (b := 16) (by omega) (by decide) (by decide) (by decide) (by decide)))) (ev_op (ev_op (ev_var rfl) ev_c (rv_ixL (K := K) (sq_of g3) (atI_nat (j := 2) rfl))) ev_c (rv_I (wide_mul (a := 40) (b := 21) (by omega) (by decide) (by decide) (by decide) (by decide)))) rv_I0) ev_c rv_I0) ev_c (rv_I (by decide))) fun H4 e4 => ?_
      generalize (B * 48271 + (c + 1) * 1299709 + 907).fmod 2147483629 = x1 at k1 ⊢
      have g4 := e4 _ _ g3
      have k2 := fmod_in (x1 * x1 + (c + 1)) 2147483587 (by decide)
      refine q_asg (ev_op (ev_op (ev_op (ev_var rfl) (ev_var rfl) (rv_I (wide_mul (a := 31) (b := 31) (by omega) (by omega) (by decide) (by decide) (by decide)))) (ev_op (ev_var rfl) ev_c (rv_ixL (K := K) (sq_of g4) (atI_nat (j := 2) rfl))) rv_I0) ev_c (rv_I (by decide))) fun H5 e5 => ?_
      generalize (x1 * x1 + (c + 1)).fmod 2147483587 = x2 at k2 ⊢
      have g5 := e5 _ _ g4
      refine q_asg (ev_op (ev_op (ev_op (ev_var rfl) (ev_var rfl) (rv_I (wide_mul (a := 31) (b := 31) (by omega) (by omega) (by decide) (by decide) (by decide)))) ev_c rv_I0) ev_c (rv_I (by decide))) fun H6 e6 => ?_
      generalize (x2 * x2 + 69621).fmod 2147483563 = x3
      have hm := fmod_in (x3 / 64) n (by omega)
      refine s_ret (ev_op (ev_op (ev_var rfl) ev_c (rv_I ⟨by decide, by decide⟩)) (ev_var rfl) (rv_I (show n ≠ 0 by omega))) fun H7 e7 => q _ H7 hm.1 hm.2 ⟨A0, B, _, e7 _ _ (e6 _ _ g5), hA, hB, by omega, by omega⟩ ?_
      exact ((ExB.of (e1.trans e3)).upd).trans (ExB.of (((e4.trans e5).trans e6).trans e7))
end
end K30

set_option Elab.async false
set_option linter.all false
set_option maxRecDepth 100000
set_option maxHeartbeats 4000000
namespace K30
open PySem PySem.Spec PyProof.Rows L2 Evl WS M30
theorem p6 : (10 : Int) ^ (6 : Int).toNat = 1000000 := by decide
theorem p9 : (10 : Int) ^ (9 : Int).toNat = 1000000000 := by decide
theorem p29 : (10 : Int) ^ (29 : Int).toNat = 100000000000000000000000000000 := by decide +kernel
theorem q100 : (2 : Nat) ^ 100 = 1267650600228229401496703205376 := by decide +kernel
theorem s_in {te : TE} {i : Nat} {D : Ends} {σ : L2.St} {H : Hp} (k : te σ H fun x H1 => D.nx (σ.set i (some x)) H1) : tAsg te (gName i) D σ H := k
section
variable {K : PySem.W.Frag} {mg : Str → Option Value}
def sp__law_lift (T : Tx K mg) : Sp := fun vs H Q _ => ∃ g, ∃ n most C : Nat, vs = [.ref g, .int (n : Int), .int (most : Int)] ∧ Gs H g C ∧ C ≤ 800000000 ∧ 1 ≤ n ∧ n ≤ 4 ∧ most ≤ 3 ∧
  ∀ (t u : Addr) (to : Nat) (ws : List Int) (sh : Nat) (H2 : Hp), H2 t = some (.tup [.str "lift", .int (to : Int), .ref u, .int (sh : Int)]) → Li H2 u ws → H u = none → Ok n (.lift to ws sh) → sh ≤ most → Gs H2 g (C + 100) → ExB g H H2 → Q (.ref t) H2
def sp__law_steps (T : Tx K mg) : Sp := fun vs H Q _ => ∃ g, ∃ n C : Nat, vs = [.ref g, .int (n : Int), .int 8, .int 15] ∧ Gs H g C ∧ C ≤ 700000000 ∧ 1 ≤ n ∧ n ≤ 4 ∧
  ∀ D sts H2, H D = none → Sts (fun b => H b = none) H2 D sts → (∀ st ∈ sts, Ok n st) → sts.length ≤ 8 → Gs H2 g (C + 2000) → ExB g H H2 → Q (.ref D) H2
end
section
variable {P : Program} {w : World} {K : PySem.W.Frag} {mg : Str → Option Value} {base : Heap}
theorem ok__law_number (T : Tx K mg) : FnOk P w K mg base CX0 2 T.a__law_number T.d__law_number ["_law_purse_here"] (sp__law_number T) := by
  refine T.f__law_number.ok (k := 1) sc__law_number (fun vs H Q E h => ?_) (fun cdv A outer s H vs Q E hr h => ?_)
  · obtain ⟨g, C, rfl, _⟩ := h
    rfl
  · obtain ⟨g, C, rfl, hg, hC, q⟩ := h
    refine ⟨_,       (pss_cons (ps_set (i := 1) sc__law_number.nd rfl (by first | exact Or.inl rfl | exact Or.inr rfl) (pe_ix (r := rIxL K) ix_list (pe_lst (pa_cons pe_int (pa_cons pe_int (pa_cons pe_int (pa_cons pe_int (pa_cons (pe_op op_powW pe_int pe_int) (pa_cons (pe_op op_powW pe_int pe_int) pa_nil))))))) (pe_call (ok__law_draw T) hr (by rfl) T.g__law_draw T.f__law_draw.kp T.b__law_draw .nil pass0 (pa_cons (pv 0) (pa_cons pe_int pa_nil))) (fun _ _ => rfl))) 
      (pss_cons (ps_if (pt_cmpR op_lt (pv 1) (pe_op op_powW pe_int pe_int) (nomark _)) 
        (pss_one (ps_ret (pe_op op_sub (pe_call (ok__law_draw T) hr (by rfl) T.g__law_draw T.f__law_draw.kp T.b__law_draw .nil pass0 (pa_cons (pv 0) (pa_cons (pe_op op_add (pe_op op_mulW pe_int (pv 1)) pe_int) pa_nil))) (pv 1)))) pss_nil) 
      (pss_cons (ps_set (i := 2) sc__law_number.nd rfl (by first | exact Or.inl rfl | exact Or.inr rfl) pe_int) 
      (pss_cons (ps_for PassesOwn.never rfl (pi_range1 rfl T.m_range (pa_cons pe_int pa_nil)) (pg_name (i := 3) sc__law_number.nd rfl (by first | exact Or.inl rfl | exact Or.inr rfl)) 
        (pss_one (ps_set (i := 2) sc__law_number.nd rfl (by first | exact Or.inl rfl | exact Or.inr rfl) (pe_op op_add (pe_op op_mulW (pv 2) (pe_op op_powW pe_int pe_int)) (pe_call (ok__law_draw T) hr (by rfl) T.g__law_draw T.f__law_draw.kp T.b__law_draw .nil pass0 (pa_cons (pv 0) (pa_cons (pe_op op_powW pe_int pe_int) pa_nil))))))) 
      (pss_one (ps_ret (pe_op op_sub (pe_op op_modN (pv 2) (pe_op op_add (pe_op op_mulW pe_int (pv 1)) pe_int)) (pv 1)))))))), ?_⟩
    obtain ⟨og, hog⟩ := hg.some
    have pw : ∀ {σ : L2.St} {H : Hp} {k : Int}, 0 ≤ k → k ≤ 1000 → Ev (tOp (rI CPowW fun i j => .int (i ^ j.toNat)) (tC (.int 10)) (tC (.int k))) σ H (.int ((10 : Int) ^ k.toNat)) := fun h0 h1 => ev_op ev_c ev_c (rv_I ⟨h0, by
      have : Builtin.Int.intBits 10 ≤ 4 := PyProof.Rows.intBits_le (k := 4) (by decide)
      have e27 : (2 : Int) ^ 27 = 134217728 := by decide
      rw [e27]
      have h4 : (Builtin.Int.intBits 10 : Int) ≤ 4 := by omega
      have : (Builtin.Int.intBits 10 : Int) * _ ≤ 4 * _ := Int.mul_le_mul_of_nonneg_right h4 h0
      omega⟩)
    refine q_in (top_in (el_use (xs := [.int 4, .int 4, .int 20, .int 1000, .int ((10 : Int) ^ (9 : Int).toNat), .int ((10 : Int) ^ (29 : Int).toNat)]) (el_lst (ea_cons ev_c (ea_cons ev_c (ea_cons ev_c (ea_cons ev_c (ea_cons (pw (by decide) (by decide)) (ea_cons (pw (by decide) (by decide)) ea_nil)))))) (by show 6 ≤ 100000; decide)) fun p H1 hp e1 k1 => draw_use (n := 6) (ev_var rfl) ev_c (hg.ex e1) (by omega) (by decide) (by decide) fun z H2 z0 z1 hg2 E2 => ?_))
    have npg : p ≠ g := fun z => by rw [z, hog] at hp; cases hp
    obtain ⟨x, hx, hx'⟩ : ∃ x : Int, atI [V.int 4, V.int 4, V.int 20, V.int 1000, V.int ((10 : Int) ^ (9 : Int).toNat), V.int ((10 : Int) ^ (29 : Int).toNat)] z = some (.int x) ∧ ((4 ≤ x ∧ x ≤ 1000) ∨ (1000000000 ≤ x ∧ x ≤ 100000000000000000000000000000)) := by
      rw [p9, p29]
      have hz : z = 0 ∨ z = 1 ∨ z = 2 ∨ z = 3 ∨ z = 4 ∨ z = 5 := by omega
      rcases hz with rfl | rfl | rfl | rfl | rfl | rfl
      · exact ⟨_, rfl, .inl ⟨by decide, by decide⟩⟩
      · exact ⟨_, rfl, .inl ⟨by decide, by decide⟩⟩
      · exact ⟨_, rfl, .inl ⟨by decide, by decide⟩⟩
      · exact ⟨_, rfl, .inl ⟨by decide, by decide⟩⟩
      · exact ⟨_, rfl, .inr ⟨by decide, by decide⟩⟩
      · exact ⟨_, rfl, .inr ⟨by decide, by decide⟩⟩
    refine ⟨p, _, z, .int x, rfl, rfl, sq_of (E2 p _ npg k1), hx, ?_⟩
    have E02 : ExB g H H2 := (ExB.of e1).trans E2
    have hmul : CMulW 2 x := wide_mul (a := 2) (b := 100) (by decide) (by rw [q100]; omega) (by decide) (by decide) (by decide)
    refine q_when (b := decide (x < (10 : Int) ^ (6 : Int).toNat)) (et_test (ev_op (ev_var rfl) (pw (by decide) (by decide)) rv_I0)) (fun hlt H3 e3 => ?_) (fun hlt H3 e3 => ?_)
    · have hlt := of_decide_eq_true hlt
      rw [p6] at hlt
      refine r_in (top_in (draw_use (n := 2 * x + 1) (ev_var rfl) (ev_op (ev_op ev_c (ev_var rfl) (rv_I hmul)) ev_c rv_I0) (hg2.ex e3) (by omega) (by omega) (by omega) fun y H4 y0 y1 hg4 E4 => ?_))
      exact ⟨.int x, rfl, y, x, rfl, rfl, q _ _ (by rw [q100]; omega) (hg4.mono (by omega)) ((E02.trans (ExB.of e3)).trans E4)⟩
    · have hlt := of_decide_eq_false hlt
      rw [p6] at hlt
      refine q_asg ev_c fun H4 e4 => ?_
      refine q_forR1 (n := 5) (ea_cons ev_c ea_nil) (by decide) (fun i σ' H' => ∃ (num : Int) (y3 : Option V), σ' = [some (.ref g), some (.int x), some (.int num), y3] ∧ ExB g H H' ∧ 0 ≤ num ∧ num < ((2 ^ (20 * i) : Nat) : Int) ∧ i ≤ 5 ∧ Gs H' g (C + 1 + i)) (fun H5 e5 => ⟨0, none, rfl, E02.trans (ExB.of ((e3.trans e4).trans e5)), by decide, by decide, by decide, hg2.ex ((e3.trans e4).trans e5)⟩) (fun i σ' H' hi hP => ?_) (fun σ' H' hP => ?_)
      · obtain ⟨num, y3, rfl, hE, n0, n1, hi5, hG⟩ := hP
        have hb : num.natAbs < 2 ^ 100 := Nat.lt_of_lt_of_le (show num.natAbs < 2 ^ (20 * i) by omega) (Nat.pow_le_pow_right (by decide) (by omega))
        refine s_in (top_in (ev_use (ev_op (ev_var rfl) (pw (by decide) (by decide)) (rv_I (wide_mul (a := 100) (b := 20) hb (by rw [p6]; decide) (by decide) (by decide) (by decide)))) fun H5 e5 => draw_use (n := (10 : Int) ^ (6 : Int).toNat) (ev_var rfl) (pw (by decide) (by decide)) (hG.ex e5) (by omega) (by rw [p6]; decide) (by rw [p6]; decide) fun y H6 y0 y1 hg6 E6 => ⟨_, _, rfl, rfl, ?_⟩))
        rw [p6] at y1
        have e20 : 2 ^ (20 * (i + 1)) = 2 ^ (20 * i) * 1048576 := by rw [Nat.mul_add, Nat.pow_add]
        refine ⟨_, _, rfl, (hE.trans (ExB.of e5)).trans E6, ?_, ?_, by omega, hg6.mono (by omega)⟩
        · rw [p6]
          omega
        · rw [p6, e20]
          omega
      · obtain ⟨num, y3, rfl, hE, n0, n1, hi5, hG⟩ := hP
        have hm := fmod_in num (2 * x + 1) (by omega)
        refine s_ret (ev_op (ev_op (ev_var rfl) (ev_op (ev_op ev_c (ev_var rfl) (rv_I hmul)) ev_c rv_I0) (rv_I (show 2 * x + 1 ≠ 0 by omega))) (ev_var rfl) rv_I0) fun H5 e5 => q _ H5 (by rw [q100]; omega) ((hG.ex e5).mono (by show C + 1 + 5 ≤ C + 10; omega)) (hE.trans (ExB.of e5))
theorem ok__law_weight (T : Tx K mg) : FnOk P w K mg base CX0 2 T.a__law_weight T.d__law_weight ["_law_purse_here"] (sp__law_weight T) := by
  refine T.f__law_weight.ok (k := 1) sc__law_weight (fun vs H Q E h => ?_) (fun cdv A outer s H vs Q E hr h => ?_)
  · obtain ⟨g, C, rfl, _⟩ := h
    rfl
  · obtain ⟨g, C, rfl, hg, hC, q⟩ := h
    refine ⟨_,       (pss_cons (ps_set (i := 1) sc__law_weight.nd rfl (by first | exact Or.inl rfl | exact Or.inr rfl) (pe_lst (pa_cons pe_int (pa_cons pe_int (pa_cons (pe_un un_neg pe_int) (pa_cons pe_int (pa_cons pe_int (pa_cons (pe_un un_neg pe_int) (pa_cons pe_int (pa_cons (pe_op op_sub (pe_call (ok__law_draw T) hr (by rfl) T.g__law_draw T.f__law_draw.kp T.b__law_draw .nil pass0 (pa_cons (pv 0) (pa_cons pe_int pa_nil))) pe_int) pa_nil)))))))))) 
      (pss_one (ps_ret (pe_ix (r := rIxL K) ix_list (pe_op op_cat (pv 1) (pe_lst (pa_cons (pe_op op_sub (pe_call (ok__law_draw T) hr (by rfl) T.g__law_draw T.f__law_draw.kp T.b__law_draw .nil pass0 (pa_cons (pv 0) (pa_cons pe_int pa_nil))) pe_int) pa_nil))) (pe_call (ok__law_draw T) hr (by rfl) T.g__law_draw T.f__law_draw.kp T.b__law_draw .nil pass0 (pa_cons (pv 0) (pa_cons pe_int pa_nil))) (fun _ _ => rfl))))), ?_⟩
    obtain ⟨og, hog⟩ := hg.some
    refine q_in (tl_lst (ta_consV ev_c fun H1 e1 => ta_consV ev_c fun H2 e2 => ta_consV (ev_un ev_c ru_neg) fun H3 e3 => ta_consV ev_c fun H4 e4 => ta_consV ev_c fun H5 e5 => ta_consV (ev_un ev_c ru_neg) fun H6 e6 => ta_consV ev_c fun H7 e7 => ?_))
    have e17 := (((((e1.trans e2).trans e3).trans e4).trans e5).trans e6).trans e7
    refine ta_in (top_in (draw_use (n := 21) (ev_var rfl) ev_c (hg.ex e17) (by omega) (by decide) (by decide) fun a H8 a0 a1 hg8 E8 => ⟨_, _, rfl, rfl, by show 8 ≤ sizeLine; decide, fun l hl => ?_⟩))
    have hg8g := hg8.some
    obtain ⟨og8, hog8⟩ := hg8g
    have lg : l ≠ g := fun z => by rw [z, hog8] at hl; cases hl
    have E08 : ExB g H H8 := (ExB.of e17).trans E8
    have eN := Ex.new (o := .lst [V.int 0, V.int 1, V.int (-1), V.int 1, V.int 2, V.int (-2), V.int 3, V.int (a - 10)]) hl
    refine r_in (top_in (top_in ?_))
    refine ⟨.ref l, rfl, tl_lst (ta_in (top_in (draw_use (n := 65537) (ev_var rfl) ev_c (hg8.ex eN) (by omega) (by decide) (by decide) fun b H9 b0 b1 hg9 E9 => ⟨_, _, rfl, rfl, by show 1 ≤ sizeLine; decide, fun r hr => ?_⟩)))⟩
    have kl : H9 l = some (.lst [V.int 0, V.int 1, V.int (-1), V.int 1, V.int 2, V.int (-2), V.int 3, V.int (a - 10)]) := E9 l _ lg upd_same
    have eR := Ex.new (o := .lst [V.int (b - 32768)]) hr
    refine ⟨l, r, _, _, rfl, rfl, eR _ _ kl, upd_same, by show 8 + 1 ≤ sizeLine; decide, fun s hs => ?_⟩
    have eS := Ex.new (o := .lst ([V.int 0, V.int 1, V.int (-1), V.int 1, V.int 2, V.int (-2), V.int 3, V.int (a - 10)] ++ [V.int (b - 32768)])) hs
    obtain ⟨og9, hog9⟩ := hg9.some
    have sg : s ≠ g := fun z => by rw [z, eR _ _ hog9] at hs; cases hs
    refine draw_use (n := 9) (ev_var rfl) ev_c ((hg9.ex eR).ex eS) (by omega) (by decide) (by decide) fun z H10 z0 z1 hg10 E10 => ?_
    have ks := E10 s _ sg upd_same
    obtain ⟨x, hx, hx1⟩ : ∃ x : Int, atI ([V.int 0, V.int 1, V.int (-1), V.int 1, V.int 2, V.int (-2), V.int 3, V.int (a - 10)] ++ [V.int (b - 32768)]) z = some (.int x) ∧ x.natAbs ≤ 32768 := by
      have hz : z = 0 ∨ z = 1 ∨ z = 2 ∨ z = 3 ∨ z = 4 ∨ z = 5 ∨ z = 6 ∨ z = 7 ∨ z = 8 := by omega
      rcases hz with rfl | rfl | rfl | rfl | rfl | rfl | rfl | rfl | rfl
      all_goals exact ⟨_, rfl, by omega⟩
    exact ⟨s, _, z, .int x, rfl, rfl, sq_of ks, hx, q x H10 hx1 (hg10.mono (by omega)) ((((E08.trans (ExB.of eN)).trans E9).trans (ExB.of (eR.trans eS))).trans E10)⟩
theorem ok__law_lift (T : Tx K mg) : FnOk P w K mg base CX0 3 T.a__law_lift T.d__law_lift ["_law_purse_here", "_law_broad", "_law_most"] (sp__law_lift T) := by
  refine T.f__law_lift.ok (k := 2) sc__law_lift (fun vs H Q E h => ?_) (fun cdv A outer s H vs Q E hr h => ?_)
  · obtain ⟨g, n, most, C, rfl, _⟩ := h
    rfl
  · obtain ⟨g, n, most, C, rfl, hg, hC, h1, h4, hm, q⟩ := h
    refine ⟨_,       (pss_cons (ps_par (i := 3) (j := 4) (by rfl) sc__law_lift.nd rfl rfl (by decide) rfl rfl (pa_cons (pe_call (ok__law_draw T) (hr.mono (by decide)) (by rfl) T.g__law_draw T.f__law_draw.kp T.b__law_draw .nil pass0 (pa_cons (pv 0) (pa_cons (pv 1) pa_nil))) (pa_cons (pe_call (ok__law_draw T) (hr.mono (by decide)) (by rfl) T.g__law_draw T.f__law_draw.kp T.b__law_draw .nil pass0 (pa_cons (pv 0) (pa_cons (pe_op op_add (pv 2) pe_int) pa_nil))) pa_nil)) (by rfl)) 
      (pss_cons (ps_setLc (i := 5) (own := [("_law_way", 6)]) (g := gName 6) (tt := tYes) rfl sc__law_lift.nd rfl rfl (sw_true rfl rfl rfl (by decide +kernel)) (pi_range1 rfl T.m_range (pa_cons (pv 1) pa_nil)) (blkOk_by (own := [("_law_way", 6)]) (N := ["_law_purse_here", "_law_broad", "_law_most", "_law_to", "_law_shift", "_law_weights", "_law_way"]) (sc := defScope s__law_lift) (by decide +kernel)) (fun _ _ _ _ _ => (pg_name (i := 6) sc__law_lift.nd rfl (by first | exact Or.inl rfl | exact Or.inr rfl))) (fun _ _ _ _ _ => pts_nil) (fun _ _ _ _ _ => (pe_call (ok__law_weight T) hr (by rfl) T.g__law_weight T.f__law_weight.kp T.b__law_weight .nil pass0 (pa_cons (pv 0) pa_nil)))) 
      (pss_cons (ps_asg pe_int (pg_sub (pv 5) (pv 3) set_list)) 
      (pss_one (ps_ret (pe_tup (pa_cons pe_str (pa_cons (pv 3) (pa_cons (pv 5) (pa_cons (pv 4) pa_nil)))))))))), ?_⟩
    refine q_par (ta_in (draw_use (n := (n : Int)) (ev_var rfl) (ev_var rfl) hg (by omega) (by omega) (by omega) fun to H1 t0 t1 hg1 E1 => ta_in (draw_use (n := (most : Int) + 1) (ev_var rfl) (ev_op (ev_var rfl) ev_c rv_I0) hg1 (by omega) (by omega) (by omega) fun sh H2 s0 s1 hg2 E2 => ⟨_, _, rfl, ?_⟩)))
    obtain ⟨to, rfl⟩ : ∃ t : Nat, to = (t : Int) := ⟨to.toNat, by omega⟩
    obtain ⟨sh, rfl⟩ : ∃ t : Nat, sh = (t : Int) := ⟨sh.toNat, by omega⟩
    refine q_in (ints_use (fun z => z.natAbs ≤ 32768) (n := n) (d := 10) (ea_cons (ev_var rfl) ea_nil) (by omega) (fun _ => rfl) hg2 (fun i H' R hi hG hE k => ⟨.ref g, rfl, g, _, rfl, hG, by omega, k⟩) fun D H3 zs hD hl hz hL hG hE => ?_)
    obtain ⟨og2, hog2⟩ := hg2.some
    have Dg : D ≠ g := fun z => by rw [z, hog2] at hD; cases hD
    have hD0 : H D = none := by
      cases hb : H D with
      | none => rfl
      | some u => rw [(E1.trans E2) D _ Dg hb] at hD; cases hD
    refine q_setL (l := D) (j := to) (v := .int 0) hL ev_c (ev_var rfl) (ev_var rfl) (by rw [List.length_map, hl]; omega) fun H4 e4 => ?_
    have k4 : Li (upd H4 D (.lst ((zs.map V.int).set to (.int 0)))) D (zs.set to 0) := by
      show _ = _
      rw [upd_same, set_row]
    refine r_in (eu_use (eu_tup (ea_cons ev_c (ea_cons (ev_var rfl) (ea_cons (ev_var rfl) (ea_cons (ev_var rfl) ea_nil)))) (by show 4 ≤ 100000; decide)) fun u H5 hu e5 k5 => ?_)
    refine q u D to (zs.set to 0) sh H5 k5 (k4.ex e5) hD0 ⟨by omega, by rw [List.length_set, hl], getD_set_self (by omega) _, by omega, fun y hy => ?_⟩ (by omega) ?_ ?_
    · rcases List.mem_or_eq_of_mem_set hy with h | h
      · exact hz y h
      · rw [h]; decide
    · exact (((hG.ex e4).upd (Ne.symm Dg)).ex e5).mono (by omega)
    · intro b o hb hh
      have hbD : b ≠ D := ne_of_none hh hD0
      refine e5 _ _ ?_
      rw [upd_ne hbD]
      exact e4 _ _ (((E1.trans E2).trans hE) b o hb hh)
end
end K30

set_option Elab.async false
set_option linter.all false
set_option maxRecDepth 100000
set_option maxHeartbeats 4000000
namespace K30
open PySem PySem.Spec PyProof.Rows L2 Evl WS M30
theorem swap_at {n a d : Int} (h : 2 ≤ n) (h4 : n ≤ 4) (a0 : 0 ≤ a) (a1 : a < n) (d0 : 0 ≤ d) (d1 : d < n - 1) : 0 ≤ (a + 1 + d).fmod n ∧ (a + 1 + d).fmod n < n ∧ (a + 1 + d).fmod n ≠ a := by
  rw [Int.fmod_eq_emod_of_nonneg _ (by omega)]
  have : n = 2 ∨ n = 3 ∨ n = 4 := by omega
  rcases this with rfl | rfl | rfl <;> omega
/-- what the turns of the drawn steps keep -/
def StI (H : Hp) (g l : Addr) (n C : Nat) (i : Nat) (σ' : L2.St) (H' : Hp) : Prop := ∃ (sts : List Stp) (vs : List V) (left : Int) (y6 y7 y8 : Option V), σ' = [some (.ref g), some (.int (n : Int)), some (.int 8), some (.int 15), some (.ref l), some (.int left), y6, y7, y8] ∧
  ExB g H H' ∧ H' l = some (.lst vs) ∧ Ss (fun b => H b = none ∧ b ≠ l) H' vs sts ∧ (∀ st ∈ sts, Ok n st) ∧ sts.length = i ∧ 0 ≤ left ∧ Gs H' g (C + 1 + 200 * i)
theorem StI.fin {H : Hp} {g l : Addr} {n C i : Nat} {sts : List Stp} {vs : List V} {left : Int} {y6 y7 y8 : Option V} {H5 H6 : Hp} {v : V} {st : Stp} (hl : H l = none) (lg : l ≠ g) (hE : ExB g H H5) (k : H5 l = some (.lst vs)) (hss : Ss (fun b => H b = none ∧ b ≠ l) H5 vs sts) (hv : StV (fun b => H b = none ∧ b ≠ l) H5 v st)
    (ok : ∀ st ∈ sts, Ok n st) (ok1 : Ok n st) (hi : sts.length = i) (h0 : 0 ≤ left) (hG : Gs H5 g (C + 1 + 200 * i + 200)) (e : Ex H5 H6) :
    StI H g l n C (i + 1) [some (.ref g), some (.int (n : Int)), some (.int 8), some (.int 15), some (.ref l), some (.int left), y6, y7, y8] (upd H6 l (.lst (vs ++ [v]))) := by
  refine ⟨sts ++ [st], vs ++ [v], left, y6, y7, y8, rfl, fun b o hb hh => ?_, upd_same, ?_, fun s hs => ?_, by simp [hi], h0, ?_⟩
  · rw [upd_ne (ne_of_none hh hl)]
    exact e _ _ (hE b o hb hh)
  · refine ((hss.snoc hv).fr (Fr.of e)).fr fun b o hb hlst => ?_
    by_cases z : b = l
    · subst z
      rw [e _ _ k] at hb
      exact absurd rfl (hlst ⟨vs, (Option.some.inj hb).symm⟩).2
    · rw [upd_ne z]
      exact hb
  · rcases List.mem_append.mp hs with h | h
    · exact ok s h
    · rw [List.mem_singleton] at h
      rw [h]
      exact ok1
  · rw [Nat.mul_add, Nat.mul_one, ← Nat.add_assoc]
    exact (hG.ex e).upd (Ne.symm lg)
section
variable {P : Program} {w : World} {K : PySem.W.Frag} {mg : Str → Option Value} {base : Heap}
theorem ok__law_steps (T : Tx K mg) : FnOk P w K mg base CX0 4 T.a__law_steps T.d__law_steps ["_law_purse_here", "_law_broad", "_law_many", "_law_bits"] (sp__law_steps T) := by
  refine T.f__law_steps.ok (k := 3) sc__law_steps (fun vs H Q E h => ?_) (fun cdv A outer s H vs Q E hr h => ?_)
  · obtain ⟨g, n, C, rfl, _⟩ := h
    rfl
  · obtain ⟨g, n, C, rfl, hg, hC, h1, h4, q⟩ := h
    refine ⟨_,       (pss_cons (ps_par (i := 4) (j := 5) (by rfl) sc__law_steps.nd rfl rfl (by decide) rfl rfl (pa_cons (pe_lst pa_nil) (pa_cons (pv 3) pa_nil)) (by rfl)) 
      (pss_cons (ps_for PassesOwn.never rfl (pi_range1 rfl T.m_range (pa_cons (pe_call (ok__law_draw T) (hr.mono (by decide)) (by rfl) T.g__law_draw T.f__law_draw.kp T.b__law_draw .nil pass0 (pa_cons (pv 0) (pa_cons (pe_op op_add (pv 2) pe_int) pa_nil))) pa_nil)) (pg_name (i := 6) sc__law_steps.nd rfl (by first | exact Or.inl rfl | exact Or.inr rfl)) 
        (pss_cons (ps_par (i := 7) (j := 8) (by rfl) sc__law_steps.nd rfl rfl (by decide) rfl rfl (pa_cons (pe_call (ok__law_draw T) (hr.mono (by decide)) (by rfl) T.g__law_draw T.f__law_draw.kp T.b__law_draw .nil pass0 (pa_cons (pv 0) (pa_cons pe_int pa_nil))) (pa_cons (pe_tup (pa_cons pe_str (pa_cons (pe_call (ok__law_draw T) (hr.mono (by decide)) (by rfl) T.g__law_draw T.f__law_draw.kp T.b__law_draw .nil pass0 (pa_cons (pv 0) (pa_cons (pv 1) pa_nil))) pa_nil))) pa_nil)) (by rfl)) 
        (pss_cons (ps_if (PW.pt (pw_and (pt_cmpR op_eq (pv 7) pe_int (nomark _)) (pw_and1 (pt_cmpR op_gt (pv 1) pe_int (nomark _))))) 
          (pss_one (ps_set (i := 8) sc__law_steps.nd rfl (by first | exact Or.inl rfl | exact Or.inr rfl) (pe_tup (pa_cons pe_str (pa_cons (pe_ix (r := rIxT K) ix_tup (pv 8) pe_int (fun _ _ => rfl)) (pa_cons (pe_op op_modN (pe_op op_add (pe_op op_add (pe_ix (r := rIxT K) ix_tup (pv 8) pe_int (fun _ _ => rfl)) pe_int) (pe_call (ok__law_draw T) (hr.mono (by decide)) (by rfl) T.g__law_draw T.f__law_draw.kp T.b__law_draw .nil pass0 (pa_cons (pv 0) (pa_cons (pe_op op_sub (pv 1) pe_int) pa_nil)))) (pv 1)) pa_nil)))))) pss_nil) 
        (pss_cons (ps_if (pt_cmpR op_gt (pv 7) pe_int (nomark _)) 
          (pss_cons (ps_set (i := 8) sc__law_steps.nd rfl (by first | exact Or.inl rfl | exact Or.inr rfl) (pe_call (ok__law_lift T) hr (by rfl) T.g__law_lift T.f__law_lift.kp T.b__law_lift .nil pass0 (pa_cons (pv 0) (pa_cons (pv 1) (pa_cons (pe_callB (id := "min") (call_min2 rfl) (by rfl) T.m_min (by decide +kernel) (pa_cons (pv 5) (pa_cons pe_int pa_nil))) pa_nil))))) 
          (pss_one (ps_set (i := 5) sc__law_steps.nd rfl (by first | exact Or.inl rfl | exact Or.inr rfl) (pe_op op_sub (pv 5) (pe_ix (r := rIxT K) ix_tup (pv 8) pe_int (fun _ _ => rfl)))))) pss_nil) 
        (pss_one (ps_expr (pe_bm PySem.F.plainAttrs_list PySem.F.slot_list_append PySem.F.type_list_append mt_append (pv 4) (pa_cons (pv 8) pa_nil)))))))) 
      (pss_one (ps_ret (pv 4))))), ?_⟩
    obtain ⟨og, hog⟩ := hg.some
    refine q_par (ta_consL (xs := []) (el_lst ea_nil (by decide)) fun l H1 hl e1 k1 => ta_consV (ev_var rfl) fun H2 e2 => ⟨_, _, rfl, ?_⟩)
    have lg : l ≠ g := fun z => by rw [z, hog] at hl; cases hl
    have e12 := e1.trans e2
    refine ⟨.ref g, rfl, .int 8, rfl, 8, 1, rfl, rfl, g, 9, C, rfl, hg.ex e12, by omega, by decide, by decide, fun turns H3 t0 t1 hg3 hE3 => ?_⟩
    refine ⟨turns, rfl, by omega, by omega, for_range (lo := 0) (n := turns.toNat) (StI H g l n C) ⟨[], [], 15, none, none, none, rfl, (ExB.of e12).trans hE3, hE3 l _ lg (e2 _ _ k1), ⟨rfl, fun i v st hv => by simp at hv⟩, fun s hs => absurd hs List.not_mem_nil, rfl, by decide, hg3⟩ (fun i σ' H' hi hP => ?_) (fun σ' H' hP => ?_)⟩
    · obtain ⟨sts, vs, left, y6, y7, y8, rfl, hE, kl, hss, ok, hlen, h0, hG⟩ := hP
      have hi8 : i < 8 := by omega
      refine q_par (ta_in (draw_use (n := 6) (ev_var rfl) ev_c hG (by omega) (by decide) (by decide) fun way H4 w0 w1 hg4 E4 => ta_in (tup_in (ta_consV ev_c fun H5 e5 => ta_in (draw_use (n := (n : Int)) (ev_var rfl) (ev_var rfl) (hg4.ex e5) (by omega) (by omega) (by omega) fun at_ H6 a0 a1 hg6 E6 => ⟨by show 2 ≤ sizeLine; decide, fun t ht => ⟨_, _, rfl, ?_⟩⟩)))))
      obtain ⟨at_, rfl⟩ : ∃ t : Nat, at_ = (t : Int) := ⟨at_.toNat, by omega⟩
      have eT := Ex.new (o := .tup [V.str (Str.ofString "turn"), V.int (at_ : Int)]) ht
      have kt : (upd H6 t (.tup [V.str (Str.ofString "turn"), V.int (at_ : Int)])) t = some (.tup [V.str (Str.ofString "turn"), V.int (at_ : Int)]) := upd_same
      have hg7 := hg6.ex eT
      have E47 : ExB g H' _ := ((E4.trans (ExB.of e5)).trans E6).trans (ExB.of eT)
      generalize upd H6 t (.tup [V.str (Str.ofString "turn"), V.int (at_ : Int)]) = H7 at kt hg7 E47 ⊢
      have frE : ∀ {Ha Hb : Hp}, ExB g Ha Hb → (∃ o, H g = some o) → Fr (fun b => H b = none ∧ b ≠ l) Ha Hb ∨ True := fun _ _ => .inr trivial
      have ssE : ∀ {Hb : Hp}, ExB g H' Hb → Ss (fun b => H b = none ∧ b ≠ l) Hb vs sts := fun {Hb} E => by
        obtain ⟨A, B, c, hgl, _⟩ := hG
        refine hss.fr fun b o hb hlst => ?_
        by_cases z : b = g
        · subst z
          rw [hgl] at hb
          exact absurd ((hlst ⟨_, (Option.some.inj hb).symm⟩).1) (by rw [hog]; intro z; cases z)
        · exact E b o z hb
      have kl7 : H7 l = some (.lst vs) := E47 l _ lg kl
      have hE7 := hE.trans E47
      by_cases hw2 : 1 < way
      · -- a lift
        refine q_when (b := false) (et_and (a := false) (b := false) (et_is (et_test (ev_op (ev_var rfl) ev_c (rv_eq rfl))) (decide_eq_false (fun z => by have := V.int.inj z; omega))) fun z => by cases z) (fun z => by cases z) (fun _ H8 e8 => ?_)
        refine q_when (b := true) (et_is (et_test (ev_op (ev_var rfl) ev_c rv_I0)) (decide_eq_true hw2)) (fun _ H9 e9 => ?_) (fun z => by cases z)
        obtain ⟨most, hmost, hm3⟩ : ∃ most : Nat, (if (3 : Int) < left then 3 else left) = (most : Int) ∧ most ≤ 3 := ⟨(if (3 : Int) < left then 3 else left).toNat, by split <;> omega, by split <;> omega⟩
        have hA : EvA (tCons (tVar 0) (tCons (tVar 1) (tCons (tCB (fun xs H Q => ∃ i j, xs = [.int i, .int j] ∧ Q (.int (if j < i then j else i)) H) (tCons (tVar 5) (tCons (tC (.int 3)) tNil))) tNil))) ([some (.ref g), some (.int (n : Int)), some (.int 8), some (.int 15), some (.ref l), some (.int left), some (.int (0 + (i : Int))), some (.int way), some (.ref t)] : L2.St) H9 [.ref g, .int (n : Int), .int (most : Int)] := by
          rw [← hmost]
          exact ea_cons (ev_var rfl) (ea_cons (ev_var rfl) (ea_cons (ev_min2 (ev_var rfl) ev_c) ea_nil))
        refine q_in (hA H9 (Ex.refl H9) _ fun H10 e10 => ⟨g, n, most, _, rfl, ((hg7.ex e8).ex e9).ex e10, by omega, h1, h4, hm3, fun t2 u to ws sh H11 k11 kU uN ok1 hsh hg11 E11 => ?_⟩)
        have e710 := (e8.trans e9).trans e10
        have uN' : H u = none := by
          cases hb : H u with
          | none => rfl
          | some o =>
            by_cases z : u = g
            · obtain ⟨o2, ho2⟩ := (hg7.ex e710).some
              rw [z, ho2] at uN; cases uN
            · rw [e710 _ _ (hE7 u o z hb)] at uN; cases uN
        have ul : u ≠ l := fun z => by rw [z, e710 _ _ kl7] at uN; cases uN
        refine s_asg (ev_op (ev_var rfl) (ev_at (K := K) (j := 3) (ev_var rfl) k11 rfl) rv_I0) fun H12 e12' => ?_
        have E712 : ExB g H7 H12 := ((ExB.of e710).trans E11).trans (ExB.of e12')
        refine s_app (l := l) (xs := vs) (E712 l _ lg kl7) (ev_var rfl) (ev_var rfl) (by have := hss.1; omega) fun H13 e13 => ?_
        refine StI.fin (st := .lift to ws sh) hl lg (hE7.trans E712) (E712 l _ lg kl7) (ssE (E47.trans E712)) ⟨t2, u, rfl, e12' _ _ k11, kU.ex e12', uN', ul⟩ ok ok1 hlen ?_ ((hg11.ex e12').mono (by omega)) e13
        have : (if (3 : Int) < left then 3 else left) ≤ left := by split <;> omega
        omega
      · by_cases hsw : way = 1 ∧ 1 < n
        · -- a swap
          obtain ⟨rfl, hn1⟩ := hsw
          refine q_when (b := true) (et_and (a := true) (et_is (et_test (ev_op (ev_var rfl) ev_c (rv_eq rfl))) (decide_eq_true rfl)) fun _ => et_is (et_test (ev_op (ev_var rfl) ev_c rv_I0)) (decide_eq_true (show (n : Int) > 1 by omega))) (fun _ H8 e8 => ?_) (fun z => by cases z)
          refine s_in (tup_in (ta_consV ev_c fun H9 e9 => ta_consV (ev_at (K := K) (j := 1) (ev_var rfl) (e9 _ _ (e8 _ _ kt)) rfl) fun H10 e10 => ta_in (top_in (top_in (ev_use (ev_op (ev_at (K := K) (j := 1) (ev_var rfl) (e10 _ _ (e9 _ _ (e8 _ _ kt))) rfl) ev_c rv_I0) fun H11 e11 => draw_use (n := (n : Int) - 1) (ev_var rfl) (ev_op (ev_var rfl) ev_c rv_I0) (((hg7.ex e8).ex e9).ex (e10.trans e11)) (by omega) (by omega) (by omega) fun d H12 d0 d1 hg12 E12 => ⟨_, _, rfl, rfl, .int (n : Int), rfl, _, _, rfl, rfl, show (n : Int) ≠ 0 by omega, ?_⟩)))))
          have hs := swap_at (n := (n : Int)) (a := (at_ : Int)) (d := d) (by omega) (by omega) (by omega) (by omega) d0 d1
          obtain ⟨c, hc⟩ : ∃ c : Nat, ((at_ : Int) + 1 + d).fmod (n : Int) = (c : Int) := ⟨(((at_ : Int) + 1 + d).fmod (n : Int)).toNat, by omega⟩
          dsimp only
          rw [hc] at hs ⊢
          refine ⟨by show 3 ≤ sizeLine; decide, fun t2 ht2 => ?_⟩
          have e2' := Ex.new (o := .tup [V.str (Str.ofString "swap"), V.int (at_ : Int), V.int (c : Int)]) ht2
          have kt2 : (upd H12 t2 (.tup [V.str (Str.ofString "swap"), V.int (at_ : Int), V.int (c : Int)])) t2 = some (.tup [V.str (Str.ofString "swap"), V.int (at_ : Int), V.int (c : Int)]) := upd_same
          have hg13 := hg12.ex e2'
          have E713 : ExB g H7 _ := ((ExB.of (((e8.trans e9).trans e10).trans e11)).trans E12).trans (ExB.of e2')
          generalize upd H12 t2 (.tup [V.str (Str.ofString "swap"), V.int (at_ : Int), V.int (c : Int)]) = H13 at kt2 hg13 E713 ⊢
          refine q_when (b := false) (et_is (et_test (ev_op (ev_var rfl) ev_c rv_I0)) (by decide)) (fun z => by cases z) (fun _ H14 e14 => ?_)
          have E714 := E713.trans (ExB.of e14)
          refine s_app (l := l) (xs := vs) (E714 l _ lg kl7) (ev_var rfl) (ev_var rfl) (by have := hss.1; omega) fun H15 e15 => ?_
          exact StI.fin (st := .swap at_ c) hl lg (hE7.trans E714) (E714 l _ lg kl7) (ssE (E47.trans E714)) ⟨t2, rfl, e14 _ _ kt2⟩ ok ⟨by omega, by omega, by omega⟩ hlen h0 ((hg13.ex e14).mono (by omega)) e15
        · -- a turn
          have tst : EvT (tAnd (tB (tOp rEq (tVar 7) (tC (.int 1)))) (tB (tOp (rI0 fun i j => .bl (decide (i > j))) (tVar 1) (tC (.int 1))))) ([some (.ref g), some (.int (n : Int)), some (.int 8), some (.int 15), some (.ref l), some (.int left), some (.int (0 + (i : Int))), some (.int way), some (.ref t)] : L2.St) H7 false := by
            by_cases hw1 : way = 1
            · exact et_and (a := true) (et_is (et_test (ev_op (ev_var rfl) ev_c (rv_eq rfl))) (decide_eq_true (by rw [hw1]))) fun _ => et_is (et_test (ev_op (ev_var rfl) ev_c rv_I0)) (decide_eq_false (by omega))
            · exact et_and (a := false) (b := false) (et_is (et_test (ev_op (ev_var rfl) ev_c (rv_eq rfl))) (decide_eq_false (fun z => hw1 (V.int.inj z)))) fun z => by cases z
          refine q_when (b := false) tst (fun z => by cases z) (fun _ H8 e8 => ?_)
          refine q_when (b := false) (et_is (et_test (ev_op (ev_var rfl) ev_c rv_I0)) (decide_eq_false hw2)) (fun z => by cases z) (fun _ H9 e9 => ?_)
          have e79 := e8.trans e9
          have E79 := ExB.of (g := g) e79
          refine s_app (l := l) (xs := vs) (e79 _ _ kl7) (ev_var rfl) (ev_var rfl) (by have := hss.1; omega) fun H15 e15 => ?_
          exact StI.fin (st := .turn at_) hl lg (hE7.trans E79) (e79 _ _ kl7) (ssE (E47.trans E79)) ⟨t, rfl, e79 _ _ kt⟩ ok (show at_ < n by omega) hlen h0 ((hg7.ex e79).mono (by omega)) e15
    · obtain ⟨sts, vs, left, y6, y7, y8, rfl, hE, kl, hss, ok, hlen, h0, hG⟩ := hP
      exact ⟨.ref l, rfl, q l sts H' hl ⟨hl, vs, kl, hss.mono fun _ _ _ h => h.1⟩ ok (by omega) (hG.mono (by omega)) hE⟩
end
end K30

set_option Elab.async false
set_option linter.all false
set_option maxRecDepth 100000
set_option maxHeartbeats 4000000
namespace K30
open PySem PySem.Spec PyProof.Rows L2 Evl WS M30
theorem dot_range {ws r : List Int} (h : ws.length = r.length) : ((List.range r.length).map fun i => ws.getD i 0 * r.getD i 0) = List.zipWith (fun w x => w * x) ws r := by
  apply List.ext_getElem?
  intro i
  rw [List.getElem?_map, List.getElem?_zipWith]
  by_cases hi : i < r.length
  · have hw : i < ws.length := by omega
    simp [hi, hw]
  · rw [List.getElem?_eq_none (by rw [List.length_range]; omega), List.getElem?_eq_none (by omega)]
    rfl
section
variable {K : PySem.W.Frag} {mg : Str → Option Value}
def sp__law_copied (T : Tx K mg) : Sp := fun vs H Q _ => ∃ a F sts, vs = [.ref a] ∧ Sts F H a sts ∧ sts.length ≤ 1000 ∧ RetS sts H Q
def sp__law_stepped (T : Tx K mg) : Sp := fun vs H Q _ => ∃ v F st a row sg, vs = [v, .ref a, .int sg] ∧ StV F H v st ∧ Ok row.length st ∧ Li H a row ∧ row.length ≤ 4 ∧ (sg = 1 ∨ sg = -1) ∧ (∃ m, Sm m row ∧ m ≤ 800000) ∧ RetL ((go sg st row).map V.int) H Q
def sp__law_played (T : Tx K mg) : Sp := fun vs H Q _ => ∃ a F sts b row, vs = [.ref a, .ref b] ∧ Sts F H a sts ∧ (∀ st ∈ sts, Ok row.length st) ∧ sts.length ≤ 1000 ∧ Li H b row ∧ row.length ≤ 4 ∧ (∃ m, Sm m row ∧ m ≤ 600000) ∧ RetL ((runs 1 sts row).map V.int) H Q
def sp__law_led_back (T : Tx K mg) : Sp := fun vs H Q _ => ∃ a F sts b row, vs = [.ref a, .ref b] ∧ Sts F H a sts ∧ (∀ st ∈ sts, Ok row.length st) ∧ sts.length ≤ 1000 ∧ Li H b row ∧ row.length ≤ 4 ∧ (∃ m, Sm m row ∧ m ≤ 600000) ∧ RetL ((runs (-1) sts.reverse row).map V.int) H Q
def sp__law_whole (T : Tx K mg) : Sp := fun vs H Q _ => ∃ i, vs = [.int i] ∧ RetV (.bl true) H Q
def sp__law_numbers_right (T : Tx K mg) : Sp := fun vs H Q _ => ∃ a row, vs = [.ref a, .int (row.length : Int)] ∧ Li H a row ∧ row.length ≤ 1000 ∧ RetV (.bl true) H Q
/-- a comprehension that copies steps -/
theorem copy_use {σ : L2.St} {H : Hp} {tl te : TE} {a : Addr} {F : Addr → Prop} {sts : List Stp} {j : Nat} {ws : List Nat} {Q : VK} (h : Ev tl σ H (.ref a)) (hs : Sts F H a sts) (hz : sts.length ≤ 10000) (hw : ∀ x, wipe ((wipe σ ws).set j (some x)) ws = wipe σ ws)
    (hte : ∀ (H' : Hp) (x : V) (st : Stp) (R : VK), StV F H' x st → (∀ v' H2, Ex H' H2 → StV (fun b => H' b = none) H2 v' st → R v' H2) → te ((wipe σ ws).set j (some x)) H' R) (k : RetS sts H Q) : tLc (iList K tl) (gName j) tYes te ws σ H Q := by
  obtain ⟨_, vs, h1, h2⟩ := hs
  refine h H (Ex.refl H) _ fun H1 e1 => ⟨a, rfl, ⟨vs, sq_of (e1 _ _ h1)⟩, fun D hD => ?_⟩
  have hD0 : H D = none := fresh_back e1 hD
  refine lc_list (xs := vs) (fun i H' => Ex H H' ∧ ∃ acc, H' D = some (.lst acc) ∧ Ss (fun b => H b = none ∧ b ≠ D) H' acc (sts.take i)) ⟨e1.trans (Ex.new hD), [], upd_same, by simp, fun i v st hv => by simp at hv⟩ (fun i H' _ p => sq_of (p.1 _ _ h1)) (fun i x H' hi p => ?_) (fun H' p => ?_)
  · obtain ⟨e, acc, ha, hss⟩ := p
    obtain ⟨st, hst, hv⟩ := h2.get hi
    have hlt := (List.getElem?_eq_some_iff.mp hst).1
    refine ⟨hw x, hte H' x st _ (hv.ex e) fun v' H2 e2 hv' => ⟨acc, e2 _ _ ha, sz_lt (by have := hss.1; rw [List.length_take] at this; omega), Ex.mut (e.trans e2) hD0, acc ++ [v'], upd_same, ?_⟩⟩
    have fr : Fr (fun b => H b = none ∧ b ≠ D) H2 (upd H2 D (.lst (acc ++ [v']))) := fun b o hb hl => by
      by_cases n : b = D
      · subst n
        rw [e2 _ _ ha] at hb
        exact absurd rfl (hl ⟨acc, (Option.some.inj hb).symm⟩).2
      · rw [upd_ne n]
        exact hb
    rw [List.take_add_one, hst]
    exact ((hss.fr (Fr.of e2)).snoc (hv'.mono fun b o hb hn => ⟨fresh_back e hn, fun z => by rw [z, ha] at hn; cases hn⟩)).fr fr
  · obtain ⟨e, acc, ha, hss⟩ := p
    rw [h2.1, List.take_length] at hss
    exact k D H' hD0 e ⟨hD0, acc, ha, hss.mono fun b o hb hn => hn.1⟩
end
section
variable {P : Program} {w : World} {K : PySem.W.Frag} {mg : Str → Option Value} {base : Heap}
theorem ok__law_copied (T : Tx K mg) : FnOk P w K mg base CX0 1 T.a__law_copied T.d__law_copied ["_law_steps_here"] (sp__law_copied T) := by
  refine T.f__law_copied.ok (k := 0) sc__law_copied (fun vs H Q E h => ?_) (fun cdv A outer s H vs Q E hr h => ?_)
  · obtain ⟨a, F, sts, rfl, _⟩ := h
    rfl
  · obtain ⟨a, F, sts, rfl, hs, hl, q⟩ := h
    refine ⟨_,       (pss_one (ps_ret (pe_lc (own := [("_law_step", 1)]) (g := gName 1) (tt := tYes) rfl sc__law_copied.nd (pi_list (pv 0)) (blkOk_by (own := [("_law_step", 1)]) (N := ["_law_steps_here", "_law_step"]) (sc := defScope s__law_copied) (by decide +kernel)) (fun _ _ _ _ _ => (pg_name (i := 1) sc__law_copied.nd rfl (by first | exact Or.inl rfl | exact Or.inr rfl))) (fun _ _ _ _ _ => pts_nil) (fun _ _ _ _ _ => (pe_ifExp (pt_cmpR op_eq (pe_ix (r := rIxT K) ix_tup (pv 1) pe_int (fun _ _ => rfl)) pe_str (nomark _)) (pe_tup (pa_cons (pe_ix (r := rIxT K) ix_tup (pv 1) pe_int (fun _ _ => rfl)) (pa_cons (pe_ix (r := rIxT K) ix_tup (pv 1) pe_int (fun _ _ => rfl)) (pa_cons (pe_callTy (T := "list") (r := rListS K) call_list_of (by rfl) T.m_list (by decide +kernel) (pa_cons (pe_ix (r := rIxT K) ix_tup (pv 1) pe_int (fun _ _ => rfl)) pa_nil)) (pa_cons (pe_ix (r := rIxT K) ix_tup (pv 1) pe_int (fun _ _ => rfl)) pa_nil))))) (pv 1)))))), ?_⟩
    refine r_in (copy_use (ev_var rfl) hs (by omega) (fun _ => rfl) (fun H' x st R hv k => ?_) q)
    cases st with
    | lift to ws sh =>
      obtain ⟨t, u, rfl, h1, h2, h3⟩ := hv
      refine tif_in (et_use (et_is (et_test (ev_op (ev_at (K := K) (j := 0) (ev_var rfl) h1 rfl) ev_c (rv_eq rfl))) s_ll) fun H1 e1 => ?_)
      rw [if_pos rfl]
      have h1 := e1 _ _ h1
      refine tup_in (ta_consV (ev_at (K := K) (j := 0) (ev_var rfl) h1 rfl) fun H2 e2 => ta_consV (ev_at (K := K) (j := 1) (ev_var rfl) (e2 _ _ h1) rfl) fun H3 e3 => ta_consL (el_list (K := K) (ev_at (K := K) (j := 2) (ev_var rfl) (e3 _ _ (e2 _ _ h1)) rfl) (((h2.ex e1).ex e2).ex e3).sq) fun p H4 hp e4 k4 => ta_consV (ev_at (K := K) (j := 3) (ev_var rfl) (e4 _ _ (e3 _ _ (e2 _ _ h1))) rfl) fun H5 e5 => ?_)
      refine ⟨by show 4 ≤ sizeLine; decide, fun t' ht' => ?_⟩
      have e15 := (((e1.trans e2).trans e3).trans e4).trans e5
      exact k _ _ (e15.trans (Ex.new ht')) ⟨t', p, rfl, upd_same, Ex.new ht' _ _ (e5 _ _ k4), fresh_back ((e1.trans e2).trans e3) hp⟩
    | turn i =>
      obtain ⟨t, rfl, h1⟩ := hv
      refine tif_in (et_use (et_is (et_test (ev_op (ev_at (K := K) (j := 0) (ev_var rfl) h1 rfl) ev_c (rv_eq rfl))) s_tl) fun H1 e1 => ?_)
      rw [if_neg Bool.false_ne_true]
      exact ⟨_, rfl, k _ _ e1 ⟨t, rfl, e1 _ _ h1⟩⟩
    | swap a b =>
      obtain ⟨t, rfl, h1⟩ := hv
      refine tif_in (et_use (et_is (et_test (ev_op (ev_at (K := K) (j := 0) (ev_var rfl) h1 rfl) ev_c (rv_eq rfl))) s_sl) fun H1 e1 => ?_)
      rw [if_neg Bool.false_ne_true]
      exact ⟨_, rfl, k _ _ e1 ⟨t, rfl, e1 _ _ h1⟩⟩
theorem ok__law_stepped (T : Tx K mg) : FnOk P w K mg base CX0 1 T.a__law_stepped T.d__law_stepped ["_law_step", "_law_row", "_law_way"] (sp__law_stepped T) := by
  refine T.f__law_stepped.ok (k := 0) sc__law_stepped (fun vs H Q E h => ?_) (fun cdv A outer s H vs Q E hr h => ?_)
  · obtain ⟨v, F, st, a, row, sg, rfl, _⟩ := h
    rfl
  · obtain ⟨v, F, st, a, row, sg, rfl, hv, hok, ha, h4, hsg, ⟨m, hm, hm8⟩, q⟩ := h
    refine ⟨_,       (pss_cons (ps_set (i := 3) sc__law_stepped.nd rfl (by first | exact Or.inl rfl | exact Or.inr rfl) (pe_callTy (T := "list") (r := rListS K) call_list_of (by rfl) T.m_list (by decide +kernel) (pa_cons (pv 1) pa_nil))) 
      (pss_cons (ps_if (pt_cmpR op_eq (pe_ix (r := rIxT K) ix_tup (pv 0) pe_int (fun _ _ => rfl)) pe_str (nomark _)) 
        (pss_cons (ps_set (i := 4) sc__law_stepped.nd rfl (by first | exact Or.inl rfl | exact Or.inr rfl) (pe_callB (id := "sum") (r := rSum K) (cr_sum rfl) (by rfl) T.m_sum (by decide +kernel) (pa_cons (pe_lc (own := [("_law_at", 5)]) (g := gName 5) (tt := tYes) rfl sc__law_stepped.nd (pi_range1 rfl T.m_range (pa_cons (pe_callB (id := "len") (r := rLenS K) call_len_seq (by rfl) T.m_len PySem.boot_len (pa_cons (pv 1) pa_nil)) pa_nil)) (blkOk_by (own := [("_law_at", 5)]) (N := ["_law_step", "_law_row", "_law_way", "_law_found", "_law_total", "_law_at"]) (sc := defScope s__law_stepped) (by decide +kernel)) (fun _ _ _ _ _ => (pg_name (i := 5) sc__law_stepped.nd rfl (by first | exact Or.inl rfl | exact Or.inr rfl))) (fun _ _ _ _ _ => pts_nil) (fun _ _ _ _ _ => (pe_op op_mulW (pe_ix (r := rIxL K) ix_list (pe_ix (r := rIxT K) ix_tup (pv 0) pe_int (fun _ _ => rfl)) (pv 5) (fun _ _ => rfl)) (pe_ix (r := rIxL K) ix_list (pv 1) (pv 5) (fun _ _ => rfl))))) pa_nil))) 
        (pss_one (ps_asg (pe_op op_add (pe_ix (r := rIxL K) ix_list (pv 3) (pe_ix (r := rIxT K) ix_tup (pv 0) pe_int (fun _ _ => rfl)) (fun _ _ => rfl)) (pe_op op_mulW (pv 2) (pe_op op_fdivW (pv 4) (pe_op op_shlW pe_int (pe_ix (r := rIxT K) ix_tup (pv 0) pe_int (fun _ _ => rfl)))))) (pg_sub (pv 3) (pe_ix (r := rIxT K) ix_tup (pv 0) pe_int (fun _ _ => rfl)) set_list)))) 
        (pss_one (ps_if (pt_cmpR op_eq (pe_ix (r := rIxT K) ix_tup (pv 0) pe_int (fun _ _ => rfl)) pe_str (nomark _)) 
          (pss_one (ps_asg (pe_op op_sub pe_int (pe_ix (r := rIxL K) ix_list (pv 3) (pe_ix (r := rIxT K) ix_tup (pv 0) pe_int (fun _ _ => rfl)) (fun _ _ => rfl))) (pg_sub (pv 3) (pe_ix (r := rIxT K) ix_tup (pv 0) pe_int (fun _ _ => rfl)) set_list))) 
          (pss_cons (ps_asg (pe_ix (r := rIxL K) ix_list (pv 1) (pe_ix (r := rIxT K) ix_tup (pv 0) pe_int (fun _ _ => rfl)) (fun _ _ => rfl)) (pg_sub (pv 3) (pe_ix (r := rIxT K) ix_tup (pv 0) pe_int (fun _ _ => rfl)) set_list)) 
          (pss_one (ps_asg (pe_ix (r := rIxL K) ix_list (pv 1) (pe_ix (r := rIxT K) ix_tup (pv 0) pe_int (fun _ _ => rfl)) (fun _ _ => rfl)) (pg_sub (pv 3) (pe_ix (r := rIxT K) ix_tup (pv 0) pe_int (fun _ _ => rfl)) set_list))))))) 
      (pss_one (ps_ret (pv 3))))), ?_⟩
    refine q_asgL (el_list (K := K) (ev_var rfl) ha.sq) fun l H1 hl e1 k1 => ?_
    have ha := ha.ex e1
    cases st with
    | lift to ws sh =>
      obtain ⟨o1, o2, o3, o4, o5⟩ := hok
      obtain ⟨t, u, rfl, h1, h2, h3⟩ := hv
      have h1 := e1 _ _ h1
      have h2 := h2.ex e1
      refine q_if (b := true) (et_is (et_test (ev_op (ev_at (K := K) (j := 0) (ev_var rfl) h1 rfl) ev_c (rv_eq rfl))) s_ll) (fun _ H2 e2 => ?_) (fun z => by cases z)
      have h1 := e2 _ _ h1
      have h2 := h2.ex e2
      have ha := ha.ex e2
      have k2 := e2 _ _ k1
      have sml : ∀ i, i < row.length → CMulW (ws.getD i 0) (row.getD i 0) := fun i hi => by
        refine wide_mul (a := 17) (b := m + 1) ?_ (Nat.lt_of_lt_of_le (hm.getD i) (Nat.pow_le_pow_right (by decide) (by omega))) (by decide) (by omega) (by omega)
        rw [List.getD_eq_getElem?_getD, List.getElem?_eq_getElem (by omega)]
        exact Nat.lt_of_le_of_lt (o5 _ (List.getElem_mem _)) (by decide)
      refine q_asg (v := .int (dot ws row)) (ev_is (ev_sumN (K := K) (ns := (List.range row.length).map fun i => ws.getD i 0 * row.getD i 0) ?_) (by rw [dot_range o2]; rfl)) fun H3 e3 => ?_
      · rw [List.map_map]
        refine el_mapR (n := row.length) (V.int ∘ fun i => ws.getD i 0 * row.getD i 0) (ea_cons (ev_is (ev_len (K := K) (ev_var rfl) ha.sq) (by rw [List.length_map])) ea_nil) (by omega) (fun _ => rfl) (fun i H3 e3 hi => ?_)
        exact ev_op (ev_op (ev_at (K := K) (j := 2) (ev_var rfl) (e3 _ _ h1) rfl) (ev_var rfl) (rv_ixL (K := K) (h2.ex e3).sq (atI_nat (at_row (by omega))))) (ev_op (ev_var rfl) (ev_var rfl) (rv_ixL (K := K) (ha.ex e3).sq (atI_nat (at_row hi)))) (rv_I (sml i hi))
      have h1 := e3 _ _ h1
      have k3 := e3 _ _ k2
      have hd := dot_sm o5 hm h4
      have hq := abs_div (dot ws row) sh
      have hp2 : (0 : Int) < 2 ^ sh := Int.pow_pos (by decide)
      have e1s : (1 : Int) * 2 ^ (sh : Int).toNat = 2 ^ sh := by rw [Int.one_mul, Int.toNat_natCast]
      have hlt : ((1 : Int) * 2 ^ (sh : Int).toNat).natAbs < 2 ^ 130 := by
        rw [e1s, Int.natAbs_pow]
        exact Nat.lt_of_le_of_lt (Nat.pow_le_pow_right (by decide) o4) (by decide)
      refine s_setL (l := l) (j := to) (v := .int (row.getD to 0 + sg * (dot ws row / 2 ^ sh))) k3 (ev_is (ev_op (ev_op (ev_var rfl) (ev_at (K := K) (j := 1) (ev_var rfl) h1 rfl) (rv_ixL (K := K) (sq_of k3) (atI_nat (at_row o1)))) (ev_op (ev_var rfl) (ev_op (ev_var rfl) (ev_op ev_c (ev_at (K := K) (j := 3) (ev_var rfl) h1 rfl) (rv_I (shl_ok (n := 1) (j := sh) (by decide) (by omega)))) (rv_I (wide_div (b := 130) (by rw [e1s]; exact hp2) hlt (by decide) (by decide)))) (rv_I (wide_mul (a := 1) (b := m + 18) ?_ ?_ (by decide) (by omega) (by omega)))) rv_I0) ?_) (ev_var rfl) (ev_at (K := K) (j := 1) (ev_var rfl) h1 rfl) (by rw [List.length_map]; exact o1) fun H4 e4 => ?_
      · rcases hsg with rfl | rfl <;> decide
      · rw [e1s]
        exact Nat.lt_of_le_of_lt hq hd
      · rw [e1s]
      · refine ⟨.ref l, rfl, q l _ hl (Ex.mut (((e1.trans e2).trans e3).trans e4) hl) ?_⟩
        show _ = _
        rw [upd_same, set_row]
        rfl
    | turn i =>
      obtain ⟨t, rfl, h1⟩ := hv
      have h1 := e1 _ _ h1
      refine q_if (b := false) (et_is (et_test (ev_op (ev_at (K := K) (j := 0) (ev_var rfl) h1 rfl) ev_c (rv_eq rfl))) s_tl) (fun z => by cases z) (fun _ H2 e2 => ?_)
      have h1 := e2 _ _ h1
      refine s_if (b := true) (et_is (et_test (ev_op (ev_at (K := K) (j := 0) (ev_var rfl) h1 rfl) ev_c (rv_eq rfl))) s_tt) (fun _ H3 e3 => ?_) (fun z => by cases z)
      have h1 := e3 _ _ h1
      have k3 := e3 _ _ (e2 _ _ k1)
      have hi : i < row.length := hok
      refine s_setL (l := l) (j := i) (v := .int (-row.getD i 0)) k3 (ev_is (ev_op ev_c (ev_op (ev_var rfl) (ev_at (K := K) (j := 1) (ev_var rfl) h1 rfl) (rv_ixL (K := K) (sq_of k3) (atI_nat (at_row hi)))) rv_I0) (by rw [Int.zero_sub])) (ev_var rfl) (ev_at (K := K) (j := 1) (ev_var rfl) h1 rfl) (by rw [List.length_map]; exact hi) fun H4 e4 => ?_
      refine ⟨.ref l, rfl, q l _ hl (Ex.mut (((e1.trans e2).trans e3).trans e4) hl) ?_⟩
      show _ = _
      rw [upd_same, set_row]
      rfl
    | swap c d =>
      obtain ⟨o1, o2, o3⟩ := hok
      obtain ⟨t, rfl, h1⟩ := hv
      have h1 := e1 _ _ h1
      refine q_if (b := false) (et_is (et_test (ev_op (ev_at (K := K) (j := 0) (ev_var rfl) h1 rfl) ev_c (rv_eq rfl))) s_sl) (fun z => by cases z) (fun _ H2 e2 => ?_)
      have h1 := e2 _ _ h1
      refine s_if (b := false) (et_is (et_test (ev_op (ev_at (K := K) (j := 0) (ev_var rfl) h1 rfl) ev_c (rv_eq rfl))) s_st) (fun z => by cases z) (fun _ H3 e3 => ?_)
      have h1 := e3 _ _ h1
      have k3 := e3 _ _ (e2 _ _ k1)
      have ha := (ha.ex e2).ex e3
      have nal : a ≠ l := ne_of_none (by assumption) hl
      have ntl : t ≠ l := fun z => by rw [z, k3] at h1; cases h1
      refine q_setL (l := l) (j := c) (v := .int (row.getD d 0)) k3 (ev_op (ev_var rfl) (ev_at (K := K) (j := 2) (ev_var rfl) h1 rfl) (rv_ixL (K := K) ha.sq (atI_nat (at_row (by omega))))) (ev_var rfl) (ev_at (K := K) (j := 1) (ev_var rfl) h1 rfl) (by rw [List.length_map]; omega) fun H4 e4 => ?_
      have k4 : (upd H4 l (.lst ((row.map V.int).set c (.int (row.getD d 0))))) l = some (.lst ((row.map V.int).set c (.int (row.getD d 0)))) := upd_same
      have h1 : (upd H4 l (.lst ((row.map V.int).set c (.int (row.getD d 0))))) t = _ := (upd_ne ntl).trans (e4 _ _ h1)
      have ha : Li (upd H4 l (.lst ((row.map V.int).set c (.int (row.getD d 0))))) a row := (upd_ne nal).trans (e4 _ _ ha)
      refine s_setL (l := l) (j := d) (v := .int (row.getD c 0)) k4 (ev_op (ev_var rfl) (ev_at (K := K) (j := 1) (ev_var rfl) h1 rfl) (rv_ixL (K := K) ha.sq (atI_nat (at_row (by omega))))) (ev_var rfl) (ev_at (K := K) (j := 2) (ev_var rfl) h1 rfl) (by rw [List.length_set, List.length_map]; omega) fun H5 e5 => ?_
      refine ⟨.ref l, rfl, q l _ hl (Ex.mut ((Ex.mut (((e1.trans e2).trans e3).trans e4) hl).trans e5) hl) ?_⟩
      show _ = _
      rw [upd_same, set_row, set_row]
      rfl
end
end K30

set_option Elab.async false
set_option linter.all false
set_option maxRecDepth 100000
set_option maxHeartbeats 4000000
namespace K30
open PySem PySem.Spec PyProof.Rows L2 Evl WS M30
section
variable {K : PySem.W.Frag} {mg : Str → Option Value}
def sp__law_spoil (T : Tx K mg) : Sp := fun vs H Q _ => ∃ a F sts, ∃ n : Nat, vs = [.ref a] ∧ Sts F H a sts ∧ (∀ st ∈ sts, Ok n st) ∧ n ≤ 4 ∧ sts.length ≤ 1000 ∧ ∀ H', Fr (fun b => ¬ F b) H H' → Q .non H'
def sp__law_kept (T : Tx K mg) : Sp := fun vs H Q _ => ∃ p F sts a G, ∃ n : Nat, vs = [.ref p, .int (n : Int), .ref a] ∧ Mx T F H p n sts ∧ Sts G H a sts ∧ RetV (.bl true) H Q
/-- a step that may be spoilt -/
def Sp1 (F : Addr → Prop) (a : Addr) (H : Hp) (k : Nat) (v : V) : Prop :=
  (∃ (t u : Addr) (to sh : Int) (ys : List V), v = .ref t ∧ H t = some (.tup [.str "lift", .int to, .ref u, .int sh]) ∧ H u = some (.lst ys) ∧ ys.length ≤ 10 + k ∧ F u ∧ u ≠ a) ∨
  (∃ (t : Addr) (s : Str) (xs : List V), v = .ref t ∧ H t = some (.tup (.str s :: xs)) ∧ decide (V.str s = V.str "lift") = false)
theorem Sp1.ex {F : Addr → Prop} {a : Addr} {H H' : Hp} {k k' : Nat} {v : V} (h : Sp1 F a H k v) (e : Ex H H') (hk : k ≤ k') : Sp1 F a H' k' v := by
  rcases h with ⟨t, u, to, sh, ys, rfl, h1, h2, h3, h4, h5⟩ | ⟨t, s, xs, rfl, h1, h2⟩
  · exact .inl ⟨t, u, to, sh, ys, rfl, e _ _ h1, e _ _ h2, by omega, h4, h5⟩
  · exact .inr ⟨t, s, xs, rfl, e _ _ h1, h2⟩
theorem Sp1.app {F : Addr → Prop} {a u : Addr} {H : Hp} {k : Nat} {v : V} {ys : List V} {x : V} (h : Sp1 F a H k v) (hu : H u = some (.lst ys)) (hl : ys.length ≤ 10 + k) : Sp1 F a (upd H u (.lst (ys ++ [x]))) (k + 1) v := by
  have tup : ∀ {t xs}, H t = some (.tup xs) → (upd H u (.lst (ys ++ [x]))) t = some (.tup xs) := fun {t xs} ht => by
    rw [upd_ne (fun z => by rw [z, hu] at ht; cases ht)]
    exact ht
  rcases h with ⟨t, w, to, sh, zs, rfl, h1, h2, h3, h4, h5⟩ | ⟨t, s, xs, rfl, h1, h2⟩
  · by_cases z : w = u
    · subst z
      exact .inl ⟨t, w, to, sh, _, rfl, tup h1, upd_same, by rw [List.length_append, List.length_singleton]; omega, h4, h5⟩
    · exact .inl ⟨t, w, to, sh, zs, rfl, tup h1, by rw [upd_ne z]; exact h2, by omega, h4, h5⟩
  · exact .inr ⟨t, s, xs, rfl, tup h1, h2⟩
theorem andv_in {ta tb : TE} {σ : L2.St} {H : Hp} {Q : VK} (k : ta σ H fun x H1 => ∃ c, x = .bl c ∧ if c = true then tb σ H1 Q else Q (.bl false) H1) : tAndV ta tb σ H Q := k
theorem Fr.trans {F : Addr → Prop} {H H1 H2 : Hp} (a : Fr F H H1) (b : Fr F H1 H2) : Fr F H H2 := fun x o h k => b x o (a x o h k) k
end
section
variable {P : Program} {w : World} {K : PySem.W.Frag} {mg : Str → Option Value} {base : Heap}
theorem ok__law_played (T : Tx K mg) : FnOk P w K mg base CX0 2 T.a__law_played T.d__law_played ["_law_steps_here", "_law_row"] (sp__law_played T) := by
  refine T.f__law_played.ok (k := 1) sc__law_played (fun vs H Q E h => ?_) (fun cdv A outer s H vs Q E hr h => ?_)
  · obtain ⟨a, F, sts, b, row, rfl, _⟩ := h
    rfl
  · obtain ⟨a, F, sts, b, row, rfl, hs, hok, hl, hb, h4, ⟨m, hm, hm6⟩, q⟩ := h
    refine ⟨_,       (pss_cons (ps_set (i := 2) sc__law_played.nd rfl (by first | exact Or.inl rfl | exact Or.inr rfl) (pe_callTy (T := "list") (r := rListS K) call_list_of (by rfl) T.m_list (by decide +kernel) (pa_cons (pv 1) pa_nil))) 
      (pss_cons (ps_for PassesOwn.never rfl (pi_list (pv 0)) (pg_name (i := 3) sc__law_played.nd rfl (by first | exact Or.inl rfl | exact Or.inr rfl)) 
        (pss_one (ps_set (i := 2) sc__law_played.nd rfl (by first | exact Or.inl rfl | exact Or.inr rfl) (pe_call (ok__law_stepped T) hr (by rfl) T.g__law_stepped T.f__law_stepped.kp T.b__law_stepped .nil pass0 (pa_cons (pv 3) (pa_cons (pv 2) (pa_cons pe_int pa_nil))))))) 
      (pss_one (ps_ret (pv 2))))), ?_⟩
    obtain ⟨_, vs, hvs, hss⟩ := hs
    refine q_asgL (el_list (K := K) (ev_var rfl) hb.sq) fun l H1 hl1 e1 k1 => ?_
    refine q_forLn (xs := vs) (K := K) (ev_var rfl) (sq_of (e1 _ _ hvs)) (fun i σ' H' => ∃ f y, σ' = [some (.ref a), some (.ref b), some (.ref f), y] ∧ Ex H H' ∧ H f = none ∧ Li H' f (runs 1 (sts.take i) row)) (fun H2 e2 => ⟨l, none, rfl, e1.trans e2, hl1, ?_⟩) (fun i σ' H' _ hP => ?_) (fun i x σ' H' hx hP => ?_) (fun σ' H' hP => ?_)
    · rw [List.take_zero]
      exact e2 _ _ k1
    · obtain ⟨_, _, _, e, _⟩ := hP
      exact sq_of (e _ _ hvs)
    · obtain ⟨f, y, rfl, e, hf, hL⟩ := hP
      obtain ⟨st, hst, hv⟩ := hss.get hx
      have ok1 := hok st (List.mem_of_getElem? hst)
      have len : (runs 1 (sts.take i) row).length = row.length := runs_len _ _ _
      have sm := runs_sm (n := row.length) (sg := 1) (.inl rfl) (sts := sts.take i) (fun s h => hok s (List.mem_of_mem_take h)) hm h4
      rw [List.length_take] at sm
      refine s_asgL (xs := (go 1 st (runs 1 (sts.take i) row)).map V.int) (el_callR (ea_cons (ev_var rfl) (ea_cons (ev_var rfl) (ea_cons ev_c ea_nil))) fun H2 e2 Q q E => ⟨x, F, st, f, _, 1, rfl, (hv.ex e).ex e2, by rw [len]; exact ok1, hL.ex e2, by omega, .inl rfl, ⟨_, sm, by omega⟩, q⟩) fun p H2 hp e2 k2 => ⟨p, _, rfl, e.trans e2, fresh_back e hp, ?_⟩
      rw [runs_take hst]
      exact k2
    · obtain ⟨f, y, rfl, e, hf, hL⟩ := hP
      rw [hss.1, List.take_length] at hL
      exact ⟨.ref f, rfl, q f H' hf e hL⟩
theorem ok__law_led_back (T : Tx K mg) : FnOk P w K mg base CX0 2 T.a__law_led_back T.d__law_led_back ["_law_steps_here", "_law_row"] (sp__law_led_back T) := by
  refine T.f__law_led_back.ok (k := 1) sc__law_led_back (fun vs H Q E h => ?_) (fun cdv A outer s H vs Q E hr h => ?_)
  · obtain ⟨a, F, sts, b, row, rfl, _⟩ := h
    rfl
  · obtain ⟨a, F, sts, b, row, rfl, hs, hok, hl, hb, h4, ⟨m, hm, hm6⟩, q⟩ := h
    refine ⟨_,       (pss_cons (ps_set (i := 2) sc__law_led_back.nd rfl (by first | exact Or.inl rfl | exact Or.inr rfl) (pe_callTy (T := "list") (r := rListS K) call_list_of (by rfl) T.m_list (by decide +kernel) (pa_cons (pv 1) pa_nil))) 
      (pss_cons (ps_for PassesOwn.never rfl (pi_list (pe_revL (pv 0))) (pg_name (i := 3) sc__law_led_back.nd rfl (by first | exact Or.inl rfl | exact Or.inr rfl)) 
        (pss_one (ps_set (i := 2) sc__law_led_back.nd rfl (by first | exact Or.inl rfl | exact Or.inr rfl) (pe_call (ok__law_stepped T) hr (by rfl) T.g__law_stepped T.f__law_stepped.kp T.b__law_stepped .nil pass0 (pa_cons (pv 3) (pa_cons (pv 2) (pa_cons (pe_un un_neg pe_int) pa_nil))))))) 
      (pss_one (ps_ret (pv 2))))), ?_⟩
    obtain ⟨_, vs, hvs, hss⟩ := hs
    have hrev := hss.rev
    refine q_asgL (el_list (K := K) (ev_var rfl) hb.sq) fun l H1 hl1 e1 k1 => ?_
    refine q_forNLn (xs := vs.reverse) (K := K) (el_rev (K := K) (ev_var rfl) (sq_of (e1 _ _ hvs))) (fun pr i σ' H' => ∃ f y, σ' = [some (.ref a), some (.ref b), some (.ref f), y] ∧ Ex H H' ∧ H f = none ∧ H' pr = some (.lst vs.reverse) ∧ Li H' f (runs (-1) (sts.reverse.take i) row)) (fun pr H2 hpr e2 k2 => ⟨l, none, rfl, e1.trans e2, hl1, k2, ?_⟩) (fun pr i σ' H' _ hP => ?_) (fun pr i x σ' H' hx hP => ?_) (fun pr σ' H' hP => ?_)
    · rw [List.take_zero]
      exact e2 _ _ k1
    · obtain ⟨_, _, _, _, _, kr, _⟩ := hP
      exact sq_of kr
    · obtain ⟨f, y, rfl, e, hf, kr, hL⟩ := hP
      obtain ⟨st, hst, hv⟩ := hrev.get hx
      have ok1 := hok st (List.mem_reverse.mp (List.mem_of_getElem? hst))
      have len : (runs (-1) (sts.reverse.take i) row).length = row.length := runs_len _ _ _
      have sm := runs_sm (n := row.length) (sg := -1) (.inr rfl) (sts := sts.reverse.take i) (fun s h => hok s (List.mem_reverse.mp (List.mem_of_mem_take h))) hm h4
      rw [List.length_take, List.length_reverse] at sm
      refine s_asgL (xs := (go (-1) st (runs (-1) (sts.reverse.take i) row)).map V.int) (el_callR (ea_cons (ev_var rfl) (ea_cons (ev_var rfl) (ea_cons (ev_un ev_c ru_neg) ea_nil))) fun H2 e2 Q q E => ⟨x, F, st, f, _, -1, rfl, (hv.ex e).ex e2, by rw [len]; exact ok1, hL.ex e2, by omega, .inr rfl, ⟨_, sm, by omega⟩, q⟩) fun p H2 hp e2 k2 => ⟨p, _, rfl, e.trans e2, fresh_back e hp, e2 _ _ kr, ?_⟩
      rw [runs_take hst]
      exact k2
    · obtain ⟨f, y, rfl, e, hf, kr, hL⟩ := hP
      rw [List.length_reverse, hss.1, ← List.length_reverse, List.take_length] at hL
      exact ⟨.ref f, rfl, q f H' hf e hL⟩
theorem ok__law_whole (T : Tx K mg) : FnOk P w K mg base CX0 1 T.a__law_whole T.d__law_whole ["_law_value"] (sp__law_whole T) := by
  refine T.f__law_whole.ok (k := 0) sc__law_whole (fun vs H Q E h => ?_) (fun cdv A outer s H vs Q E hr h => ?_)
  · obtain ⟨i, rfl, _⟩ := h
    rfl
  · obtain ⟨i, rfl, q⟩ := h
    refine ⟨_,       (pss_one (ps_ret (pe_and (pe_callB (id := "isinstance") (r := rIsi K) call_isi (by rfl) T.m_isinstance (by decide +kernel) (pa_cons (pv 0) (pa_cons (pe_bltn (by rfl) T.m_int (v := .ty "int") (by decide +kernel) rfl) pa_nil))) (pe_one (pe_not (pe_callB (id := "isinstance") (r := rIsi K) call_isi (by rfl) T.m_isinstance (by decide +kernel) (pa_cons (pv 0) (pa_cons (pe_bltn (by rfl) T.m_bool (v := .ty "bool") (by decide +kernel) rfl) pa_nil)))))))), ?_⟩
    exact s_ret (ev_andV (ev_isiI (b := true) (ev_var rfl) (by decide +kernel)) fun _ => ev_notV (ev_isiI (b := false) (ev_var rfl) (by decide +kernel))) q
theorem ok__law_numbers_right (T : Tx K mg) : FnOk P w K mg base CX0 2 T.a__law_numbers_right T.d__law_numbers_right ["_law_row", "_law_broad"] (sp__law_numbers_right T) := by
  refine T.f__law_numbers_right.ok (k := 1) sc__law_numbers_right (fun vs H Q E h => ?_) (fun cdv A outer s H vs Q E hr h => ?_)
  · obtain ⟨a, row, rfl, _⟩ := h
    rfl
  · obtain ⟨a, row, rfl, ha, hl, q⟩ := h
    refine ⟨_,       (pss_one (ps_ret (pe_and (pe_callB (id := "isinstance") (r := rIsi K) call_isi (by rfl) T.m_isinstance (by decide +kernel) (pa_cons (pv 0) (pa_cons (pe_bltn (by rfl) T.m_list (v := .ty "list") (by decide +kernel) rfl) pa_nil))) (pe_and (pe_cmpR op_eq (pe_callB (id := "len") (r := rLenS K) call_len_seq (by rfl) T.m_len PySem.boot_len (pa_cons (pv 0) pa_nil)) (pv 1) (nomark _)) (pe_one (pe_cmpR (op_eqD hr.units) (pe_lc (own := [("_law_one", 2)]) (g := gName 2) rfl sc__law_numbers_right.nd (pi_list (pv 0)) (blkOk_by (own := [("_law_one", 2)]) (N := ["_law_row", "_law_broad", "_law_one"]) (sc := defScope s__law_numbers_right) (by decide +kernel)) (fun _ _ _ _ _ => (pg_name (i := 2) sc__law_numbers_right.nd rfl (by first | exact Or.inl rfl | exact Or.inr rfl))) (fun _ _ _ _ _ => (pts_one (pt_not (pt_val (pe_call (ok__law_whole T) hr (by rfl) T.g__law_whole T.f__law_whole.kp T.b__law_whole .nil pass0 (pa_cons (pv 2) pa_nil)))))) (fun _ _ _ _ _ => (pv 2))) (pe_lst pa_nil) (nomark _))))))), ?_⟩
    refine s_ret (ev_is (ev_andV (ev_isiL (b := true) (ev_var rfl) ha (by decide +kernel)) fun _ => ev_andV (ev_op (ev_len (K := K) (ev_var rfl) ha.sq) (ev_var rfl) (rv_eq rfl)) fun _ => ev_opLL (xs := []) (ys := []) ?_ (el_lst ea_nil (by decide)) fun p r H1 hp hr e => rv_eqI (K := K) (ns := []) (ms := []) (sq_of hp) (sq_of hr)) ?_) q
    · have k := el_lcL (K := K) (σ := [some (V.ref a), some (V.int (row.length : Int)), none]) (H := H) (t := tNot (tB (tCall (sp__law_whole T) [] E0 (tCons (tVar 2) tNil)))) (te := tVar 2) (j := 2) (vs := [2]) (tl := tVar 0) (fun _ => false) (fun _ => .non) (ev_var rfl) ha.sq (by rw [List.length_map]; omega) (fun _ => rfl) (fun i x H1 e hx => ?_) (fun i x H1 e hx z => by cases z)
      · have ex : given (row.map V.int).length (fun _ => false) (fun _ => V.non) = [] := by
          unfold given
          rw [List.filter_eq_nil_iff.mpr (fun _ _ z => by cases z)]
          rfl
        rw [ex] at k
        exact k
      · obtain ⟨y, _, rfl⟩ := List.mem_map.mp (List.mem_of_getElem? hx)
        exact et_not (a := true) (et_B (ev_call (ea_cons (ev_var rfl) ea_nil) (spv fun H1 e Q q E => ⟨y, rfl, q⟩)))
    · rw [List.length_map, decide_eq_true (rfl : V.int (row.length : Int) = V.int (row.length : Int))]
      rfl
theorem ok__law_spoil (T : Tx K mg) : FnOk P w K mg base CX0 1 T.a__law_spoil T.d__law_spoil ["_law_steps_here"] (sp__law_spoil T) := by
  refine T.f__law_spoil.ok (k := 0) sc__law_spoil (fun vs H Q E h => ?_) (fun cdv A outer s H vs Q E hr h => ?_)
  · obtain ⟨a, F, sts, n, rfl, _⟩ := h
    rfl
  · obtain ⟨a, F, sts, n, rfl, hs, hok, h4, hl, q⟩ := h
    refine ⟨_,       (pss_cons (ps_for PassesOwn.never rfl (pi_list (pv 0)) (pg_name (i := 1) sc__law_spoil.nd rfl (by first | exact Or.inl rfl | exact Or.inr rfl)) 
        (pss_one (ps_if (pt_cmpR op_eq (pe_ix (r := rIxT K) ix_tup (pv 1) pe_int (fun _ _ => rfl)) pe_str (nomark _)) 
          (pss_one (ps_expr (pe_bm PySem.F.plainAttrs_list PySem.F.slot_list_append PySem.F.type_list_append mt_append (pe_ix (r := rIxT K) ix_tup (pv 1) pe_int (fun _ _ => rfl)) (pa_cons pe_int pa_nil)))) pss_nil))) 
      (pss_one (ps_expr (pe_bm PySem.F.plainAttrs_list PySem.F.slot_list_append PySem.F.type_list_append mt_append (pv 0) (pa_cons pe_non pa_nil))))), ?_⟩
    obtain ⟨ha, vs, hvs, hss⟩ := hs
    have all0 : ∀ v ∈ vs, Sp1 F a H 0 v := fun v hv => by
      obtain ⟨i, hi⟩ := List.getElem?_of_mem hv
      obtain ⟨st, hst, hv1⟩ := hss.get hi
      have ok1 := hok st (List.mem_of_getElem? hst)
      cases st with
      | lift to ws sh =>
        obtain ⟨t, u, rfl, h1, h2, h3⟩ := hv1
        refine .inl ⟨t, u, _, _, _, rfl, h1, h2, by rw [List.length_map]; have := ok1.2.1; omega, h3, fun z => ?_⟩
        have h2' : H u = some (.lst (ws.map V.int)) := h2
        rw [z, hvs] at h2'
        have e : vs = ws.map V.int := by
          have := Option.some.inj h2'
          injection this
        rw [e, List.getElem?_map] at hi
        cases hw : ws[i]? with
        | none => rw [hw] at hi; cases hi
        | some y => rw [hw] at hi; cases hi
      | turn j =>
        obtain ⟨t, rfl, h1⟩ := hv1
        exact .inr ⟨t, _, _, rfl, h1, s_tl⟩
      | swap c d =>
        obtain ⟨t, rfl, h1⟩ := hv1
        exact .inr ⟨t, _, _, rfl, h1, s_sl⟩
    have hvl : vs.length ≤ 1000 := by rw [hss.1]; exact hl
    refine q_forLn (xs := vs) (K := K) (ev_var rfl) (sq_of hvs) (fun i σ' H' => ∃ y, σ' = [some (.ref a), y] ∧ Fr (fun b => ¬ F b) H H' ∧ H' a = some (.lst vs) ∧ ∀ v ∈ vs, Sp1 F a H' i v) (fun H2 e2 => ⟨none, rfl, Fr.of e2, e2 _ _ hvs, fun v hv => (all0 v hv).ex e2 (Nat.le_refl _)⟩) (fun i σ' H' _ hP => ?_) (fun i x σ' H' hx hP => ?_) (fun σ' H' hP => ?_)
    · obtain ⟨_, _, _, k, _⟩ := hP
      exact sq_of k
    · obtain ⟨y, rfl, fr, k, hall⟩ := hP
      have hi : i < 1000 := by have := (List.getElem?_eq_some_iff.mp hx).1; omega
      rcases hall x (List.mem_of_getElem? hx) with ⟨t, u, to, sh, ys, rfl, h1, h2, h3, h5, h6⟩ | ⟨t, s, xs, rfl, h1, h2⟩
      · refine s_when (b := true) (et_is (et_test (ev_op (ev_at (K := K) (j := 0) (ev_var rfl) h1 rfl) ev_c (rv_eq rfl))) s_ll) (fun _ H2 e2 => ?_) (fun z => by cases z)
        refine s_app (l := u) (xs := ys) (e2 _ _ h2) (ev_at (K := K) (j := 2) (ev_var rfl) (e2 _ _ h1) rfl) ev_c (by omega) fun H3 e3 => ?_
        have e23 := e2.trans e3
        refine ⟨_, rfl, fun b o hb hlst => ?_, by rw [upd_ne (Ne.symm h6)]; exact e23 _ _ k, fun v hv => ((hall v hv).ex e23 (Nat.le_refl _)).app (e23 _ _ h2) h3⟩
        have hb' := e23 _ _ (fr b o hb hlst)
        by_cases z : b = u
        · subst z
          rw [e23 _ _ h2] at hb'
          exact absurd h5 (hlst ⟨ys, (Option.some.inj hb').symm⟩)
        · rw [upd_ne z]
          exact hb'
      · exact s_when (b := false) (et_is (et_test (ev_op (ev_at (K := K) (j := 0) (ev_var rfl) h1 rfl) ev_c (rv_eq rfl))) h2) (fun z => by cases z) (fun _ H2 e2 => ⟨_, rfl, fr.trans (Fr.of e2), e2 _ _ k, fun v hv => (hall v hv).ex e2 (Nat.le_succ _)⟩)
    · obtain ⟨y, rfl, fr, k, hall⟩ := hP
      refine s_app (l := a) (xs := vs) k (ev_var rfl) ev_c (by omega) fun H3 e3 => q _ fun b o hb hlst => ?_
      have hb' := e3 _ _ (fr b o hb hlst)
      by_cases z : b = a
      · subst z
        rw [e3 _ _ k] at hb'
        exact absurd ha (hlst ⟨vs, (Option.some.inj hb').symm⟩)
      · rw [upd_ne z]
        exact hb'
theorem ok__law_kept (T : Tx K mg) : FnOk P w K mg base CX0 3 T.a__law_kept T.d__law_kept ["_law_mixer", "_law_wide", "_law_steps_here"] (sp__law_kept T) := by
  refine T.f__law_kept.ok (k := 2) sc__law_kept (fun vs H Q E h => ?_) (fun cdv A outer s H vs Q E hr h => ?_)
  · obtain ⟨p, F, sts, a, G, n, rfl, _⟩ := h
    rfl
  · obtain ⟨p, F, sts, a, G, n, rfl, hm, ha, q⟩ := h
    refine ⟨_,       (pss_cons (ps_set (i := 3) sc__law_kept.nd rfl (by first | exact Or.inl rfl | exact Or.inr rfl) (pe_meth0 (pv 0) T.cl_Mixer T.me_Mixer_steps (ok_Mixer_steps T) hr T.b_Mixer_steps .nil pass0)) 
      (pss_cons (ps_if (PW.pt (pw_or (pt_cmpR op_ne (pe_meth0 (pv 0) T.cl_Mixer T.me_Mixer_wide (ok_Mixer_wide T) (hr.mono (by decide)) T.b_Mixer_wide .nil pass0) (pv 1) (nomark _)) (pw_or (pt_cmpR (op_neD hr.units) (pv 3) (pv 2) (nomark _)) (pw_or1 (pt_not (pt_val (pe_callB (id := "isinstance") (r := rIsi K) call_isi (by rfl) T.m_isinstance (by decide +kernel) (pa_cons (pv 3) (pa_cons (pe_bltn (by rfl) T.m_list (v := .ty "list") (by decide +kernel) rfl) pa_nil))))))))) 
        (pss_one (ps_ret pe_bl)) pss_nil) 
      (pss_cons (ps_expr (pe_call (ok__law_spoil T) (hr.mono (by decide)) (by rfl) T.g__law_spoil T.f__law_spoil.kp T.b__law_spoil .nil pass0 (pa_cons (pv 3) pa_nil))) 
      (pss_one (ps_ret (pe_and (pe_cmpR (op_eqD hr.units) (pe_meth0 (pv 0) T.cl_Mixer T.me_Mixer_steps (ok_Mixer_steps T) hr T.b_Mixer_steps .nil pass0) (pv 2) (nomark _)) (pe_one (pe_cmpR op_eq (pe_meth0 (pv 0) T.cl_Mixer T.me_Mixer_wide (ok_Mixer_wide T) (hr.mono (by decide)) T.b_Mixer_wide .nil pass0) (pv 1) (nomark _))))))))), ?_⟩
    refine q_in (steps_use (ev_var rfl) hm fun D H1 hD e1 hS => ?_)
    have hm1 := hm.ex e1
    have ha1 := ha.ex e1
    have hS0 := hS
    obtain ⟨_, vs, hvs, _⟩ := hS0
    refine q_when (b := false) (et_or (a := false) (et_is (et_test (ev_op (hm1.wideE (ev_var rfl)) (ev_var rfl) (rv_ne rfl))) (by rw [decide_eq_true (rfl : V.int (n : Int) = V.int (n : Int))]; rfl)) fun _ => et_or (a := false) (et_test (ev_op (ev_var rfl) (ev_var rfl) (rv_neS (K := K) hS ha1))) fun _ => et_not (a := true) (et_B (ev_isiL (b := true) (ev_var rfl) hvs (by decide +kernel)))) (fun z => by cases z) (fun _ H2 e2 => ?_)
    refine ⟨.ref D, rfl, D, _, sts, n, rfl, hS.ex e2, hm.ok, hm.n4, hm.len, fun H3 fr => ?_⟩
    have e3 : Ex H H3 := fun b o h => fr b o (e2 _ _ (e1 _ _ h)) fun _ z => by rw [h] at z; cases z
    have hm3 := hm.ex e3
    have ha3 := ha.ex e3
    dsimp only
    refine r_in (andv_in (top_in (steps_use (ev_var rfl) hm3 fun D2 H4 hD2 e4 hS4 => ⟨.ref a, rfl, ?_⟩)))
    refine rv_eqS (K := K) (r := true) hS4 (ha3.ex e4) (.inl ⟨rfl, rfl⟩) H4 (Ex.refl H4) _ fun H5 e5 => ⟨true, rfl, ?_⟩
    rw [if_pos rfl]
    have e35 := e4.trans e5
    refine ev_use (v := .bl true) (ev_is (ev_op ((hm3.ex e35).wideE (ev_var rfl)) (ev_var rfl) (rv_eq rfl)) (by rw [decide_eq_true (rfl : V.int (n : Int) = V.int (n : Int))])) fun H6 e6 => q H6 ((e3.trans e35).trans e6)
end
end K30

set_option Elab.async false
set_option linter.all false
set_option maxRecDepth 100000
set_option maxHeartbeats 4000000
namespace K30
open PySem PySem.Spec PyProof.Rows L2 Evl WS M30
section
variable {K : PySem.W.Frag} {mg : Str → Option Value}
/-- behind the arguments of Mixer(..) -/
theorem mk_at {T : Tx K mg} {H1 : Hp} {a : Addr} {F : Addr → Prop} {sts : List Stp} {n : Nat} {E : XK} {R : Addr → Hp → Prop} (ha : Sts F H1 a sts) (n1 : 1 ≤ n) (n4 : n ≤ 4) (ok : ∀ st ∈ sts, Ok n st) (hl : sts.length ≤ 1000)
    (k : ∀ p H2, H1 p = none → Ex H1 H2 → Mx T (fun b => H1 b = none) H2 p n sts → R p H2) :
    ∀ x dx, H1 x = none → H1 dx = none → dx ≠ x → sp_Mixer___init__ T (.ref x :: ([.int (n : Int), .ref a] ++ [])) (upd (upd H1 dx (.own x)) x (.ins T.C_Mixer dx [])) (fun v H2 => v = .non ∧ R x H2) E := fun x dx hx hdx ne => by
  have e' : Ex H1 (upd (upd H1 dx (.own x)) x (.ins T.C_Mixer dx [])) := (Ex.new hdx).trans (Ex.new (by rw [upd_ne (Ne.symm ne)]; exact hx))
  refine ⟨x, dx, a, F, sts, n, rfl, upd_same, ha.ex e', n1, n4, ok, hl, fun H' g kp => ⟨rfl, k x H' hx (fun b o h => kp b o (ne_of_none h hx) (e' _ _ h)) (g.mono fun b o _ hn => fresh_back e' hn)⟩⟩
theorem mx_make {T : Tx K mg} {σ : L2.St} {H : Hp} {ta : TA} {a : Addr} {F : Addr → Prop} {sts : List Stp} {n : Nat} {E : XK} {Q : VK} (he : EvA ta σ H [.int (n : Int), .ref a]) (ha : Sts F H a sts) (n1 : 1 ≤ n) (n4 : n ≤ 4) (ok : ∀ st ∈ sts, Ok n st) (hl : sts.length ≤ 1000)
    (k : ∀ p H2, H p = none → Ex H H2 → Mx T (fun b => H b = none) H2 p n sts → Q (.ref p) H2) : tMake T.C_Mixer (sp_Mixer___init__ T) [] E ta σ H Q :=
  he H (Ex.refl H) _ fun H1 e1 => mk_at (R := fun x H => Q (.ref x) H) (ha.ex e1) n1 n4 ok hl fun p H2 hp e2 m => k p H2 (fresh_back e1 hp) (e1.trans e2) (m.mono fun b o _ hn => fresh_back e1 hn)
theorem rv_neR {H : Hp} {a b : Addr} {ns ms : List Int} (ha : Li H a ns) (hb : Li H b ms) (h : ns = ms) : RV (rNeD K) (.ref a) (.ref b) H (.bl false) := by
  have k := rv_neI (K := K) ha.sq hb.sq
  rw [decide_eq_true h] at k
  exact k
theorem rv_eqR {H : Hp} {a b : Addr} {ns ms : List Int} (ha : Li H a ns) (hb : Li H b ms) (h : ns = ms) : RV (rEqD K) (.ref a) (.ref b) H (.bl true) := by
  have k := rv_eqI (K := K) ha.sq hb.sq
  rw [decide_eq_true h] at k
  exact k
theorem cut_last (xs : List Int) : cutV ((xs.map V.int) ++ [V.int 0]) none (some (-1)) = xs.map V.int := by
  have hl : ((xs.map V.int) ++ [V.int 0]).length = xs.length + 1 := by rw [List.length_append, List.length_map]; rfl
  unfold cutV
  rw [HT.sIx_none, hl]
  have e : HT.sIx (xs.length + 1) (xs.length + 1) (some (-1)) = xs.length := by
    show (if (-1 : Int) < 0 then ((-1 : Int) + ((xs.length + 1 : Nat) : Int)).toNat else min ((-1 : Int)).toNat (xs.length + 1)) = _
    rw [if_pos (by decide)]
    omega
  rw [e, List.drop_zero, Nat.sub_zero, List.take_append_of_le_length (by rw [List.length_map]; omega), List.take_of_length_le (by rw [List.length_map]; omega)]
theorem el_mixed {T : Tx K mg} {σ : L2.St} {H : Hp} {ta tb : TE} {p a : Addr} {F : Addr → Prop} {n m : Nat} {sts : List Stp} {row : List Int} {E : XK} (ha : Ev ta σ H (.ref p)) (hb : Ev tb σ H (.ref a)) (hm : Mx T F H p n sts) (hr : Li H a row) (hl : row.length = n) (hs : Sm m row) (h6 : m ≤ 600000) :
    EvL (tCall (sp_mixed T) [] E (tCons ta (tCons tb tNil))) σ H ((runs 1 sts row).map V.int) := el_callR (ea_cons ha (ea_cons hb ea_nil)) fun H1 e Q q E => ⟨p, F, n, sts, a, row, rfl, hm.ex e, hr.ex e, hl, ⟨m, hs, h6⟩, q⟩
theorem el_unmixed {T : Tx K mg} {σ : L2.St} {H : Hp} {ta tb : TE} {p a : Addr} {F : Addr → Prop} {n m : Nat} {sts : List Stp} {row : List Int} {E : XK} (ha : Ev ta σ H (.ref p)) (hb : Ev tb σ H (.ref a)) (hm : Mx T F H p n sts) (hr : Li H a row) (hl : row.length = n) (hs : Sm m row) (h6 : m ≤ 600000) :
    EvL (tCall (sp_unmixed T) [] E (tCons ta (tCons tb tNil))) σ H ((runs (-1) sts.reverse row).map V.int) := el_callR (ea_cons ha (ea_cons hb ea_nil)) fun H1 e Q q E => ⟨p, F, n, sts, a, row, rfl, hm.ex e, hr.ex e, hl, ⟨m, hs, h6⟩, q⟩
/-- the row a new list -/
theorem el_mixedN {T : Tx K mg} {σ : L2.St} {H : Hp} {ta tb : TE} {p : Addr} {F : Addr → Prop} {n m : Nat} {sts : List Stp} {row : List Int} {E : XK} (ha : Ev ta σ H (.ref p)) (hb : EvL tb σ H (row.map V.int)) (hm : Mx T F H p n sts) (hl : row.length = n) (hs : Sm m row) (h6 : m ≤ 600000) :
    EvL (tCall (sp_mixed T) [] E (tCons ta (tCons tb tNil))) σ H ((runs 1 sts row).map V.int) := fun H1 e Q q =>
  ha H1 e _ fun H2 e2 => hb H2 (e.trans e2) _ fun a H3 hp e3 k3 => ⟨p, F, n, sts, a, row, rfl, hm.ex ((e.trans e2).trans e3), k3, hl, ⟨m, hs, h6⟩, fun r H4 hr e4 k4 => q r H4 (fresh_back (e2.trans e3) hr) ((e2.trans e3).trans e4) k4⟩
theorem el_unmixedN {T : Tx K mg} {σ : L2.St} {H : Hp} {ta tb : TE} {p : Addr} {F : Addr → Prop} {n m : Nat} {sts : List Stp} {row : List Int} {E : XK} (ha : Ev ta σ H (.ref p)) (hb : EvL tb σ H (row.map V.int)) (hm : Mx T F H p n sts) (hl : row.length = n) (hs : Sm m row) (h6 : m ≤ 600000) :
    EvL (tCall (sp_unmixed T) [] E (tCons ta (tCons tb tNil))) σ H ((runs (-1) sts.reverse row).map V.int) := fun H1 e Q q =>
  ha H1 e _ fun H2 e2 => hb H2 (e.trans e2) _ fun a H3 hp e3 k3 => ⟨p, F, n, sts, a, row, rfl, hm.ex ((e.trans e2).trans e3), k3, hl, ⟨m, hs, h6⟩, fun r H4 hr e4 k4 => q r H4 (fresh_back (e2.trans e3) hr) ((e2.trans e3).trans e4) k4⟩
/-- mixer == something -/
theorem own_eq {T : Tx K mg} {H : Hp} {p : Addr} {F : Addr → Prop} {n : Nat} {sts : List Stp} {y : V} {b neg : Bool} {E : XK} {Q : VK} (hm : Mx T F H p n sts) (hy : EqM T H n sts y b) (q : ∀ H', Ex H H' → Q (.bl (if neg then !b else b)) H') :
    rOwn K T.C_Mixer (sp_Mixer___eq__ T) E neg (.ref p) y H Q := by
  have hm0 := hm
  obtain ⟨dx, d, h1, _⟩ := hm0.ob
  refine ⟨p, dx, _, rfl, h1, ?_, p, F, n, sts, y, b, rfl, hm, hy, fun H' e => ⟨b, rfl, q H' e⟩⟩
  rcases hy with ⟨r, G, m, ss, rfl, hm', _⟩ | ⟨a, xs, rfl, ha, _⟩
  · obtain ⟨dy, d', h3, _⟩ := hm'.ob
    exact ⟨.ref T.C_Mixer, TyX.base (TyOf.ins h3 T.cl_Mixer T.is_Mixer.1 T.is_Mixer.2.1 T.is_Mixer.2.2.1 T.is_Mixer.2.2.2), notFirst_self K _⟩
  · exact rhs_list ha
/-- rows of so many numbers -/
def RowP (H : Hp) (n : Nat) (v : V) : Prop := ∃ q row, v = .ref q ∧ Li H q row ∧ row.length = n ∧ Sm 100 row
theorem RowP.ex {H H' : Hp} {n : Nat} {v : V} (h : RowP H n v) (e : Ex H H') : RowP H' n v := by
  obtain ⟨q, row, rfl, h1, h2, h3⟩ := h
  exact ⟨q, row, rfl, h1.ex e, h2, h3⟩
theorem el_rep {σ : L2.St} {H : Hp} {ta : TA} {te : TE} {j : Nat} {vs : List Nat} {n : Nat} {x : Int} (h : EvA ta σ H [.int (n : Int)]) (hn : n ≤ 40000) (hw : ∀ x, wipe ((wipe σ vs).set j (some x)) vs = wipe σ vs) (he : ∀ (i : Nat) H1, Ex H H1 → i < n → Ev te ((wipe σ vs).set j (some (.int (i : Int)))) H1 (.int x)) :
    EvL (tLc (iRng1 ta) (gName j) tYes te vs) σ H ((List.replicate n x).map V.int) := by
  have k := el_mapR (n := n) (fun _ => V.int x) h hn hw he
  have e : (List.range n).map (fun _ => V.int x) = (List.replicate n x).map V.int := by
    rw [List.map_replicate, List.map_const', List.length_range]
  rw [e] at k
  exact k
theorem sm_rep {n : Nat} {x : Int} (h : x.natAbs < 2 ^ 100) : Sm 100 (List.replicate n x) := fun y hy => by rw [List.eq_of_mem_replicate hy]; exact h
end
end K30

set_option Elab.async false
set_option linter.all false
set_option maxRecDepth 100000
set_option maxHeartbeats 8000000
namespace K30
open PySem PySem.Spec PyProof.Rows L2 Evl WS M30
def sp_law (K : PySem.W.Frag) : Sp := fun vs H Q _ => ∃ a, ∃ ns : List Int, vs = [.ref a] ∧ SqL K H a (ns.map V.int) ∧ ns.length ≤ 63 ∧ ∀ H', Q (.bl true) H'
theorem ss_nil {F : Addr → Prop} (H : Hp) : Ss F H [] [] := ⟨rfl, fun i v st hv => by simp at hv⟩
section
variable {P : Program} {w : World} {K : PySem.W.Frag} {mg : Str → Option Value} {base : Heap}
theorem ok_law (T : Tx K mg) : FnOk P w K mg base CX0 7 T.a_law T.d_law ["_law_script"] (sp_law K) := by
  refine T.f_law.ok (k := 6) sc_law (fun vs H Q E h => ?_) (fun cdv A outer s H vs Q E hr h => ?_)
  · obtain ⟨a, ns, rfl, _⟩ := h
    rfl
  · obtain ⟨a, ns, rfl, hS, hl, q⟩ := h
    refine ⟨_,       (pss_cons (ps_for PassesOwn.never rfl (pi_range1 rfl T.m_range (pa_cons pe_int pa_nil)) (pg_name (i := 1) sc_law.nd rfl (by first | exact Or.inl rfl | exact Or.inr rfl)) 
        (pss_cons (ps_set (i := 2) sc_law.nd rfl (by first | exact Or.inl rfl | exact Or.inr rfl) (pe_call (ok__law_purse T) (hr.mono (by decide)) (by rfl) T.g__law_purse T.f__law_purse.kp T.b__law_purse .nil pass0 (pa_cons (pv 0) (pa_cons (pv 1) pa_nil)))) 
        (pss_cons (ps_set (i := 3) sc_law.nd rfl (by first | exact Or.inl rfl | exact Or.inr rfl) (pe_op op_add pe_int (pe_call (ok__law_draw T) (hr.mono (by decide)) (by rfl) T.g__law_draw T.f__law_draw.kp T.b__law_draw .nil pass0 (pa_cons (pv 2) (pa_cons pe_int pa_nil))))) 
        (pss_cons (ps_set (i := 4) sc_law.nd rfl (by first | exact Or.inl rfl | exact Or.inr rfl) (pe_call (ok__law_steps T) (hr.mono (by decide)) (by rfl) T.g__law_steps T.f__law_steps.kp T.b__law_steps .nil pass0 (pa_cons (pv 2) (pa_cons (pv 3) (pa_cons pe_int (pa_cons pe_int pa_nil)))))) 
        (pss_cons (ps_set (i := 5) sc_law.nd rfl (by first | exact Or.inl rfl | exact Or.inr rfl) (pe_call (ok__law_copied T) (hr.mono (by decide)) (by rfl) T.g__law_copied T.f__law_copied.kp T.b__law_copied .nil pass0 (pa_cons (pv 4) pa_nil))) 
        (pss_cons (ps_par (i := 6) (j := 7) (by rfl) sc_law.nd rfl rfl (by decide) rfl rfl (pa_cons (pe_make T.mk_Mixer (ok_Mixer___init__ T) hr (by rfl) T.gC_Mixer T.b_Mixer___init__ .nil pass0 (pa_cons (pv 3) (pa_cons (pv 5) pa_nil))) (pa_cons (pe_lst pa_nil) pa_nil)) (by rfl)) 
        (pss_cons (ps_expr (pe_call (ok__law_spoil T) (hr.mono (by decide)) (by rfl) T.g__law_spoil T.f__law_spoil.kp T.b__law_spoil .nil pass0 (pa_cons (pv 5) pa_nil))) 
        (pss_cons (ps_if (pt_not (pt_val (pe_call (ok__law_kept T) (hr.mono (by decide)) (by rfl) T.g__law_kept T.f__law_kept.kp T.b__law_kept .nil pass0 (pa_cons (pv 6) (pa_cons (pv 3) (pa_cons (pv 4) pa_nil)))))) 
          (pss_one (ps_ret pe_bl)) pss_nil) 
        (pss_cons (ps_for PassesOwn.never rfl (pi_range1 rfl T.m_range (pa_cons pe_int pa_nil)) (pg_name (i := 8) sc_law.nd rfl (by first | exact Or.inl rfl | exact Or.inr rfl)) 
          (pss_one (ps_expr (pe_bm PySem.F.plainAttrs_list PySem.F.slot_list_append PySem.F.type_list_append mt_append (pv 7) (pa_cons (pe_lc (own := [("_law_way", 14)]) (g := gName 14) (tt := tYes) rfl sc_law.nd (pi_range1 rfl T.m_range (pa_cons (pv 3) pa_nil)) (blkOk_by (own := [("_law_way", 14)]) (N := ["_law_script", "_law_at", "_law_purse_here", "_law_wide", "_law_steps_here", "_law_handed", "_law_mixer", "_law_rows", "_law_turn", "_law_row", "_law_passed", "_law_told", "_law_back", "_law_side", "_law_way"]) (sc := defScope s_law) (by decide +kernel)) (fun _ _ _ _ _ => (pg_name (i := 14) sc_law.nd rfl (by first | exact Or.inl rfl | exact Or.inr rfl))) (fun _ _ _ _ _ => pts_nil) (fun _ _ _ _ _ => (pe_call (ok__law_number T) (hr.mono (by decide)) (by rfl) T.g__law_number T.f__law_number.kp T.b__law_number .nil pass0 (pa_cons (pv 2) pa_nil)))) pa_nil))))) 
        (pss_cons (ps_for PassesOwn.never rfl (pi_list (pe_op op_cat (pv 7) (pe_lst (pa_cons (pe_lc (own := [("_law_way", 14)]) (g := gName 14) (tt := tYes) rfl sc_law.nd (pi_range1 rfl T.m_range (pa_cons (pv 3) pa_nil)) (blkOk_by (own := [("_law_way", 14)]) (N := ["_law_script", "_law_at", "_law_purse_here", "_law_wide", "_law_steps_here", "_law_handed", "_law_mixer", "_law_rows", "_law_turn", "_law_row", "_law_passed", "_law_told", "_law_back", "_law_side", "_law_way"]) (sc := defScope s_law) (by decide +kernel)) (fun _ _ _ _ _ => (pg_name (i := 14) sc_law.nd rfl (by first | exact Or.inl rfl | exact Or.inr rfl))) (fun _ _ _ _ _ => pts_nil) (fun _ _ _ _ _ => pe_int)) (pa_cons (pe_lc (own := [("_law_way", 14)]) (g := gName 14) (tt := tYes) rfl sc_law.nd (pi_range1 rfl T.m_range (pa_cons (pv 3) pa_nil)) (blkOk_by (own := [("_law_way", 14)]) (N := ["_law_script", "_law_at", "_law_purse_here", "_law_wide", "_law_steps_here", "_law_handed", "_law_mixer", "_law_rows", "_law_turn", "_law_row", "_law_passed", "_law_told", "_law_back", "_law_side", "_law_way"]) (sc := defScope s_law) (by decide +kernel)) (fun _ _ _ _ _ => (pg_name (i := 14) sc_law.nd rfl (by first | exact Or.inl rfl | exact Or.inr rfl))) (fun _ _ _ _ _ => pts_nil) (fun _ _ _ _ _ => (pe_un un_neg pe_int))) pa_nil))))) (pg_name (i := 9) sc_law.nd rfl (by first | exact Or.inl rfl | exact Or.inr rfl)) 
          (pss_cons (ps_set (i := 10) sc_law.nd rfl (by first | exact Or.inl rfl | exact Or.inr rfl) (pe_callTy (T := "list") (r := rListS K) call_list_of (by rfl) T.m_list (by decide +kernel) (pa_cons (pv 9) pa_nil))) 
          (pss_cons (ps_par (i := 11) (j := 12) (by rfl) sc_law.nd rfl rfl (by decide) rfl rfl (pa_cons (pe_call (ok_mixed T) (hr.mono (by decide)) (by rfl) T.g_mixed T.f_mixed.kp T.b_mixed .nil pass0 (pa_cons (pv 6) (pa_cons (pv 10) pa_nil))) (pa_cons (pe_call (ok_unmixed T) (hr.mono (by decide)) (by rfl) T.g_unmixed T.f_unmixed.kp T.b_unmixed .nil pass0 (pa_cons (pv 6) (pa_cons (pv 10) pa_nil))) pa_nil)) (by rfl)) 
          (pss_cons (ps_if (PW.pt (pw_or (pt_cmpR (op_neD hr.units) (pv 10) (pv 9) (nomark _)) (pw_or (pt_not (pt_val (pe_call (ok__law_numbers_right T) (hr.mono (by decide)) (by rfl) T.g__law_numbers_right T.f__law_numbers_right.kp T.b__law_numbers_right .nil pass0 (pa_cons (pv 11) (pa_cons (pv 3) pa_nil))))) (pw_or1 (pt_not (pt_val (pe_call (ok__law_numbers_right T) (hr.mono (by decide)) (by rfl) T.g__law_numbers_right T.f__law_numbers_right.kp T.b__law_numbers_right .nil pass0 (pa_cons (pv 12) (pa_cons (pv 3) pa_nil))))))))) 
            (pss_one (ps_ret pe_bl)) pss_nil) 
          (pss_cons (ps_if (PW.pt (pw_or (pt_cmpR (op_neD hr.units) (pv 11) (pe_call (ok__law_played T) (hr.mono (by decide)) (by rfl) T.g__law_played T.f__law_played.kp T.b__law_played .nil pass0 (pa_cons (pv 4) (pa_cons (pv 9) pa_nil))) (nomark _)) (pw_or1 (pt_cmpR (op_neD hr.units) (pv 12) (pe_call (ok__law_led_back T) (hr.mono (by decide)) (by rfl) T.g__law_led_back T.f__law_led_back.kp T.b__law_led_back .nil pass0 (pa_cons (pv 4) (pa_cons (pv 9) pa_nil))) (nomark _))))) 
            (pss_one (ps_ret pe_bl)) pss_nil) 
          (pss_cons (ps_if (PW.pt (pw_or (pt_cmpR (op_neD hr.units) (pe_call (ok_unmixed T) (hr.mono (by decide)) (by rfl) T.g_unmixed T.f_unmixed.kp T.b_unmixed .nil pass0 (pa_cons (pv 6) (pa_cons (pv 11) pa_nil))) (pv 9) (nomark _)) (pw_or1 (pt_cmpR (op_neD hr.units) (pe_call (ok_mixed T) (hr.mono (by decide)) (by rfl) T.g_mixed T.f_mixed.kp T.b_mixed .nil pass0 (pa_cons (pv 6) (pa_cons (pv 12) pa_nil))) (pv 9) (nomark _))))) 
            (pss_one (ps_ret pe_bl)) pss_nil) 
          (pss_cons (ps_expr (pe_bm PySem.F.plainAttrs_list PySem.F.slot_list_append PySem.F.type_list_append mt_append (pv 11) (pa_cons pe_int pa_nil))) 
          (pss_one (ps_if (pt_cmpR (op_neD hr.units) (pe_call (ok_mixed T) (hr.mono (by decide)) (by rfl) T.g_mixed T.f_mixed.kp T.b_mixed .nil pass0 (pa_cons (pv 6) (pa_cons (pv 10) pa_nil))) (pe_slice (r := rSlL K) sl_list (pv 11) po_none (po_some (pe_un un_neg pe_int))) (nomark _)) 
            (pss_one (ps_ret pe_bl)) pss_nil))))))))) 
        (pss_cons (ps_if (PW.pt (pw_or (pt_cmpR (op_ownNe (C := T.C_Mixer) (ok_Mixer___eq__ T) T.q_Mixer.1 T.ne_Mixer T.is_Mixer.2.2.2 T.q_Mixer.2 T.b_Mixer___eq__ pass0 (hr.mono (by decide))) (pv 6) (pe_make T.mk_Mixer (ok_Mixer___init__ T) hr (by rfl) T.gC_Mixer T.b_Mixer___init__ .nil pass0 (pa_cons (pv 3) (pa_cons (pe_call (ok__law_copied T) (hr.mono (by decide)) (by rfl) T.g__law_copied T.f__law_copied.kp T.b__law_copied .nil pass0 (pa_cons (pv 4) pa_nil)) pa_nil))) (nomark _)) (pw_or (pt_cmpR (op_own (C := T.C_Mixer) (ok_Mixer___eq__ T) T.q_Mixer.1 T.q_Mixer.2 T.b_Mixer___eq__ pass0 (hr.mono (by decide))) (pv 6) (pe_make T.mk_Mixer (ok_Mixer___init__ T) hr (by rfl) T.gC_Mixer T.b_Mixer___init__ .nil pass0 (pa_cons (pv 3) (pa_cons (pe_op op_cat (pv 4) (pe_lst (pa_cons (pe_tup (pa_cons pe_str (pa_cons pe_int pa_nil))) pa_nil))) pa_nil))) (nomark _)) (pw_or1 (pt_cmpR (op_own (C := T.C_Mixer) (ok_Mixer___eq__ T) T.q_Mixer.1 T.q_Mixer.2 T.b_Mixer___eq__ pass0 (hr.mono (by decide))) (pv 6) (pv 4) (nomark _)))))) 
          (pss_one (ps_ret pe_bl)) pss_nil) 
        (pss_one (ps_if (pt_not (pt_val (pe_call (ok__law_kept T) (hr.mono (by decide)) (by rfl) T.g__law_kept T.f__law_kept.kp T.b__law_kept .nil pass0 (pa_cons (pv 6) (pa_cons (pv 3) (pa_cons (pv 4) pa_nil)))))) 
          (pss_one (ps_ret pe_bl)) pss_nil))))))))))))) 
      (pss_cons (ps_set (i := 13) sc_law.nd rfl (by first | exact Or.inl rfl | exact Or.inr rfl) (pe_make T.mk_Mixer (ok_Mixer___init__ T) hr (by rfl) T.gC_Mixer T.b_Mixer___init__ .nil pass0 (pa_cons pe_int (pa_cons (pe_lst (pa_cons (pe_tup (pa_cons pe_str (pa_cons pe_int (pa_cons (pe_lst (pa_cons (pe_un un_neg pe_int) (pa_cons pe_int pa_nil))) (pa_cons pe_int pa_nil))))) (pa_cons (pe_tup (pa_cons pe_str (pa_cons pe_int (pa_cons (pe_lst (pa_cons pe_int (pa_cons pe_int pa_nil))) (pa_cons pe_int pa_nil))))) pa_nil))) pa_nil)))) 
      (pss_cons (ps_if (PW.pt (pw_or (pt_cmpR (op_neD hr.units) (pe_call (ok_mixed T) (hr.mono (by decide)) (by rfl) T.g_mixed T.f_mixed.kp T.b_mixed .nil pass0 (pa_cons (pv 13) (pa_cons (pe_lst (pa_cons pe_int (pa_cons pe_int pa_nil))) pa_nil))) (pe_lst (pa_cons pe_int (pa_cons pe_int pa_nil))) (nomark _)) (pw_or (pt_cmpR (op_neD hr.units) (pe_call (ok_unmixed T) (hr.mono (by decide)) (by rfl) T.g_unmixed T.f_unmixed.kp T.b_unmixed .nil pass0 (pa_cons (pv 13) (pa_cons (pe_lst (pa_cons pe_int (pa_cons pe_int pa_nil))) pa_nil))) (pe_lst (pa_cons pe_int (pa_cons pe_int pa_nil))) (nomark _)) (pw_or1 (pt_cmpR (op_neD hr.units) (pe_call (ok_mixed T) (hr.mono (by decide)) (by rfl) T.g_mixed T.f_mixed.kp T.b_mixed .nil pass0 (pa_cons (pv 13) (pa_cons (pe_lst (pa_cons pe_int (pa_cons pe_int pa_nil))) pa_nil))) (pe_lst (pa_cons pe_int (pa_cons (pe_un un_neg pe_int) pa_nil))) (nomark _)))))) 
        (pss_one (ps_ret pe_bl)) pss_nil) 
      (pss_cons (ps_if (PW.pt (pw_or (pt_cmpR (op_own (C := T.C_Mixer) (ok_Mixer___eq__ T) T.q_Mixer.1 T.q_Mixer.2 T.b_Mixer___eq__ pass0 (hr.mono (by decide))) (pe_make T.mk_Mixer (ok_Mixer___init__ T) hr (by rfl) T.gC_Mixer T.b_Mixer___init__ .nil pass0 (pa_cons pe_int (pa_cons (pe_lst pa_nil) pa_nil))) (pe_make T.mk_Mixer (ok_Mixer___init__ T) hr (by rfl) T.gC_Mixer T.b_Mixer___init__ .nil pass0 (pa_cons pe_int (pa_cons (pe_lst pa_nil) pa_nil))) (nomark _)) (pw_or1 (pt_cmpR (op_neD hr.units) (pe_call (ok_mixed T) (hr.mono (by decide)) (by rfl) T.g_mixed T.f_mixed.kp T.b_mixed .nil pass0 (pa_cons (pe_make T.mk_Mixer (ok_Mixer___init__ T) hr (by rfl) T.gC_Mixer T.b_Mixer___init__ .nil pass0 (pa_cons pe_int (pa_cons (pe_lst pa_nil) pa_nil))) (pa_cons (pe_lst (pa_cons pe_int (pa_cons pe_int (pa_cons pe_int pa_nil)))) pa_nil))) (pe_lst (pa_cons pe_int (pa_cons pe_int (pa_cons pe_int pa_nil)))) (nomark _))))) 
        (pss_one (ps_ret pe_bl)) pss_nil) 
      (pss_one (ps_ret (pe_cmpR (op_eqD hr.units) (pe_call (ok_mixed T) (hr.mono (by decide)) (by rfl) T.g_mixed T.f_mixed.kp T.b_mixed .nil pass0 (pa_cons (pe_make T.mk_Mixer (ok_Mixer___init__ T) hr (by rfl) T.gC_Mixer T.b_Mixer___init__ .nil pass0 (pa_cons pe_int (pa_cons (pe_lst (pa_cons (pe_tup (pa_cons pe_str (pa_cons pe_int (pa_cons pe_int pa_nil)))) (pa_cons (pe_tup (pa_cons pe_str (pa_cons pe_int pa_nil))) pa_nil))) pa_nil))) (pa_cons (pe_lst (pa_cons (pe_op op_powW pe_int pe_int) (pa_cons pe_int pa_nil))) pa_nil))) (pe_lst (pa_cons (pe_un un_neg pe_int) (pa_cons (pe_op op_powW pe_int pe_int) pa_nil))) (nomark _)))))))), ?_⟩
    refine q_forR1 (n := 2) (ea_cons ev_c ea_nil) (by decide) (fun i σ' H' => ∃ y1 y2 y3 y4 y5 y6 y7 y8 y9 y10 y11 y12 y13 y14, σ' = [some (.ref a), y1, y2, y3, y4, y5, y6, y7, y8, y9, y10, y11, y12, y13, y14] ∧ Ex H H') (fun H1 e1 => ⟨none, none, none, none, none, none, none, none, none, none, none, none, none, none, rfl, e1⟩) (fun i σ' H' hi hP => ?_) (fun σ' H' hP => ?_)
    · obtain ⟨y1, y2, y3, y4, y5, y6, y7, y8, y9, y10, y11, y12, y13, y14, rfl, eH⟩ := hP
      -- the purse
      refine q_in ⟨.ref a, rfl, .int (i : Int), rfl, a, ns, i, rfl, ex_l eH hS, hl, by omega, fun g H1 hg0 e1 hG1 => ?_⟩
      -- wide
      refine q_in (top_in (ev_use ev_c fun H2 e2 => draw_use (n := 4) (ev_var rfl) ev_c (hG1.ex e2) (by omega) (by decide) (by decide) fun wd H3 w0 w1 hG3 E3 => ⟨_, _, rfl, rfl, ?_⟩))
      obtain ⟨n, hn⟩ : ∃ n : Nat, 1 + wd = (n : Int) := ⟨(1 + wd).toNat, by omega⟩
      have n1 : 1 ≤ n := by omega
      have n4 : n ≤ 4 := by omega
      dsimp only
      rw [hn]
      have eH3 : Ex H H3 := exb_new (eH.trans (e1.trans e2)) (by
        cases hb : H g with
        | none => rfl
        | some u => rw [eH _ _ hb] at hg0; cases hg0) E3
      -- the steps
      refine q_in ⟨.ref g, rfl, .int (n : Int), rfl, g, n, _, rfl, hG3, by omega, n1, n4, fun D sts H4 hD hSt hok hlen hG4 E4 => ?_⟩
      have hg0H : H g = none := by
        cases hb : H g with
        | none => rfl
        | some u => rw [eH _ _ hb] at hg0; cases hg0
      have eH4 : Ex H H4 := exb_new eH3 hg0H E4
      -- handed
      refine q_in ⟨.ref D, rfl, D, _, sts, rfl, hSt, by omega, fun D5 H5 hD5 e5 hS5 => ?_⟩
      -- the mixer, rows
      refine q_par (ta_in (mx_make (ea_cons (ev_var rfl) (ea_cons (ev_var rfl) ea_nil)) hS5 n1 n4 hok (by omega) fun p H6 hp6 e6 hM6 => ta_consL (xs := []) (el_lst ea_nil (by decide)) fun r H7 hr7 e7 k7 => ⟨_, _, rfl, ?_⟩))
      have e57 := e6.trans e7
      -- spoil(handed)
      refine ⟨.ref D5, rfl, D5, fun b => H4 b = none ∧ H5 b ≠ none, sts, n, rfl, (hS5.mono fun b o hb hn => ⟨hn, by rw [hb]; intro z; cases z⟩).ex e57, hok, n4, by omega, fun H8 fr => ?_⟩
      have e48 : Ex H4 H8 := fun b o h => fr b o (e57 _ _ (e5 _ _ h)) fun _ z => by have z1 := z.1; rw [h] at z1; cases z1
      have hM8 : Mx T (fun b => H5 b = none ∧ H6 b ≠ none) H8 p n sts := ((hM6.mono (G := fun b => H5 b = none ∧ H6 b ≠ none) fun b o hb hn => ⟨hn, by rw [hb]; intro z; cases z⟩).ex e7).fr fun b o hb hlst => fr b o hb fun z y => y.2 (hlst z).1
      have r5 : H5 r = none := fresh_back e6 hr7
      have k8 : H8 r = some (.lst []) := fr _ _ k7 fun _ y => y.2 r5
      have hG8 := hG4.ex e48
      have hS8 := hSt.ex e48
      obtain ⟨og4, hog4⟩ := hG4.some
      obtain ⟨og3, hog3⟩ := hG3.some
      have hog5 := e5 _ _ hog4
      have rg : r ≠ g := fun z => by rw [z, hog5] at r5; cases r5
      have eH8 := eH4.trans e48
      have r0 : H r = none := fresh_back (eH4.trans e5) r5
      dsimp only
      refine q_when (b := false) (et_not (a := true) (et_B (ev_call (ea_cons (ev_var rfl) (ea_cons (ev_var rfl) (ea_cons (ev_var rfl) ea_nil))) (spv fun Hx e Q q E => ⟨p, _, sts, D, _, n, rfl, hM8.ex e, hS8.ex e, q⟩)))) (fun z => by cases z) (fun _ H9 e9 => ?_)
      have hM9 : Mx T (fun b => b ≠ g ∧ b ≠ r) H9 p n sts := (hM8.ex e9).mono fun b o hb hn => ⟨fun z => (by have z1 := hn.1; rw [z, hog5] at z1; cases z1), fun z => (by have z1 := hn.2; rw [z] at z1; exact z1 hr7)⟩
      have hS9 : Sts (fun b => b ≠ g ∧ b ≠ r) H9 D sts := ((hSt.mono (G := fun b => b ≠ g ∧ b ≠ r) fun b o hb hn => ⟨fun z => (by rw [z, hog3] at hn; cases hn), fun z => (by rw [z] at hb; rw [e5 _ _ hb] at r5; cases r5)⟩).ex e48).ex e9
      have k9 := e9 _ _ k8
      have hG9 := hG8.ex e9
      have eH9 := eH8.trans e9
      -- rows
      refine q_forR1 (n := 3) (ea_cons ev_c ea_nil) (by decide) (fun m σ' H' => ∃ (y8 : Option V) (rr : List V), σ' = [some (.ref a), some (.int (i : Int)), some (.ref g), some (.int (n : Int)), some (.ref D), some (.ref D5), some (.ref p), some (.ref r), y8, y9, y10, y11, y12, y13, y14] ∧ Fr (fun b => b ≠ g ∧ b ≠ r) H9 H' ∧ Ex H H' ∧ H' r = some (.lst rr) ∧ rr.length = m ∧
        (∀ v ∈ rr, ∃ q row, v = .ref q ∧ Li H' q row ∧ row.length = n ∧ Sm 100 row ∧ q ≠ g ∧ q ≠ r) ∧ Gs H' g (1000 * i + 2001 + 100 * m)) (fun Hx ex => ⟨y8, [], rfl, Fr.of ex, eH9.trans ex, ex _ _ k9, rfl, fun v hv => absurd hv List.not_mem_nil, (hG9.ex ex).mono (by omega)⟩) (fun m σ' H' hm hP => ?_) (fun σ' H10 hP => ?_)
      · obtain ⟨y8', rr, rfl, fr9, eHx, kr, hlr, hrr, hG⟩ := hP
        refine ⟨.ref r, rfl, Or.inl ⟨rfl, rr, sq_of kr⟩, ?_⟩
        refine ta_in (ints_use (fun z => z.natAbs < 2 ^ 100) (n := n) (d := 10) (ea_cons (ev_var rfl) ea_nil) (by omega) (fun _ => rfl) hG (fun j H'' R hj hG' hE k => ⟨.ref g, rfl, g, _, rfl, hG', by omega, k⟩) fun Dn H2' zs hDn hlz hz hL hG2 hE2 => ⟨r, rr, .ref Dn, rfl, rfl, hE2 r _ rg kr, sz_lt (by omega), ?_⟩)
        obtain ⟨A, B, c, hgl, _⟩ := hG
        have nDg : Dn ≠ g := fun z => by rw [z, hgl] at hDn; cases hDn
        have nDr : Dn ≠ r := fun z => by rw [z, kr] at hDn; cases hDn
        refine ⟨_, rr ++ [.ref Dn], rfl, fun b o hb hlst => ?_, Ex.mut (exb_new eHx hg0H hE2) r0, upd_same, by rw [List.length_append, hlr]; rfl, fun v hv => ?_, (hG2.upd (Ne.symm rg)).mono (by omega)⟩
        · have hb' := fr9 b o hb hlst
          have bg : b ≠ g := fun z => by
            subst z
            rw [hgl] at hb'
            exact (hlst ⟨_, (Option.some.inj hb').symm⟩).1 rfl
          have br : b ≠ r := fun z => by
            subst z
            rw [kr] at hb'
            exact (hlst ⟨_, (Option.some.inj hb').symm⟩).2 rfl
          rw [upd_ne br]
          exact hE2 b o bg hb'
        · rcases List.mem_append.mp hv with hv | hv
          · obtain ⟨q', row, rfl, l1, l2, l3, l4, l5⟩ := hrr v hv
            exact ⟨q', row, rfl, (upd_ne l5).trans (hE2 q' _ l4 l1), l2, l3, l4, l5⟩
          · rw [List.mem_singleton] at hv
            subst hv
            exact ⟨Dn, zs, rfl, (upd_ne nDr).trans hL, hlz, hz, nDg, nDr⟩
      obtain ⟨y8', rr, rfl, fr9, eH10, kr, hlr, hrr, hG10⟩ := hP
      have hM10 := hM9.fr fr9
      have hS10 := hS9.fr fr9
      -- the rows asked
      refine ⟨.ref r, rfl, ?_⟩
      refine tl_lst (ta_in (el_use (el_rep (n := n) (x := 0) (ea_cons (ev_var rfl) ea_nil) (by omega) (fun _ => rfl) (fun _ _ _ _ => ev_c)) fun p0 Ha h0 ea k0 => ta_in (el_use (el_rep (n := n) (x := -1) (ea_cons (ev_var rfl) ea_nil) (by omega) (fun _ => rfl) (fun _ _ _ _ => ev_un ev_c ru_neg)) fun p1 Hb h1 eb k1 => ⟨by show 2 ≤ sizeLine; decide, fun qq hqq => ?_⟩)))
      have eq1 := Ex.new (o := .lst [V.ref p0, V.ref p1]) hqq
      have hlr3 : rr.length = 3 := hlr
      refine ⟨r, qq, rr, [.ref p0, .ref p1], rfl, rfl, eq1 _ _ (eb _ _ (ea _ _ kr)), upd_same, by rw [hlr3]; show 3 + 2 ≤ sizeLine; decide, fun L hL => ?_⟩
      have eq2 := Ex.new (o := .lst (rr ++ [V.ref p0, V.ref p1])) hL
      have e1011 := ((ea.trans eb).trans eq1).trans eq2
      have kL : (upd (upd Hb qq (.lst [V.ref p0, V.ref p1])) L (.lst (rr ++ [V.ref p0, V.ref p1]))) L = some (.lst (rr ++ [V.ref p0, V.ref p1])) := upd_same
      have k0' := eq2 _ _ (eq1 _ _ (eb _ _ k0))
      have k1' := eq2 _ _ (eq1 _ _ k1)
      generalize upd (upd Hb qq (.lst [V.ref p0, V.ref p1])) L (.lst (rr ++ [V.ref p0, V.ref p1])) = H11 at e1011 kL k0' k1' ⊢
      have rows : ∀ v ∈ rr ++ [V.ref p0, V.ref p1], RowP H11 n v := fun v hv => by
        rcases List.mem_append.mp hv with hv | hv
        · obtain ⟨q', row, rfl, l1, l2, l3, _⟩ := hrr v hv
          exact ⟨q', row, rfl, l1.ex e1011, l2, l3⟩
        · simp only [List.mem_cons, List.not_mem_nil, or_false] at hv
          rcases hv with rfl | rfl
          · exact ⟨p0, _, rfl, k0', List.length_replicate, sm_rep (by decide)⟩
          · exact ⟨p1, _, rfl, k1', List.length_replicate, sm_rep (by decide)⟩
      have hM11 := hM10.ex e1011
      have hS11 := hS10.ex e1011
      refine ⟨L, rfl, ⟨_, sq_of kL⟩, for_list (xs := rr ++ [.ref p0, .ref p1]) (fun m σ' H' => ∃ y9 y10 y11 y12, σ' = [some (.ref a), some (.int (i : Int)), some (.ref g), some (.int (n : Int)), some (.ref D), some (.ref D5), some (.ref p), some (.ref r), y8', y9, y10, y11, y12, y13, y14] ∧ Ex H11 H') ⟨y9, y10, y11, y12, rfl, Ex.refl H11⟩ (fun m σ' H' _ hP => ?_) (fun m x σ' H' hx hP => ?_) (fun σ' H' hP => ?_)⟩
      · obtain ⟨_, _, _, _, _, e⟩ := hP
        exact sq_of (e _ _ kL)
      · obtain ⟨z9, z10, z11, z12, rfl, e11⟩ := hP
        obtain ⟨qr, row, rfl, hrow, hlen', hsm⟩ := (rows x (List.mem_of_getElem? hx)).ex e11
        dsimp only [gName]
        have sm1 := runs_sm (n := n) (sg := 1) (.inl rfl) hok hsm (by omega)
        have sm2 := runs_sm (n := n) (sg := -1) (.inr rfl) (sts := sts.reverse) (fun s h => hok s (List.mem_reverse.mp h)) hsm (by omega)
        rw [List.length_reverse] at sm2
        refine q_asgL (el_list (K := K) (ev_var rfl) hrow.sq) fun pa H12 hpa e12 k12 => ?_
        refine q_par (ta_consL (el_mixed (m := 100) (ev_var rfl) (ev_var rfl) (hM11.ex (e11.trans e12)) k12 hlen' hsm (by omega)) fun t H13 ht e13 k13 => ta_consL (el_unmixed (m := 100) (ev_var rfl) (ev_var rfl) (hM11.ex ((e11.trans e12).trans e13)) (e13 _ _ k12) hlen' hsm (by omega)) fun b H14 hb e14 k14 => ⟨_, _, rfl, ?_⟩)
        have e1114 := ((e11.trans e12).trans e13).trans e14
        have hM := hM11.ex e1114
        have hSs := hS11.ex e1114
        have kp : Li H14 pa row := e14 _ _ (e13 _ _ k12)
        have kt : Li H14 t (runs 1 sts row) := e14 _ _ k13
        have kb : Li H14 b (runs (-1) sts.reverse row) := k14
        have hrow := ((hrow.ex e12).ex e13).ex e14
        have lt : (runs 1 sts row).length = n := by rw [runs_len, hlen']
        have lb : (runs (-1) sts.reverse row).length = n := by rw [runs_len, hlen']
        refine q_when (b := false) (et_or (a := false) (et_test (ev_op (ev_var rfl) (ev_var rfl) (rv_neR (K := K) kp hrow rfl))) fun _ => et_or (a := false) (et_not (a := true) (et_B (ev_call (ea_cons (ev_var rfl) (ea_cons (ev_var rfl) ea_nil)) (spv fun H1 e Q q E => ⟨t, _, by rw [lt]; rfl, kt.ex e, by omega, q⟩)))) fun _ => et_not (a := true) (et_B (ev_call (ea_cons (ev_var rfl) (ea_cons (ev_var rfl) ea_nil)) (spv fun H1 e Q q E => ⟨b, _, by rw [lb]; rfl, kb.ex e, by omega, q⟩)))) (fun z => by cases z) (fun _ H15 e15 => ?_)
        have hM := hM.ex e15
        have hSs := hSs.ex e15
        have kp := kp.ex e15
        have kt := kt.ex e15
        have kb := kb.ex e15
        have hrow := hrow.ex e15
        have okr : ∀ st ∈ sts, Ok row.length st := by rw [hlen']; exact hok
        refine q_when (b := false) (et_or (a := false) (et_test (ev_opL (ev_var rfl) (el_callR (ea_cons (ev_var rfl) (ea_cons (ev_var rfl) ea_nil)) fun H1 e Q q E => ⟨D, _, sts, qr, row, rfl, hSs.ex e, okr, by omega, hrow.ex e, by omega, ⟨100, hsm, by omega⟩, q⟩) fun x1 H1 hx1 e => rv_neR (K := K) (kt.ex e) hx1 rfl)) fun _ => et_test (ev_opL (ev_var rfl) (el_callR (ea_cons (ev_var rfl) (ea_cons (ev_var rfl) ea_nil)) fun H1 e Q q E => ⟨D, _, sts, qr, row, rfl, hSs.ex e, okr, by omega, hrow.ex e, by omega, ⟨100, hsm, by omega⟩, q⟩) fun x1 H1 hx1 e => rv_neR (K := K) (kb.ex e) hx1 rfl)) (fun z => by cases z) (fun _ H16 e16 => ?_)
        have hM := hM.ex e16
        have kp := kp.ex e16
        have kt := kt.ex e16
        have kb := kb.ex e16
        have hrow := hrow.ex e16
        refine q_when (b := false) (et_or (a := false) (et_test (ev_opL1 (el_unmixed (ev_var rfl) (ev_var rfl) hM kt lt sm1 (by omega)) (fun _ _ => ev_var rfl) fun x1 H1 hx1 e => rv_neR (K := K) hx1 (hrow.ex e) (forth hok hlen'))) fun _ => et_test (ev_opL1 (el_mixed (ev_var rfl) (ev_var rfl) hM kb lb sm2 (by omega)) (fun _ _ => ev_var rfl) fun x1 H1 hx1 e => rv_neR (K := K) hx1 (hrow.ex e) (back hok hlen'))) (fun z => by cases z) (fun _ H17 e17 => ?_)
        refine q_app (l := t) (xs := (runs 1 sts row).map V.int) (e17 _ _ kt) (ev_var rfl) ev_c (by rw [List.length_map, lt]; omega) fun H18 e18 => ?_
        have e1718 := e17.trans e18
        have ht11 : H11 t = none := fresh_back (e11.trans e12) ht
        have ntp : ∀ {z : Addr} {o : HO}, H11 z = some o → z ≠ t := fun hz => ne_of_none hz ht11
        have npt : pa ≠ t := fun z => by rw [z, ht] at k12; cases k12
        have eA := ((((e1114.trans e15).trans e16).trans e17).trans e18)
        have eB : Ex H11 (upd H18 t (.lst ((runs 1 sts row).map V.int ++ [V.int 0]))) := Ex.mut eA ht11
        have kp18 : Li (upd H18 t (.lst ((runs 1 sts row).map V.int ++ [V.int 0]))) pa row := (upd_ne npt).trans (e1718 _ _ kp)
        refine s_when (b := false) (et_test (ev_opLL (el_mixed (m := 100) (ev_var rfl) (ev_var rfl) (hM11.ex eB) kp18 hlen' hsm (by omega)) (el_sl (K := K) (ev_var rfl) eo_none (eo_some (ev_un ev_c ru_neg)) (sq_of upd_same)) fun x1 x2 H1 hx1 hx2 e => rv_neR (K := K) hx1 (by rw [cut_last] at hx2; exact hx2) rfl)) (fun z => by cases z) (fun _ H19 e19 => ⟨_, _, _, _, rfl, eB.trans e19⟩)
      obtain ⟨z9, z10, z11, z12, rfl, e11⟩ := hP
      have hM := hM11.ex e11
      have hSs := hS11.ex e11
      have eH' := (eH10.trans e1011).trans e11
      dsimp only
      refine q_when (b := false) (et_or (a := false) (et_test ?_) fun _ => et_or (a := false) (et_test ?_) fun _ => et_test ?_) (fun z => by cases z) (fun _ Hd ed => ?_)
      · exact fun H1 e Q k => ⟨.ref p, rfl, .int (n : Int), rfl, .ref D, rfl, D, _, sts, rfl, hSs.ex e, by omega, fun D2 H2 hD2 e2 hS2 => mk_at hS2 n1 n4 hok (by omega) fun p2 H3 hp2 e3 hM2 => own_eq (K := K) (b := true) (neg := true) (hM.ex ((e.trans e2).trans e3)) (.inl ⟨p2, _, n, sts, rfl, hM2, .inl ⟨rfl, rfl, rfl⟩⟩) fun H4 e4 => k H4 ((e2.trans e3).trans e4)⟩
      · intro H1 e Q k
        obtain ⟨_, vs, hvs, hss⟩ := hSs.ex e
        refine ⟨.ref p, rfl, .int (n : Int), rfl, .ref D, rfl, by show 2 ≤ sizeLine; decide, fun t ht => ⟨by show 1 ≤ sizeLine; decide, fun qn hqn => ?_⟩⟩
        have eT := Ex.new (o := .tup [V.str (Str.ofString "turn"), V.int 0]) ht
        have eQ := Ex.new (o := .lst [V.ref t]) hqn
        refine ⟨D, qn, vs, [.ref t], rfl, rfl, eQ _ _ (eT _ _ hvs), upd_same, sz_of (by rw [hss.1]; show sts.length + 1 ≤ 100000; omega), fun L2 hL2 => ?_⟩
        have eL := Ex.new (o := .lst (vs ++ [V.ref t])) hL2
        have eTL := (eT.trans eQ).trans eL
        have kt : StV (fun _ => True) _ (.ref t) (.turn 0) := ⟨t, rfl, eL _ _ (eQ _ _ upd_same)⟩
        refine mk_at (F := fun _ => True) (sts := sts ++ [.turn 0]) ⟨trivial, _, upd_same, ((hss.mono (G := fun _ => True) fun _ _ _ _ => trivial).fr (Fr.of eTL)).snoc kt⟩ n1 n4 (fun st hst => ?_) (by rw [List.length_append]; show sts.length + 1 ≤ 1000; omega) fun p2 H3 hp2 e3 hM2 => own_eq (K := K) (b := false) (neg := false) (hM.ex ((e.trans eTL).trans e3)) (.inl ⟨p2, _, n, _, rfl, hM2, .inr (.inr ⟨rfl, by simp, rfl⟩)⟩) fun H4 e4 => k H4 ((eTL.trans e3).trans e4)
        rcases List.mem_append.mp hst with h | h
        · exact hok st h
        · rw [List.mem_singleton] at h
          rw [h]
          exact (show 0 < n by omega)
      · intro H1 e Q k
        obtain ⟨_, vs, hvs, hss⟩ := hSs.ex e
        exact ⟨.ref p, rfl, .ref D, rfl, own_eq (K := K) (b := false) (neg := false) (hM.ex e) (.inr ⟨D, vs, rfl, hvs, rfl⟩) k⟩
      exact s_when (b := false) (et_not (a := true) (et_B (ev_call (ea_cons (ev_var rfl) (ea_cons (ev_var rfl) (ea_cons (ev_var rfl) ea_nil))) (spv fun Hx e Q q E => ⟨p, _, sts, D, _, n, rfl, (hM.ex ed).ex e, (hSs.ex ed).ex e, q⟩)))) (fun z => by cases z) (fun _ He ee => ⟨_, _, _, _, _, _, _, _, _, _, _, _, _, _, rfl, (eH'.trans ed).trans ee⟩)
    · obtain ⟨y1, y2, y3, y4, y5, y6, y7, y8, y9, y10, y11, y12, y13, y14, rfl, eH⟩ := hP
      have nil_ : ∀ {H : Hp} {s : Addr}, Sts (fun _ => True) (upd H s (.lst [])) s [] := ⟨trivial, [], upd_same, rfl, fun i v st hv => by simp at hv⟩
      -- side
      refine q_in ⟨1, rfl, by show 2 ≤ sizeLine; decide, fun u1 hu1 => ⟨by show 4 ≤ sizeLine; decide, fun t1 ht1 => ⟨by show 2 ≤ sizeLine; decide, fun u2 hu2 => ⟨by show 4 ≤ sizeLine; decide, fun t2 ht2 => ⟨by show 2 ≤ sizeLine; decide, fun s1 hs1 => ?_⟩⟩⟩⟩⟩
      have a2 := Ex.new (o := .tup [V.str (Str.ofString "lift"), V.int 1, V.ref u1, V.int 0]) ht1
      have a3 := Ex.new (o := .lst [V.int 0, V.int 1]) hu2
      have a4 := Ex.new (o := .tup [V.str (Str.ofString "lift"), V.int 0, V.ref u2, V.int 1]) ht2
      have a5 := Ex.new (o := .lst [V.ref t1, V.ref t2]) hs1
      have v1 : StV (fun _ => True) _ (.ref t1) (.lift 1 [-1, 0] 0) := ⟨t1, u1, rfl, ((a3.trans a4).trans a5) _ _ upd_same, (((a2.trans a3).trans a4).trans a5) _ _ upd_same, trivial⟩
      have v2 : StV (fun _ => True) _ (.ref t2) (.lift 0 [0, 1] 1) := ⟨t2, u2, rfl, a5 _ _ upd_same, (a4.trans a5) _ _ upd_same, trivial⟩
      refine mk_at (F := fun _ => True) (n := 2) (sts := [.lift 1 [-1, 0] 0, .lift 0 [0, 1] 1]) ⟨trivial, [.ref t1, .ref t2], upd_same, (Ss.snoc (ss_nil _) v1).snoc v2⟩ (by decide) (by decide) (fun st hst => ?_) (by decide) fun p H2 hp e2 hM => ?_
      · simp only [List.mem_cons, List.not_mem_nil, or_false] at hst
        rcases hst with rfl | rfl
        · exact ⟨by decide, rfl, by decide, by decide, by decide⟩
        · exact ⟨by decide, rfl, by decide, by decide, by decide⟩
      dsimp only
      have sm : ∀ x y : Int, x.natAbs < 2 ^ 100 → y.natAbs < 2 ^ 100 → Sm 100 [x, y] := fun x y h1 h2 z hz => by
        simp only [List.mem_cons, List.not_mem_nil, or_false] at hz
        rcases hz with rfl | rfl
        · exact h1
        · exact h2
      refine q_when (b := false) (et_or (a := false) (et_test (ev_opLL (el_mixedN (row := [5, 8]) (m := 100) (ev_var rfl) (el_lst (ea_cons ev_c (ea_cons ev_c ea_nil)) (by decide)) hM rfl (sm _ _ (by decide) (by decide)) (by decide)) (el_lst (ea_cons ev_c (ea_cons ev_c ea_nil)) (by decide)) fun x1 x2 H1 h1 h2 e => rv_neR (K := K) (ms := [6, 3]) h1 h2 (by decide +kernel))) fun _ =>
        et_or (a := false) (et_test (ev_opLL (el_unmixedN (row := [6, 3]) (m := 100) (ev_var rfl) (el_lst (ea_cons ev_c (ea_cons ev_c ea_nil)) (by decide)) hM rfl (sm _ _ (by decide) (by decide)) (by decide)) (el_lst (ea_cons ev_c (ea_cons ev_c ea_nil)) (by decide)) fun x1 x2 H1 h1 h2 e => rv_neR (K := K) (ms := [5, 8]) h1 h2 (by decide +kernel))) fun _ =>
        et_test (ev_opLL (el_mixedN (row := [8, 5]) (m := 100) (ev_var rfl) (el_lst (ea_cons ev_c (ea_cons ev_c ea_nil)) (by decide)) hM rfl (sm _ _ (by decide) (by decide)) (by decide)) (el_lst (ea_cons ev_c (ea_cons (ev_un ev_c ru_neg) ea_nil)) (by decide)) fun x1 x2 H1 h1 h2 e => rv_neR (K := K) (ms := [6, -3]) h1 h2 (by decide +kernel))) (fun z => by cases z) (fun _ H3 e3 => ?_)
      refine q_when (b := false) (et_or (a := false) (et_test ?_) fun _ => et_test ?_) (fun z => by cases z) (fun _ H4 e4 => ?_)
      · exact fun H1 e Q k => ⟨by show 0 ≤ sizeLine; decide, fun s hs => mk_at (n := 1) (sts := []) nil_ (by decide) (by decide) (fun st h => absurd h List.not_mem_nil) (by decide) fun p1 H2 hp1 e2 hM1 => ⟨by show 0 ≤ sizeLine; decide, fun s2 hs2 => mk_at (n := 2) (sts := []) nil_ (by decide) (by decide) (fun st h => absurd h List.not_mem_nil) (by decide) fun p2 H3 hp2 e3 hM2 =>
          own_eq (K := K) (b := false) (neg := false) (hM1.ex ((Ex.new hs2).trans e3)) (.inl ⟨p2, _, 2, [], rfl, hM2, .inr (.inl ⟨by decide, rfl⟩)⟩) fun H4 e4 => k H4 (((((Ex.new hs).trans e2).trans (Ex.new hs2)).trans e3).trans e4)⟩⟩
      · exact fun H1 e Q k => ⟨by show 0 ≤ sizeLine; decide, fun s hs => mk_at (n := 3) (sts := []) nil_ (by decide) (by decide) (fun st h => absurd h List.not_mem_nil) (by decide) fun p1 H2 hp1 e2 hM1 => ⟨by show 3 ≤ sizeLine; decide, fun a3 ha3 => ⟨p1, _, 3, [], a3, [1, 2, 3], rfl, hM1.ex (Ex.new ha3), upd_same, rfl, ⟨100, by
            intro z hz
            simp only [List.mem_cons, List.not_mem_nil, or_false] at hz
            rcases hz with rfl | rfl | rfl <;> decide, by decide⟩, fun x H3 hx e3 k3 => ⟨by show 3 ≤ sizeLine; decide, fun b3 hb3 => rv_neR (K := K) (ns := [1, 2, 3]) (ms := [1, 2, 3]) (Ex.new hb3 _ _ k3) upd_same rfl _ (Ex.refl _) _ fun H5 e5 => k H5 ((((((Ex.new hs).trans e2).trans (Ex.new ha3)).trans e3).trans (Ex.new hb3)).trans e5)⟩⟩⟩⟩
      refine r_in ⟨by show 3 ≤ sizeLine; decide, fun t1 ht1 => ⟨by show 2 ≤ sizeLine; decide, fun t2 ht2 => ⟨by show 2 ≤ sizeLine; decide, fun s hs => ?_⟩⟩⟩
      have b2 := Ex.new (o := .tup [V.str (Str.ofString "turn"), V.int 0]) ht2
      have b3 := Ex.new (o := .lst [V.ref t1, V.ref t2]) hs
      have v1 : StV (fun _ => True) _ (.ref t1) (.swap 0 1) := ⟨t1, rfl, (b2.trans b3) _ _ upd_same⟩
      have v2 : StV (fun _ => True) _ (.ref t2) (.turn 0) := ⟨t2, rfl, b3 _ _ upd_same⟩
      refine mk_at (F := fun _ => True) (n := 2) (sts := [.swap 0 1, .turn 0]) ⟨trivial, [.ref t1, .ref t2], upd_same, (Ss.snoc (ss_nil _) v1).snoc v2⟩ (by decide) (by decide) (fun st hst => ?_) (by decide) fun p5 H5 hp5 e5 hM5 => ?_
      · simp only [List.mem_cons, List.not_mem_nil, or_false] at hst
        rcases hst with rfl | rfl
        · exact ⟨by decide, by decide, by decide⟩
        · exact (by decide : 0 < 2)
      refine ⟨10, 29, rfl, rfl, ⟨by decide, by decide +kernel⟩, by show 2 ≤ sizeLine; decide, fun a6 ha6 => ⟨p5, _, 2, _, a6, [10 ^ (29 : Int).toNat, 4], rfl, hM5.ex (Ex.new ha6), upd_same, rfl, ⟨100, sm _ _ (by rw [p29, q100]; decide) (by decide), by decide⟩, fun x H6 hx e6 k6 => ⟨4, rfl, 10, 29, rfl, rfl, ⟨by decide, by decide +kernel⟩, by show 2 ≤ sizeLine; decide, fun b7 hb7 => ?_⟩⟩⟩
      exact rv_eqR (K := K) (ns := [-4, 10 ^ (29 : Int).toNat]) (ms := [-4, 10 ^ (29 : Int).toNat]) (Ex.new hb7 _ _ k6) upd_same rfl _ (Ex.refl _) _ fun H8 e8 => q H8
end
end K30

set_option Elab.async false
set_option linter.all false
set_option maxRecDepth 100000
set_option maxHeartbeats 4000000
namespace K30
open PySem PySem.Spec PyProof.Rows L2 Evl WS M30
theorem all_mk {l : PySem.W.OpenLaw} {w : World} {K : PySem.W.Frag} {h : Heap} {mg : Str → Option Value} {fa f1 f2 f3 f4 f5 f6 f7 f8 f9 f10 f11 f12 f13 f14 f15 f16 f17 f18 f19 f20 f21 f22 f23 f24 f25 f26 f27 f28 f29 f30 f31 f32 f33 f34 f35 C_Mixer : Addr} (X : K.In h) (G : h.Ns mainGlobals mg) (hfa : mg "law" = some (.ref fa))
    {od1 an1 od2 an2 od3 an3 od4 an4 od5 an5 od6 an6 od7 an7 od8 an8 od9 an9 od10 an10 od11 an11 od12 an12 od13 an13 od14 an14 od15 an15 od16 an16 od17 an17 od18 an18 od19 an19 od20 an20 od21 an21 od22 an22 od23 an23 od24 an24 od25 an25 od26 an26 od27 an27 od28 an28 od29 an29 od30 an30 od31 an31 od32 an32 od33 an33 od34 an34 od35 an35 : Option Addr} {sl1 sl2 sl3 sl4 sl5 sl6 sl7 sl8 sl9 sl10 sl11 sl12 sl13 sl14 sl15 sl16 sl17 sl18 sl19 sl20 sl21 sl22 sl23 sl24 sl25 sl26 sl27 sl28 sl29 sl30 sl31 sl32 sl33 sl34 sl35 : Array (Option Value)} {oc1 kV1 dc1 pm1 cd1 ct1 oc2 kV2 dc2 pm2 cd2 ct2 oc3 kV3 dc3 pm3 cd3 ct3 oc4 kV4 dc4 pm4 cd4 ct4 oc5 kV5 dc5 pm5 cd5 ct5 oc6 kV6 dc6 pm6 cd6 ct6 oc7 kV7 dc7 pm7 cd7 ct7 oc8 kV8 dc8 pm8 cd8 ct8 oc9 kV9 dc9 pm9 cd9 ct9 oc10 kV10 dc10 pm10 cd10 ct10 oc11 kV11 dc11 pm11 cd11 ct11 oc12 kV12 dc12 pm12 cd12 ct12 oc13 kV13 dc13 pm13 cd13 ct13 oc14 kV14 dc14 pm14 cd14 ct14 oc15 kV15 dc15 pm15 cd15 ct15 oc16 kV16 dc16 pm16 cd16 ct16 oc17 kV17 dc17 pm17 cd17 ct17 oc18 kV18 dc18 pm18 cd18 ct18 oc19 kV19 dc19 pm19 cd19 ct19 oc20 kV20 dc20 pm20 cd20 ct20 oc21 kV21 dc21 pm21 cd21 ct21 oc22 kV22 dc22 pm22 cd22 ct22 oc23 kV23 dc23 pm23 cd23 ct23 oc24 kV24 dc24 pm24 cd24 ct24 oc25 kV25 dc25 pm25 cd25 ct25 oc26 kV26 dc26 pm26 cd26 ct26 oc27 kV27 dc27 pm27 cd27 ct27 oc28 kV28 dc28 pm28 cd28 ct28 oc29 kV29 dc29 pm29 cd29 ct29 oc30 kV30 dc30 pm30 cd30 ct30 oc31 kV31 dc31 pm31 cd31 ct31 oc32 kV32 dc32 pm32 cd32 ct32 oc33 kV33 dc33 pm33 cd33 ct33 oc34 kV34 dc34 pm34 cd34 ct34 oc35 kV35 dc35 pm35 cd35 ct35 : Value}
    {t_MOST_WAYS : Tok}
    (gC_Mixer : PySem.W.nsIn K mainGlobals "Mixer" = some (some (.ref C_Mixer)))
    (pg_Mixer : PySem.W.plainGet K C_Mixer Str.empty = true)
    (hd_Mixer : PySem.W.hasDictIn K C_Mixer = true)
    (po_Mixer : PySem.W.plainOver K C_Mixer = true)
    (sa_Mixer : PySem.W.findIn K (.ref C_Mixer) "__setattr__" = some (some (.builtin "object.__setattr__")))
    (mk_Mixer : PySem.W.makesIn K C_Mixer = true)
    (kc_Mixer : PySem.W.keepIn K (.ref C_Mixer) = true)
    (ha_Mixer : PySem.W.findIn K (.ref C_Mixer) "__class__" = some (some (.builtin "object.__class__")))
    (hn_Mixer : PySem.W.specialIn K (.builtin "object.__class__") "__get__" = some (some (.builtin "getset_descriptor.__get__")))
    (ht_Mixer : PySem.W.takesIn K (.builtin "object.__class__") = some true)
    (hm_Mixer : PySem.W.mroIn K C_Mixer (.type "object") = some true)
    (n_Mixer__wide : PySem.W.findIn K (.ref C_Mixer) "_wide" = some none)
    (n_Mixer__steps : PySem.W.findIn K (.ref C_Mixer) "_steps" = some none)
    (ne_Mixer : PySem.W.findIn K (.ref C_Mixer) "__ne__" = some (some (.builtin "object.__ne__")))
    (ty_Mixer : PySem.W.typeIn K (.ref C_Mixer) = some (.type "type"))
    (a1 : PySem.W.nsIn K mainGlobals "is_number" = some (some (.ref f1)))
    (l1 : K.lookup f1 = some ⟨oc1, od1, .func (PySem.W.fnOf "is_number" "is_number" (defArgs s_is_number) (defBody s_is_number) (defScope s_is_number) .none kV1 dc1 pm1 an1 cd1 ct1), sl1⟩)
    (e1 : PySem.W.codeIn K cd1 "is_number" = true)
    (k1 : PySem.W.keepIn K (.ref f1) = true)
    (a2 : PySem.W.nsIn K mainGlobals "is_within" = some (some (.ref f2)))
    (l2 : K.lookup f2 = some ⟨oc2, od2, .func (PySem.W.fnOf "is_within" "is_within" (defArgs s_is_within) (defBody s_is_within) (defScope s_is_within) .none kV2 dc2 pm2 an2 cd2 ct2), sl2⟩)
    (e2 : PySem.W.codeIn K cd2 "is_within" = true)
    (k2 : PySem.W.keepIn K (.ref f2) = true)
    (a3 : PySem.W.nsIn K mainGlobals "is_count" = some (some (.ref f3)))
    (l3 : K.lookup f3 = some ⟨oc3, od3, .func (PySem.W.fnOf "is_count" "is_count" (defArgs s_is_count) (defBody s_is_count) (defScope s_is_count) .none kV3 dc3 pm3 an3 cd3 ct3), sl3⟩)
    (e3 : PySem.W.codeIn K cd3 "is_count" = true)
    (k3 : PySem.W.keepIn K (.ref f3) = true)
    (a4 : PySem.W.nsIn K mainGlobals "is_numbers" = some (some (.ref f4)))
    (l4 : K.lookup f4 = some ⟨oc4, od4, .func (PySem.W.fnOf "is_numbers" "is_numbers" (defArgs s_is_numbers) (defBody s_is_numbers) (defScope s_is_numbers) .none kV4 dc4 pm4 an4 cd4 ct4), sl4⟩)
    (e4 : PySem.W.codeIn K cd4 "is_numbers" = true)
    (k4 : PySem.W.keepIn K (.ref f4) = true)
    (a5 : PySem.W.nsIn K mainGlobals "check_within" = some (some (.ref f5)))
    (l5 : K.lookup f5 = some ⟨oc5, od5, .func (PySem.W.fnOf "check_within" "check_within" (defArgs s_check_within) (defBody s_check_within) (defScope s_check_within) .none kV5 dc5 pm5 an5 cd5 ct5), sl5⟩)
    (e5 : PySem.W.codeIn K cd5 "check_within" = true)
    (k5 : PySem.W.keepIn K (.ref f5) = true)
    (a6 : PySem.W.nsIn K mainGlobals "wrapped" = some (some (.ref f6)))
    (l6 : K.lookup f6 = some ⟨oc6, od6, .func (PySem.W.fnOf "wrapped" "wrapped" (defArgs s_wrapped) (defBody s_wrapped) (defScope s_wrapped) .none kV6 dc6 pm6 an6 cd6 ct6), sl6⟩)
    (e6 : PySem.W.codeIn K cd6 "wrapped" = true)
    (k6 : PySem.W.keepIn K (.ref f6) = true)
    (a7 : PySem.W.findIn K (.ref C_Mixer) "__init__" = some (some (.ref f7)))
    (i7 : PySem.W.isFn K (.ref f7) = true)
    (l7 : K.lookup f7 = some ⟨oc7, od7, .func (PySem.W.fnOf "__init__" "Mixer.__init__" (defArgs s_Mixer___init__) (defBody s_Mixer___init__) (defScope s_Mixer___init__) .none kV7 dc7 pm7 an7 cd7 ct7), sl7⟩)
    (e7 : PySem.W.codeIn K cd7 "Mixer.__init__" = true)
    (k7 : PySem.W.keepIn K (.ref f7) = true)
    (a8 : PySem.W.findIn K (.ref C_Mixer) "wide" = some (some (.ref f8)))
    (i8 : PySem.W.isFn K (.ref f8) = true)
    (l8 : K.lookup f8 = some ⟨oc8, od8, .func (PySem.W.fnOf "wide" "Mixer.wide" (defArgs s_Mixer_wide) (defBody s_Mixer_wide) (defScope s_Mixer_wide) .none kV8 dc8 pm8 an8 cd8 ct8), sl8⟩)
    (e8 : PySem.W.codeIn K cd8 "Mixer.wide" = true)
    (k8 : PySem.W.keepIn K (.ref f8) = true)
    (a9 : PySem.W.findIn K (.ref C_Mixer) "steps" = some (some (.ref f9)))
    (i9 : PySem.W.isFn K (.ref f9) = true)
    (l9 : K.lookup f9 = some ⟨oc9, od9, .func (PySem.W.fnOf "steps" "Mixer.steps" (defArgs s_Mixer_steps) (defBody s_Mixer_steps) (defScope s_Mixer_steps) .none kV9 dc9 pm9 an9 cd9 ct9), sl9⟩)
    (e9 : PySem.W.codeIn K cd9 "Mixer.steps" = true)
    (k9 : PySem.W.keepIn K (.ref f9) = true)
    (a10 : PySem.W.findIn K (.ref C_Mixer) "__eq__" = some (some (.ref f10)))
    (i10 : PySem.W.isFn K (.ref f10) = true)
    (l10 : K.lookup f10 = some ⟨oc10, od10, .func (PySem.W.fnOf "__eq__" "Mixer.__eq__" (defArgs s_Mixer___eq__) (defBody s_Mixer___eq__) (defScope s_Mixer___eq__) .none kV10 dc10 pm10 an10 cd10 ct10), sl10⟩)
    (e10 : PySem.W.codeIn K cd10 "Mixer.__eq__" = true)
    (k10 : PySem.W.keepIn K (.ref f10) = true)
    (a11 : PySem.W.nsIn K mainGlobals "is_step" = some (some (.ref f11)))
    (l11 : K.lookup f11 = some ⟨oc11, od11, .func (PySem.W.fnOf "is_step" "is_step" (defArgs s_is_step) (defBody s_is_step) (defScope s_is_step) .none kV11 dc11 pm11 an11 cd11 ct11), sl11⟩)
    (e11 : PySem.W.codeIn K cd11 "is_step" = true)
    (k11 : PySem.W.keepIn K (.ref f11) = true)
    (a12 : PySem.W.nsIn K mainGlobals "is_lift" = some (some (.ref f12)))
    (l12 : K.lookup f12 = some ⟨oc12, od12, .func (PySem.W.fnOf "is_lift" "is_lift" (defArgs s_is_lift) (defBody s_is_lift) (defScope s_is_lift) .none kV12 dc12 pm12 an12 cd12 ct12), sl12⟩)
    (e12 : PySem.W.codeIn K cd12 "is_lift" = true)
    (k12 : PySem.W.keepIn K (.ref f12) = true)
    (a13 : PySem.W.nsIn K mainGlobals "copied" = some (some (.ref f13)))
    (l13 : K.lookup f13 = some ⟨oc13, od13, .func (PySem.W.fnOf "copied" "copied" (defArgs s_copied) (defBody s_copied) (defScope s_copied) .none kV13 dc13 pm13 an13 cd13 ct13), sl13⟩)
    (e13 : PySem.W.codeIn K cd13 "copied" = true)
    (k13 : PySem.W.keepIn K (.ref f13) = true)
    (a14 : PySem.W.nsIn K mainGlobals "check_mixer" = some (some (.ref f14)))
    (l14 : K.lookup f14 = some ⟨oc14, od14, .func (PySem.W.fnOf "check_mixer" "check_mixer" (defArgs s_check_mixer) (defBody s_check_mixer) (defScope s_check_mixer) .none kV14 dc14 pm14 an14 cd14 ct14), sl14⟩)
    (e14 : PySem.W.codeIn K cd14 "check_mixer" = true)
    (k14 : PySem.W.keepIn K (.ref f14) = true)
    (a15 : PySem.W.nsIn K mainGlobals "check_moment" = some (some (.ref f15)))
    (l15 : K.lookup f15 = some ⟨oc15, od15, .func (PySem.W.fnOf "check_moment" "check_moment" (defArgs s_check_moment) (defBody s_check_moment) (defScope s_check_moment) .none kV15 dc15 pm15 an15 cd15 ct15), sl15⟩)
    (e15 : PySem.W.codeIn K cd15 "check_moment" = true)
    (k15 : PySem.W.keepIn K (.ref f15) = true)
    (a16 : PySem.W.nsIn K mainGlobals "lifted" = some (some (.ref f16)))
    (l16 : K.lookup f16 = some ⟨oc16, od16, .func (PySem.W.fnOf "lifted" "lifted" (defArgs s_lifted) (defBody s_lifted) (defScope s_lifted) .none kV16 dc16 pm16 an16 cd16 ct16), sl16⟩)
    (e16 : PySem.W.codeIn K cd16 "lifted" = true)
    (k16 : PySem.W.keepIn K (.ref f16) = true)
    (a17 : PySem.W.nsIn K mainGlobals "step_done" = some (some (.ref f17)))
    (l17 : K.lookup f17 = some ⟨oc17, od17, .func (PySem.W.fnOf "step_done" "step_done" (defArgs s_step_done) (defBody s_step_done) (defScope s_step_done) .none kV17 dc17 pm17 an17 cd17 ct17), sl17⟩)
    (e17 : PySem.W.codeIn K cd17 "step_done" = true)
    (k17 : PySem.W.keepIn K (.ref f17) = true)
    (a18 : PySem.W.nsIn K mainGlobals "run" = some (some (.ref f18)))
    (l18 : K.lookup f18 = some ⟨oc18, od18, .func (PySem.W.fnOf "run" "run" (defArgs s_run) (defBody s_run) (defScope s_run) .none kV18 dc18 pm18 an18 cd18 ct18), sl18⟩)
    (e18 : PySem.W.codeIn K cd18 "run" = true)
    (k18 : PySem.W.keepIn K (.ref f18) = true)
    (a19 : PySem.W.nsIn K mainGlobals "mixed" = some (some (.ref f19)))
    (l19 : K.lookup f19 = some ⟨oc19, od19, .func (PySem.W.fnOf "mixed" "mixed" (defArgs s_mixed) (defBody s_mixed) (defScope s_mixed) .none kV19 dc19 pm19 an19 cd19 ct19), sl19⟩)
    (e19 : PySem.W.codeIn K cd19 "mixed" = true)
    (k19 : PySem.W.keepIn K (.ref f19) = true)
    (a20 : PySem.W.nsIn K mainGlobals "unmixed" = some (some (.ref f20)))
    (l20 : K.lookup f20 = some ⟨oc20, od20, .func (PySem.W.fnOf "unmixed" "unmixed" (defArgs s_unmixed) (defBody s_unmixed) (defScope s_unmixed) .none kV20 dc20 pm20 an20 cd20 ct20), sl20⟩)
    (e20 : PySem.W.codeIn K cd20 "unmixed" = true)
    (k20 : PySem.W.keepIn K (.ref f20) = true)
    (a21 : PySem.W.nsIn K mainGlobals "_law_purse" = some (some (.ref f21)))
    (l21 : K.lookup f21 = some ⟨oc21, od21, .func (PySem.W.fnOf "_law_purse" "_law_purse" (defArgs s__law_purse) (defBody s__law_purse) (defScope s__law_purse) .none kV21 dc21 pm21 an21 cd21 ct21), sl21⟩)
    (e21 : PySem.W.codeIn K cd21 "_law_purse" = true)
    (k21 : PySem.W.keepIn K (.ref f21) = true)
    (a22 : PySem.W.nsIn K mainGlobals "_law_draw" = some (some (.ref f22)))
    (l22 : K.lookup f22 = some ⟨oc22, od22, .func (PySem.W.fnOf "_law_draw" "_law_draw" (defArgs s__law_draw) (defBody s__law_draw) (defScope s__law_draw) .none kV22 dc22 pm22 an22 cd22 ct22), sl22⟩)
    (e22 : PySem.W.codeIn K cd22 "_law_draw" = true)
    (k22 : PySem.W.keepIn K (.ref f22) = true)
    (a23 : PySem.W.nsIn K mainGlobals "_law_number" = some (some (.ref f23)))
    (l23 : K.lookup f23 = some ⟨oc23, od23, .func (PySem.W.fnOf "_law_number" "_law_number" (defArgs s__law_number) (defBody s__law_number) (defScope s__law_number) .none kV23 dc23 pm23 an23 cd23 ct23), sl23⟩)
    (e23 : PySem.W.codeIn K cd23 "_law_number" = true)
    (k23 : PySem.W.keepIn K (.ref f23) = true)
    (a24 : PySem.W.nsIn K mainGlobals "_law_weight" = some (some (.ref f24)))
    (l24 : K.lookup f24 = some ⟨oc24, od24, .func (PySem.W.fnOf "_law_weight" "_law_weight" (defArgs s__law_weight) (defBody s__law_weight) (defScope s__law_weight) .none kV24 dc24 pm24 an24 cd24 ct24), sl24⟩)
    (e24 : PySem.W.codeIn K cd24 "_law_weight" = true)
    (k24 : PySem.W.keepIn K (.ref f24) = true)
    (a25 : PySem.W.nsIn K mainGlobals "_law_lift" = some (some (.ref f25)))
    (l25 : K.lookup f25 = some ⟨oc25, od25, .func (PySem.W.fnOf "_law_lift" "_law_lift" (defArgs s__law_lift) (defBody s__law_lift) (defScope s__law_lift) .none kV25 dc25 pm25 an25 cd25 ct25), sl25⟩)
    (e25 : PySem.W.codeIn K cd25 "_law_lift" = true)
    (k25 : PySem.W.keepIn K (.ref f25) = true)
    (a26 : PySem.W.nsIn K mainGlobals "_law_steps" = some (some (.ref f26)))
    (l26 : K.lookup f26 = some ⟨oc26, od26, .func (PySem.W.fnOf "_law_steps" "_law_steps" (defArgs s__law_steps) (defBody s__law_steps) (defScope s__law_steps) .none kV26 dc26 pm26 an26 cd26 ct26), sl26⟩)
    (e26 : PySem.W.codeIn K cd26 "_law_steps" = true)
    (k26 : PySem.W.keepIn K (.ref f26) = true)
    (a27 : PySem.W.nsIn K mainGlobals "_law_copied" = some (some (.ref f27)))
    (l27 : K.lookup f27 = some ⟨oc27, od27, .func (PySem.W.fnOf "_law_copied" "_law_copied" (defArgs s__law_copied) (defBody s__law_copied) (defScope s__law_copied) .none kV27 dc27 pm27 an27 cd27 ct27), sl27⟩)
    (e27 : PySem.W.codeIn K cd27 "_law_copied" = true)
    (k27 : PySem.W.keepIn K (.ref f27) = true)
    (a28 : PySem.W.nsIn K mainGlobals "_law_stepped" = some (some (.ref f28)))
    (l28 : K.lookup f28 = some ⟨oc28, od28, .func (PySem.W.fnOf "_law_stepped" "_law_stepped" (defArgs s__law_stepped) (defBody s__law_stepped) (defScope s__law_stepped) .none kV28 dc28 pm28 an28 cd28 ct28), sl28⟩)
    (e28 : PySem.W.codeIn K cd28 "_law_stepped" = true)
    (k28 : PySem.W.keepIn K (.ref f28) = true)
    (a29 : PySem.W.nsIn K mainGlobals "_law_played" = some (some (.ref f29)))
    (l29 : K.lookup f29 = some ⟨oc29, od29, .func (PySem.W.fnOf "_law_played" "_law_played" (defArgs s__law_played) (defBody s__law_played) (defScope s__law_played) .none kV29 dc29 pm29 an29 cd29 ct29), sl29⟩)
    (e29 : PySem.W.codeIn K cd29 "_law_played" = true)
    (k29 : PySem.W.keepIn K (.ref f29) = true)
    (a30 : PySem.W.nsIn K mainGlobals "_law_led_back" = some (some (.ref f30)))
    (l30 : K.lookup f30 = some ⟨oc30, od30, .func (PySem.W.fnOf "_law_led_back" "_law_led_back" (defArgs s__law_led_back) (defBody s__law_led_back) (defScope s__law_led_back) .none kV30 dc30 pm30 an30 cd30 ct30), sl30⟩)
    (e30 : PySem.W.codeIn K cd30 "_law_led_back" = true)
    (k30 : PySem.W.keepIn K (.ref f30) = true)
    (a31 : PySem.W.nsIn K mainGlobals "_law_whole" = some (some (.ref f31)))
    (l31 : K.lookup f31 = some ⟨oc31, od31, .func (PySem.W.fnOf "_law_whole" "_law_whole" (defArgs s__law_whole) (defBody s__law_whole) (defScope s__law_whole) .none kV31 dc31 pm31 an31 cd31 ct31), sl31⟩)
    (e31 : PySem.W.codeIn K cd31 "_law_whole" = true)
    (k31 : PySem.W.keepIn K (.ref f31) = true)
    (a32 : PySem.W.nsIn K mainGlobals "_law_numbers_right" = some (some (.ref f32)))
    (l32 : K.lookup f32 = some ⟨oc32, od32, .func (PySem.W.fnOf "_law_numbers_right" "_law_numbers_right" (defArgs s__law_numbers_right) (defBody s__law_numbers_right) (defScope s__law_numbers_right) .none kV32 dc32 pm32 an32 cd32 ct32), sl32⟩)
    (e32 : PySem.W.codeIn K cd32 "_law_numbers_right" = true)
    (k32 : PySem.W.keepIn K (.ref f32) = true)
    (a33 : PySem.W.nsIn K mainGlobals "_law_spoil" = some (some (.ref f33)))
    (l33 : K.lookup f33 = some ⟨oc33, od33, .func (PySem.W.fnOf "_law_spoil" "_law_spoil" (defArgs s__law_spoil) (defBody s__law_spoil) (defScope s__law_spoil) .none kV33 dc33 pm33 an33 cd33 ct33), sl33⟩)
    (e33 : PySem.W.codeIn K cd33 "_law_spoil" = true)
    (k33 : PySem.W.keepIn K (.ref f33) = true)
    (a34 : PySem.W.nsIn K mainGlobals "_law_kept" = some (some (.ref f34)))
    (l34 : K.lookup f34 = some ⟨oc34, od34, .func (PySem.W.fnOf "_law_kept" "_law_kept" (defArgs s__law_kept) (defBody s__law_kept) (defScope s__law_kept) .none kV34 dc34 pm34 an34 cd34 ct34), sl34⟩)
    (e34 : PySem.W.codeIn K cd34 "_law_kept" = true)
    (k34 : PySem.W.keepIn K (.ref f34) = true)
    (a35 : PySem.W.nsIn K mainGlobals "law" = some (some (.ref f35)))
    (l35 : K.lookup f35 = some ⟨oc35, od35, .func (PySem.W.fnOf "law" "law" (defArgs s_law) (defBody s_law) (defScope s_law) .none kV35 dc35 pm35 an35 cd35 ct35), sl35⟩)
    (e35 : PySem.W.codeIn K cd35 "law" = true)
    (k35 : PySem.W.keepIn K (.ref f35) = true)
    (c_MOST_WAYS : PySem.W.nsIn K mainGlobals "MOST_WAYS" = some (some (.int 4 t_MOST_WAYS)))
    (z_all : PySem.W.nsIn K mainGlobals "all" = some none)
    (z_bool : PySem.W.nsIn K mainGlobals "bool" = some none)
    (z_int : PySem.W.nsIn K mainGlobals "int" = some none)
    (z_isinstance : PySem.W.nsIn K mainGlobals "isinstance" = some none)
    (z_len : PySem.W.nsIn K mainGlobals "len" = some none)
    (z_list : PySem.W.nsIn K mainGlobals "list" = some none)
    (z_min : PySem.W.nsIn K mainGlobals "min" = some none)
    (z_range : PySem.W.nsIn K mainGlobals "range" = some none)
    (z_sum : PySem.W.nsIn K mainGlobals "sum" = some none)
    (z_tuple : PySem.W.nsIn K mainGlobals "tuple" = some none)
    (z_zip : PySem.W.nsIn K mainGlobals "zip" = some none) :
    ∃ fd : FuncData, (∀ (s : Shared) (v : Value), BindsTo s fd ⟨[v], []⟩ [("_law_script", v)]) ∧ ∀ base : Heap, K.In base → base.Ns mainGlobals mg → FnOk l.prog w K mg base CX0 7 fa fd ["_law_script"] (sp_law K) := by
  have e := hfa.symm.trans (PySem.W.mg_of X G a35)
  cases e
  have F1 := fun_mk (st := s_is_number) l1 e1 k1
  have b1 := F1.binds (ps := ["value"]) fun _ _ _ _ _ _ us hl => match us, hl with | [_], _ => rfl
  have F2 := fun_mk (st := s_is_within) l2 e2 k2
  have b2 := F2.binds (ps := ["value", "low", "high"]) fun _ _ _ _ _ _ us hl => match us, hl with | [_, _, _], _ => rfl
  have F3 := fun_mk (st := s_is_count) l3 e3 k3
  have b3 := F3.binds (ps := ["value"]) fun _ _ _ _ _ _ us hl => match us, hl with | [_], _ => rfl
  have F4 := fun_mk (st := s_is_numbers) l4 e4 k4
  have b4 := F4.binds (ps := ["value"]) fun _ _ _ _ _ _ us hl => match us, hl with | [_], _ => rfl
  have F5 := fun_mk (st := s_check_within) l5 e5 k5
  have b5 := F5.binds (ps := ["number", "low", "high"]) fun _ _ _ _ _ _ us hl => match us, hl with | [_, _, _], _ => rfl
  have F6 := fun_mk (st := s_wrapped) l6 e6 k6
  have b6 := F6.binds (ps := ["number", "depth"]) fun _ _ _ _ _ _ us hl => match us, hl with | [_, _], _ => rfl
  have F7 := fun_mk (st := s_Mixer___init__) l7 e7 k7
  have b7 := F7.binds (ps := ["self", "wide", "steps"]) fun _ _ _ _ _ _ us hl => match us, hl with | [_, _, _], _ => rfl
  have F8 := fun_mk (st := s_Mixer_wide) l8 e8 k8
  have b8 := F8.binds (ps := ["self"]) fun _ _ _ _ _ _ us hl => match us, hl with | [_], _ => rfl
  have F9 := fun_mk (st := s_Mixer_steps) l9 e9 k9
  have b9 := F9.binds (ps := ["self"]) fun _ _ _ _ _ _ us hl => match us, hl with | [_], _ => rfl
  have F10 := fun_mk (st := s_Mixer___eq__) l10 e10 k10
  have b10 := F10.binds (ps := ["self", "other"]) fun _ _ _ _ _ _ us hl => match us, hl with | [_, _], _ => rfl
  have F11 := fun_mk (st := s_is_step) l11 e11 k11
  have b11 := F11.binds (ps := ["value", "wide"]) fun _ _ _ _ _ _ us hl => match us, hl with | [_, _], _ => rfl
  have F12 := fun_mk (st := s_is_lift) l12 e12 k12
  have b12 := F12.binds (ps := ["value", "wide"]) fun _ _ _ _ _ _ us hl => match us, hl with | [_, _], _ => rfl
  have F13 := fun_mk (st := s_copied) l13 e13 k13
  have b13 := F13.binds (ps := ["step"]) fun _ _ _ _ _ _ us hl => match us, hl with | [_], _ => rfl
  have F14 := fun_mk (st := s_check_mixer) l14 e14 k14
  have b14 := F14.binds (ps := ["mixer"]) fun _ _ _ _ _ _ us hl => match us, hl with | [_], _ => rfl
  have F15 := fun_mk (st := s_check_moment) l15 e15 k15
  have b15 := F15.binds (ps := ["mixer", "samples"]) fun _ _ _ _ _ _ us hl => match us, hl with | [_, _], _ => rfl
  have F16 := fun_mk (st := s_lifted) l16 e16 k16
  have b16 := F16.binds (ps := ["step", "samples"]) fun _ _ _ _ _ _ us hl => match us, hl with | [_, _], _ => rfl
  have F17 := fun_mk (st := s_step_done) l17 e17 k17
  have b17 := F17.binds (ps := ["step", "samples", "sign"]) fun _ _ _ _ _ _ us hl => match us, hl with | [_, _, _], _ => rfl
  have F18 := fun_mk (st := s_run) l18 e18 k18
  have b18 := F18.binds (ps := ["steps", "samples", "sign", "depth"]) fun _ _ _ _ _ _ us hl => match us, hl with | [_, _, _, _], _ => rfl
  have F19 := fun_mk (st := s_mixed) l19 e19 k19
  have b19 := F19.binds (ps := ["mixer", "samples"]) fun _ _ _ _ _ _ us hl => match us, hl with | [_, _], _ => rfl
  have F20 := fun_mk (st := s_unmixed) l20 e20 k20
  have b20 := F20.binds (ps := ["mixer", "samples"]) fun _ _ _ _ _ _ us hl => match us, hl with | [_, _], _ => rfl
  have F21 := fun_mk (st := s__law_purse) l21 e21 k21
  have b21 := F21.binds (ps := ["_law_script", "_law_at"]) fun _ _ _ _ _ _ us hl => match us, hl with | [_, _], _ => rfl
  have F22 := fun_mk (st := s__law_draw) l22 e22 k22
  have b22 := F22.binds (ps := ["_law_purse_here", "_law_many"]) fun _ _ _ _ _ _ us hl => match us, hl with | [_, _], _ => rfl
  have F23 := fun_mk (st := s__law_number) l23 e23 k23
  have b23 := F23.binds (ps := ["_law_purse_here"]) fun _ _ _ _ _ _ us hl => match us, hl with | [_], _ => rfl
  have F24 := fun_mk (st := s__law_weight) l24 e24 k24
  have b24 := F24.binds (ps := ["_law_purse_here"]) fun _ _ _ _ _ _ us hl => match us, hl with | [_], _ => rfl
  have F25 := fun_mk (st := s__law_lift) l25 e25 k25
  have b25 := F25.binds (ps := ["_law_purse_here", "_law_broad", "_law_most"]) fun _ _ _ _ _ _ us hl => match us, hl with | [_, _, _], _ => rfl
  have F26 := fun_mk (st := s__law_steps) l26 e26 k26
  have b26 := F26.binds (ps := ["_law_purse_here", "_law_broad", "_law_many", "_law_bits"]) fun _ _ _ _ _ _ us hl => match us, hl with | [_, _, _, _], _ => rfl
  have F27 := fun_mk (st := s__law_copied) l27 e27 k27
  have b27 := F27.binds (ps := ["_law_steps_here"]) fun _ _ _ _ _ _ us hl => match us, hl with | [_], _ => rfl
  have F28 := fun_mk (st := s__law_stepped) l28 e28 k28
  have b28 := F28.binds (ps := ["_law_step", "_law_row", "_law_way"]) fun _ _ _ _ _ _ us hl => match us, hl with | [_, _, _], _ => rfl
  have F29 := fun_mk (st := s__law_played) l29 e29 k29
  have b29 := F29.binds (ps := ["_law_steps_here", "_law_row"]) fun _ _ _ _ _ _ us hl => match us, hl with | [_, _], _ => rfl
  have F30 := fun_mk (st := s__law_led_back) l30 e30 k30
  have b30 := F30.binds (ps := ["_law_steps_here", "_law_row"]) fun _ _ _ _ _ _ us hl => match us, hl with | [_, _], _ => rfl
  have F31 := fun_mk (st := s__law_whole) l31 e31 k31
  have b31 := F31.binds (ps := ["_law_value"]) fun _ _ _ _ _ _ us hl => match us, hl with | [_], _ => rfl
  have F32 := fun_mk (st := s__law_numbers_right) l32 e32 k32
  have b32 := F32.binds (ps := ["_law_row", "_law_broad"]) fun _ _ _ _ _ _ us hl => match us, hl with | [_, _], _ => rfl
  have F33 := fun_mk (st := s__law_spoil) l33 e33 k33
  have b33 := F33.binds (ps := ["_law_steps_here"]) fun _ _ _ _ _ _ us hl => match us, hl with | [_], _ => rfl
  have F34 := fun_mk (st := s__law_kept) l34 e34 k34
  have b34 := F34.binds (ps := ["_law_mixer", "_law_wide", "_law_steps_here"]) fun _ _ _ _ _ _ us hl => match us, hl with | [_, _, _], _ => rfl
  have F35 := fun_mk (st := s_law) l35 e35 k35
  have b35 := F35.binds (ps := ["_law_script"]) fun _ _ _ _ _ _ us hl => match us, hl with | [_], _ => rfl
  exact ⟨_, fun s v => .of_eq rfl, fun base _ _ => ok_law { C_Mixer := C_Mixer, cl_Mixer := ⟨pg_Mixer, hd_Mixer, po_Mixer, sa_Mixer⟩, gC_Mixer := PySem.W.mg_of X G gC_Mixer, is_Mixer := ⟨ha_Mixer, hn_Mixer, ht_Mixer, hm_Mixer⟩, n_Mixer__wide := n_Mixer__wide, n_Mixer__steps := n_Mixer__steps, ne_Mixer := ne_Mixer, ty_Mixer := ty_Mixer, a_is_number := f1, d_is_number := _, f_is_number := F1, b_is_number := b1, g_is_number := PySem.W.mg_of X G a1, a_is_within := f2, d_is_within := _, f_is_within := F2, b_is_within := b2, g_is_within := PySem.W.mg_of X G a2, a_is_count := f3, d_is_count := _, f_is_count := F3, b_is_count := b3, g_is_count := PySem.W.mg_of X G a3, a_is_numbers := f4, d_is_numbers := _, f_is_numbers := F4, b_is_numbers := b4, g_is_numbers := PySem.W.mg_of X G a4, a_check_within := f5, d_check_within := _, f_check_within := F5, b_check_within := b5, g_check_within := PySem.W.mg_of X G a5, a_wrapped := f6, d_wrapped := _, f_wrapped := F6, b_wrapped := b6, g_wrapped := PySem.W.mg_of X G a6, a_Mixer___init__ := f7, d_Mixer___init__ := _, f_Mixer___init__ := F7, b_Mixer___init__ := b7, mk_Mixer := ⟨mk_Mixer, a7, i7, kc_Mixer⟩, a_Mixer_wide := f8, d_Mixer_wide := _, f_Mixer_wide := F8, b_Mixer_wide := b8, me_Mixer_wide := ⟨a8, i8, k8⟩, a_Mixer_steps := f9, d_Mixer_steps := _, f_Mixer_steps := F9, b_Mixer_steps := b9, me_Mixer_steps := ⟨a9, i9, k9⟩, a_Mixer___eq__ := f10, d_Mixer___eq__ := _, f_Mixer___eq__ := F10, b_Mixer___eq__ := b10, q_Mixer := ⟨a10, i10⟩, a_is_step := f11, d_is_step := _, f_is_step := F11, b_is_step := b11, g_is_step := PySem.W.mg_of X G a11, a_is_lift := f12, d_is_lift := _, f_is_lift := F12, b_is_lift := b12, g_is_lift := PySem.W.mg_of X G a12, a_copied := f13, d_copied := _, f_copied := F13, b_copied := b13, g_copied := PySem.W.mg_of X G a13, a_check_mixer := f14, d_check_mixer := _, f_check_mixer := F14, b_check_mixer := b14, g_check_mixer := PySem.W.mg_of X G a14, a_check_moment := f15, d_check_moment := _, f_check_moment := F15, b_check_moment := b15, g_check_moment := PySem.W.mg_of X G a15, a_lifted := f16, d_lifted := _, f_lifted := F16, b_lifted := b16, g_lifted := PySem.W.mg_of X G a16, a_step_done := f17, d_step_done := _, f_step_done := F17, b_step_done := b17, g_step_done := PySem.W.mg_of X G a17, a_run := f18, d_run := _, f_run := F18, b_run := b18, g_run := PySem.W.mg_of X G a18, a_mixed := f19, d_mixed := _, f_mixed := F19, b_mixed := b19, g_mixed := PySem.W.mg_of X G a19, a_unmixed := f20, d_unmixed := _, f_unmixed := F20, b_unmixed := b20, g_unmixed := PySem.W.mg_of X G a20, a__law_purse := f21, d__law_purse := _, f__law_purse := F21, b__law_purse := b21, g__law_purse := PySem.W.mg_of X G a21, a__law_draw := f22, d__law_draw := _, f__law_draw := F22, b__law_draw := b22, g__law_draw := PySem.W.mg_of X G a22, a__law_number := f23, d__law_number := _, f__law_number := F23, b__law_number := b23, g__law_number := PySem.W.mg_of X G a23, a__law_weight := f24, d__law_weight := _, f__law_weight := F24, b__law_weight := b24, g__law_weight := PySem.W.mg_of X G a24, a__law_lift := f25, d__law_lift := _, f__law_lift := F25, b__law_lift := b25, g__law_lift := PySem.W.mg_of X G a25, a__law_steps := f26, d__law_steps := _, f__law_steps := F26, b__law_steps := b26, g__law_steps := PySem.W.mg_of X G a26, a__law_copied := f27, d__law_copied := _, f__law_copied := F27, b__law_copied := b27, g__law_copied := PySem.W.mg_of X G a27, a__law_stepped := f28, d__law_stepped := _, f__law_stepped := F28, b__law_stepped := b28, g__law_stepped := PySem.W.mg_of X G a28, a__law_played := f29, d__law_played := _, f__law_played := F29, b__law_played := b29, g__law_played := PySem.W.mg_of X G a29, a__law_led_back := f30, d__law_led_back := _, f__law_led_back := F30, b__law_led_back := b30, g__law_led_back := PySem.W.mg_of X G a30, a__law_whole := f31, d__law_whole := _, f__law_whole := F31, b__law_whole := b31, g__law_whole := PySem.W.mg_of X G a31, a__law_numbers_right := f32, d__law_numbers_right := _, f__law_numbers_right := F32, b__law_numbers_right := b32, g__law_numbers_right := PySem.W.mg_of X G a32, a__law_spoil := f33, d__law_spoil := _, f__law_spoil := F33, b__law_spoil := b33, g__law_spoil := PySem.W.mg_of X G a33, a__law_kept := f34, d__law_kept := _, f__law_kept := F34, b__law_kept := b34, g__law_kept := PySem.W.mg_of X G a34, a_law := fa, d_law := _, f_law := F35, b_law := b35, g_law := PySem.W.mg_of X G a35, t_MOST_WAYS := t_MOST_WAYS, c_MOST_WAYS := PySem.W.mg_of X G c_MOST_WAYS, m_all := PySem.W.mg_none_of X G z_all, m_bool := PySem.W.mg_none_of X G z_bool, m_int := PySem.W.mg_none_of X G z_int, m_isinstance := PySem.W.mg_none_of X G z_isinstance, m_len := PySem.W.mg_none_of X G z_len, m_list := PySem.W.mg_none_of X G z_list, m_min := PySem.W.mg_none_of X G z_min, m_range := PySem.W.mg_none_of X G z_range, m_sum := PySem.W.mg_none_of X G z_sum, m_tuple := PySem.W.mg_none_of X G z_tuple, m_zip := PySem.W.mg_none_of X G z_zip }⟩
end K30
open PySem PySem.W PyProof.Rows
set_option maxHeartbeats 0 in
theorem PySem.Challenge.cw_wholesound_k30_mixed_and_led_back_holds : PySem.Challenge.rw_wholesound_k30_mixed_and_led_back.Holds := by
  w_on; o_law; k_head; (case hw => w_witness2)
  k_fill
  refine L2.walk_of (l := PySem.Challenge.rw_wholesound_k30_mixed_and_led_back) (n := 63) (k := 7) (x := "_law_script") (CX := fun _ => L2.CX0) (sp := fun w => K30.sp_law _) rfl (by decide) rfl ⟨rfl, by decide, by decide⟩ (fun w h Y => PySem.W.kIn_of Y) ?F (fun _ _ a ns hl _ hS => ⟨a, ns, rfl, hS, hl, fun _ => rfl⟩) (fun _ _ _ _ _ h => h)
  case F =>
    intro w mg fa h KX G hmg
    refine' K30.all_mk KX G hmg ?gC_Mixer ?pg_Mixer ?hd_Mixer ?po_Mixer ?sa_Mixer ?mk_Mixer ?kc_Mixer ?ha_Mixer ?hn_Mixer ?ht_Mixer ?hm_Mixer ?n_Mixer__wide ?n_Mixer__steps ?ne_Mixer ?ty_Mixer ?a1 ?l1 ?e1 ?k1 ?a2 ?l2 ?e2 ?k2 ?a3 ?l3 ?e3 ?k3 ?a4 ?l4 ?e4 ?k4 ?a5 ?l5 ?e5 ?k5 ?a6 ?l6 ?e6 ?k6 ?a7 ?i7 ?l7 ?e7 ?k7 ?a8 ?i8 ?l8 ?e8 ?k8 ?a9 ?i9 ?l9 ?e9 ?k9 ?a10 ?i10 ?l10 ?e10 ?k10 ?a11 ?l11 ?e11 ?k11 ?a12 ?l12 ?e12 ?k12 ?a13 ?l13 ?e13 ?k13 ?a14 ?l14 ?e14 ?k14 ?a15 ?l15 ?e15 ?k15 ?a16 ?l16 ?e16 ?k16 ?a17 ?l17 ?e17 ?k17 ?a18 ?l18 ?e18 ?k18 ?a19 ?l19 ?e19 ?k19 ?a20 ?l20 ?e20 ?k20 ?a21 ?l21 ?e21 ?k21 ?a22 ?l22 ?e22 ?k22 ?a23 ?l23 ?e23 ?k23 ?a24 ?l24 ?e24 ?k24 ?a25 ?l25 ?e25 ?k25 ?a26 ?l26 ?e26 ?k26 ?a27 ?l27 ?e27 ?k27 ?a28 ?l28 ?e28 ?k28 ?a29 ?l29 ?e29 ?k29 ?a30 ?l30 ?e30 ?k30 ?a31 ?l31 ?e31 ?k31 ?a32 ?l32 ?e32 ?k32 ?a33 ?l33 ?e33 ?k33 ?a34 ?l34 ?e34 ?k34 ?a35 ?l35 ?e35 ?k35 ?c_MOST_WAYS ?z_all ?z_bool ?z_int ?z_isinstance ?z_len ?z_list ?z_min ?z_range ?z_sum ?z_tuple ?z_zip
    (case gC_Mixer => k_is); (case pg_Mixer => k_is); (case hd_Mixer => k_is); (case po_Mixer => k_is); (case sa_Mixer => k_is); (case mk_Mixer => k_is)
    (case kc_Mixer => k_is); (case ha_Mixer => k_is); (case hn_Mixer => k_is); (case ht_Mixer => k_is); (case hm_Mixer => k_is); (case n_Mixer__wide => k_is)
    (case n_Mixer__steps => k_is); (case ne_Mixer => k_is); (case ty_Mixer => k_is); (case a1 => k_is); (case l1 => k_is); (case e1 => k_is)
    (case k1 => k_is); (case a2 => k_is); (case l2 => k_is); (case e2 => k_is); (case k2 => k_is); (case a3 => k_is)
    (case l3 => k_is); (case e3 => k_is); (case k3 => k_is); (case a4 => k_is); (case l4 => k_is); (case e4 => k_is)
    (case k4 => k_is); (case a5 => k_is); (case l5 => k_is); (case e5 => k_is); (case k5 => k_is); (case a6 => k_is)
    (case l6 => k_is); (case e6 => k_is); (case k6 => k_is); (case a7 => k_is); (case i7 => k_is); (case l7 => k_is)
    (case e7 => k_is); (case k7 => k_is); (case a8 => k_is); (case i8 => k_is); (case l8 => k_is); (case e8 => k_is)
    (case k8 => k_is); (case a9 => k_is); (case i9 => k_is); (case l9 => k_is); (case e9 => k_is); (case k9 => k_is)
    (case a10 => k_is); (case i10 => k_is); (case l10 => k_is); (case e10 => k_is); (case k10 => k_is); (case a11 => k_is)
    (case l11 => k_is); (case e11 => k_is); (case k11 => k_is); (case a12 => k_is); (case l12 => k_is); (case e12 => k_is)
    (case k12 => k_is); (case a13 => k_is); (case l13 => k_is); (case e13 => k_is); (case k13 => k_is); (case a14 => k_is)
    (case l14 => k_is); (case e14 => k_is); (case k14 => k_is); (case a15 => k_is); (case l15 => k_is); (case e15 => k_is)
    (case k15 => k_is); (case a16 => k_is); (case l16 => k_is); (case e16 => k_is); (case k16 => k_is); (case a17 => k_is)
    (case l17 => k_is); (case e17 => k_is); (case k17 => k_is); (case a18 => k_is); (case l18 => k_is); (case e18 => k_is)
    (case k18 => k_is); (case a19 => k_is); (case l19 => k_is); (case e19 => k_is); (case k19 => k_is); (case a20 => k_is)
    (case l20 => k_is); (case e20 => k_is); (case k20 => k_is); (case a21 => k_is); (case l21 => k_is); (case e21 => k_is)
    (case k21 => k_is); (case a22 => k_is); (case l22 => k_is); (case e22 => k_is); (case k22 => k_is); (case a23 => k_is)
    (case l23 => k_is); (case e23 => k_is); (case k23 => k_is); (case a24 => k_is); (case l24 => k_is); (case e24 => k_is)
    (case k24 => k_is); (case a25 => k_is); (case l25 => k_is); (case e25 => k_is); (case k25 => k_is); (case a26 => k_is)
    (case l26 => k_is); (case e26 => k_is); (case k26 => k_is); (case a27 => k_is); (case l27 => k_is); (case e27 => k_is)
    (case k27 => k_is); (case a28 => k_is); (case l28 => k_is); (case e28 => k_is); (case k28 => k_is); (case a29 => k_is)
    (case l29 => k_is); (case e29 => k_is); (case k29 => k_is); (case a30 => k_is); (case l30 => k_is); (case e30 => k_is)
    (case k30 => k_is); (case a31 => k_is); (case l31 => k_is); (case e31 => k_is); (case k31 => k_is); (case a32 => k_is)
    (case l32 => k_is); (case e32 => k_is); (case k32 => k_is); (case a33 => k_is); (case l33 => k_is); (case e33 => k_is)
    (case k33 => k_is); (case a34 => k_is); (case l34 => k_is); (case e34 => k_is); (case k34 => k_is); (case a35 => k_is)
    (case l35 => k_is); (case e35 => k_is); (case k35 => k_is); (case c_MOST_WAYS => k_is); (case z_all => k_is); (case z_bool => k_is)
    (case z_int => k_is); (case z_isinstance => k_is); (case z_len => k_is); (case z_list => k_is); (case z_min => k_is); (case z_range => k_is)
    (case z_sum => k_is); (case z_tuple => k_is); (case z_zip => k_is)
