import PyProof.Rows.All
import Wide.All
import OpenK.AllK
import Wide.FinOn
import HandS.ForMost
import HandS.Evl
import HandS.WideBits
import HandS.WideMore
import HandS.Style
import HandS.IsInst
import HandS.OwnEq
import HandS.Iter
import HandS.Gcd
import HandS.SortKw
import KE.KMathGC
import KE.DatumOrd
import HandS.Sort
import HandS.Walk
import HandS.Ends
import PyProof.ReprRoads
import HandS.Dict
import HandS.Exc
import HandS.ExcInit
import HandS.Property
import HandS.TupAny
import HandS.TupMul
import HandS.Deep
import HandS.SortInts
import HandS.Text
import HandS.DictComp
import HandS.More
import HandS.RevRange
import HandS.Conv
import HandS.EndBits
import KE.SortData
import HandS.TryOnly
import HandS.CallSlots
import HandS.ExcCtx
import KE.KExcIs
import HandS.ExcField
import HandS.ExcIs
import HandS.WordsExc
import HandS.Defaults
import PyProof.NeKinds
import KE.KEqDict
import KE.IntBitsLaws
import PyProof.Rows.BitMore
import PyProof.ReprLen
import KE.KBits
import PySem.Challenge.RW_wholesound_k66_whole_counts_of_the_unsee
set_option Elab.async false
set_option linter.all false
set_option maxRecDepth 100000
set_option maxHeartbeats 2000000
namespace WS
open PySem PySem.Spec PyProof.Rows L2 Evl

/-! ### a power of any size -/
def CPowW (i j : Int) : Prop := 0 ≤ j ∧ (Builtin.Int.intBits i : Int) * j ≤ 2 ^ 27
section
variable {X : Cx}
theorem op_powW : OpR X (binaryOp .Pow) (rI CPowW fun i j => .int (i ^ j.toNat)) := opI fun _ _ _ _ _ _ _ hc q => pow_int hc.1 hc.2 q
end

section
variable {K : PySem.W.Frag} {σ : L2.St} {H H' : Hp} {ta tb te tx tl : TE} {t u : TT} {x y z v : V} {r : R2} {D : Ends} {tu tw tz : TS} {g : TG}
theorem ev_sumN {ns : List Int} (h : EvL te σ H (ns.map V.int)) : Ev (tCB (rSum K) (tCons te tNil)) σ H (.int ns.sum) := fun H1 e Q q =>
  h H1 e _ fun p H2 _ e2 h2 => ⟨p, ns, rfl, sq_of h2, q H2 e2⟩
theorem ev_sum {p : Addr} {ns : List Int} (h : Ev te σ H (.ref p)) (hp : SqL K H p (ns.map V.int)) : Ev (tCB (rSum K) (tCons te tNil)) σ H (.int ns.sum) := fun H1 e Q q =>
  h H1 e _ fun H2 e2 => ⟨p, ns, rfl, ex_l (e.trans e2) hp, q H2 e2⟩
theorem ev_allN {bs : List Bool} (h : EvL te σ H (bs.map V.bl)) : Ev (tCB (rAll K) (tCons te tNil)) σ H (.bl (bs.all id)) := fun H1 e Q q =>
  h H1 e _ fun p H2 _ e2 h2 => ⟨p, bs, rfl, sq_of h2, q H2 e2⟩
theorem ev_min {p : Addr} {ns : List Int} {m : Int} (h : Ev te σ H (.ref p)) (hp : SqL K H p (ns.map V.int)) (hm : m ∈ ns) (hle : ∀ y ∈ ns, m ≤ y) : Ev (tCB (rMin K) (tCons te tNil)) σ H (.int m) := fun H1 e Q q =>
  h H1 e _ fun H2 e2 => ⟨p, ns, rfl, ex_l (e.trans e2) hp, by cases ns with | nil => cases hm | cons a r => simp, fun k hk hkl => by
    have : k = m := Int.le_antisymm (hkl m hm) (hle k hk)
    rw [this]
    exact q H2 e2⟩
def rInt1 : List V → Hp → VK → Prop := fun xs H Q => (∃ i, xs = [.int i] ∧ Q (.int i) H) ∨ ∃ k, xs = [.bl k] ∧ Q (.int (if k then 1 else 0)) H
theorem ev_int {i : Int} (h : Ev te σ H (.int i)) : Ev (tCB rInt1 (tCons te tNil)) σ H (.int i) := fun H1 e Q q =>
  h H1 e _ fun H2 e2 => Or.inl ⟨i, rfl, q H2 e2⟩
theorem ev_intB {k : Bool} (h : Ev te σ H (.bl k)) : Ev (tCB rInt1 (tCons te tNil)) σ H (.int (if k then 1 else 0)) := fun H1 e Q q =>
  h H1 e _ fun H2 e2 => Or.inr ⟨k, rfl, q H2 e2⟩
theorem ev_bits {i : Int} (h : Ev te σ H (.int i)) : Ev (tBits te) σ H (.int (Builtin.Int.intBits i : Nat)) := fun H1 e Q q =>
  h H1 e _ fun H2 e2 => ⟨i, rfl, q H2 e2⟩
/-- isinstance of a scalar -/
theorem ev_isi {ty : Value} {b : Bool} {n : String} (h : Ev te σ H x) (ht : ∀ H1, Ex H H1 → TyX K H1 x ty) (hk : PySem.W.kitOne K ty (.type n) = some b) : Ev (tCB (rIsi K) (tCons te (tCons (tC (.ty n)) tNil))) σ H (.bl b) := fun H1 e Q q =>
  h H1 e _ fun H2 e2 => ⟨x, .ty n, ty, .type n, b, rfl, ClsV.ty n, ht H2 (e.trans e2), hk, q H2 e2⟩
theorem ev_isiI {i : Int} {b : Bool} {n : String} (h : Ev te σ H (.int i)) (hk : kitB "int" n = some b) : Ev (tCB (rIsi K) (tCons te (tCons (tC (.ty n)) tNil))) σ H (.bl b) :=
  ev_isi h (fun _ _ => TyX.base (TyOf.int i)) (kit_ty hk)
theorem ev_isiL {p : Addr} {xs : List V} {b : Bool} {n : String} (h : Ev te σ H (.ref p)) (hp : H p = some (.lst xs)) (hk : kitB "list" n = some b) : Ev (tCB (rIsi K) (tCons te (tCons (tC (.ty n)) tNil))) σ H (.bl b) :=
  ev_isi h (fun _ e => TyX.base (TyOf.lst (e _ _ hp))) (kit_ty hk)
theorem ev_chain {r' : R2} {tc : TE} {w' : V} {k k' : Bool} (ha : Ev ta σ H x) (hb : Ev tb σ H y) (hr : RV r x y H (.bl k)) (hc : Ev tc σ H w') (hr' : RV r' y w' H (.bl k')) : Ev (tChain r r' ta tb tc) σ H (.bl (k && k')) := fun H1 e Q q =>
  ha H1 e _ fun H2 e2 => hb H2 (e.trans e2) _ fun H3 e3 => hr H3 ((e.trans e2).trans e3) _ fun H4 e4 => ⟨k, rfl, by
    have e' := ((e.trans e2).trans e3).trans e4
    cases k with
    | true =>
      rw [if_pos rfl]
      exact hc H4 e' _ fun H5 e5 => hr' H5 (e'.trans e5) Q fun H6 e6 => q H6 ((((e2.trans e3).trans e4).trans e5).trans e6)
    | false =>
      rw [if_neg Bool.false_ne_true]
      exact q H4 ((e2.trans e3).trans e4)⟩
/-- [f(x) for x in ns] -/
theorem given_map {α : Type} (xs : List α) (d : α) (f : α → V) : given xs.length (fun _ => true) (fun i => f (xs.getD i d)) = xs.map f := by
  unfold given
  rw [List.filter_eq_self.mpr (fun _ _ => rfl)]
  apply List.ext_getElem?
  intro i
  rw [List.getElem?_map, List.getElem?_map]
  by_cases h : i < xs.length
  · rw [List.getElem?_range h, List.getElem?_eq_getElem h]
    simp only [Option.map_some]
    rw [List.getD_eq_getElem?_getD, List.getElem?_eq_getElem h] <;> rfl
  · rw [List.getElem?_eq_none (by rw [List.length_range]; omega), List.getElem?_eq_none (by omega)]
    rfl
theorem el_map {a : Addr} {j : Nat} {vs : List Nat} {α : Type} (d : α) {xs : List α} {c : α → V} (f : α → V) (h : Ev tl σ H (.ref a)) (hx : SqL K H a (xs.map c)) (hz : xs.length ≤ 40000) (hw : ∀ x, wipe ((wipe σ vs).set j (some x)) vs = wipe σ vs)
    (he : ∀ (x : α) H1, Ex H H1 → x ∈ xs → Ev te ((wipe σ vs).set j (some (c x))) H1 (f x)) : EvL (tLc (iList K tl) (gName j) tYes te vs) σ H (xs.map f) := by
  rw [← given_map xs d f]
  have hl : (xs.map c).length = xs.length := List.length_map _
  rw [← hl]
  refine el_lcL (fun _ => true) _ h hx (by rw [hl]; exact hz) hw (fun i x H1 e hi => fun H2 _ Q q => q H2 (Ex.refl H2)) (fun i x H1 e hi _ => ?_)
  rw [List.getElem?_map] at hi
  cases hq : xs[i]? with
  | none => rw [hq] at hi; cases hi
  | some y =>
    rw [hq] at hi
    have ey : c y = x := Option.some.inj hi
    rw [← ey, List.getD_eq_getElem?_getD, hq]
    exact he y H1 e (List.mem_of_getElem? hq)
/-- [f(i) for i in range(n)] -/
theorem el_mapR {a : TA} {j : Nat} {vs : List Nat} {n : Nat} (f : Nat → V) (h : EvA a σ H [.int (n : Int)]) (hn : n ≤ 40000) (hw : ∀ x, wipe ((wipe σ vs).set j (some x)) vs = wipe σ vs)
    (he : ∀ (i : Nat) H1, Ex H H1 → i < n → Ev te ((wipe σ vs).set j (some (.int (i : Int)))) H1 (f i)) : EvL (tLc (iRng1 a) (gName j) tYes te vs) σ H ((List.range n).map f) := by
  have k := el_lcR1 (t := tYes) (te := te) (j := j) (vs := vs) (fun _ => true) f h (by omega) hw (fun i H1 e hi => fun H2 _ Q q => q H2 (Ex.refl H2)) (fun i H1 e hi _ => he i H1 e (by omega))
  unfold given at k
  rw [List.filter_eq_self.mpr (fun _ _ => rfl), Int.toNat_natCast] at k
  exact k
theorem et_if {b : Bool} {te1 te2 : TE} (h : EvT t σ H b) (h1 : b = true → Ev te1 σ H v) (h2 : b = false → Ev te2 σ H v) : Ev (tIf t te1 te2) σ H v := ev_if h h1 h2
/-- a call whose argument is a new list -/
theorem ev_callN {sp : Sp} {xs : List V} {E : XK} (h : EvL te σ H xs) (hs : ∀ p H1, H1 p = some (.lst xs) → Ex H H1 → SpV sp [.ref p] H1 z) : Ev (tCall sp [] E (tCons te tNil)) σ H z := fun H1 e Q q =>
  h H1 e _ fun p H2 _ e2 hp => hs p H2 hp (e.trans e2) H2 (Ex.refl H2) Q (fun H3 e3 => q H3 (e2.trans e3)) E
theorem ev_op2 {H0 : Hp} (e : Ex H0 H) (h : Ev te σ H0 v) : Ev te σ H v := h.mono e
end
/-! ### frames where one object may change -/
/-- all that was tracked but at g is as it was -/
def ExB (g : Addr) (H H' : Hp) : Prop := ∀ a o, a ≠ g → H a = some o → H' a = some o
theorem ExB.refl (g : Addr) (H : Hp) : ExB g H H := fun _ _ _ h => h
theorem ExB.trans {g : Addr} {H H1 H2 : Hp} (a : ExB g H H1) (b : ExB g H1 H2) : ExB g H H2 := fun x o n h => b x o n (a x o n h)
theorem ExB.of {g : Addr} {H H1 : Hp} (a : Ex H H1) : ExB g H H1 := fun x o _ h => a x o h
theorem ExB.upd {g : Addr} {H H1 : Hp} {o : HO} (a : ExB g H H1) : ExB g H (upd H1 g o) := fun x u n h => by
  rw [upd_ne n]
  exact a x u n h
theorem exb_new {g : Addr} {H H1 H2 : Hp} (e : Ex H H1) (hg : H g = none) (E : ExB g H1 H2) : Ex H H2 := fun b o h => E b o (ne_of_none h hg) (e b o h)
theorem ExB.back {g : Addr} {H H' : Hp} {o : HO} (e : ExB g H H') (hg : H' g = some o) {p : Addr} (h : H' p = none) : H p = none := by
  cases q : H p with
  | none => rfl
  | some u =>
    by_cases n : p = g
    · rw [n, hg] at h; cases h
    · rw [e p u n q] at h; cases h

/-! ### data: scalars, lists and tuples of them -/
def sD : V → PyData
  | .int i => .int i
  | .bl b => .bool b
  | _ => .none
def isSc : V → Bool
  | .int _ => true
  | .bl _ => true
  | .non => true
  | _ => false
section
variable {K : PySem.W.Frag} {H : Hp}
theorem dp_sc {v : V} (h : isSc v = true) : Dp K H v (sD v) := by
  cases v <;> first | cases h | skip
  · exact .non
  · exact .bl _
  · exact .int _
theorem dpAll_sc : ∀ {vs : List V}, vs.all isSc = true → DpAll K H vs (vs.map sD)
  | [], _ => .nil
  | v :: r, h => by
    rw [List.all_cons, Bool.and_eq_true] at h
    exact .cons (dp_sc h.1) (dpAll_sc h.2)
theorem lay_sc (v : V) : PyData.canLay0 (sD v) = true := by
  cases v <;> rfl
theorem layAll_sc : ∀ vs : List V, PyData.canLayAll0 (vs.map sD) = true
  | [] => rfl
  | v :: r => by
    rw [List.map_cons, PyData.canLayAll0, lay_sc v, layAll_sc r]
    rfl
theorem depth_sc (v : V) : PyData.depth (sD v) = 0 := by
  cases v <;> rfl
theorem depthAll_sc : ∀ vs : List V, PyData.depthAll (vs.map sD) = 0
  | [] => rfl
  | v :: r => by
    rw [List.map_cons, PyData.depthAll, depth_sc v, depthAll_sc r]
    rfl
theorem shaped_tup (vs : List V) : SeqAt.shaped (.tuple (vs.map sD)) = true := by
  unfold SeqAt.shaped
  rw [PyData.canLay0, layAll_sc, PyData.depth, depthAll_sc]
  rfl
theorem shaped_lst (vs : List V) : SeqAt.shaped (.list (vs.map sD)) = true := by
  unfold SeqAt.shaped
  rw [PyData.canLay0, layAll_sc, PyData.depth, depthAll_sc]
  rfl
theorem ints_sc : ∀ ns : List Int, (ns.map V.int).all isSc = true
  | [] => rfl
  | _ :: r => by rw [List.map_cons, List.all_cons, ints_sc r]; rfl
theorem ints_sD (ns : List Int) : (ns.map V.int).map sD = ns.map PyData.int := by rw [List.map_map]; rfl
/-- two tuples with the same scalars -/
theorem rv_neT {a b : Addr} {xs : List V} (ha : H a = some (.tup xs)) (hb : H b = some (.tup xs)) (h : xs.all isSc = true) : RV (rNeD K) (.ref a) (.ref b) H (.bl false) := fun H1 e Q q =>
  ⟨.tuple (xs.map sD), .tuple (xs.map sD), .tup (st_of (e _ _ ha)) (dpAll_sc h), .tup (st_of (e _ _ hb)) (dpAll_sc h), shaped_tup xs, shaped_tup xs, by
    rw [SeqAt.eqv_refl _ (SeqAt.canLay_of_shaped (shaped_tup xs))]
    exact q H1 (Ex.refl H1)⟩
theorem rv_eqT {a b : Addr} {xs : List V} (ha : H a = some (.tup xs)) (hb : H b = some (.tup xs)) (h : xs.all isSc = true) : RV (rEqD K) (.ref a) (.ref b) H (.bl true) := fun H1 e Q q =>
  ⟨.tuple (xs.map sD), .tuple (xs.map sD), .tup (st_of (e _ _ ha)) (dpAll_sc h), .tup (st_of (e _ _ hb)) (dpAll_sc h), shaped_tup xs, shaped_tup xs, by
    rw [SeqAt.eqv_refl _ (SeqAt.canLay_of_shaped (shaped_tup xs))]
    exact q H1 (Ex.refl H1)⟩
/-- two lists of ints -/
theorem rv_eqI {a b : Addr} {ns ms : List Int} (ha : SqL K H a (ns.map V.int)) (hb : SqL K H b (ms.map V.int)) : RV (rEqD K) (.ref a) (.ref b) H (.bl (decide (ns = ms))) := fun H1 e Q q =>
  ⟨.list ((ns.map V.int).map sD), .list ((ms.map V.int).map sD), .lst (ex_l e ha) (dpAll_sc (ints_sc ns)), .lst (ex_l e hb) (dpAll_sc (ints_sc ms)), shaped_lst _, shaped_lst _, by
    rw [ints_sD, ints_sD, PyData.eqv, PySem.W.ked_eqvAll]
    exact q H1 (Ex.refl H1)⟩
theorem rv_neI {a b : Addr} {ns ms : List Int} (ha : SqL K H a (ns.map V.int)) (hb : SqL K H b (ms.map V.int)) : RV (rNeD K) (.ref a) (.ref b) H (.bl (!decide (ns = ms))) := fun H1 e Q q =>
  ⟨.list ((ns.map V.int).map sD), .list ((ms.map V.int).map sD), .lst (ex_l e ha) (dpAll_sc (ints_sc ns)), .lst (ex_l e hb) (dpAll_sc (ints_sc ms)), shaped_lst _, shaped_lst _, by
    rw [ints_sD, ints_sD, PyData.eqv, PySem.W.ked_eqvAll]
    exact q H1 (Ex.refl H1)⟩
end
/-- a new tuple is handed back -/
def RetU (xs : List V) (H : Hp) (Q : VK) : Prop := ∀ p H2, H p = none → Ex H H2 → H2 p = some (.tup xs) → Q (.ref p) H2
theorem RetU.go {xs : List V} {H H' : Hp} {Q : VK} (k : RetU xs H Q) (e : Ex H H') {p : Addr} {H2 : Hp} (hp : H' p = none) (e2 : Ex H' H2) (h : H2 p = some (.tup xs)) : Q (.ref p) H2 := k p H2 (fresh_back e hp) (e.trans e2) h
theorem RetU.ex {xs : List V} {H H' : Hp} {Q : VK} (k : RetU xs H Q) (e : Ex H H') : RetU xs H' Q := fun p H2 hp e2 h => k p H2 (fresh_back e hp) (e.trans e2) h
theorem eu_if {σ : L2.St} {H : Hp} {t : TT} {ta tb : TE} {xs : List V} {b : Bool} (h : EvT t σ H b) (h1 : b = true → EvU ta σ H xs) (h2 : b = false → EvU tb σ H xs) : EvU (tIf t ta tb) σ H xs := fun H1 e Q q => h H1 e _ fun H2 e2 => by
  cases b with
  | true =>
    show ta σ H2 Q
    exact h1 rfl H2 (e.trans e2) Q fun p H3 hp e3 h3 => q p H3 (fresh_back e2 hp) (e2.trans e3) h3
  | false =>
    show tb σ H2 Q
    exact h2 rfl H2 (e.trans e2) Q fun p H3 hp e3 h3 => q p H3 (fresh_back e2 hp) (e2.trans e3) h3
section
variable {K : PySem.W.Frag} {σ : L2.St} {H H' : Hp} {ta tb te tx tl : TE} {tr : TA} {t u : TT} {x y z v : V} {r : R2} {D : Ends} {tu tw tz : TS}
/-- the first operand a new tuple -/
theorem ev_opU1 {xs : List V} (ha : EvU ta σ H xs) (hb : ∀ H1, Ex H H1 → Ev tb σ H1 y) (hr : ∀ p H1, H1 p = some (.tup xs) → Ex H H1 → RV r (.ref p) y H1 z) : Ev (tOp r ta tb) σ H z := fun H1 e Q q =>
  ha H1 e _ fun p H2 _ e2 hp => hb H2 (e.trans e2) H2 (Ex.refl H2) _ fun H3 e3 => hr p H3 (e3 p _ hp) ((e.trans e2).trans e3) H3 (Ex.refl H3) Q fun H4 e4 => q H4 ((e2.trans e3).trans e4)
theorem el_cat {a b : Addr} {xs zs : List V} (ha : Ev ta σ H (.ref a)) (hb : Ev tb σ H (.ref b)) (h1 : H a = some (.lst xs)) (h2 : H b = some (.lst zs)) (hz : xs.length + zs.length ≤ 100000) : EvL (tOp rCat ta tb) σ H (xs ++ zs) := fun H1 e Q q =>
  ha H1 e _ fun H2 e2 => hb H2 (e.trans e2) _ fun H3 e3 => ⟨a, b, xs, zs, rfl, rfl, e3 _ _ (e2 _ _ (e _ _ h1)), e3 _ _ (e2 _ _ (e _ _ h2)), sz_of hz, fun p hp => q p _ (fresh_back (e2.trans e3) hp) ((e2.trans e3).trans (Ex.new hp)) upd_same⟩
/-- the second one a new list -/
theorem el_catN {a : Addr} {xs zs : List V} (ha : Ev ta σ H (.ref a)) (hb : EvL tb σ H zs) (h1 : H a = some (.lst xs)) (hz : xs.length + zs.length ≤ 100000) : EvL (tOp rCat ta tb) σ H (xs ++ zs) := fun H1 e Q q =>
  ha H1 e _ fun H2 e2 => hb H2 (e.trans e2) _ fun b H3 _ e3 h3 => ⟨a, b, xs, zs, rfl, rfl, e3 _ _ (e2 _ _ (e _ _ h1)), h3, sz_of hz, fun p hp => q p _ (fresh_back (e2.trans e3) hp) ((e2.trans e3).trans (Ex.new hp)) upd_same⟩
/-- a slice of a new list -/
theorem el_slN {tl th : TO} {xs : List V} {lo hi : Option Int} (h : EvL te σ H xs) (h1 : ∀ H1, Ex H H1 → EvO tl σ H1 lo) (h2 : ∀ H1, Ex H H1 → EvO th σ H1 hi) : EvL (tSl (rSlL K) te tl th) σ H (cutV xs lo hi) := fun H1 e _ q =>
  h H1 e _ fun a H2 _ e2 ha => h1 H2 (e.trans e2) H2 (Ex.refl H2) _ fun H3 e3 => h2 H3 ((e.trans e2).trans e3) H3 (Ex.refl H3) _ fun H4 e4 =>
    ⟨a, xs, rfl, sq_of (e4 _ _ (e3 _ _ ha)), fun p hp => q p _ (fresh_back ((e2.trans e3).trans e4) hp) (((e2.trans e3).trans e4).trans (Ex.new hp)) upd_same⟩
theorem el_rev {a : Addr} {xs : List V} (h : Ev te σ H (.ref a)) (hx : SqL K H a xs) : EvL (tRevL K te) σ H xs.reverse := fun H1 e _ q =>
  h H1 e _ fun H2 e2 => ⟨a, xs, rfl, ex_l (e.trans e2) hx, fun p hp => q p _ (fresh_back e2 hp) (e2.trans (Ex.new hp)) upd_same⟩
theorem rv_isN {x : V} : RV (fun x y H Q => y = .non ∧ Q (.bl (decide (x = .non))) H) x .non H (.bl (decide (x = .non))) := fun H1 _ _ q => ⟨rfl, q H1 (Ex.refl H1)⟩
theorem q_par {i j : Nat} {tr : TA} (k : tr σ H fun vs H1 => ∃ v w, vs = [v, w] ∧ tz D ((σ.set i (some v)).set j (some w)) H1) : tSeq (tPar i j tr) tz D σ H := k
theorem s_par {i j : Nat} {tr : TA} (k : tr σ H fun vs H1 => ∃ v w, vs = [v, w] ∧ D.nx ((σ.set i (some v)).set j (some w)) H1) : tPar i j tr D σ H := k
theorem q_parV {i j : Nat} {tr : TA} {v w : V} (h : EvA tr σ H [v, w]) (k : ∀ H1, Ex H H1 → tz D ((σ.set i (some v)).set j (some w)) H1) : tSeq (tPar i j tr) tz D σ H := h H (Ex.refl H) _ fun H1 e => ⟨v, w, rfl, k H1 e⟩
/-! steps of a reading at a heap -/
theorem ta_consU {Q : List V → Hp → Prop} {xs : List V} (h : EvU te σ H xs) (k : ∀ p H1, H p = none → Ex H H1 → H1 p = some (.tup xs) → tr σ H1 fun vs H2 => Q (.ref p :: vs) H2) : tCons te tr σ H Q := h H (Ex.refl H) _ fun p H1 hp e h1 => k p H1 hp e h1
theorem ta_consL {Q : List V → Hp → Prop} {xs : List V} (h : EvL te σ H xs) (k : ∀ p H1, H p = none → Ex H H1 → H1 p = some (.lst xs) → tr σ H1 fun vs H2 => Q (.ref p :: vs) H2) : tCons te tr σ H Q := h H (Ex.refl H) _ fun p H1 hp e h1 => k p H1 hp e h1
theorem ta_consV {Q : List V → Hp → Prop} (h : Ev te σ H v) (k : ∀ H1, Ex H H1 → tr σ H1 fun vs H2 => Q (v :: vs) H2) : tCons te tr σ H Q := h H (Ex.refl H) _ fun H1 e => k H1 e
theorem el_use {Q : VK} {xs : List V} (h : EvL te σ H xs) (k : ∀ p H1, H p = none → Ex H H1 → H1 p = some (.lst xs) → Q (.ref p) H1) : te σ H Q := h H (Ex.refl H) _ fun p H1 hp e h1 => k p H1 hp e h1
theorem eu_use {Q : VK} {xs : List V} (h : EvU te σ H xs) (k : ∀ p H1, H p = none → Ex H H1 → H1 p = some (.tup xs) → Q (.ref p) H1) : te σ H Q := h H (Ex.refl H) _ fun p H1 hp e h1 => k p H1 hp e h1
theorem ev_use {Q : VK} (h : Ev te σ H v) (k : ∀ H1, Ex H H1 → Q v H1) : te σ H Q := h H (Ex.refl H) _ fun H1 e => k H1 e
theorem top_in {Q : VK} (k : ta σ H fun x H1 => tb σ H1 fun y H2 => r x y H2 Q) : tOp r ta tb σ H Q := k
theorem q_in {te : TE} {i : Nat} (k : te σ H fun x H1 => tz D (σ.set i (some x)) H1) : tSeq (tAsg te (gName i)) tz D σ H := k
theorem r_in {te : TE} (k : te σ H D.rt) : tRet te D σ H := k
theorem ta_in {Q : List V → Hp → Prop} {te : TE} (k : te σ H fun x H1 => tr σ H1 fun vs H2 => Q (x :: vs) H2) : tCons te tr σ H Q := k
theorem tup_in {Q : VK} (k : tr σ H fun vs H1 => vs.length ≤ sizeLine ∧ ∀ p, H1 p = none → Q (.ref p) (upd H1 p (.tup vs))) : tTup tr σ H Q := k
theorem et_use {Q : Bool → Hp → Prop} {b : Bool} (h : EvT t σ H b) (k : ∀ H1, Ex H H1 → Q b H1) : t σ H Q := h H (Ex.refl H) _ fun H1 e => k H1 e
theorem tif_in {Q : VK} (k : t σ H fun c H1 => if c = true then ta σ H1 Q else tb σ H1 Q) : tIf t ta tb σ H Q := k
theorem tcall_in {sp : Sp} {dvs : List V} {E : XK} {Q : VK} (k : tr σ H fun vs H1 => sp (vs ++ dvs) H1 Q E) : tCall sp dvs E tr σ H Q := k
theorem tb_in {te : TE} {Q : Bool → Hp → Prop} (k : te σ H fun x H1 => ∃ c, x = .bl c ∧ Q c H1) : tB te σ H Q := k
theorem ta_nil {Q : List V → Hp → Prop} (k : Q [] H) : tNil σ H Q := k
theorem tl_lst {Q : VK} (k : tr σ H fun vs H1 => vs.length ≤ sizeLine ∧ ∀ p, H1 p = none → Q (.ref p) (upd H1 p (.lst vs))) : tLst tr σ H Q := k
end
section
variable {K : PySem.W.Frag} {σ : L2.St} {H H' : Hp} {ta tb te tx tl : TE} {tr : TA} {t u : TT} {x y z v : V} {r : R2} {D : Ends} {tu tw tz : TS} {g : TG}
/-- for i, x in enumerate(xs) -/
theorem s_forEnum {a : Addr} {xs : List V} (h : EvA tr σ H [.ref a]) (hx : SqL K H a xs) (Pv : Nat → L2.St → Hp → Prop) (h0 : ∀ H1, Ex H H1 → Pv 0 σ H1) (hl : ∀ i σ' H', i ≤ xs.length → Pv i σ' H' → SqL K H' a xs)
    (hs : ∀ i x σ' H', xs[i]? = some x → Pv i σ' H' → ∀ T, H' T = none → g (.ref T) σ' (upd H' T (.tup [.int (i : Nat), x])) fun σ2 H2 => tu { D with nx := Pv (i + 1), ct := Pv (i + 1), bk := D.nx } σ2 H2) (hd : ∀ σ' H', Pv xs.length σ' H' → D.nx σ' H') : tFor (iEnum K tr) g tu D σ H :=
  h H (Ex.refl H) _ fun H1 e => ⟨a, xs, rfl, ex_l e hx, fun i m σ H => m = xs.length - i ∧ i ≤ xs.length ∧ Pv i σ H, ⟨xs.length, by simp, Nat.zero_le _, h0 H1 e⟩, fun i m σ' H' hw => by
    obtain ⟨rfl, hi, p⟩ := hw
    have q := hl i σ' H' hi p
    by_cases hlt : i < xs.length
    · refine .inr ⟨⟨xs, xs[i], q, by simp [hlt]⟩, Pv (i + 1), fun σ2 H2 p' => ⟨xs.length - (i + 1), by omega, rfl, hlt, p'⟩, fun v H2 y => ?_⟩
      obtain ⟨T, x, rfl, hT, rfl, hy⟩ := y
      exact hs i x σ' H' (hy xs q) p T hT
    · have e : i = xs.length := by omega
      subst e
      exact .inl ⟨⟨xs, q, Nat.le_refl _⟩, hd σ' H' p⟩⟩
/-- o.f, o.m(), C's -/
theorem ev_fld {C a dx : Addr} {fs : List (Str × V)} {f : Str} (h : Ev te σ H (.ref a)) (ho : H a = some (.ins C dx fs)) (c : Cls K C) (n : NoAttr K C f) (l : fs.lookup f = some v) : Ev (tFld K te f) σ H v := fun H1 e Q q =>
  h H1 e _ fun H2 e2 => ⟨a, C, dx, fs, v, rfl, e2 _ _ (e _ _ ho), c, n, l, q H2 e2⟩
theorem ev_meth0 {C a dx : Addr} {fs : List (Str × V)} {m : Str} {sp : Sp} {E : XK} (h : Ev te σ H (.ref a)) (ho : H a = some (.ins C dx fs)) (l : fs.lookup m = none) (hs : SpV sp [.ref a] H v) : Ev (tMeth C m sp [] E te tNil) σ H v := fun H1 e Q q =>
  h H1 e _ fun H2 e2 => ⟨a, dx, fs, rfl, e2 _ _ (e _ _ ho), l, hs H2 (e.trans e2) Q (fun H3 e3 => q H3 (e2.trans e3)) E⟩
theorem el_meth0 {C a dx : Addr} {fs : List (Str × V)} {m : Str} {sp : Sp} {E : XK} {xs : List V} (h : Ev te σ H (.ref a)) (ho : H a = some (.ins C dx fs)) (l : fs.lookup m = none) (hs : ∀ H1, Ex H H1 → ∀ Q : VK, RetL xs H1 Q → ∀ E : XK, sp [.ref a] H1 Q E) : EvL (tMeth C m sp [] E te tNil) σ H xs := fun H1 e Q q =>
  h H1 e _ fun H2 e2 => ⟨a, dx, fs, rfl, e2 _ _ (e _ _ ho), l, hs H2 (e.trans e2) Q (fun p H3 hp e3 h3 => q p H3 (fresh_back e2 hp) (e2.trans e3) h3) E⟩
theorem el_callR {sp : Sp} {dvs vs xs : List V} {E : XK} {ta : TA} (h : EvA ta σ H vs) (hs : ∀ H1, Ex H H1 → ∀ Q : VK, RetL xs H1 Q → ∀ E : XK, sp (vs ++ dvs) H1 Q E) : EvL (tCall sp dvs E ta) σ H xs := el_call h fun H1 e Q q E => hs H1 e Q q E
/-- isinstance of an own class -/
theorem ev_isiC {C a dx : Addr} {fs : List (Str × V)} (h : Ev te σ H (.ref a)) (ho : H a = some (.ins C dx fs)) (c : Cls K C)
    (i : PySem.W.findIn K (.ref C) "__class__" = some (some (.builtin "object.__class__")) ∧ PySem.W.specialIn K (.builtin "object.__class__") "__get__" = some (some (.builtin "getset_descriptor.__get__")) ∧ PySem.W.takesIn K (.builtin "object.__class__") = some true ∧ PySem.W.mroIn K C (.type "object") = some true) :
    Ev (tCB (rIsi K) (tCons te (tCons (tC (.ref C)) tNil))) σ H (.bl true) := fun H1 e Q q =>
  h H1 e _ fun H2 e2 => ⟨.ref a, .ref C, .ref C, .ref C, true, rfl, ClsV.own C, TyX.base (TyOf.ins (e2 _ _ (e _ _ ho)) c i.1 i.2.1 i.2.2.1 i.2.2.2), by
    unfold PySem.W.kitOne
    rw [if_pos (beq_self_eq_true _)], q H2 e2⟩
/-- max of a new list -/
theorem ev_maxN {ns : List Int} {m : Int} (h : EvL te σ H (ns.map V.int)) (hm : m ∈ ns) (hle : ∀ y ∈ ns, y ≤ m) : Ev (tCB (rMax K) (tCons te tNil)) σ H (.int m) := fun H1 e Q q =>
  h H1 e _ fun p H2 _ e2 h2 => ⟨p, ns, rfl, sq_of h2, by cases ns with | nil => cases hm | cons a r => simp, fun k hk hkl => by
    have : k = m := Int.le_antisymm (hle k hk) (hkl m hm)
    rw [this]
    exact q H2 e2⟩
end
theorem ev_min2 {σ : L2.St} {H : Hp} {ta tb : TE} {i j : Int} (ha : Ev ta σ H (.int i)) (hb : Ev tb σ H (.int j)) : Ev (tCB (fun xs H Q => ∃ i j, xs = [.int i, .int j] ∧ Q (.int (if j < i then j else i)) H) (tCons ta (tCons tb tNil))) σ H (.int (if j < i then j else i)) := fun H1 e Q q =>
  ha H1 e _ fun H2 e2 => hb H2 (e.trans e2) _ fun H3 e3 => ⟨i, j, rfl, q H3 (e2.trans e3)⟩
theorem spv {sp : Sp} {vs : List V} {H : Hp} {z : V} (h : ∀ H1, Ex H H1 → ∀ Q : VK, RetV z H1 Q → ∀ E : XK, sp vs H1 Q E) : SpV sp vs H z := fun H1 e Q q E => h H1 e Q q E
/-- a call that hands back a new tuple -/
theorem eu_call {σ : L2.St} {H : Hp} {sp : Sp} {dvs vs xs : List V} {E : XK} {ta : TA} (h : EvA ta σ H vs) (hs : ∀ H1, Ex H H1 → ∀ Q : VK, RetU xs H1 Q → ∀ E : XK, sp (vs ++ dvs) H1 Q E) : EvU (tCall sp dvs E ta) σ H xs := fun H1 e Q q =>
  h H1 e _ fun H2 e2 => hs H2 (e.trans e2) Q (fun p H3 hp e3 h3 => q p H3 (fresh_back e2 hp) (e2.trans e3) h3) E
/-- a call of which an argument is a new list, that hands back a new tuple -/
theorem eu_callN {σ : L2.St} {H : Hp} {sp : Sp} {xs ys : List V} {E : XK} {te : TE} (h : EvL te σ H xs) (hs : ∀ p H1, H1 p = some (.lst xs) → Ex H H1 → ∀ Q : VK, RetU ys H1 Q → ∀ E : XK, sp [.ref p] H1 Q E) : EvU (tCall sp [] E (tCons te tNil)) σ H ys := fun H1 e Q q =>
  h H1 e _ fun p H2 hp e2 h2 => hs p H2 h2 (e.trans e2) Q (fun u H3 hu e3 h3 => q u H3 (fresh_back e2 hu) (e2.trans e3) h3) E
end WS

set_option Elab.async false
set_option linter.all false
set_option maxRecDepth 100000
set_option maxHeartbeats 2000000
/-! rules of my own: comb; max of ints with a default; max of alike data -/
namespace WS
open PySem PySem.Spec PyProof.Rows L2 Evl
theorem un65 {k : Nat} {A : Around} (r : Room k A) : A.units + 65 < cLine := by have := r.un; omega
section
variable {X : Cx}
/-- math.comb of two counts -/
def rComb : List V → Hp → VK → Prop := fun xs H Q => ∃ a b : Int, xs = [.int a, .int b] ∧ 0 ≤ a ∧ 0 ≤ b ∧ a < 2 ^ 64 ∧ (b ≤ 9000 ∨ a ≤ 18000) ∧ Q (.int (PySem.W.mcComb a b)) H
theorem cr_comb : CallR X (.builtin "math.comb") rComb := by
  intro pins s σ H xs us Q I r h
  obtain ⟨a, b, rfl, h0, h1, h2, h3, q⟩ := h
  obtain ⟨t, u, rfl⟩ := Vals.int2 r
  exact PySem.W.mc_comb h0 h1 h2 h3 fun _ => ⟨.int _, H, I.tok _, ⟨_, rfl⟩, q⟩
/-- max(xs, default=d) of ints -/
def rMaxDef (K : PySem.W.Frag) : List V → List V → Hp → VK → Prop := fun xs zs H Q => ∃ (a : Addr) (ns : List Int) (d : Int), xs = [.ref a] ∧ zs = [.int d] ∧ SqL K H a (ns.map V.int) ∧ (ns = [] → Q (.int d) H) ∧ ∀ m, m ∈ ns → (∀ y ∈ ns, y ≤ m) → Q (.int m) H
theorem cr_maxDef (hc : X.calm = true) (hu : X.A.units + 64 < cLine) : CallRK X (.builtin "max") [Str.ofString "default"] (rMaxDef X.K) := by
  intro pins s σ H xs zs us ws Q I r rz h
  obtain ⟨a, ns, d, rfl, rfl, hs, q0, q⟩ := h
  obtain ⟨its, rv, hl, _⟩ := I.list hs
  rw [Vals.ref1 r]
  obtain ⟨w1, rfl, e1⟩ := vals1 rz
  obtain ⟨td, rfl⟩ := (show ∃ t, w1 = Value.int d t from e1)
  have dp : DpAll X.K H (ns.map V.int) (ns.map PyData.int) := by
    rw [← ints_sD]
    exact dpAll_sc (ints_sc ns)
  obtain ⟨as, ra⟩ := Dp.readsAll I _ _ _ dp rv
  have dep : PyData.depthAll (ns.map PyData.int) = 0 := by
    rw [← ints_sD]
    exact depthAll_sc _
  show wpAny _ _ (call (.builtin "max") [.ref a] [(Str.ofString "default", .int d td)]) _ _ _
  refine PySem.W.max_list_default (xs := ns.map PyData.int) (I.ok.hd hc) hl.isList (by simpa using ra) (PySem.W.alikeAll_datum (α := Int) ns) (by rw [dep]; omega) (fun e h' tk hk => ?_) fun y ys i v h' tk bs e hi r' hk => ?_
  · exact ⟨.int d, H, I.kept hk, ⟨td, rfl⟩, q0 (List.map_eq_nil_iff.mp e)⟩
  · cases ns with
    | nil => cases e
    | cons n r2 =>
      rw [List.map_cons] at e
      injection e with ea eb
      subst ea
      subst eb
      rw [PySem.W.maxD_ints] at r'
      cases r'
      have mem : ∀ (l : List Int) (k : Int), l.foldl max k = k ∨ l.foldl max k ∈ l := fun l => by
        induction l with
        | nil => intro k; exact .inl rfl
        | cons b l ih =>
          intro k
          rw [List.foldl_cons]
          rcases ih (max k b) with z | z
          · rw [z]
            by_cases hkb : k ≤ b
            · rw [Int.max_eq_right hkb]; exact .inr List.mem_cons_self
            · rw [Int.max_eq_left (by omega)]; exact .inl rfl
          · exact .inr (List.mem_cons_of_mem _ z)
      have ge : ∀ (l : List Int) (k : Int), k ≤ l.foldl max k ∧ ∀ y ∈ l, y ≤ l.foldl max k := fun l => by
        induction l with
        | nil => intro k; exact ⟨Int.le_refl _, fun y hy => absurd hy List.not_mem_nil⟩
        | cons b l ih =>
          intro k
          rw [List.foldl_cons]
          obtain ⟨z1, z2⟩ := ih (max k b)
          refine ⟨by omega, fun y hy => ?_⟩
          rcases List.mem_cons.mp hy with h | h
          · omega
          · exact z2 y h
      refine ⟨.int _, H, I.kept hk, ⟨_, rfl⟩, q _ ?_ fun y hy => ?_⟩
      · rcases mem r2 n with z | z
        · rw [z]; exact List.mem_cons_self
        · exact List.mem_cons_of_mem _ z
      · rcases List.mem_cons.mp hy with h | h
        · rw [h]; exact (ge r2 n).1
        · exact (ge r2 n).2 y h
/-- max(xs) of alike data: one of the items, whose datum is the greatest -/
def rMaxData (K : PySem.W.Frag) : List V → Hp → VK → Prop := fun xs H Q => ∃ (a : Addr) (vs : List V) (d : PyData) (ds : List PyData), xs = [.ref a] ∧ SqL K H a vs ∧ DpAll K H vs (d :: ds) ∧ PySem.W.AlikeAll (d :: ds) ∧ PyData.canLayAll0 (d :: ds) = true ∧ PyData.depthAll (d :: ds) ≤ 32 ∧
  ∀ (i : Nat) y e, vs[i]? = some y → (d :: ds)[i]? = some e → e = PySem.W.maxD d ds → Q y H
theorem cr_maxData (hc : X.calm = true) (hu : X.A.units + 64 < cLine) : CallR X (.builtin "max") (rMaxData X.K) := by
  intro pins s σ H xs us Q I r h
  obtain ⟨a, vs, d, ds, rfl, hs, hd, hal, hcl, hde, q⟩ := h
  obtain ⟨its, rv, hl, _⟩ := I.list hs
  rw [Vals.ref1 r]
  obtain ⟨as, ra⟩ := Dp.readsAll I _ _ _ hd rv
  refine PySem.W.max_list_data (I.ok.hd hc) hl.isList (by simpa using ra) hal (by omega) fun i v h' tk bs hi r' hk => ?_
  rw [List.getElem?_toArray] at hi
  have hlt : i < vs.length := by rw [rv.length]; exact (List.getElem?_eq_some_iff.mp hi).1
  obtain ⟨u, hu', ru⟩ := rv.get (List.getElem?_eq_getElem hlt)
  rw [hi] at hu'
  cases hu'
  obtain ⟨bs2, r2, h2, h3, h4⟩ := PySem.W.readsAll_at ra i v hi
  have ge : (d :: ds)[i]? = some ((d :: ds).getD i .none) := by rw [List.getD_eq_getElem?_getD, List.getElem?_eq_getElem h2] <;> rfl
  exact ⟨_, H, I.kept hk, ru, q i _ _ (List.getElem?_eq_getElem hlt) ge ((PySem.Reads.unique (PySem.W.reads_keeps hk r2) _ _ r').1)⟩
end
end WS

set_option Elab.async false
set_option linter.all false
set_option maxRecDepth 100000
set_option maxHeartbeats 2000000
namespace WS
open PySem PySem.Spec PyProof.Rows L2 Evl
section
variable {X : Cx} {tg : Expr}
theorem cr_range1 : CallR X (.type "range") (fun vs H Q => ∃ j, vs = [V.int j] ∧ ∀ p, H p = none → Q (.ref p) (upd H p (.rng 0 j))) := by
  intro pins s σ H vs us Q I r h
  obtain ⟨j, rfl, q⟩ := h
  obtain ⟨u1, rfl, t, rfl⟩ := vals1 r
  refine call_range_1 ⟨.ref s.heap.objs.size, upd H s.heap.objs.size (.rng 0 j), I.laid (t' := s.toks + 1 + 1) (fun _ _ keep => Heap.get?_push_of_some _ keep) (Nat.le_refl _) ⟨_, t, _, Heap.get?_push_size _ rfl⟩, rfl, q _ (I.hok.fresh (Nat.le_refl _))⟩
/-- a range kept as a value, gone over -/
def iRngV (te : TE) : TI := fun σ H R => te σ H fun x H1 => ∃ a lo hi, x = V.ref a ∧ H1 a = some (.rng lo hi) ∧ (-(2 ^ 62) ≤ lo ∧ lo < 2 ^ 62 ∧ -(2 ^ 62) ≤ hi ∧ hi < 2 ^ 62) ∧ R (Itr lo (hi - lo).toNat) H1
theorem pi_rngV {l : Expr} {tl : TE} (hl : PE X l tl) : PI X tg l (iRngV tl) := by
  refine ⟨fun pins s σ H R I h => thn (hl.run pins s σ H _ I h) fun v z ⟨x, G, J, rel, told⟩ => ?_⟩
  obtain ⟨a, lo, hi, rfl, at_, ⟨b1, b2, b3, b4⟩, q⟩ := told
  cases rel
  obtain ⟨t, u, w, laid⟩ := (show ∃ t u w, z.heap.get? a = some { cls := .type "range", data := .fields #[.int lo t, .int hi u, .int 1 w] } from J.hok a _ at_)
  refine wpAny_pyIter_range laid (small_one b1 b2 b3 b4) ?_
  have size_ : (((hi - lo).toNat : Nat) : Int) - ((0 : Nat) : Int) = Builtin.Range.rangeSize lo hi 1 := by rw [rangeSize_one]; split <;> omega
  refine ⟨z.heap.objs.size, [z.heap.objs.size], _, _, G, rfl, J.kept (t' := z.toks) (fun _ _ keep => Heap.get?_push_of_some _ keep), turn_range _ lo (hi - lo).toNat, ?_, fun b hb => ?_, q⟩
  · show IsRangeIter _ _ (lo + ((0 : Nat) : Int) * 1) ((((hi - lo).toNat : Nat) : Int) - ((0 : Nat) : Int)) 1
    rw [size_, show lo + ((0 : Nat) : Int) * 1 = lo by simp]
    exact Heap.get?_push_size _ rfl
  · obtain rfl := List.mem_singleton.mp hb
    exact J.fpOk (Nat.le_refl _) (J.hok.fresh (Nat.le_refl _))
end
theorem given_all (n : Nat) (f : Nat → V) : given n (fun _ => true) f = (List.range n).map f := by
  unfold given
  rw [List.filter_eq_self.mpr (fun _ _ => rfl)]
section
variable {K : PySem.W.Frag} {σ : L2.St} {H H' : Hp} {te tl : TE} {v : V}
theorem et_yes : EvT tYes σ H true := fun H1 _ _ q => q H1 (Ex.refl H1)
/-- [f(i) for i in r], r a range kept as a value -/
theorem el_mapRV {a : Addr} {n j : Nat} {vs : List Nat} (f : Nat → V) (h : Ev tl σ H (.ref a)) (ha : H a = some (.rng 0 (n : Int))) (hn : n ≤ 40000) (hw : ∀ x, wipe ((wipe σ vs).set j (some x)) vs = wipe σ vs)
    (he : ∀ (i : Nat) H1, Ex H H1 → i < n → Ev te ((wipe σ vs).set j (some (.int (i : Int)))) H1 (f i)) : EvL (tLc (iRngV tl) (gName j) tYes te vs) σ H ((List.range n).map f) := by
  rw [← given_all]
  refine fun H0 e Q q => h H0 e _ fun H1 e1 => ⟨a, 0, (n : Int), rfl, e1 _ _ (e _ _ ha), by omega, fun Dl hD => ?_⟩
  have en : ((n : Int) - 0).toNat = n := by omega
  rw [en]
  exact lc_it walk_range (Cw H1 (fun _ => true) f Dl) ⟨hD, Ex.new hD, upd_same⟩ (fun _ _ _ _ => trivial) (fun i x G G' hi p y => by
    obtain ⟨rfl, rfl⟩ := y
    have e0 : (0 : Int) + (i : Int) = (i : Int) := Int.zero_add _
    show wipe ((wipe σ vs).set j (some (.int ((0 : Int) + (i : Int))))) vs = wipe σ vs ∧ _
    rw [e0]
    have hh := he i H1 (e.trans e1) hi
    rw [← e0] at hh
    exact ⟨hw _, cw_turn p (by omega) et_yes (fun _ => hh)⟩) (fun G p => q Dl G (fresh_back e1 p.1) (e1.trans p.2.1) p.2.2)
/-- [f(i, x) for i, x in enumerate(xs)] -/
theorem el_enum {tr : TA} {a : Addr} {xs : List V} {i j : Nat} {vs : List Nat} (f : Nat → V) (h : EvA tr σ H [.ref a]) (hx : SqL K H a xs) (hz : xs.length ≤ 40000)
    (hw : ∀ x y, wipe (((wipe σ vs).set i (some x)).set j (some y)) vs = wipe σ vs) (he : ∀ (k : Nat) (x : V) H1, Ex H H1 → xs[k]? = some x → Ev te (((wipe σ vs).set i (some (.int (k : Int)))).set j (some x)) H1 (f k)) :
    EvL (tLc (iEnum K tr) (gTup K 2 (gCons (gName i) (gCons (gName j) gNil))) tYes te vs) σ H ((List.range xs.length).map f) := by
  rw [← given_all]
  refine fun H0 e Q q => h H0 e _ fun H1 e1 => ⟨a, xs, rfl, ex_l (e.trans e1) hx, fun Dl hD => ?_⟩
  refine lc_it (walk_enum (K := K) (a := a) (xs := xs)) (Cw H1 (fun _ => true) f Dl) ⟨hD, Ex.new hD, upd_same⟩ (fun _ G _ p => ex_l ((e.trans e1).trans p.2.1) hx) (fun k x G G' hk p y => ?_) (fun G p => q Dl G (fresh_back e1 p.1) (e1.trans p.2.1) p.2.2)
  obtain ⟨T, z, x', rfl, hT, rfl, hz', hx'⟩ := y
  obtain rfl := Option.some.inj hz'
  refine ⟨T, _, rfl, st_of upd_same, rfl, _, _, rfl, _, _, rfl, rfl, hw _ _, ?_⟩
  have nD : Dl ≠ T := fun z => by rw [← z, p.2.2] at hT; cases hT
  have p' : Cw H1 (fun _ => true) f Dl k (upd G T (.tup [.int (k : Int), x'])) := ⟨p.1, p.2.1.trans (Ex.new hT), by rw [upd_ne nD]; exact p.2.2⟩
  exact cw_turn p' (by omega) et_yes (fun _ => he k x' H1 (e.trans e1) hx')
/-- .. over a new list -/
theorem el_enumN {xs : List V} {i j : Nat} {vs : List Nat} (f : Nat → V) (h : EvL tl σ H xs) (hz : xs.length ≤ 40000)
    (hw : ∀ x y, wipe (((wipe σ vs).set i (some x)).set j (some y)) vs = wipe σ vs) (he : ∀ (k : Nat) (x : V) H1, Ex H H1 → xs[k]? = some x → Ev te (((wipe σ vs).set i (some (.int (k : Int)))).set j (some x)) H1 (f k)) :
    EvL (tLc (iEnum K (tCons tl tNil)) (gTup K 2 (gCons (gName i) (gCons (gName j) gNil))) tYes te vs) σ H ((List.range xs.length).map f) := fun H0 e Q q =>
  h H0 e _ fun a H1 ha e1 hx => by
    have k := el_enum (K := K) (te := te) (i := i) (j := j) (vs := vs) (tr := fun _ H Q => Q [.ref a] H) f (σ := σ) (H := H1) (fun H2 _ Q2 q2 => q2 H2 (Ex.refl H2)) (sq_of hx) hz hw (fun k x H2 e2 hk => he k x H2 ((e.trans e1).trans e2) hk)
    exact k H1 (Ex.refl H1) Q fun p H2 hp e2 h2 => q p H2 (fresh_back e1 hp) (e1.trans e2) h2
end
end WS

set_option Elab.async false
set_option linter.all false
set_option maxRecDepth 100000
set_option maxHeartbeats 2000000
namespace WS
open PySem PySem.Spec PyProof.Rows L2 Evl
section
variable {X : Cx}
/-- x *= e, one of both small -/
def ipMulS : TIp := fun x y H Q => ∃ i j, x = .int i ∧ y = .int j ∧ CMul i j ∧ Q (.int (i * j)) H
theorem ip_mulS : PIp X .Mult ipMulS := fun pins s σ H x y v u Q I r1 r2 h => by
  obtain ⟨i, j, rfl, rfl, small, q⟩ := h
  obtain ⟨t, rfl⟩ := r1
  obtain ⟨t', rfl⟩ := r2
  exact imul_int ⟨.int _, H, I.tok _, ⟨_, rfl⟩, q⟩ small.ok
end
section
variable {K : PySem.W.Frag} {σ : L2.St} {H : Hp} {te : TE} {D : Ends} {tz : TS}
theorem s_augMul {i : Nat} {a b : Int} (hx : σ[i]? = some (some (.int a))) (h : Ev te σ H (.int b)) (hm : CMul a b) (k : ∀ H1, Ex H H1 → D.nx (σ.set i (some (.int (a * b)))) H1) : tAug i te ipMulS D σ H :=
  ⟨_, hx, h H (Ex.refl H) _ fun H1 e => ⟨a, b, rfl, rfl, hm, k H1 e⟩⟩
/-- max(xs, default=d), xs a new list -/
theorem ev_maxDef {ns : List Int} {d m : Int} (h : EvL te σ H (ns.map V.int)) (h0 : ns = [] → m = d) (h1 : ns ≠ [] → m ∈ ns ∧ ∀ y ∈ ns, y ≤ m) : Ev (tCKw (rMaxDef K) (tCons te tNil) (tCons (tC (.int d)) tNil)) σ H (.int m) := fun H1 e Q q =>
  h H1 e _ fun p H2 _ e2 h2 => ⟨p, ns, d, rfl, rfl, sq_of h2, fun z => by rw [← h0 z]; exact q H2 e2, fun k hk hkl => by
    have ne : ns ≠ [] := fun z => by rw [z] at hk; cases hk
    rw [show k = m from Int.le_antisymm ((h1 ne).2 k hk) (hkl m (h1 ne).1)]
    exact q H2 e2⟩
theorem ev_comb {ta tb : TE} {a b : Int} (ha : Ev ta σ H (.int a)) (hb : Ev tb σ H (.int b)) (h0 : 0 ≤ a) (h1 : 0 ≤ b) (h2 : a ≤ 18000) : Ev (tCB rComb (tCons ta (tCons tb tNil))) σ H (.int (PySem.W.mcComb a b)) := fun H1 e Q q =>
  ha H1 e _ fun H2 e2 => hb H2 (e.trans e2) _ fun H3 e3 => ⟨a, b, rfl, h0, h1, by omega, .inr h2, q H3 (e2.trans e3)⟩
theorem ev_anyN {bs : List Bool} (h : EvL te σ H (bs.map V.bl)) : Ev (tCB (rAny K) (tCons te tNil)) σ H (.bl (bs.any id)) := fun H1 e Q q =>
  h H1 e _ fun p H2 _ e2 h2 => ⟨p, bs, rfl, sq_of h2, q H2 e2⟩
theorem rv_odd {u : Int} (h : 0 ≤ u) : RV (fun x y H Q => ∃ n : Nat, x = .int (n : Int) ∧ y = .int 1 ∧ Q (.int ((n % 2 : Nat) : Int)) H) (.int u) (.int 1) H (.int (u % 2)) := fun H1 e Q q =>
  ⟨u.toNat, by rw [show ((u.toNat : Nat) : Int) = u by omega], rfl, by
    rw [show ((u.toNat % 2 : Nat) : Int) = u % 2 by omega]
    exact q H1 (Ex.refl H1)⟩
/-- [f(i, x) for i, x in enumerate(xs) if t(i, x)] -/
theorem el_enumT {tr : TA} {t : TT} {a : Addr} {xs : List V} {i j : Nat} {vs : List Nat} (b : Nat → Bool) (f : Nat → V) (h : EvA tr σ H [.ref a]) (hx : SqL K H a xs) (hz : xs.length ≤ 40000)
    (hw : ∀ x y, wipe (((wipe σ vs).set i (some x)).set j (some y)) vs = wipe σ vs) (ht : ∀ (k : Nat) (x : V) H1, Ex H H1 → xs[k]? = some x → EvT t (((wipe σ vs).set i (some (.int (k : Int)))).set j (some x)) H1 (b k))
    (he : ∀ (k : Nat) (x : V) H1, Ex H H1 → xs[k]? = some x → b k = true → Ev te (((wipe σ vs).set i (some (.int (k : Int)))).set j (some x)) H1 (f k)) :
    EvL (tLc (iEnum K tr) (gTup K 2 (gCons (gName i) (gCons (gName j) gNil))) t te vs) σ H (given xs.length b f) := by
  refine fun H0 e Q q => h H0 e _ fun H1 e1 => ⟨a, xs, rfl, ex_l (e.trans e1) hx, fun Dl hD => ?_⟩
  refine lc_it (walk_enum (K := K) (a := a) (xs := xs)) (Cw H1 b f Dl) ⟨hD, Ex.new hD, upd_same⟩ (fun _ G _ p => ex_l ((e.trans e1).trans p.2.1) hx) (fun k x G G' hk p y => ?_) (fun G p => q Dl G (fresh_back e1 p.1) (e1.trans p.2.1) p.2.2)
  obtain ⟨T, z, x', rfl, hT, rfl, hz', hx'⟩ := y
  obtain rfl := Option.some.inj hz'
  refine ⟨T, _, rfl, st_of upd_same, rfl, _, _, rfl, _, _, rfl, rfl, hw _ _, ?_⟩
  have nD : Dl ≠ T := fun z => by rw [← z, p.2.2] at hT; cases hT
  have p' : Cw H1 b f Dl k (upd G T (.tup [.int (k : Int), x'])) := ⟨p.1, p.2.1.trans (Ex.new hT), by rw [upd_ne nD]; exact p.2.2⟩
  exact cw_turn p' (by omega) (ht k x' H1 (e.trans e1) hx') (fun hb => he k x' H1 (e.trans e1) hx' hb)
theorem given_filt {α : Type} (d : α) (l : List α) (b : α → Bool) (f : α → V) : given l.length (fun i => b (l.getD i d)) (fun i => f (l.getD i d)) = (l.filter b).map f := by
  unfold given
  show List.map (f ∘ fun i => l.getD i d) _ = _
  rw [← List.map_map]
  congr 1
  have m : (List.range l.length).map (fun i => l.getD i d) = l := by
    apply List.ext_getElem?
    intro i
    rw [List.getElem?_map]
    by_cases c : i < l.length
    · rw [List.getElem?_range c, List.getElem?_eq_getElem c]
      simp [c]
    · rw [List.getElem?_eq_none (by rw [List.length_range]; omega), List.getElem?_eq_none (by omega)]
      rfl
  conv => rhs; rw [← m]
  rw [List.filter_map]
  rfl
/-- [f(x) for x in ns if t(x)] -/
theorem el_mapT {tl : TE} {t : TT} {a : Addr} {j : Nat} {vs : List Nat} {ns : List Int} (b : Int → Bool) (f : Int → V) (h : Ev tl σ H (.ref a)) (hx : SqL K H a (ns.map V.int)) (hz : ns.length ≤ 40000) (hw : ∀ x, wipe ((wipe σ vs).set j (some x)) vs = wipe σ vs)
    (ht : ∀ (u : Int) H1, Ex H H1 → u ∈ ns → EvT t ((wipe σ vs).set j (some (.int u))) H1 (b u)) (he : ∀ (u : Int) H1, Ex H H1 → u ∈ ns → b u = true → Ev te ((wipe σ vs).set j (some (.int u))) H1 (f u)) : EvL (tLc (iList K tl) (gName j) t te vs) σ H ((ns.filter b).map f) := by
  rw [← given_filt 0 ns b f]
  have hl : (ns.map V.int).length = ns.length := List.length_map _
  rw [← hl]
  refine el_lcL (fun i => b (ns.getD i 0)) (fun i => f (ns.getD i 0)) h hx (by rw [hl]; exact hz) hw (fun i x H1 e hi => ?_) (fun i x H1 e hi hb => ?_)
  · rw [List.getElem?_map] at hi
    cases hq : ns[i]? with
    | none => rw [hq] at hi; cases hi
    | some u =>
      rw [hq] at hi
      obtain rfl := Option.some.inj hi
      rw [List.getD_eq_getElem?_getD, hq]
      exact ht u H1 e (List.mem_of_getElem? hq)
  · rw [List.getElem?_map] at hi
    cases hq : ns[i]? with
    | none => rw [hq] at hi; cases hi
    | some u =>
      rw [hq] at hi
      obtain rfl := Option.some.inj hi
      rw [List.getD_eq_getElem?_getD, hq] at hb ⊢
      exact he u H1 e (List.mem_of_getElem? hq) hb
/-- what a comprehension asks behind its iterable -/
def LcB (J : It) (g : TG) (tt : TT) (te : TE) (vs : List Nat) (σ : L2.St) (H1 : Hp) (Q : VK) : Prop := ∀ D, H1 D = none → ∃ W : Nat → Nat → Hp → Prop, (∃ m, W 0 m (upd H1 D (.lst []))) ∧ ∀ i m H, W i m H →
  (J.stop i H ∧ Q (.ref D) H) ∨ (J.go i H ∧ ∃ Nx : Hp → Prop, (∀ H', Nx H' → ∃ m', m' < m ∧ W (i + 1) m' H') ∧ ∀ x H', J.yld i H x H' → g x (wipe σ vs) H' fun σ2 H2 => wipe σ2 vs = wipe σ vs ∧ tt σ2 H2 fun b H3 =>
    if b = true then te σ2 H3 fun y H4 => ∃ acc, H4 D = some (.lst acc) ∧ acc.length < sizeLine ∧ Nx (upd H4 D (.lst (acc ++ [y]))) else Nx H3)
theorem lcR1_in {ta : TA} {g : TG} {tt : TT} {vs : List Nat} {Q : VK} (k : ta σ H fun xs H1 => ∃ j : Int, xs = [.int j] ∧ -(2 ^ 62) ≤ j ∧ j < 2 ^ 62 ∧ LcB (Itr 0 j.toNat) g tt te vs σ H1 Q) : tLc (iRng1 ta) g tt te vs σ H Q := k
theorem forL_in {tl : TE} {g : TG} {tu : TS} (k : tl σ H fun x H1 => ∃ a, x = .ref a ∧ (∃ xs, SqL K H1 a xs) ∧ ∃ W : Nat → Nat → L2.St → Hp → Prop, (∃ m, W 0 m σ H1) ∧ ∀ i m σ H, W i m σ H →
  ((Itl K a).stop i H ∧ tz D σ H) ∨ ((Itl K a).go i H ∧ ∃ N : L2.St → Hp → Prop, (∀ σ' H', N σ' H' → ∃ m', m' < m ∧ W (i + 1) m' σ' H') ∧ ∀ x H', (Itl K a).yld i H x H' → g x σ H' fun σ2 H2 => tu { D with nx := N, ct := N, bk := tz D } σ2 H2)) : tSeq (tFor (iList K tl) g tu) tz D σ H := k
theorem forL_at {a : Addr} {g : TG} {tu : TS} (k : tSeq (tFor (iList K fun _ H Q => Q (.ref a) H) g tu) tz D σ H) : ∃ b, (V.ref a) = .ref b ∧ (∃ xs, SqL K H b xs) ∧ ∃ W : Nat → Nat → L2.St → Hp → Prop, (∃ m, W 0 m σ H) ∧ ∀ i m σ H, W i m σ H →
  ((Itl K b).stop i H ∧ tz D σ H) ∨ ((Itl K b).go i H ∧ ∃ N : L2.St → Hp → Prop, (∀ σ' H', N σ' H' → ∃ m', m' < m ∧ W (i + 1) m' σ' H') ∧ ∀ x H', (Itl K b).yld i H x H' → g x σ H' fun σ2 H2 => tu { D with nx := N, ct := N, bk := tz D } σ2 H2) := k
theorem ev_at {a : Addr} : Ev (fun _ H Q => Q (.ref a) H) σ H (.ref a) := fun H1 _ _ q => q H1 (Ex.refl H1)
theorem top_in2' {ta tb : TE} {r : R2} {Q : VK} (k : ta σ H fun x H1 => tb σ H1 fun y H2 => r x y H2 Q) : tOp r ta tb σ H Q := k
/-- [u] * k, k counted -/
theorem el_times {tb : TE} {u : Int} {k : Nat} (hk : k ≤ 1000) (hu : Ev te σ H (.int u)) (hi : ∀ H1, Ex H H1 → Ev tb σ H1 (.int (k : Int))) : EvL (tOp rRep (tLst (tCons te tNil)) tb) σ H ((List.replicate k u).map V.int) := fun H1 e Q q => by
  refine el_lst (ea_cons hu ea_nil) (by show 1 ≤ 100000; decide) H1 e _ fun l H2 hl e2 h2 => ?_
  refine hi H2 (e.trans e2) H2 (Ex.refl H2) _ fun H3 e3 => ⟨l, (k : Int), _, rfl, rfl, e3 _ _ h2, by omega, by omega, ?_, fun p hp => ?_⟩
  · show 1 * (k : Int).toNat ≤ sizeLine
    rw [Int.toNat_natCast, Nat.one_mul]
    exact sz_of (by omega)
  · refine q p _ (fresh_back (e2.trans e3) hp) ((e2.trans e3).trans (Ex.new hp)) ?_
    rw [upd_same, Int.toNat_natCast, List.map_replicate]
    congr 2
    simp
end
end WS

set_option Elab.async false
set_option linter.all false
set_option maxRecDepth 100000
set_option maxHeartbeats 2000000
namespace WS
open PySem PySem.Spec PyProof.Rows L2 Evl
/-! ### defs that are called while no text of a list is being made: repr of data can be told there -/
abbrev Quiet (A : Around) : Prop := A.guards = some []
structure FnQ (P : Program) (w : World) (K : PySem.W.Frag) (mg : Str → Option Value) (base : Heap) (k : Nat) (f : Addr) (fd : FuncData) (ps : List Str) (sp : Sp) : Prop where
  many : ∀ vs H Q E, sp vs H Q E → vs.length = ps.length
  go : ∀ (A : Around) (below : List Env) (z : Shared) (G : Hp) (args : Args) (us : List Value) (vs : List V) (Q : VK) (E : XK), Quiet A → Room k A → Env0 P w K mg base A below z G →
    BindsTo z fd args (ps.zip us) → Vals vs us → sp vs G Q E → codeAny (model P w) A (.call (.ref f) args) (CR CX0 below P w G z Q E) z
section
variable {P : Program} {w : World} {K : PySem.W.Frag} {mg : Str → Option Value} {base : Heap}
/-- any def may be called so -/
theorem FnQ.of {k : Nat} {f : Addr} {fd : FuncData} {ps : List Str} {sp : Sp} (F : FnOk P w K mg base CX0 k f fd ps sp) : FnQ P w K mg base k f fd ps sp :=
  ⟨F.len, fun A below z G args us vs Q E _ room => F.run A below z G args us vs Q E room⟩
/-- a def by its body -/
theorem okQ {x qual : Str} {st : Stmt} {f : Addr} {fd : FuncData} {N ps : List Str} {k : Nat} {sp : Sp} (F : Fun K x qual st f fd) (S : FnScope N ps (defScope st)) (many : ∀ vs H Q E, sp vs H Q E → vs.length = ps.length)
    (body : ∀ (cdv : Value) (A : Around) (below : List Env) (z : Shared) (G : Hp) (vs : List V) (Q : VK) (E : XK), Quiet A → Room k (A.deeper (envOfC qual (defScope st) z.heap.objs.size f cdv)) → sp vs G Q E →
      ∃ t, PSs (cxOf CX0 P w K mg base N qual (defScope st) f cdv A below z G E).nox (defBody st) t ∧ t { nx := fun _ G' => Q .non G', rt := Q } (start N vs) G) : FnQ P w K mg base (k + 1) f fd ps sp := by
  obtain ⟨oc, od, kV, doc, pm, an, cdv, ct, osl, rfl, at_, code⟩ := F.ex
  refine ⟨many, fun A below z G args us vs Q E quiet room around bound rel told => ?_⟩
  have inK : K.In z.heap := around.mod.kin.keeps fun b o e => (around.bs b o e).1
  have kinds : ∀ y ∈ ps.zip us, (defScope st).names.lookup y.1 = some .local ∨ ((defScope st).names.lookup y.1 = some .cell ∧ ((cellsFrom (z.heap.objs.size + 1) (defScope st).names []).lookup y.1).isSome = true) := by
    rintro ⟨n, v⟩ hy
    cases S.par n (List.of_mem_zip hy).1 with
    | inl q => exact .inl q
    | inr q => exact .inr ⟨q, PySem.W.cellsFrom_some _ _ _ (.inl q)⟩
  refine codeAny_call_function room.depth (inK _ _ at_) rfl S.co S.gen rfl (PySem.W.codeRec_of inK code) (bound _ _ _ _ (wpAny_newFunctionEnv_cells S.kind kinds fun env he z1 laid => ?_))
  subst he
  refine ⟨(around.mod.nolimit.keeps fun b o e => (around.bs b o e).1).keeps laid.toInCall.keep, codeAny_func ?_⟩
  obtain ⟨t, run, q⟩ := body cdv A below z G vs Q E quiet (room.deeper _) told
  have I := inv_start (CX := CX0) (E := E) (cd := cdv) S room.hd around (many _ _ _ _ told) rel laid
  refine wpAny_mono (run.nox.run [] z1 (start N vs) G _ I q) (fun fl z' hs => ?_) fun e z' hs => hs
  cases fl with
  | ret u => exact let ⟨v, σ', G', J, rv, qq⟩ := hs; ⟨v, G', J.os, J.bare, J.base, J.hok, rv, qq⟩
  | next => exact let ⟨σ', G', J, qq⟩ := hs; ⟨V.non, G', J.os, J.bare, J.base, J.hok, rfl, qq⟩
  | brk => exact let ⟨_, _, _, qq⟩ := hs; qq.elim
  | cont => exact let ⟨_, _, _, qq⟩ := hs; qq.elim
end
section
variable {X : Cx} {k : Nat} {f : Addr} {fd : FuncData} {ps : List Str} {sp : Sp} {x : Str} {p pos : Pos} {e : Expr} {es : List Expr} {t : TA}
/-- the call of such a def -/
theorem pe_callQ (F : FnQ X.prog X.w X.K X.mg X.base k f fd ps sp) (quiet : Quiet X.A) (room : Room k X.A) (own : Gl X x) (at_ : X.mg x = some (.ref f)) (keep : PySem.W.keepIn X.K (.ref f) = true) (b : Binds X.K fd ps [])
    (args : PA X (e :: es) t) (plain : (x == ("__debug__" : Str)) = false := by decide) (st : starEach (e :: es) X.env = (false, eval e X.env) :: starEach es X.env := by rfl) (nost : (backTo pos (starEach es X.env)).any (·.1) = false := by rfl) :
    PE X (.Call (.Name x p) (e :: es) [] pos) (tCall sp [] E0 t) := ⟨fun pins z σ G Q I h => by
  refine wpAny_Call_Name_kw (ld_glob I own at_ (PySem.W.callWith_K (h₀ := X.base) I.ok.mod.kin keep (thn (args.run pos pins z σ G _ I h) fun us z1 told => ?_) st nost) plain)
  obtain ⟨vs, G1, I1, rel, q⟩ := told
  have q' : sp vs G1 Q E0 := by simpa using q
  have big : us.length = ps.length := by rw [← rel.length]; exact F.many _ _ _ _ q'
  have bb : BindsTo z1 fd ⟨us, []⟩ (ps.zip us) := by
    have := b z1 us I1.kIn (by simpa using big)
    simpa using this
  refine ⟨I1.kIn, wpAny_call (codeAny_mono (F.go X.A X.stack z1 G1 ⟨us, []⟩ us vs Q E0 quiet room I1.env0 bb rel q') fun r z' hq => ?_)⟩
  match r, hq with
  | .ok (.ret u), hq => exact I1.after hq⟩
/-- repr of data -/
def rRepr (K : PySem.W.Frag) : List V → Hp → VK → Prop := fun xs H Q => ∃ a d, xs = [.ref a] ∧ Dp K H (.ref a) d ∧ d.showable = true ∧ d.hasDict = false ∧ d.depth ≤ 50 ∧ d.shown.length ≤ sizeLine ∧ Q (.str d.shown) H
theorem cr_repr (quiet : Quiet X.A) (room : X.A.units + 64 < cLine) : CallR X (.builtin "repr") (rRepr X.K) := by
  intro pins s σ H xs us Q I r h
  obtain ⟨a, d, rfl, hd, show_, nod, deep, small, q⟩ := h
  obtain ⟨u, rfl, ru⟩ := vals1 r
  cases (show u = Value.ref a from ru)
  obtain ⟨as, rd⟩ := Dp.reads I d (.ref a) (.ref a) hd rfl
  exact repr_of_reads' rd show_ (fun z => by rw [nod] at z; cases z) quiet (by omega) (fun _ _ e => e) (fun h' u' tk keep => ⟨.str d.shown, H, I.kept keep, ⟨u', rfl⟩, q⟩) small
end
/-! ### the head for such a def -/
theorem law_callQ {P : Program} {w : World} {K : PySem.W.Frag} {mg mb : Str → Option Value} {k : Nat} {fa a : Addr} {fd : FuncData} {x : Str} {sp : Sp} {z : Shared} {vs : List Value} {ns : List Int}
    (inK : K.In z.heap) (top : z.heap.Ns mainGlobals mg) (bl : z.heap.Ns builtinsNs mb) (boot : ∀ y : Str, y ≠ "__name__" → mb y = bootBuiltins y) (free : z.heap.NoLimit) (nogen : z.gens = #[])
    (obj : z.heap.get? a = some { cls := .type "list", data := .seq vs.toArray }) (nums : IntsAre vs ns) (small : ns.length ≤ sizeLine) (room : Room k callerA)
    (F : ∀ base : Heap, K.In base → base.Ns mainGlobals mg → FnQ P w K mg base k fa fd [x] sp) (bound : ∀ (s : Shared) (u : Value), BindsTo s fd ⟨[u], []⟩ [(x, u)])
    (told : ∀ G : Hp, Only G → SqL K G a (ns.map V.int) → sp [.ref a] G (fun v _ => v = .bl true) E0) :
    codeAny (model P w) callerA (.call (.ref fa) ⟨[.ref a], []⟩) (fun r z' => r = .ok (.ret (.bool true)) ∧ OldK z.heap z'.heap ∧ z'.os = z.os ∧ AllBare z'.gens) z := by
  have many := nums.length
  have run : ∀ G : Hp, Only G → SqL K G a (ns.map V.int) → HOk P w G z.heap → (∀ b, G b ≠ none → b = a ∧ K.lookup a = none) →
      codeAny (model P w) callerA (.call (.ref fa) ⟨[.ref a], []⟩) (fun r z' => r = .ok (.ret (.bool true)) ∧ OldK z.heap z'.heap ∧ z'.os = z.os ∧ AllBare z'.gens) z := by
    intro G only sq hok hid
    have dictFree : ∀ {b : Addr} {o : Obj} {es : Array DictEntry} {ep : Nat}, z.heap.get? b = some o → o.data = .dict es ep → G b = none := by
      intro b o es ep e d
      refine Classical.byContradiction fun q => ?_
      obtain ⟨rfl, _⟩ := hid b q
      rw [obj] at e
      obtain rfl := Option.some.inj e
      exact Data.noConfusion d
    have ownFree : ∀ {b : Addr} {o : Obj}, K.lookup b = some o → G b = none := by
      intro b o e
      refine Classical.byContradiction fun q => ?_
      obtain ⟨rfl, no⟩ := hid b q
      rw [no] at e
      cases e
    have ns_ : ∀ {b : Addr} {m : Str → Option Value}, z.heap.Ns b m → (hidT z.heap G).Ns b m := by
      rintro b m ⟨o, es, ep, e, d, r⟩
      exact ⟨o, es, ep, hidT_get e (dictFree e d), d, r⟩
    have inB : K.In (hidT z.heap G) := fun b o e => hidT_get (inK b o e) (ownFree e)
    obtain ⟨mc, c1, c2⟩ := free
    have around : Env0 P w K mg (hidT z.heap G) callerA [] z G := by
      refine ⟨rfl, ⟨inB, ns_ top, ⟨mb, ns_ bl, boot⟩, ⟨mc, ns_ c1, c2⟩⟩, fun _ _ e => of_hidT e, Nat.le_of_eq (hidT_size _ _), trivial, ?_, hok, .of_eq nogen⟩
      intro b hb
      cases hb
    refine codeAny_mono ((F _ inB (ns_ top)).go callerA [] z G ⟨[.ref a], []⟩ [.ref a] [.ref a] _ _ rfl room around (bound z (.ref a)) (.cons rfl .nil) (told G only sq)) fun r z' h => ?_
    match r, h with
    | .ok (.ret u), h =>
      obtain ⟨v, G', os, bare, un, hok', rel, q⟩ := h
      obtain rfl : v = .bl true := q
      obtain rfl : u = Value.bool true := rel
      refine ⟨rfl, OldK.of_keep fun b o e => ?_, os, bare⟩
      rcases only b with no | ⟨ob, xs, fr⟩
      · exact un.keep b o e no (fun y => by cases y) (fun y => by cases y)
      · have now := (hok' b _ (un.frzs b ob _ fr)).1
        have old := (hok b _ fr).1
        rw [e] at old
        rw [Option.some.inj old]
        exact now
  cases found : K.lookup a with
  | some o =>
    have e := inK a o found
    rw [obj] at e
    obtain rfl := Option.some.inj e
    exact run (fun _ => none) (fun _ => .inl rfl) (.inr ⟨_, vs.toArray, _, found, rfl, rfl, rfl, by rw [List.size_toArray, many]; exact small, by simpa using vals_ints nums⟩) (fun b u y => by cases y) (fun b y => absurd rfl y)
  | none =>
    have at_ : ∀ b, (if b = a then some (HO.frz { cls := .type "list", data := .seq vs.toArray } (.lst (ns.map V.int))) else none) ≠ none → b = a := fun b y => Classical.byContradiction fun ne => y (if_neg ne)
    refine run (fun b => if b = a then some (.frz { cls := .type "list", data := .seq vs.toArray } (.lst (ns.map V.int))) else none) (fun b => ?_) (.inl (.inr ⟨_, if_pos rfl⟩)) (fun b u y => ?_) (fun b y => ⟨at_ b y, found⟩)
    · by_cases e : b = a
      · exact .inr ⟨_, _, if_pos e⟩
      · exact .inl (if_neg e)
    · obtain rfl := at_ b (fun no => by have := y.symm.trans no; cases this)
      obtain rfl := Option.some.inj ((if_pos rfl).symm.trans y)
      exact ⟨obj, by rw [List.length_map]; exact small, vs, _, vals_ints nums, obj⟩
theorem walk_ofQ {l : PySem.W.OpenLaw} {n k : Nat} {q : Program} {loose : List Str} {XP : (Str → Option Value) → Heap → Prop} {YP : World → Heap → Prop} {d : DefRec} {K : Params → PySem.W.Frag} {sp : World → Sp} {x : Str}
    (most : l.most = some n) (line : n ≤ sizeLine) (plain : d.params.defaults = []) (room : Room k callerA) (inY : ∀ (w : World) (h : Heap), YP w h → (K w.params).In h)
    (F : ∀ (w : World) (mg : Str → Option Value) (fa : Addr) (h : Heap), (K w.params).In h → h.Ns mainGlobals mg → mg d.name = some (.ref fa) →
      ∃ fd : FuncData, (∀ (s : Shared) (u : Value), BindsTo s fd ⟨[u], []⟩ [(x, u)]) ∧ ∀ base : Heap, (K w.params).In base → base.Ns mainGlobals mg → FnQ l.prog w (K w.params) mg base k fa fd [x] (sp w))
    (told : ∀ (w : World) (G : Hp) (a : Addr) (ns : List Int), ns.length ≤ n → Only G → SqL (K w.params) G a (ns.map V.int) → sp w [.ref a] G (fun v _ => v = .bl true) E0) :
    PySem.W.WalkO q loose XP YP l.row.toRowW d [] (fun f vs => PySem.call f vs) :=
  Att.attach_call most plain fun w _ z mg mb fa _ _ _ _ a vs ns ground Y _ _ _ named obj nums len nogen =>
    let ⟨_, bound, G⟩ := F w mg fa _ (inY w _ Y) ground.T.g named
    law_callQ (inY w _ Y) ground.T.g ground.T.b ground.T.builtins ground.T.nolimit nogen obj nums (Nat.le_trans len line) room G bound fun H only sq => told w H a ns len only sq
end WS

set_option Elab.async false
set_option linter.all false
set_option maxRecDepth 100000
set_option maxHeartbeats 2000000
namespace Mir
open PySem PySem.Spec PyProof.Rows L2 Evl WS
/-! ### data, and what holds them -/
inductive D where
  | non | bl (b : Bool) | int (i : Int) | str (s : Str) | lst (xs : List D) | scr (xs : List D) | tup (xs : List D) | dic (ks : List (Key × D)) | ins (c : Nat) (fs : List (Str × D)) | exc (c : Nat) (d : D) | fn (k : Nat) | rng (lo hi : Int)
abbrev CM := Nat → Addr
/-- a caught error: its class, its dict -/
def ExT (cls : Value) (d : Option Addr) (a : Addr) : HO := .ext fun h => ∃ (o : Obj) (vs : Array Value), h.get? a = some o ∧ Zc cls d o ∧ o.data = .fields vs
mutual
inductive Rep (K : PySem.W.Frag) (cm : CM) (B : Hp) : V → D → Prop
  | non : Rep K cm B .non .non
  | bl (b : Bool) : Rep K cm B (.bl b) (.bl b)
  | int (i : Int) : Rep K cm B (.int i) (.int i)
  | str (s : Str) : Rep K cm B (.str s) (.str s)
  | lst {a : Addr} {xs : List V} {ds : List D} : B a = some (.lst xs) → Reps K cm B xs ds → Rep K cm B (.ref a) (.lst ds)
  | scr {a : Addr} {xs : List V} {ds : List D} : SqL K B a xs → Reps K cm B xs ds → Rep K cm B (.ref a) (.scr ds)
  | tup {a : Addr} {xs : List V} {ds : List D} : SqT K B a xs → Reps K cm B xs ds → Rep K cm B (.ref a) (.tup ds)
  | dic {a : Addr} {kvs : List (Key × V)} {ks : List (Key × D)} : B a = some (.dK kvs) → kvs.map (·.1) = ks.map (·.1) → Reps K cm B (kvs.map (·.2)) (ks.map (·.2)) → Rep K cm B (.ref a) (.dic ks)
  | ins {a dx : Addr} {c : Nat} {fs : List (Str × V)} {gs : List (Str × D)} : B a = some (.ins (cm c) dx fs) → fs.map (·.1) = gs.map (·.1) → Reps K cm B (fs.map (·.2)) (gs.map (·.2)) → Rep K cm B (.ref a) (.ins c gs)
  | exc {a dd : Addr} {c : Nat} {v : V} {d : D} : B a = some (ExT (.ref (cm c)) (some dd) a) → B dd = some (.xd [("value", v)]) → Rep K cm B v d → Rep K cm B (.ref a) (.exc c d)
  | fn (k : Nat) : Rep K cm B (.ref (cm (1000 + k))) (.fn k)
  | rng {a : Addr} {lo hi : Int} : B a = some (.rng lo hi) → Rep K cm B (.ref a) (.rng lo hi)
inductive Reps (K : PySem.W.Frag) (cm : CM) (B : Hp) : List V → List D → Prop
  | nil : Reps K cm B [] []
  | cons {v : V} {vs : List V} {d : D} {ds : List D} : Rep K cm B v d → Reps K cm B vs ds → Reps K cm B (v :: vs) (d :: ds)
end
section
variable {K : PySem.W.Frag} {cm : CM} {B B' : Hp}
mutual
theorem Rep.mono (e : Ex B B') : ∀ {v : V} {d : D}, Rep K cm B v d → Rep K cm B' v d
  | _, _, .non => .non
  | _, _, .bl b => .bl b
  | _, _, .int i => .int i
  | _, _, .str s => .str s
  | _, _, .lst h r => .lst (e _ _ h) (Reps.mono e r)
  | _, _, .scr h r => .scr (ex_l e h) (Reps.mono e r)
  | _, _, .tup h r => .tup (ex_t e h) (Reps.mono e r)
  | _, _, .dic h k r => .dic (e _ _ h) k (Reps.mono e r)
  | _, _, .ins h k r => .ins (e _ _ h) k (Reps.mono e r)
  | _, _, .exc h k r => .exc (e _ _ h) (e _ _ k) (Rep.mono e r)
  | _, _, .fn k => .fn k
  | _, _, .rng h => .rng (e _ _ h)
theorem Reps.mono (e : Ex B B') : ∀ {vs : List V} {ds : List D}, Reps K cm B vs ds → Reps K cm B' vs ds
  | _, _, .nil => .nil
  | _, _, .cons h r => .cons (Rep.mono e h) (Reps.mono e r)
end
theorem Reps.len : ∀ {vs : List V} {ds : List D}, Reps K cm B vs ds → vs.length = ds.length
  | _, _, .nil => rfl
  | _, _, .cons _ r => by rw [List.length_cons, List.length_cons, Reps.len r]
theorem Reps.get : ∀ {vs : List V} {ds : List D} {i : Nat} {d : D}, Reps K cm B vs ds → ds[i]? = some d → ∃ v, vs[i]? = some v ∧ Rep K cm B v d
  | _, _, _, _, .nil, h => by simp at h
  | _, _, 0, _, .cons r _, h => by simp at h; subst h; exact ⟨_, rfl, r⟩
  | _, _, i + 1, d, .cons _ t, h => by
    obtain ⟨v, h1, h2⟩ := Reps.get (i := i) (d := d) t (by simpa using h)
    exact ⟨v, by simpa using h1, h2⟩
theorem Reps.get' : ∀ {vs : List V} {ds : List D} {i : Nat} {v : V}, Reps K cm B vs ds → vs[i]? = some v → ∃ d, ds[i]? = some d ∧ Rep K cm B v d
  | _, _, _, _, .nil, h => by simp at h
  | _, _, 0, _, .cons r _, h => by simp at h; subst h; exact ⟨_, rfl, r⟩
  | _, _, i + 1, v, .cons _ t, h => by
    obtain ⟨d, h1, h2⟩ := Reps.get' (i := i) (v := v) t (by simpa using h)
    exact ⟨d, by simpa using h1, h2⟩
theorem Reps.app : ∀ {xs ys : List V} {ds es : List D}, Reps K cm B xs ds → Reps K cm B ys es → Reps K cm B (xs ++ ys) (ds ++ es)
  | _, _, _, _, .nil, s => s
  | _, _, _, _, .cons r t, s => .cons r (Reps.app t s)
theorem Reps.set {v : V} {d : D} (r : Rep K cm B v d) : ∀ {xs : List V} {ds : List D} (i : Nat), Reps K cm B xs ds → Reps K cm B (xs.set i v) (ds.set i d)
  | _, _, _, .nil => .nil
  | _, _, 0, .cons _ t => .cons r t
  | _, _, i + 1, .cons q t => .cons q (Reps.set r i t)
theorem Reps.take : ∀ {xs : List V} {ds : List D} (n : Nat), Reps K cm B xs ds → Reps K cm B (xs.take n) (ds.take n)
  | _, _, 0, _ => .nil
  | _, _, _ + 1, .nil => .nil
  | _, _, n + 1, .cons r t => .cons r (Reps.take n t)
theorem Reps.drop : ∀ {xs : List V} {ds : List D} (n : Nat), Reps K cm B xs ds → Reps K cm B (xs.drop n) (ds.drop n)
  | _, _, 0, r => r
  | _, _, _ + 1, .nil => .nil
  | _, _, n + 1, .cons _ t => Reps.drop n t
theorem Reps.rev : ∀ {xs : List V} {ds : List D}, Reps K cm B xs ds → Reps K cm B xs.reverse ds.reverse
  | _, _, .nil => .nil
  | _, _, .cons r t => by
    rw [List.reverse_cons, List.reverse_cons]
    exact (Reps.rev t).app (.cons r .nil)
theorem Reps.ints : ∀ {xs : List V} {ns : List Int}, Reps K cm B xs (ns.map D.int) → xs = ns.map V.int
  | _, [], .nil => rfl
  | _, n :: r, .cons (.int _) t => by rw [List.map_cons, Reps.ints t]
theorem Reps.of_ints : ∀ (ns : List Int), Reps K cm B (ns.map V.int) (ns.map D.int)
  | [] => .nil
  | n :: r => .cons (.int n) (Reps.of_ints r)
end
/-! ### slots -/
inductive OD where
  | lst (xs : List D) | dic (ks : List (Key × D)) | ins (c : Nat) (fs : List (Str × D))
inductive SD where
  | nn | fro (d : D) | own (o : OD) | bor (o : OD)
abbrev SDs := List SD
def OD.d : OD → D
  | .lst xs => .lst xs
  | .dic ks => .dic ks
  | .ins c fs => .ins c fs
def SD.ow : SD → Option OD
  | .own o => some o
  | .bor o => some o
  | _ => none
def OwnR (K : PySem.W.Frag) (cm : CM) (B H : Hp) (a : Addr) : OD → Prop
  | .lst ds => ∃ xs, H a = some (.lst xs) ∧ Reps K cm B xs ds
  | .dic ks => ∃ kvs : List (Key × V), H a = some (.dK kvs) ∧ kvs.map (·.1) = ks.map (·.1) ∧ Reps K cm B (kvs.map (·.2)) (ks.map (·.2))
  | .ins c gs => ∃ dx fs, H a = some (.ins (cm c) dx fs) ∧ fs.map (·.1) = gs.map (·.1) ∧ Reps K cm B (fs.map (·.2)) (gs.map (·.2))
theorem OwnR.there {K : PySem.W.Frag} {cm : CM} {B H : Hp} {a : Addr} : ∀ {o : OD}, OwnR K cm B H a o → ∃ u, H a = some u
  | .lst _, ⟨_, h, _⟩ => ⟨_, h⟩
  | .dic _, ⟨_, h, _⟩ => ⟨_, h⟩
  | .ins _ _, ⟨_, _, h, _⟩ => ⟨_, h⟩
theorem OwnR.mono {K : PySem.W.Frag} {cm : CM} {B B' H H' : Hp} {a : Addr} (b : Ex B B') (h : ∀ u, H a = some u → H' a = some u) : ∀ {o : OD}, OwnR K cm B H a o → OwnR K cm B' H' a o
  | .lst _, ⟨_, e, r⟩ => ⟨_, h _ e, r.mono b⟩
  | .dic _, ⟨_, e, k, r⟩ => ⟨_, h _ e, k, r.mono b⟩
  | .ins _ _, ⟨_, _, e, k, r⟩ => ⟨_, _, h _ e, k, r.mono b⟩
/-- frozen -/
theorem OwnR.rep {K : PySem.W.Frag} {cm : CM} {B B' H : Hp} {a : Addr} (b : Ex B B') (h : ∀ u, H a = some u → B' a = some u) : ∀ {o : OD}, OwnR K cm B H a o → Rep K cm B' (.ref a) o.d
  | .lst _, ⟨_, e, r⟩ => .lst (h _ e) (r.mono b)
  | .dic _, ⟨_, e, k, r⟩ => .dic (h _ e) k (r.mono b)
  | .ins _ _, ⟨_, _, e, k, r⟩ => .ins (h _ e) k (r.mono b)
structure MSt where
  B : Hp
  H : Hp
  σ : L2.St
  e : SDs
def AtM (s : MSt) (i : Nat) (o : OD) (a : Addr) : Prop := (∃ x, s.e[i]? = some x ∧ x.ow = some o) ∧ s.σ[i]? = some (some (.ref a))
def OwnA (s : MSt) (a : Addr) : Prop := ∃ i o, AtM s i o a
structure Okm (K : PySem.W.Frag) (cm : CM) (s : MSt) : Prop where
  len : s.e.length = s.σ.length
  bh : Ex s.B s.H
  fro : ∀ (i : Nat) (d : D), s.e[i]? = some (.fro d) → ∃ v, s.σ[i]? = some (some v) ∧ Rep K cm s.B v d
  own : ∀ (i : Nat) (x : SD) (o : OD), s.e[i]? = some x → x.ow = some o → ∃ a, s.σ[i]? = some (some (.ref a)) ∧ s.B a = none ∧ OwnR K cm s.B s.H a o
  dis : ∀ (i j : Nat) (o p : OD) (a : Addr), AtM s i o a → AtM s j p a → i = j
structure Stp (s t : MSt) : Prop where
  ex : ∀ a o, s.H a = some o → ¬ OwnA s a → t.H a = some o
  bb : Ex s.B t.B
  fr : ∀ a o, t.B a = some o → s.B a = none → s.H a = none ∨ OwnA s a
  ow : ∀ a, OwnA t a → OwnA s a ∨ s.H a = none
  bo : ∀ (i : Nat) (o : OD) (a : Addr), s.e[i]? = some (.bor o) → s.σ[i]? = some (some (.ref a)) → (∃ o', t.e[i]? = some (.bor o')) ∧ t.σ[i]? = some (some (.ref a))
  dm : ∀ a, t.H a = none → s.H a = none
theorem Stp.refl (s : MSt) : Stp s s := ⟨fun _ _ h _ => h, Ex.refl _, fun a o h n => (by rw [n] at h; cases h), fun a h => .inl h, fun i o a h h2 => ⟨⟨o, h⟩, h2⟩, fun _ h => h⟩
theorem Stp.trans {s t u : MSt} (a : Stp s t) (b : Stp t u) : Stp s u where
  ex := fun p o h n => b.ex p o (a.ex p o h n) fun q => by
    rcases a.ow p q with q | q
    · exact n q
    · rw [q] at h; cases h
  bb := a.bb.trans b.bb
  fr := fun p o h n => by
    cases q : t.B p with
    | some o2 => exact a.fr p o2 q n
    | none =>
      rcases b.fr p o h q with z | z
      · by_cases w : OwnA s p
        · exact .inr w
        · cases y : s.H p with
          | none => exact .inl rfl
          | some o3 => rw [a.ex p o3 y w] at z; cases z
      · exact (a.ow p z).symm
  ow := fun p h => by
    rcases b.ow p h with q | q
    · exact a.ow p q
    · by_cases w : OwnA s p
      · exact .inl w
      · cases y : s.H p with
        | none => exact .inr rfl
        | some o3 => rw [a.ex p o3 y w] at q; cases q
  bo := fun i o p h h2 => by
    obtain ⟨⟨o', x⟩, y⟩ := a.bo i o p h h2
    exact b.bo i o' p x y
  dm := fun p h => a.dm p (b.dm p h)
/-! ### growth alone -/
structure Gro (B H B' H' : Hp) : Prop where
  ex : Ex H H'
  bb : Ex B B'
  bh : Ex B' H'
  fr : ∀ a o, B' a = some o → B a = none → H a = none
theorem Gro.refl {B H : Hp} (b : Ex B H) : Gro B H B H := ⟨Ex.refl _, Ex.refl _, b, fun a o h n => by rw [n] at h; cases h⟩
theorem Gro.trans {B H B1 H1 B2 H2 : Hp} (a : Gro B H B1 H1) (b : Gro B1 H1 B2 H2) : Gro B H B2 H2 := ⟨a.ex.trans b.ex, a.bb.trans b.bb, b.bh, fun p o h n => by
  cases q : B1 p with
  | some o2 => exact a.fr p o2 q n
  | none => exact fresh_back a.ex (b.fr p o h q)⟩
theorem Gro.new {B H : Hp} {p : Addr} {o : HO} (b : Ex B H) (h : H p = none) : Gro B H (upd B p o) (upd H p o) := ⟨Ex.new h, Ex.new (fresh_back b h), fun a u q => by
  by_cases c : a = p
  · subst c
    rw [upd_same] at q ⊢
    exact q
  · rw [upd_ne c] at q ⊢
    exact b a u q, fun a u q n => by
  by_cases c : a = p
  · subst c; exact h
  · rw [upd_ne c, n] at q; cases q⟩
/-- something is laid that is not told -/
theorem Gro.lay {B H H' : Hp} (b : Ex B H) (e : Ex H H') : Gro B H B H' := ⟨e, Ex.refl _, b.trans e, fun a o h n => by rw [n] at h; cases h⟩
section
variable {K : PySem.W.Frag} {cm : CM} {s : MSt} {B' H' : Hp}
theorem OwnA.same {s : MSt} {B H : Hp} {a : Addr} : OwnA ⟨B, H, s.σ, s.e⟩ a ↔ OwnA s a := Iff.rfl
theorem Gro.step (g : Gro s.B s.H B' H') : Stp s ⟨B', H', s.σ, s.e⟩ := ⟨fun a o h _ => g.ex a o h, g.bb, fun a o h n => .inl (g.fr a o h n), fun a h => .inl h, fun i o a h h2 => ⟨⟨o, h⟩, h2⟩, fun a h => fresh_back g.ex h⟩
theorem Gro.ok (g : Gro s.B s.H B' H') (k : Okm K cm s) : Okm K cm ⟨B', H', s.σ, s.e⟩ := ⟨k.len, g.bh, fun i d h => by
  obtain ⟨v, a, b⟩ := k.fro i d h
  exact ⟨v, a, b.mono g.bb⟩, fun i x o h h2 => by
  obtain ⟨a, h3, h4, h5⟩ := k.own i x o h h2
  refine ⟨a, h3, ?_, h5.mono g.bb fun u q => g.ex a u q⟩
  cases q : B' a with
  | none => exact q
  | some o2 =>
    obtain ⟨u, hu⟩ := h5.there
    rw [g.fr a o2 q h4] at hu
    exact (nomatch hu), k.dis⟩
end
/-! ### judgements -/
abbrev M := SDs → Option (D × SDs)
abbrev MT := SDs → Option (Bool × SDs)
abbrev ML := SDs → Option (List D × SDs)
abbrev MO := SDs → Option (OD × SDs)
abbrev MI := SDs → Option (Option Int × SDs)
section
variable (K : PySem.W.Frag) (cm : CM)
def DE (te : TE) (m : M) : Prop := ∀ s : MSt, Okm K cm s → ∀ d e', m s.e = some (d, e') → ∀ Q : VK, (∀ v B' H', Stp s ⟨B', H', s.σ, e'⟩ → Okm K cm ⟨B', H', s.σ, e'⟩ → Rep K cm B' v d → Q v H') → te s.σ s.H Q
def DT (te : TT) (m : MT) : Prop := ∀ s : MSt, Okm K cm s → ∀ b e', m s.e = some (b, e') → ∀ Q : Bool → Hp → Prop, (∀ B' H', Stp s ⟨B', H', s.σ, e'⟩ → Okm K cm ⟨B', H', s.σ, e'⟩ → Q b H') → te s.σ s.H Q
def DA (te : TA) (m : ML) : Prop := ∀ s : MSt, Okm K cm s → ∀ ds e', m s.e = some (ds, e') → ∀ Q : List V → Hp → Prop, (∀ vs B' H', Stp s ⟨B', H', s.σ, e'⟩ → Okm K cm ⟨B', H', s.σ, e'⟩ → Reps K cm B' vs ds → Q vs H') → te s.σ s.H Q
/-- a new object of its own -/
def DF (te : TE) (m : MO) : Prop := ∀ s : MSt, Okm K cm s → ∀ o e', m s.e = some (o, e') → ∀ Q : VK, (∀ p B' H', Stp s ⟨B', H', s.σ, e'⟩ → Okm K cm ⟨B', H', s.σ, e'⟩ → s.H p = none → B' p = none → OwnR K cm B' H' p o → ¬ OwnA ⟨B', H', s.σ, e'⟩ p → Q (.ref p) H') → te s.σ s.H Q
def DI (te : TO) (m : MI) : Prop := ∀ s : MSt, Okm K cm s → ∀ o e', m s.e = some (o, e') → ∀ Q : Option Int → Hp → Prop, (∀ B' H', Stp s ⟨B', H', s.σ, e'⟩ → Okm K cm ⟨B', H', s.σ, e'⟩ → Q o H') → te s.σ s.H Q
def RD (r : R2) (f : D → D → Option D) : Prop := ∀ (B H : Hp) (x y : V) (dx dy d : D), Ex B H → Rep K cm B x dx → Rep K cm B y dy → f dx dy = some d → ∀ Q : VK, (∀ v B' H', Gro B H B' H' → Rep K cm B' v d → Q v H') → r x y H Q
def RUD (r : V → Hp → VK → Prop) (f : D → Option D) : Prop := ∀ (B H : Hp) (x : V) (dx d : D), Ex B H → Rep K cm B x dx → f dx = some d → ∀ Q : VK, (∀ v B' H', Gro B H B' H' → Rep K cm B' v d → Q v H') → r x H Q
def RCD (r : List V → Hp → VK → Prop) (f : List D → Option D) : Prop := ∀ (B H : Hp) (xs : List V) (ds : List D) (d : D), Ex B H → Reps K cm B xs ds → f ds = some d → ∀ Q : VK, (∀ v B' H', Gro B H B' H' → Rep K cm B' v d → Q v H') → r xs H Q
end
def bnd {α β : Type} (x : Option (α × SDs)) (f : α → SDs → Option β) : Option β := match x with | none => none | some (a, e) => f a e
theorem bnd_some {α β : Type} {x : Option (α × SDs)} {f : α → SDs → Option β} {b : β} (h : bnd x f = some b) : ∃ a e, x = some (a, e) ∧ f a e = some b := by
  cases x with
  | none => cases h
  | some p => exact ⟨p.1, p.2, rfl, h⟩
def rsl {α : Type} (x : Option α) (e : SDs) : Option (α × SDs) := match x with | none => none | some a => some (a, e)
theorem rsl_some {α : Type} {x : Option α} {e e' : SDs} {a : α} (h : rsl x e = some (a, e')) : x = some a ∧ e = e' := by
  cases x with
  | none => cases h
  | some b => cases h; exact ⟨rfl, rfl⟩
def varM (i : Nat) : M := fun e => match e[i]? with | some (.fro d) => some (d, e) | _ => none
def cM (d : D) : M := fun e => some (d, e)
def opM (f : D → D → Option D) (ma mb : M) : M := fun e => bnd (ma e) fun x e1 => bnd (mb e1) fun y e2 => rsl (f x y) e2
def unM (f : D → Option D) (ma : M) : M := fun e => bnd (ma e) fun x e1 => rsl (f x) e1
def nilM : ML := fun e => some ([], e)
def consM (ma : M) (mr : ML) : ML := fun e => bnd (ma e) fun x e1 => bnd (mr e1) fun xs e2 => some (x :: xs, e2)
def cbM (f : List D → Option D) (ma : ML) : M := fun e => bnd (ma e) fun xs e1 => rsl (f xs) e1
def tupM (ma : ML) : M := fun e => bnd (ma e) fun xs e1 => if xs.length ≤ sizeLine then some (.tup xs, e1) else none
def lstF (ma : ML) : MO := fun e => bnd (ma e) fun xs e1 => if xs.length ≤ sizeLine then some (.lst xs, e1) else none
def frM (m : MO) : M := fun e => bnd (m e) fun o e1 => some (o.d, e1)
def ifM (t : MT) (ma mb : M) : M := fun e => bnd (t e) fun b e1 => if b then ma e1 else mb e1
def isB : D → Option Bool
  | .bl b => some b
  | _ => none
def tstM (m : M) : MT := fun e => bnd (m e) fun d e1 => rsl (isB d) e1
def truth : D → Option Bool
  | .non => some false
  | .bl b => some b
  | .int i => some (i != 0)
  | .str y => if y.length ≤ sizeLine then some ((y.length : Int) != 0) else none
  | .lst xs => some (!xs.isEmpty)
  | .scr xs => some (!xs.isEmpty)
  | .tup xs => some (!xs.isEmpty)
  | .dic ks => some (!ks.isEmpty)
  | _ => none
def truM (m : M) : MT := fun e => bnd (m e) fun d e1 => rsl (truth d) e1
def andM (a b : MT) : MT := fun e => bnd (a e) fun x e1 => if x then b e1 else some (false, e1)
def orM (a b : MT) : MT := fun e => bnd (a e) fun x e1 => if x then some (true, e1) else b e1
def notM (a : MT) : MT := fun e => bnd (a e) fun x e1 => some (!x, e1)
def andV (a b : M) : M := fun e => bnd (a e) fun x e1 => match x with | .bl true => b e1 | .bl false => some (.bl false, e1) | _ => none
def orV (a b : M) : M := fun e => bnd (a e) fun x e1 => match x with | .bl true => some (.bl true, e1) | .bl false => b e1 | _ => none
def notV (a : M) : M := fun e => bnd (a e) fun x e1 => match x with | .bl b => some (.bl (!b), e1) | _ => none
def noPt : MI := fun e => some (none, e)
def ptM (m : M) : MI := fun e => bnd (m e) fun d e1 => match d with | .int i => some (some i, e1) | _ => none
def chM (f g : D → D → Option D) (ma mb mc : M) : M := fun e => bnd (ma e) fun x e1 => bnd (mb e1) fun y e2 => match f x y with | some (.bl true) => bnd (mc e2) fun z e3 => rsl (g y z) e3 | some (.bl false) => some (.bl false, e2) | _ => none
section
variable {K : PySem.W.Frag} {cm : CM} {ta tb te tc : TE} {tr : TA} {t u : TT} {ma mb m mc : M} {mr : ML} {mt mu : MT} {r : R2} {f : D → D → Option D}
theorem de_var {i : Nat} : DE K cm (tVar i) (varM i) := fun s k d e' h Q q => by
  unfold varM at h
  split at h
  · rename_i d2 hd
    cases h
    obtain ⟨v, h1, h2⟩ := k.fro i _ hd
    exact ⟨v, h1, q v s.B s.H (Stp.refl s) k h2⟩
  · cases h
theorem de_c {v : V} {d : D} (h : ∀ B, Rep K cm B v d) : DE K cm (tC v) (cM d) := fun s k d e' e Q q => by
  cases e
  exact q v s.B s.H (Stp.refl s) k (h _)
theorem de_op (hr : RD K cm r f) (ha : DE K cm ta ma) (hb : DE K cm tb mb) : DE K cm (tOp r ta tb) (opM f ma mb) := fun s k d e' h Q q => by
  obtain ⟨x, e1, h1, h⟩ := bnd_some h
  obtain ⟨y, e2, h2, h⟩ := bnd_some h
  obtain ⟨h3, rfl⟩ := rsl_some h
  exact ha s k x e1 h1 _ fun v B1 H1 s1 k1 r1 => hb ⟨B1, H1, s.σ, e1⟩ k1 y e2 h2 _ fun w B2 H2 s2 k2 r2 => hr B2 H2 v w x y d k2.bh (r1.mono s2.bb) r2 h3 Q fun z B3 H3 g r3 =>
    q z B3 H3 ((s1.trans s2).trans (g.step (s := ⟨B2, H2, s.σ, e2⟩))) (g.ok (s := ⟨B2, H2, s.σ, e2⟩) k2) r3
theorem de_un {r : V → Hp → VK → Prop} {f : D → Option D} (hr : RUD K cm r f) (ha : DE K cm ta ma) : DE K cm (tUn r ta) (unM f ma) := fun s k d e' h Q q => by
  obtain ⟨x, e1, h1, h⟩ := bnd_some h
  obtain ⟨h3, rfl⟩ := rsl_some h
  exact ha s k x e1 h1 _ fun v B1 H1 s1 k1 r1 => hr B1 H1 v x d k1.bh r1 h3 Q fun z B3 H3 g r3 => q z B3 H3 (s1.trans (g.step (s := ⟨B1, H1, s.σ, e1⟩))) (g.ok (s := ⟨B1, H1, s.σ, e1⟩) k1) r3
theorem da_nil : DA K cm tNil nilM := fun s k d e' h Q q => by
  cases h
  exact q [] s.B s.H (Stp.refl s) k .nil
theorem da_cons (ha : DE K cm ta ma) (hr : DA K cm tr mr) : DA K cm (tCons ta tr) (consM ma mr) := fun s k d e' h Q q => by
  obtain ⟨x, e1, h1, h⟩ := bnd_some h
  obtain ⟨xs, e2, h2, h⟩ := bnd_some h
  cases h
  exact ha s k x e1 h1 _ fun v B1 H1 s1 k1 r1 => hr ⟨B1, H1, s.σ, e1⟩ k1 xs _ h2 _ fun vs B2 H2 s2 k2 r2 => q (v :: vs) B2 H2 (s1.trans s2) k2 (.cons (r1.mono s2.bb) r2)
theorem de_cb {r : List V → Hp → VK → Prop} {f : List D → Option D} (hr : RCD K cm r f) (ha : DA K cm tr mr) : DE K cm (tCB r tr) (cbM f mr) := fun s k d e' h Q q => by
  obtain ⟨x, e1, h1, h⟩ := bnd_some h
  obtain ⟨h3, rfl⟩ := rsl_some h
  exact ha s k x e1 h1 _ fun v B1 H1 s1 k1 r1 => hr B1 H1 v x d k1.bh r1 h3 Q fun z B3 H3 g r3 => q z B3 H3 (s1.trans (g.step (s := ⟨B1, H1, s.σ, e1⟩))) (g.ok (s := ⟨B1, H1, s.σ, e1⟩) k1) r3
theorem de_tup (ha : DA K cm tr mr) : DE K cm (tTup tr) (tupM mr) := fun s k d e' h Q q => by
  obtain ⟨x, e1, h1, h⟩ := bnd_some h
  split at h
  · rename_i hl
    cases h
    refine ha s k x _ h1 _ fun vs B1 H1 s1 k1 r1 => ⟨by rw [r1.len]; exact hl, fun p hp => ?_⟩
    have g := Gro.new (o := .tup vs) k1.bh hp
    exact q (.ref p) _ _ (s1.trans (g.step (s := ⟨B1, H1, s.σ, e'⟩))) (g.ok (s := ⟨B1, H1, s.σ, e'⟩) k1) (.tup (st_of upd_same) (r1.mono g.bb))
  · cases h
theorem notOwnA {s : MSt} {p : Addr} (k : Okm K cm s) (h : s.H p = none) : ¬ OwnA s p := fun ⟨i, o, ⟨x, h1, h2⟩, h3⟩ => by
  obtain ⟨a, h4, _, h5⟩ := k.own i x o h1 h2
  rw [h3] at h4
  cases h4
  obtain ⟨u, hu⟩ := h5.there
  rw [h] at hu
  cases hu
theorem df_lst (ha : DA K cm tr mr) : DF K cm (tLst tr) (lstF mr) := fun s k d e' h Q q => by
  obtain ⟨x, e1, h1, h⟩ := bnd_some h
  split at h
  · rename_i hl
    cases h
    refine ha s k x _ h1 _ fun vs B1 H1 s1 k1 r1 => ⟨by rw [r1.len]; exact hl, fun p hp => ?_⟩
    have hp' : ¬ OwnA ⟨B1, H1, s.σ, e'⟩ p := notOwnA k1 hp
    have g := Gro.lay k1.bh (Ex.new (o := .lst vs) hp)
    refine q p _ _ (s1.trans (g.step (s := ⟨B1, H1, s.σ, e'⟩))) (g.ok (s := ⟨B1, H1, s.σ, e'⟩) k1) ?_ (fresh_back k1.bh hp) ⟨vs, upd_same, r1⟩ hp'
    exact s1.dm p hp
  · cases h
end
end Mir

set_option Elab.async false
set_option linter.all false
set_option maxRecDepth 100000
set_option maxHeartbeats 2000000
namespace Mir
open PySem PySem.Spec PyProof.Rows L2 Evl WS
section
variable {K : PySem.W.Frag} {cm : CM} {ta tb te tc : TE} {tr : TA} {t u : TT} {tl th : TO} {ma mb m mc : M} {mr : ML} {mt mu : MT} {mo : MO} {r : R2} {f : D → D → Option D} {s : MSt}
theorem de_fr (h : DF K cm te mo) : DE K cm te (frM mo) := fun s k d e' hm Q q => by
  obtain ⟨o, e1, h1, hm⟩ := bnd_some hm
  cases hm
  refine h s k o e' h1 _ fun p B' H' st k' n1 n2 ow nw => ?_
  obtain ⟨u, hu⟩ := ow.there
  have eb : Ex B' (upd B' p u) := Ex.new n2
  refine q (.ref p) (upd B' p u) H' ⟨st.ex, st.bb.trans eb, fun a o2 ha hn => ?_, st.ow, st.bo, st.dm⟩ ⟨k'.len, fun a o2 ha => ?_, fun i d hd => ?_, fun i x o2 hx ho => ?_, k'.dis⟩ (ow.rep eb fun v hv => ?_)
  · by_cases c : a = p
    · subst c; exact .inl n1
    · have ha' : upd B' p u a = some o2 := ha
      rw [upd_ne c] at ha'
      exact st.fr a o2 ha' hn
  · by_cases c : a = p
    · subst c
      have ha' : upd B' a u a = some o2 := ha
      rw [upd_same] at ha'
      cases ha'
      exact hu
    · have ha' : upd B' p u a = some o2 := ha
      rw [upd_ne c] at ha'
      exact k'.bh a o2 ha'
  · obtain ⟨v, a, b⟩ := k'.fro i d hd
    exact ⟨v, a, b.mono eb⟩
  · obtain ⟨a, h3, h4, h5⟩ := k'.own i x o2 hx ho
    have c : a ≠ p := fun c => nw ⟨i, o2, ⟨x, hx, ho⟩, c ▸ h3⟩
    refine ⟨a, h3, ?_, h5.mono eb fun _ q => q⟩
    show upd B' p u a = none
    rw [upd_ne c]
    exact h4
  · rw [hu] at hv
    cases hv
    exact upd_same
/-! ### tests -/
theorem dt_tst (h : DE K cm te m) : DT K cm (tTest te) (tstM m) := fun s k b e' hm Q q => by
  obtain ⟨d, e1, h1, hm⟩ := bnd_some hm
  obtain ⟨h2, rfl⟩ := rsl_some hm
  refine h s k d e1 h1 _ fun v B' H' st k' r => ?_
  cases d with
  | bl c =>
    cases h2
    cases r
    exact ⟨_, rfl, q B' H' st k'⟩
  | _ => cases h2
theorem dt_B (h : DE K cm te m) : DT K cm (tB te) (tstM m) := fun s k b e' hm Q q => by
  obtain ⟨d, e1, h1, hm⟩ := bnd_some hm
  obtain ⟨h2, rfl⟩ := rsl_some hm
  refine h s k d e1 h1 _ fun v B' H' st k' r => ?_
  cases d with
  | bl c =>
    cases h2
    cases r
    exact ⟨_, rfl, q B' H' st k'⟩
  | _ => cases h2
theorem reps_empty {B : Hp} {vs : List V} {ds : List D} (r : Reps K cm B vs ds) : (!vs.isEmpty) = !ds.isEmpty := by cases r <;> rfl
theorem dt_tru (h : DE K cm te m) : DT K cm (fun σ H Q => te σ H fun x H' => ∃ k, TruV K x H' k ∧ Q k H') (truM m) := fun s k b e' hm Q q => by
  obtain ⟨d, e1, h1, hm⟩ := bnd_some hm
  obtain ⟨h2, rfl⟩ := rsl_some hm
  refine h s k d e1 h1 _ fun v B' H' st k' r => ⟨b, ?_, q B' H' st k'⟩
  cases r with
  | non => cases h2; rfl
  | bl c => cases h2; rfl
  | int i => cases h2; rfl
  | str y =>
    have h2 : (if y.length ≤ sizeLine then some ((y.length : Int) != 0) else none) = some b := h2
    split at h2
    · rename_i hl
      cases h2
      exact ⟨hl, rfl⟩
    · cases h2
  | lst a r => cases h2; exact .inl ⟨_, sq_of (k'.bh _ _ a), (reps_empty r).symm⟩
  | scr a r => cases h2; exact .inl ⟨_, ex_l k'.bh a, (reps_empty r).symm⟩
  | tup a r => cases h2; exact .inr (.inl ⟨_, ex_t k'.bh a, (reps_empty r).symm⟩)
  | @dic a kvs ks ha kk r =>
    have h2 : some (!ks.isEmpty) = some b := h2
    refine .inr (.inr ⟨kvs, k'.bh _ _ ha, ?_⟩)
    have hl : kvs.length = ks.length := by
      have := congrArg List.length kk
      simpa using this
    rw [← Option.some.inj h2]
    clear h2 r kk h1 hm
    cases kvs <;> cases ks <;> first | rfl | simp at hl
  | ins a kk r => cases h2
  | exc _ _ _ => cases h2
  | fn _ => cases h2
  | rng _ => cases h2
theorem dt_and (h1 : DT K cm t mt) (h2 : DT K cm u mu) : DT K cm (tAnd t u) (andM mt mu) := fun s k b e' hm Q q => by
  obtain ⟨x, e1, g1, hm⟩ := bnd_some hm
  refine h1 s k x e1 g1 _ fun B1 H1 s1 k1 => ?_
  cases x with
  | true => exact h2 ⟨B1, H1, s.σ, e1⟩ k1 b e' hm Q fun B2 H2 s2 k2 => q B2 H2 (s1.trans s2) k2
  | false => cases hm; exact q B1 H1 s1 k1
theorem dt_or (h1 : DT K cm t mt) (h2 : DT K cm u mu) : DT K cm (tOr t u) (orM mt mu) := fun s k b e' hm Q q => by
  obtain ⟨x, e1, g1, hm⟩ := bnd_some hm
  refine h1 s k x e1 g1 _ fun B1 H1 s1 k1 => ?_
  cases x with
  | false => exact h2 ⟨B1, H1, s.σ, e1⟩ k1 b e' hm Q fun B2 H2 s2 k2 => q B2 H2 (s1.trans s2) k2
  | true => cases hm; exact q B1 H1 s1 k1
theorem dt_not (h1 : DT K cm t mt) : DT K cm (tNot t) (notM mt) := fun s k b e' hm Q q => by
  obtain ⟨x, e1, g1, hm⟩ := bnd_some hm
  cases hm
  exact h1 s k x _ g1 _ fun B1 H1 s1 k1 => q B1 H1 s1 k1
theorem de_andV (ha : DE K cm ta ma) (hb : DE K cm tb mb) : DE K cm (tAndV ta tb) (andV ma mb) := fun s k d e' hm Q q => by
  obtain ⟨x, e1, g1, hm⟩ := bnd_some hm
  refine ha s k x e1 g1 _ fun v B1 H1 s1 k1 r1 => ?_
  cases r1 with
  | bl c =>
    cases c with
    | true => exact ⟨true, rfl, hb ⟨B1, H1, s.σ, e1⟩ k1 d e' hm Q fun w B2 H2 s2 k2 r2 => q w B2 H2 (s1.trans s2) k2 r2⟩
    | false => cases hm; exact ⟨false, rfl, q _ B1 H1 s1 k1 (.bl _)⟩
  | _ => cases hm
theorem de_orV (ha : DE K cm ta ma) (hb : DE K cm tb mb) : DE K cm (tOrV ta tb) (orV ma mb) := fun s k d e' hm Q q => by
  obtain ⟨x, e1, g1, hm⟩ := bnd_some hm
  refine ha s k x e1 g1 _ fun v B1 H1 s1 k1 r1 => ?_
  cases r1 with
  | bl c =>
    cases c with
    | false => exact ⟨false, rfl, hb ⟨B1, H1, s.σ, e1⟩ k1 d e' hm Q fun w B2 H2 s2 k2 r2 => q w B2 H2 (s1.trans s2) k2 r2⟩
    | true => cases hm; exact ⟨true, rfl, q _ B1 H1 s1 k1 (.bl _)⟩
  | _ => cases hm
theorem de_notV (ha : DE K cm ta ma) : DE K cm (tNotV ta) (notV ma) := fun s k d e' hm Q q => by
  obtain ⟨x, e1, g1, hm⟩ := bnd_some hm
  refine ha s k x e1 g1 _ fun v B1 H1 s1 k1 r1 => ?_
  cases r1 with
  | bl c => cases hm; exact ⟨c, rfl, q _ B1 H1 s1 k1 (.bl _)⟩
  | _ => cases hm
theorem de_if (h : DT K cm t mt) (ha : DE K cm ta ma) (hb : DE K cm tb mb) : DE K cm (tIf t ta tb) (ifM mt ma mb) := fun s k d e' hm Q q => by
  obtain ⟨x, e1, g1, hm⟩ := bnd_some hm
  refine h s k x e1 g1 _ fun B1 H1 s1 k1 => ?_
  cases x with
  | true => exact ha ⟨B1, H1, s.σ, e1⟩ k1 d e' hm Q fun w B2 H2 s2 k2 r2 => q w B2 H2 (s1.trans s2) k2 r2
  | false => exact hb ⟨B1, H1, s.σ, e1⟩ k1 d e' hm Q fun w B2 H2 s2 k2 r2 => q w B2 H2 (s1.trans s2) k2 r2
theorem de_ch {r' : R2} {g : D → D → Option D} (hr : RD K cm r f) (hr' : RD K cm r' g) (ha : DE K cm ta ma) (hb : DE K cm tb mb) (hc : DE K cm tc mc) : DE K cm (tChain r r' ta tb tc) (chM f g ma mb mc) := fun s k d e' hm Q q => by
  obtain ⟨x, e1, g1, hm⟩ := bnd_some hm
  obtain ⟨y, e2, g2, hm⟩ := bnd_some hm
  refine ha s k x e1 g1 _ fun v B1 H1 s1 k1 r1 => hb ⟨B1, H1, s.σ, e1⟩ k1 y e2 g2 _ fun w B2 H2 s2 k2 r2 => ?_
  split at hm
  · rename_i hf
    obtain ⟨z, e3, g3, hm⟩ := bnd_some hm
    obtain ⟨g4, rfl⟩ := rsl_some hm
    refine hr B2 H2 v w x y _ k2.bh (r1.mono s2.bb) r2 hf _ fun b B3 H3 gr rb => ?_
    cases rb
    refine ⟨true, rfl, ?_⟩
    rw [if_pos rfl]
    have k3 := gr.ok (s := ⟨B2, H2, s.σ, e2⟩) k2
    exact hc ⟨B3, H3, s.σ, e2⟩ k3 z e3 g3 _ fun zz B4 H4 s4 k4 r4 => hr' B4 H4 w zz y z d k4.bh ((r2.mono gr.bb).mono s4.bb) r4 g4 Q fun o B5 H5 g5 r5 =>
      q o B5 H5 ((((s1.trans s2).trans (gr.step (s := ⟨B2, H2, s.σ, e2⟩))).trans s4).trans (g5.step (s := ⟨B4, H4, s.σ, e3⟩))) (g5.ok (s := ⟨B4, H4, s.σ, e3⟩) k4) r5
  · rename_i hf
    cases hm
    refine hr B2 H2 v w x y _ k2.bh (r1.mono s2.bb) r2 hf _ fun b B3 H3 gr rb => ?_
    cases rb
    refine ⟨false, rfl, ?_⟩
    rw [if_neg Bool.false_ne_true]
    exact q _ B3 H3 ((s1.trans s2).trans (gr.step (s := ⟨B2, H2, s.σ, e'⟩))) (gr.ok (s := ⟨B2, H2, s.σ, e'⟩) k2) (.bl _)
  · cases hm
/-! ### parts of slices -/
theorem di_no : DI K cm tNoPart noPt := fun s k o e' h Q q => by
  cases h
  exact q s.B s.H (Stp.refl s) k
theorem di_pt (h : DE K cm te m) : DI K cm (tPart te) (ptM m) := fun s k o e' hm Q q => by
  obtain ⟨d, e1, h1, hm⟩ := bnd_some hm
  refine h s k d e1 h1 _ fun v B' H' st k' r => ?_
  cases r with
  | int i => cases hm; exact ⟨i, rfl, q B' H' st k'⟩
  | _ => cases hm
/-! ### own things read where nothing of them stays -/
def thaw : SDs → SDs := List.map fun x => match x.ow with | some o => .fro o.d | none => x
def scalar : D → Bool
  | .non => true
  | .bl _ => true
  | .int _ => true
  | .str _ => true
  | _ => false
def scM (m : M) : M := fun e => match m (thaw e) with | some (d, _) => if scalar d then some (d, e) else none | none => none
def scT (m : MT) : MT := fun e => match m (thaw e) with | some (b, _) => some (b, e) | none => none
open Classical in
noncomputable def Bp (s : MSt) : Hp := fun a => if OwnA s a then s.H a else s.B a
theorem bp_own {a : Addr} (h : OwnA s a) : Bp s a = s.H a := by
  unfold Bp
  exact if_pos h
theorem bp_not {a : Addr} (h : ¬ OwnA s a) : Bp s a = s.B a := by
  unfold Bp
  exact if_neg h
theorem bp_ex (k : Okm K cm s) : Ex s.B (Bp s) := fun a o h => by
  unfold Bp
  split
  · rename_i w
    obtain ⟨i, o2, ⟨x, h1, h2⟩, h3⟩ := w
    obtain ⟨a2, h4, h5, _⟩ := k.own i x o2 h1 h2
    rw [h3] at h4
    cases h4
    rw [h] at h5
    cases h5
  · exact h
theorem thaw_get {e : SDs} {i : Nat} {y : SD} (h : (thaw e)[i]? = some y) : ∃ x, e[i]? = some x ∧ y = (match x.ow with | some o => .fro o.d | none => x) := by
  unfold thaw at h
  rw [List.getElem?_map] at h
  cases hx : e[i]? with
  | none => rw [hx] at h; cases h
  | some x => rw [hx] at h; cases h; exact ⟨x, rfl, rfl⟩
theorem thaw_ow {e : SDs} {i : Nat} {y : SD} (h : (thaw e)[i]? = some y) : y.ow = none := by
  obtain ⟨x, _, rfl⟩ := thaw_get h
  cases x <;> rfl
theorem thaw_ok (k : Okm K cm s) : Okm K cm ⟨Bp s, s.H, s.σ, thaw s.e⟩ := by
  refine ⟨?_, fun a o h => ?_, fun i d h => ?_, fun i x o h h2 => ?_, fun i j o p a h _ => ?_⟩
  · show (thaw s.e).length = _
    unfold thaw
    rw [List.length_map, k.len]
  · have h' : Bp s a = some o := h
    by_cases c : OwnA s a
    · rw [bp_own c] at h'
      exact h'
    · rw [bp_not c] at h'
      exact k.bh a o h'
  · obtain ⟨x, hx, hy⟩ := thaw_get h
    cases ho : x.ow with
    | none =>
      rw [ho] at hy
      cases hy
      obtain ⟨v, a, b⟩ := k.fro i d hx
      exact ⟨v, a, b.mono (bp_ex k)⟩
    | some o =>
      rw [ho] at hy
      cases hy
      obtain ⟨a, h3, h4, h5⟩ := k.own i x o hx ho
      refine ⟨_, h3, h5.rep (bp_ex k) fun u hu => ?_⟩
      show Bp s a = some u
      rw [bp_own ⟨i, o, ⟨x, hx, ho⟩, h3⟩]
      exact hu
  · rw [thaw_ow h] at h2
    cases h2
  · obtain ⟨⟨x, h1, h2⟩, _⟩ := h
    have h1' : (thaw s.e)[i]? = some x := h1
    rw [thaw_ow h1'] at h2
    cases h2
theorem thaw_no {s : MSt} {a : Addr} : ¬ OwnA ⟨Bp s, s.H, s.σ, thaw s.e⟩ a := fun ⟨i, o, ⟨x, h1, h2⟩, _⟩ => by
  have h1' : (thaw s.e)[i]? = some x := h1
  rw [thaw_ow h1'] at h2
  cases h2
theorem gro_thaw {e' : SDs} {B' H' : Hp} (k : Okm K cm s) (st : Stp ⟨Bp s, s.H, s.σ, thaw s.e⟩ ⟨B', H', s.σ, e'⟩) : Gro s.B s.H s.B H' := Gro.lay k.bh fun a o h => st.ex a o h thaw_no
theorem scalar_rep {B B' : Hp} {v : V} {d : D} (h : scalar d = true) (r : Rep K cm B v d) : Rep K cm B' v d := by
  cases r with
  | non => exact .non
  | bl b => exact .bl b
  | int i => exact .int i
  | str y => exact .str y
  | _ => cases h
theorem de_sc (h : DE K cm te m) : DE K cm te (scM m) := fun s k d e' hm Q q => by
  unfold scM at hm
  split at hm
  · rename_i d2 e2 h2
    split at hm
    · rename_i hs
      cases hm
      refine h ⟨Bp s, s.H, s.σ, thaw s.e⟩ (thaw_ok k) d e2 h2 Q fun v B' H' st k' r => ?_
      have g := gro_thaw k st
      exact q v s.B H' g.step (g.ok k) (scalar_rep hs r)
    · cases hm
  · cases hm
theorem dt_sc (h : DT K cm t mt) : DT K cm t (scT mt) := fun s k d e' hm Q q => by
  unfold scT at hm
  split at hm
  · rename_i d2 e2 h2
    cases hm
    refine h ⟨Bp s, s.H, s.σ, thaw s.e⟩ (thaw_ok k) d e2 h2 Q fun B' H' st k' => ?_
    have g := gro_thaw k st
    exact q s.B H' g.step (g.ok k)
  · cases hm
end
end Mir

set_option Elab.async false
set_option linter.all false
set_option maxRecDepth 100000
set_option maxHeartbeats 2000000
namespace Mir
open PySem PySem.Spec PyProof.Rows L2 Evl WS
/-! ### statements -/
inductive Out where
  | nx (e : SDs) | rt (d : D) (e : SDs) | bk (e : SDs) | ct (e : SDs) | ro (o : OD) (e : SDs)
abbrev MS := SDs → Option Out
section
variable (K : PySem.W.Frag) (cm : CM)
def Goes (E : Ends) (s : MSt) : Out → Prop
  | .nx e' => ∀ σ' B' H', Stp s ⟨B', H', σ', e'⟩ → Okm K cm ⟨B', H', σ', e'⟩ → E.nx σ' H'
  | .bk e' => ∀ σ' B' H', Stp s ⟨B', H', σ', e'⟩ → Okm K cm ⟨B', H', σ', e'⟩ → E.bk σ' H'
  | .ct e' => ∀ σ' B' H', Stp s ⟨B', H', σ', e'⟩ → Okm K cm ⟨B', H', σ', e'⟩ → E.ct σ' H'
  | .rt d e' => ∀ v σ' B' H', Stp s ⟨B', H', σ', e'⟩ → Okm K cm ⟨B', H', σ', e'⟩ → Rep K cm B' v d → E.rt v H'
  | .ro o e' => ∀ p σ' B' H', Stp s ⟨B', H', σ', e'⟩ → Okm K cm ⟨B', H', σ', e'⟩ → s.H p = none → B' p = none → OwnR K cm B' H' p o → ¬ OwnA ⟨B', H', σ', e'⟩ p → E.rt (.ref p) H'
def DS (ts : TS) (m : MS) : Prop := ∀ s : MSt, Okm K cm s → ∀ o, m s.e = some o → ∀ E : Ends, Goes K cm E s o → ts E s.σ s.H
/-- a target; js: the slots that it may store to -/
def DG (g : TG) (js : List Nat) (ga : D → SDs → Option SDs) : Prop := ∀ s : MSt, Okm K cm s → ∀ v d e', Rep K cm s.B v d → ga d s.e = some e' → ∀ Q : L2.St → Hp → Prop,
  (∀ σ' B' H', Stp s ⟨B', H', σ', e'⟩ → Okm K cm ⟨B', H', σ', e'⟩ → (∀ j : Nat, j ∉ js → σ'[j]? = s.σ[j]?) → σ'.length = s.σ.length → Q σ' H') → g v s.σ s.H Q
def DGs (g : TGs) (js : List Nat) (ga : List D → SDs → Option SDs) : Prop := ∀ s : MSt, Okm K cm s → ∀ vs ds e', Reps K cm s.B vs ds → ga ds s.e = some e' → ∀ Q : L2.St → Hp → Prop,
  (∀ σ' B' H', Stp s ⟨B', H', σ', e'⟩ → Okm K cm ⟨B', H', σ', e'⟩ → (∀ j : Nat, j ∉ js → σ'[j]? = s.σ[j]?) → σ'.length = s.σ.length → Q σ' H') → g vs s.σ s.H Q
def Walks (J : It) (B : Hp) (xs : List D) : Prop := ∀ B' H', Ex B B' → Ex B' H' → ∀ i, (∀ x, xs[i]? = some x → J.go i H' ∧ ∀ v H2, J.yld i H' v H2 → ∃ B2, Gro B' H' B2 H2 ∧ Rep K cm B2 v x) ∧ (xs.length ≤ i → J.stop i H')
def DIt (wi : TI) (m : ML) : Prop := ∀ s : MSt, Okm K cm s → ∀ xs e', m s.e = some (xs, e') → ∀ R : It → Hp → Prop, (∀ J B' H', Stp s ⟨B', H', s.σ, e'⟩ → Okm K cm ⟨B', H', s.σ, e'⟩ → Walks K cm J B' xs → R J H') → wi s.σ s.H R
end
def nxM : MS := fun e => some (.nx e)
def bkM : MS := fun e => some (.bk e)
def ctM : MS := fun e => some (.ct e)
def noM : MS := fun _ => none
def seqM (a b : MS) : MS := fun e => match a e with | some (.nx e1) => b e1 | o => o
def ifS (t : MT) (a b : MS) : MS := fun e => bnd (t e) fun c e1 => if c then a e1 else b e1
def retM (m : M) : MS := fun e => bnd (m e) fun d e1 => some (.rt d e1)
def retF (m : MO) : MS := fun e => bnd (m e) fun d e1 => some (.ro d e1)
def retN : MS := fun e => some (.rt .non e)
def drM (m : M) : MS := fun e => bnd (m e) fun _ e1 => some (.nx e1)
def setS (i : Nat) (x : SD) (e : SDs) : Option SDs := match e[i]? with | some (.bor _) => none | some _ => some (e.set i x) | none => none
def nameG (i : Nat) : D → SDs → Option SDs := fun d e => setS i (.fro d) e
def nilG : List D → SDs → Option SDs := fun ds e => match ds with | [] => some e | _ => none
def consG (g : D → SDs → Option SDs) (r : List D → SDs → Option SDs) : List D → SDs → Option SDs := fun ds e => match ds with | d :: t => (g d e).bind (r t) | [] => none
def tupG (n : Nat) (r : List D → SDs → Option SDs) : D → SDs → Option SDs := fun d e => match d with | .tup ds => if ds.length = n then r ds e else none | _ => none
def asM (g : D → SDs → Option SDs) (m : M) : MS := fun e => bnd (m e) fun d e1 => (g d e1).map Out.nx
def owM (i : Nat) (m : MO) : MS := fun e => bnd (m e) fun o e1 => (setS i (.own o) e1).map Out.nx
def augM (i : Nat) (f : D → D → Option D) (m : M) : MS := fun e => match e[i]? with | some (.fro x) => bnd (m e) fun y e1 => (match f x y with | some z => (setS i (.fro z) e1).map Out.nx | none => none) | _ => none
def frzM (i : Nat) (m : MS) : MS := fun e => match e[i]? with | some (.own o) => m (e.set i (.fro o.d)) | some (.fro _) => m e | _ => none
def whM (t : MT) (b : MS) : Nat → MS
  | 0, _ => none
  | n + 1, e => bnd (t e) fun c e1 => if c then (match b e1 with | some (.nx e2) => whM t b n e2 | some (.ct e2) => whM t b n e2 | some (.bk e2) => some (.nx e2) | o => o) else some (.nx e1)
def forL (g : D → SDs → Option SDs) (b : MS) : List D → MS
  | [], e => some (.nx e)
  | x :: r, e => match g x e with | none => none | some e1 => match b e1 with | some (.nx e2) => forL g b r e2 | some (.ct e2) => forL g b r e2 | some (.bk e2) => some (.nx e2) | o => o
def forM (mi : ML) (g : D → SDs → Option SDs) (b : MS) : MS := fun e => bnd (mi e) fun xs e1 => forL g b xs e1
section
variable {K : PySem.W.Frag} {cm : CM} {ta tb te tc : TE} {tr : TA} {t u : TT} {tl th : TO} {tz tw : TS} {g : TG} {ma mb m mc : M} {mr : ML} {mt mu : MT} {mo : MO} {r : R2} {f : D → D → Option D} {s : MSt} {a b : MS} {ga : D → SDs → Option SDs} {js : List Nat}
theorem Goes.go {E : Ends} {s t : MSt} (h : Stp s t) : ∀ {o : Out}, Goes K cm E s o → Goes K cm E t o
  | .nx _, k => fun σ' B' H' st => k σ' B' H' (h.trans st)
  | .bk _, k => fun σ' B' H' st => k σ' B' H' (h.trans st)
  | .ct _, k => fun σ' B' H' st => k σ' B' H' (h.trans st)
  | .rt _ _, k => fun v σ' B' H' st => k v σ' B' H' (h.trans st)
  | .ro _ _, k => fun p σ' B' H' st k' n => k p σ' B' H' (h.trans st) k' (h.dm p n)
theorem ds_nx : DS K cm tNext nxM := fun s k o h E q => by
  cases h
  exact q s.σ s.B s.H (Stp.refl s) k
theorem ds_bk : DS K cm tBreak bkM := fun s k o h E q => by
  cases h
  exact q s.σ s.B s.H (Stp.refl s) k
theorem ds_ct : DS K cm tCont ctM := fun s k o h E q => by
  cases h
  exact q s.σ s.B s.H (Stp.refl s) k
theorem ds_no : DS K cm tNever noM := fun s k o h E q => nomatch h
theorem ds_seq (h1 : DS K cm tz a) (h2 : DS K cm tw b) : DS K cm (tSeq tz tw) (seqM a b) := fun s k o h E q => by
  unfold seqM at h
  split at h
  · rename_i e1 ha
    exact h1 s k _ ha { E with nx := tw E } fun σ' B' H' st k' => h2 ⟨B', H', σ', e1⟩ k' o h E (q.go st)
  · rename_i o1 hne
    refine h1 s k o h { E with nx := tw E } ?_
    cases o with
    | nx e => exact absurd h (hne e)
    | bk e => exact q
    | ct e => exact q
    | rt d e => exact q
    | ro o e => exact q
theorem ds_if (h : DT K cm t mt) (h1 : DS K cm tz a) (h2 : DS K cm tw b) : DS K cm (tIfS t tz tw) (ifS mt a b) := fun s k o hm E q => by
  obtain ⟨c, e1, g1, hm⟩ := bnd_some hm
  refine h s k c e1 g1 _ fun B1 H1 s1 k1 => ?_
  cases c with
  | true => exact h1 ⟨B1, H1, s.σ, e1⟩ k1 o hm E (q.go s1)
  | false => exact h2 ⟨B1, H1, s.σ, e1⟩ k1 o hm E (q.go s1)
theorem ds_ret (h : DE K cm te m) : DS K cm (tRet te) (retM m) := fun s k o hm E q => by
  obtain ⟨d, e1, g1, hm⟩ := bnd_some hm
  cases hm
  exact h s k d e1 g1 _ fun v B' H' st k' r => q v s.σ B' H' st k' r
theorem ds_retF (h : DF K cm te mo) : DS K cm (tRet te) (retF mo) := fun s k o hm E q => by
  obtain ⟨d, e1, g1, hm⟩ := bnd_some hm
  cases hm
  exact h s k d e1 g1 _ fun p B' H' st k' n1 n2 ow nw => q p s.σ B' H' st k' n1 n2 ow nw
theorem ds_retN : DS K cm tRetN retN := fun s k o hm E q => by
  cases hm
  exact q .non s.σ s.B s.H (Stp.refl s) k .non
theorem ds_dr (h : DE K cm te m) : DS K cm (tDrop te) (drM m) := fun s k o hm E q => by
  obtain ⟨d, e1, g1, hm⟩ := bnd_some hm
  cases hm
  exact h s k d e1 g1 _ fun v B' H' st k' r => q s.σ B' H' st k'
theorem setS_at {i : Nat} {x : SD} {e e' : SDs} (h : setS i x e = some e') : i < e.length ∧ (∀ o, e[i]? ≠ some (.bor o)) ∧ e' = e.set i x := by
  unfold setS at h
  split at h
  · cases h
  · rename_i y hy hn
    cases h
    refine ⟨(List.getElem?_eq_some_iff.mp hn).1, fun o c => ?_, rfl⟩
    rw [c] at hn
    exact hy o (Option.some.inj hn).symm
  · cases h
theorem set_get {α : Type} {l : List α} {i j : Nat} {x : α} (h : i < l.length) : (l.set i x)[j]? = if j = i then some x else l[j]? := by
  by_cases c : j = i
  · subst c
    rw [if_pos rfl, List.getElem?_set_self h]
  · rw [if_neg c, List.getElem?_set_ne (Ne.symm c)]
/-- one slot is stored to -/
theorem set_ok {i : Nat} {x : SD} {e' : SDs} {v : V} (k : Okm K cm s) (h : setS i x s.e = some e') (hf : ∀ d, x = .fro d → Rep K cm s.B v d) (hb : ∀ o, x ≠ .bor o)
    (ho : ∀ o, x = .own o → ∃ p, v = .ref p ∧ s.B p = none ∧ OwnR K cm s.B s.H p o ∧ ¬ OwnA s p) (hfr : ∀ o p, x = .own o → v = .ref p → OwnA s p ∨ s.H p = none ∨ True) : Okm K cm ⟨s.B, s.H, s.σ.set i (some v), e'⟩ := by
  obtain ⟨hi, hn, rfl⟩ := setS_at h
  have hi2 : i < s.σ.length := by rw [← k.len]; exact hi
  refine ⟨?_, k.bh, fun j d hj => ?_, fun j y o hj hy => ?_, fun j l o p q h1 h2 => ?_⟩
  · show (s.e.set i x).length = (s.σ.set i (some v)).length
    rw [List.length_set, List.length_set, k.len]
  · have hj : (s.e.set i x)[j]? = some (.fro d) := hj
    show ∃ w, (s.σ.set i (some v))[j]? = some (some w) ∧ Rep K cm s.B w d
    rw [set_get hi] at hj
    rw [set_get hi2]
    by_cases c : j = i
    · rw [if_pos c] at hj ⊢
      exact ⟨v, rfl, hf d (Option.some.inj hj)⟩
    · rw [if_neg c] at hj ⊢
      exact k.fro j d hj
  · have hj : (s.e.set i x)[j]? = some y := hj
    show ∃ w, (s.σ.set i (some v))[j]? = some (some (.ref w)) ∧ s.B w = none ∧ OwnR K cm s.B s.H w o
    rw [set_get hi] at hj
    rw [set_get hi2]
    by_cases c : j = i
    · rw [if_pos c] at hj ⊢
      cases hj
      cases x with
      | own o2 =>
        cases hy
        obtain ⟨p, rfl, h1, h2, _⟩ := ho o rfl
        exact ⟨p, rfl, h1, h2⟩
      | bor o2 => exact absurd rfl (hb o2)
      | nn => cases hy
      | fro d => cases hy
    · rw [if_neg c] at hj ⊢
      exact k.own j y o hj hy
  · obtain ⟨⟨y, a1, a2⟩, a3⟩ := h1
    obtain ⟨⟨z, b1, b2⟩, b3⟩ := h2
    have a1 : (s.e.set i x)[j]? = some y := a1
    have a3 : (s.σ.set i (some v))[j]? = some (some (.ref q)) := a3
    have b1 : (s.e.set i x)[l]? = some z := b1
    have b3 : (s.σ.set i (some v))[l]? = some (some (.ref q)) := b3
    rw [set_get hi] at a1 b1
    rw [set_get hi2] at a3 b3
    have key : ∀ {y : SD} {o : OD} {q : Addr}, x = y → y.ow = some o → v = .ref q → ¬ OwnA s q := fun {y o q} e1 e2 e3 => by
      subst e1
      cases x with
      | own o2 =>
        obtain ⟨p, h1, _, _, h2⟩ := ho o2 rfl
        rw [h1] at e3
        cases e3
        exact h2
      | bor o2 => exact absurd rfl (hb o2)
      | nn => cases e2
      | fro d => cases e2
    by_cases c : j = i
    · rw [if_pos c] at a1 a3
      by_cases c2 : l = i
      · rw [c, c2]
      · rw [if_neg c2] at b1 b3
        exact absurd ⟨l, p, ⟨z, b1, b2⟩, b3⟩ (key (Option.some.inj a1) a2 (Option.some.inj (Option.some.inj a3)))
    · rw [if_neg c] at a1 a3
      by_cases c2 : l = i
      · rw [if_pos c2] at b1 b3
        exact absurd ⟨j, o, ⟨y, a1, a2⟩, a3⟩ (key (Option.some.inj b1) b2 (Option.some.inj (Option.some.inj b3)))
      · rw [if_neg c2] at b1 b3
        exact k.dis j l o p q ⟨⟨y, a1, a2⟩, a3⟩ ⟨⟨z, b1, b2⟩, b3⟩
theorem set_st {i : Nat} {x : SD} {e' : SDs} {v : V} {s0 : MSt} (st : Stp s0 s) (k : Okm K cm s) (h : setS i x s.e = some e') (hb : ∀ o, x ≠ .bor o) (ho : ∀ o p, x = .own o → v = .ref p → OwnA s0 p ∨ s0.H p = none) : Stp s0 ⟨s.B, s.H, s.σ.set i (some v), e'⟩ := by
  obtain ⟨hi, hn, rfl⟩ := setS_at h
  have hi2 : i < s.σ.length := by rw [← k.len]; exact hi
  refine ⟨st.ex, st.bb, st.fr, fun p hp => ?_, fun j o p h1 h2 => ?_, st.dm⟩
  · obtain ⟨j, o, ⟨y, a1, a2⟩, a3⟩ := hp
    have b1 : (s.e.set i x)[j]? = some y := a1
    have b3 : (s.σ.set i (some v))[j]? = some (some (.ref p)) := a3
    clear a1 a3
    rw [set_get hi] at b1
    rw [set_get hi2] at b3
    by_cases c : j = i
    · rw [if_pos c] at b1 b3
      have b1 := Option.some.inj b1
      subst b1
      cases x with
      | own o2 => exact ho o2 p rfl (Option.some.inj (Option.some.inj b3))
      | bor o2 => exact absurd rfl (hb o2)
      | nn => cases a2
      | fro d => cases a2
    · rw [if_neg c] at b1 b3
      exact st.ow p ⟨j, o, ⟨y, b1, a2⟩, b3⟩
  · obtain ⟨⟨o', h3⟩, h4⟩ := st.bo j o p h1 h2
    have c : j ≠ i := fun c => hn o' (c ▸ h3)
    show (∃ o', (s.e.set i x)[j]? = some (.bor o')) ∧ (s.σ.set i (some v))[j]? = some (some (.ref p))
    rw [set_get hi, set_get hi2, if_neg c, if_neg c]
    exact ⟨⟨o', h3⟩, h4⟩
theorem setS_js {σ : L2.St} {i : Nat} {v : V} : ∀ j : Nat, j ∉ [i] → (σ.set i (some v))[j]? = σ[j]? := fun j h => List.getElem?_set_ne (by simpa using Ne.symm (by simpa using h))
theorem dg_name {i : Nat} : DG K cm (gName i) [i] (nameG i) := fun s k v d e' r h Q q =>
  q (s.σ.set i (some v)) s.B s.H (set_st (Stp.refl s) k h (fun _ c => nomatch c) (fun _ _ c => nomatch c)) (set_ok k h (fun d2 c => by cases c; exact r) (fun _ c => nomatch c) (fun _ c => nomatch c) (fun _ _ c => nomatch c)) setS_js (List.length_set ..)
theorem dgs_nil : DGs K cm gNil [] nilG := fun s k vs ds e' r h Q q => by
  cases r with
  | nil => cases h; exact ⟨rfl, q s.σ s.B s.H (Stp.refl s) k (fun _ _ => rfl) rfl⟩
  | cons _ _ => cases h
theorem dgs_cons {gr : TGs} {gb : List D → SDs → Option SDs} {is : List Nat} (h1 : DG K cm g js ga) (h2 : DGs K cm gr is gb) : DGs K cm (gCons g gr) (js ++ is) (consG ga gb) := fun s k vs ds e' r h Q q => by
  cases r with
  | nil => cases h
  | cons r1 r2 =>
    rename_i v vs d ds
    have h : (ga d s.e).bind (gb ds) = some e' := h
    cases h3 : ga d s.e with
    | none => rw [h3] at h; cases h
    | some e1 =>
      rw [h3] at h
      have h : gb ds e1 = some e' := h
      exact ⟨v, vs, rfl, h1 s k v d e1 r1 h3 _ fun σ1 B1 H1 s1 k1 n1 l1 => h2 ⟨B1, H1, σ1, e1⟩ k1 vs ds e' (r2.mono s1.bb) h Q fun σ2 B2 H2 s2 k2 n2 l2 =>
        q σ2 B2 H2 (s1.trans s2) k2 (fun j hj => by rw [List.mem_append, not_or] at hj; exact (n2 j hj.2).trans (n1 j hj.1)) (l2.trans l1)⟩
theorem dg_tup {gr : TGs} {gb : List D → SDs → Option SDs} {is : List Nat} {n : Nat} (h2 : DGs K cm gr is gb) : DG K cm (gTup K n gr) is (tupG n gb) := fun s k v d e' r h Q q => by
  cases r with
  | @tup a xs ds hx rs =>
    have h : (if ds.length = n then gb ds s.e else none) = some e' := h
    split at h
    · rename_i hl
      exact ⟨a, xs, rfl, ex_t k.bh hx, by rw [rs.len]; exact hl, h2 s k xs ds e' rs h Q q⟩
    · cases h
  | _ => cases h
theorem ds_as (h : DE K cm te m) (h2 : DG K cm g js ga) : DS K cm (tAsg te g) (asM ga m) := fun s k o hm E q => by
  obtain ⟨d, e1, g1, hm⟩ := bnd_some hm
  cases h3 : ga d e1 with
  | none => rw [h3] at hm; cases hm
  | some e2 =>
    rw [h3] at hm
    cases hm
    exact h s k d e1 g1 _ fun v B' H' st k' r => h2 ⟨B', H', s.σ, e1⟩ k' v d e2 r h3 E.nx fun σ2 B2 H2 s2 k2 _ _ => q σ2 B2 H2 (st.trans s2) k2
theorem ds_ow {i : Nat} (h : DF K cm te mo) : DS K cm (tAsg te (gName i)) (owM i mo) := fun s k o hm E q => by
  obtain ⟨d, e1, g1, hm⟩ := bnd_some hm
  cases h3 : setS i (.own d) e1 with
  | none => rw [h3] at hm; cases hm
  | some e2 =>
    rw [h3] at hm
    cases hm
    exact h s k d e1 g1 _ fun p B' H' st k' n1 n2 ow nw => q (s.σ.set i (some (.ref p))) B' H'
      (set_st (s := ⟨B', H', s.σ, e1⟩) st k' h3 (fun _ c => nomatch c) (fun _ _ _ c => by cases c; exact .inr n1))
      (set_ok (s := ⟨B', H', s.σ, e1⟩) k' h3 (fun _ c => nomatch c) (fun _ c => nomatch c) (fun o c => by cases c; exact ⟨p, rfl, n2, ow, nw⟩) (fun _ _ _ _ => .inr (.inr trivial)))
theorem ds_aug {i : Nat} {ti : TIp} (hr : RD K cm ti f) (h : DE K cm te m) : DS K cm (tAug i te ti) (augM i f m) := fun s k o hm E q => by
  unfold augM at hm
  split at hm
  · rename_i x hx
    obtain ⟨y, e1, g1, hm⟩ := bnd_some hm
    split at hm
    · rename_i z hz
      cases h3 : setS i (.fro z) e1 with
      | none => rw [h3] at hm; cases hm
      | some e2 =>
        rw [h3] at hm
        cases hm
        obtain ⟨v, hv, rv⟩ := k.fro i x hx
        refine ⟨v, hv, h s k y e1 g1 _ fun w B' H' st k' r => hr B' H' v w x y z k'.bh (rv.mono st.bb) r hz _ fun zz B2 H2 g2 r2 => ?_⟩
        have k2 := g2.ok (s := ⟨B', H', s.σ, e1⟩) k'
        exact q (s.σ.set i (some zz)) B2 H2 (set_st (s := ⟨B2, H2, s.σ, e1⟩) (st.trans (g2.step (s := ⟨B', H', s.σ, e1⟩))) k2 h3 (fun _ c => nomatch c) (fun _ _ c => nomatch c))
          (set_ok (s := ⟨B2, H2, s.σ, e1⟩) k2 h3 (fun d2 c => by cases c; exact r2) (fun _ c => nomatch c) (fun _ c => nomatch c) (fun _ _ c => nomatch c))
    · cases hm
  · cases hm
/-- from here on a list of its own is data -/
theorem ds_frz {i : Nat} (h : DS K cm tz a) : DS K cm tz (frzM i a) := fun s k o hm E q => by
  unfold frzM at hm
  split at hm
  · rename_i w hw
    obtain ⟨p, h1, h2, h3⟩ := k.own i _ w hw rfl
    obtain ⟨u, hu⟩ := h3.there
    have hi : i < s.e.length := (List.getElem?_eq_some_iff.mp hw).1
    have eb : Ex s.B (upd s.B p u) := Ex.new h2
    have me : ∀ {j : Nat} {y : SD} {o : OD}, (s.e.set i (.fro w.d))[j]? = some y → y.ow = some o → j ≠ i ∧ s.e[j]? = some y := fun {j y o} h h4 => by
      rw [set_get hi] at h
      by_cases c : j = i
      · rw [if_pos c] at h
        cases h
        cases h4
      · rw [if_neg c] at h
        exact ⟨c, h⟩
    have k2 : Okm K cm ⟨upd s.B p u, s.H, s.σ, s.e.set i (.fro w.d)⟩ := by
      refine ⟨by rw [show (s.e.set i (SD.fro w.d)).length = s.e.length from List.length_set]; exact k.len, fun a o ha => ?_, fun j d hj => ?_, fun j y o hj hy => ?_, fun j l o o2 a ha hb => ?_⟩
      · have ha : upd s.B p u a = some o := ha
        by_cases c : a = p
        · subst c
          rw [upd_same] at ha
          cases ha
          exact hu
        · rw [upd_ne c] at ha
          exact k.bh a o ha
      · have hj : (s.e.set i (SD.fro w.d))[j]? = some (.fro d) := hj
        rw [set_get hi] at hj
        by_cases c : j = i
        · rw [if_pos c] at hj
          cases hj
          subst c
          exact ⟨_, h1, h3.rep eb fun v hv => by rw [hu] at hv; cases hv; exact upd_same⟩
        · rw [if_neg c] at hj
          obtain ⟨v, a, b⟩ := k.fro j d hj
          exact ⟨v, a, b.mono eb⟩
      · obtain ⟨c, hj⟩ := me hj hy
        obtain ⟨a, a1, a2, a3⟩ := k.own j y o hj hy
        refine ⟨a, a1, ?_, a3.mono eb fun _ q => q⟩
        have : a ≠ p := fun z => c (k.dis j i o w a ⟨⟨y, hj, hy⟩, a1⟩ ⟨⟨_, hw, rfl⟩, z ▸ h1⟩)
        show upd s.B p u a = none
        rw [upd_ne this]
        exact a2
      · obtain ⟨⟨y, y1, y2⟩, y3⟩ := ha
        obtain ⟨⟨z, z1, z2⟩, z3⟩ := hb
        exact k.dis j l o o2 a ⟨⟨y, (me y1 y2).2, y2⟩, y3⟩ ⟨⟨z, (me z1 z2).2, z2⟩, z3⟩
    have st : Stp s ⟨upd s.B p u, s.H, s.σ, s.e.set i (.fro w.d)⟩ := by
      refine ⟨fun a o h _ => h, eb, fun a o h n => ?_, fun a h => .inl ?_, fun j o a h4 h5 => ?_, fun a h => h⟩
      · have h : upd s.B p u a = some o := h
        by_cases c : a = p
        · subst c; exact .inr ⟨i, w, ⟨_, hw, rfl⟩, h1⟩
        · rw [upd_ne c] at h
          rw [n] at h
          cases h
      · obtain ⟨j, o, ⟨y, y1, y2⟩, y3⟩ := h
        exact ⟨j, o, ⟨y, (me y1 y2).2, y2⟩, y3⟩
      · have c : j ≠ i := fun c => by rw [c, hw] at h4; cases h4
        refine ⟨⟨o, ?_⟩, h5⟩
        show (s.e.set i (SD.fro w.d))[j]? = some (.bor o)
        rw [set_get hi, if_neg c]
        exact h4
    exact h ⟨upd s.B p u, s.H, s.σ, s.e.set i (.fro w.d)⟩ k2 o hm E (q.go st)
  · exact h s k o hm E q
  · cases hm
/-! ### loops -/
theorem ds_wh (n : Nat) (h1 : DT K cm t mt) (h2 : DS K cm tz a) : DS K cm (tWhile t tz) (whM mt a n) := fun s k o hm E q => by
  refine ⟨fun n' σ' H' => ∃ B' e', Stp s ⟨B', H', σ', e'⟩ ∧ Okm K cm ⟨B', H', σ', e'⟩ ∧ whM mt a n' e' = some o, ⟨n, s.B, s.e, Stp.refl s, k, hm⟩, fun n' σ' H' hW => ?_⟩
  obtain ⟨B', e', st, k', hm'⟩ := hW
  cases n' with
  | zero => cases hm'
  | succ n' =>
    obtain ⟨c, e1, g1, hm'⟩ := bnd_some hm'
    refine h1 ⟨B', H', σ', e'⟩ k' c e1 g1 _ fun B1 H1 s1 k1 => ?_
    cases c with
    | false =>
      have e := hm'
      cases e
      exact q σ' B1 H1 (st.trans s1) k1
    | true =>
      refine ⟨fun σ2 H2 => ∃ B2 e2, Stp s ⟨B2, H2, σ2, e2⟩ ∧ Okm K cm ⟨B2, H2, σ2, e2⟩ ∧ whM mt a n' e2 = some o, fun σ2 H2 ⟨B2, e2, p1, p2, p3⟩ => ⟨n', Nat.lt_succ_self _, B2, e2, p1, p2, p3⟩, ?_⟩
      have hm' : (match a e1 with | some (.nx e2) => whM mt a n' e2 | some (.ct e2) => whM mt a n' e2 | some (.bk e2) => some (.nx e2) | o => o) = some o := hm'
      cases ho : a e1 with
      | none => rw [ho] at hm'; cases hm'
      | some o1 =>
        rw [ho] at hm'
        refine h2 ⟨B1, H1, σ', e1⟩ k1 o1 ho _ ?_
        cases o1 with
        | nx e2 => exact fun σ2 B2 H2 s2 k2 => ⟨B2, e2, (st.trans s1).trans s2, k2, hm'⟩
        | ct e2 => exact fun σ2 B2 H2 s2 k2 => ⟨B2, e2, (st.trans s1).trans s2, k2, hm'⟩
        | bk e2 => cases hm'; exact fun σ2 B2 H2 s2 k2 => q σ2 B2 H2 ((st.trans s1).trans s2) k2
        | rt d e2 => cases hm'; exact fun v σ2 B2 H2 s2 k2 r => q v σ2 B2 H2 ((st.trans s1).trans s2) k2 r
        | ro w e2 => cases hm'; exact fun p σ2 B2 H2 s2 k2 n => q p σ2 B2 H2 ((st.trans s1).trans s2) k2 ((st.trans s1).dm p n)
theorem ds_for {wi : TI} {mi : ML} (h1 : DIt K cm wi mi) (h2 : DG K cm g js ga) (h3 : DS K cm tz a) : DS K cm (tFor wi g tz) (forM mi ga a) := fun s k o hm E q => by
  obtain ⟨xs, e1, g1, hm⟩ := bnd_some hm
  refine h1 s k xs e1 g1 _ fun J B1 H1 s1 k1 w1 => ?_
  refine ⟨fun i n σ' H' => n + i = xs.length ∧ ∃ B' e', Stp ⟨B1, H1, s.σ, e1⟩ ⟨B', H', σ', e'⟩ ∧ Okm K cm ⟨B', H', σ', e'⟩ ∧ forL ga a (xs.drop i) e' = some o, ⟨xs.length, rfl, B1, e1, Stp.refl _, k1, hm⟩, fun i n σ' H' hW => ?_⟩
  obtain ⟨hn, B', e', st, k', hm'⟩ := hW
  have ww := w1 B' H' st.bb k'.bh i
  cases hx : xs[i]? with
  | none =>
    have hl := List.getElem?_eq_none_iff.mp hx
    rw [List.drop_eq_nil_of_le hl] at hm'
    cases hm'
    exact .inl ⟨ww.2 hl, q σ' B' H' (s1.trans st) k'⟩
  | some x =>
    have hl : i < xs.length := (List.getElem?_eq_some_iff.mp hx).1
    have hd : xs.drop i = x :: xs.drop (i + 1) := by
      rw [List.drop_eq_getElem_cons hl]
      rw [(List.getElem?_eq_some_iff.mp hx).2]
    rw [hd] at hm'
    have hm' : (match ga x e' with | none => none | some e1 => match a e1 with | some (.nx e2) => forL ga a (xs.drop (i + 1)) e2 | some (.ct e2) => forL ga a (xs.drop (i + 1)) e2 | some (.bk e2) => some (.nx e2) | o => o) = some o := hm'
    obtain ⟨w2, w3⟩ := ww.1 x hx
    refine .inr ⟨w2, fun σ2 H2 => ∃ B2 e2, Stp ⟨B1, H1, s.σ, e1⟩ ⟨B2, H2, σ2, e2⟩ ∧ Okm K cm ⟨B2, H2, σ2, e2⟩ ∧ forL ga a (xs.drop (i + 1)) e2 = some o, fun σ2 H2 ⟨B2, e2, p1, p2, p3⟩ => ⟨n - 1, by omega, by omega, B2, e2, p1, p2, p3⟩, fun v H2 hy => ?_⟩
    obtain ⟨B2, gr, rx⟩ := w3 v H2 hy
    have k2 := gr.ok (s := ⟨B', H', σ', e'⟩) k'
    have s2 := st.trans (gr.step (s := ⟨B', H', σ', e'⟩))
    cases hg : ga x e' with
    | none => rw [hg] at hm'; cases hm'
    | some e3 =>
      rw [hg] at hm'
      dsimp only at hm'
      refine h2 ⟨B2, H2, σ', e'⟩ k2 v x e3 rx hg _ fun σ3 B3 H3 s3 k3 _ _ => ?_
      cases ho : a e3 with
      | none => rw [ho] at hm'; cases hm'
      | some o1 =>
        rw [ho] at hm'
        refine h3 ⟨B3, H3, σ3, e3⟩ k3 o1 ho _ ?_
        cases o1 with
        | nx e4 => exact fun σ4 B4 H4 s4 k4 => ⟨B4, e4, (s2.trans s3).trans s4, k4, hm'⟩
        | ct e4 => exact fun σ4 B4 H4 s4 k4 => ⟨B4, e4, (s2.trans s3).trans s4, k4, hm'⟩
        | bk e4 => cases hm'; exact fun σ4 B4 H4 s4 k4 => q σ4 B4 H4 (s1.trans ((s2.trans s3).trans s4)) k4
        | rt d e4 => cases hm'; exact fun v σ4 B4 H4 s4 k4 r => q v σ4 B4 H4 (s1.trans ((s2.trans s3).trans s4)) k4 r
        | ro w e4 => cases hm'; exact fun p σ4 B4 H4 s4 k4 n => q p σ4 B4 H4 (s1.trans ((s2.trans s3).trans s4)) k4 ((s1.trans (s2.trans s3)).dm p n)
end
end Mir

set_option Elab.async false
set_option linter.all false
set_option maxRecDepth 100000
set_option maxHeartbeats 2000000
namespace Mir
open PySem PySem.Spec PyProof.Rows L2 Evl WS
/-! ### calls -/
abbrev Arg := Sum D Nat
abbrev MA := SDs → Option (List Arg × SDs)
abbrev MF := SDs → Option (D × SDs)
def upSD : SD → OD → SD
  | .own _, o => .own o
  | .bor _, o => .bor o
  | x, _ => x
def argsE : List Arg → SDs → Option SDs
  | [], _ => some []
  | .inl d :: r, e => match argsE r e with | some xs => some (.fro d :: xs) | none => none
  | .inr i :: r, e => match e[i]? with | some x => (match x.ow with | some o => (match argsE r e with | some xs => some (.bor o :: xs) | none => none) | none => none) | none => none
def putB : List Arg → SDs → SDs → Option SDs
  | [], [], e => some e
  | .inl _ :: r, _ :: xs, e => putB r xs e
  | .inr i :: r, .bor o :: xs, e => match e[i]? with | some x => putB r xs (e.set i (upSD x o)) | none => none
  | _, _, _ => none
def slotsA : List Arg → List Nat
  | [] => []
  | .inl _ :: r => slotsA r
  | .inr i :: r => i :: slotsA r
def nodupB : List Nat → Bool
  | [] => true
  | i :: r => !r.contains i && nodupB r
def callE (F : MF) (as : List Arg) (e : SDs) : Option (D × SDs) := if nodupB (slotsA as) then match argsE as e with | none => none | some es => match F es with | none => none | some (d, es') => (putB as es' e).map (fun e2 => (d, e2)) else none
def callM (F : MF) (ma : MA) : M := fun e => bnd (ma e) fun as e1 => callE F as e1
def nilA : MA := fun e => some ([], e)
def valA (m : M) (r : MA) : MA := fun e => bnd (m e) fun d e1 => bnd (r e1) fun as e2 => some (.inl d :: as, e2)
def sloA (i : Nat) (r : MA) : MA := fun e => match e[i]? with | some x => (match x.ow with | some _ => bnd (r e) fun as e2 => some (.inr i :: as, e2) | none => none) | none => none
inductive ArgR (K : PySem.W.Frag) (cm : CM) (B : Hp) (σ : L2.St) : List V → List Arg → Prop
  | nil : ArgR K cm B σ [] []
  | val {v : V} {vs : List V} {d : D} {as : List Arg} : Rep K cm B v d → ArgR K cm B σ vs as → ArgR K cm B σ (v :: vs) (.inl d :: as)
  | slo {i : Nat} {a : Addr} {vs : List V} {as : List Arg} : σ[i]? = some (some (.ref a)) → ArgR K cm B σ vs as → ArgR K cm B σ (.ref a :: vs) (.inr i :: as)
theorem ArgR.mono {K : PySem.W.Frag} {cm : CM} {B B' : Hp} {σ : L2.St} (e : Ex B B') : ∀ {vs : List V} {as : List Arg}, ArgR K cm B σ vs as → ArgR K cm B' σ vs as
  | _, _, .nil => .nil
  | _, _, .val r t => .val (r.mono e) (t.mono e)
  | _, _, .slo h t => .slo h (t.mono e)
def DC (K : PySem.W.Frag) (cm : CM) (ta : TA) (m : MA) : Prop := ∀ s : MSt, Okm K cm s → ∀ as e', m s.e = some (as, e') → ∀ Q : List V → Hp → Prop, (∀ vs B' H', Stp s ⟨B', H', s.σ, e'⟩ → Okm K cm ⟨B', H', s.σ, e'⟩ → ArgR K cm B' s.σ vs as → Q vs H') → ta s.σ s.H Q
/-- a def's promise by its mirror -/
def spD (K : PySem.W.Frag) (cm : CM) (n : Nat) (F : MF) : Sp := fun vs H Q _ => ∃ B es d es', vs.length = n ∧ Okm K cm ⟨B, H, vs.map some, es⟩ ∧ F es = some (d, es') ∧
  ∀ v B' H', Stp ⟨B, H, vs.map some, es⟩ ⟨B', H', vs.map some, es'⟩ → Okm K cm ⟨B', H', vs.map some, es'⟩ → Rep K cm B' v d → Q v H'
section
variable {K : PySem.W.Frag} {cm : CM} {ta tb te tc : TE} {tr : TA} {t u : TT} {ma mb m mc : M} {mr : MA} {s : MSt}
theorem dc_nil : DC K cm tNil nilA := fun s k as e' h Q q => by
  cases h
  exact q [] s.B s.H (Stp.refl s) k .nil
theorem dc_val (ha : DE K cm ta ma) (hr : DC K cm tr mr) : DC K cm (tCons ta tr) (valA ma mr) := fun s k as e' h Q q => by
  obtain ⟨d, e1, h1, h⟩ := bnd_some h
  obtain ⟨xs, e2, h2, h⟩ := bnd_some h
  cases h
  exact ha s k d e1 h1 _ fun v B1 H1 s1 k1 r1 => hr ⟨B1, H1, s.σ, e1⟩ k1 xs _ h2 _ fun vs B2 H2 s2 k2 r2 => q (v :: vs) B2 H2 (s1.trans s2) k2 (.val (r1.mono s2.bb) r2)
theorem argsE_slot {i : Nat} : ∀ {as : List Arg} {e es : SDs} {k : Nat}, argsE as e = some es → as[k]? = some (.inr i) → ∃ x o, e[i]? = some x ∧ x.ow = some o ∧ es[k]? = some (.bor o)
  | [], _, _, _, _, h => by simp at h
  | .inl d :: r, e, es, k, h, h2 => by
    unfold argsE at h
    split at h
    · rename_i xs hx
      cases h
      cases k with
      | zero => cases h2
      | succ k => exact argsE_slot (k := k) hx (by simpa using h2)
    · cases h
  | .inr j :: r, e, es, k, h, h2 => by
    unfold argsE at h
    split at h
    · rename_i x hx
      split at h
      · rename_i o ho
        split at h
        · rename_i xs hxs
          cases h
          cases k with
          | zero => cases h2; exact ⟨x, o, hx, ho, rfl⟩
          | succ k => exact argsE_slot (k := k) hxs (by simpa using h2)
        · cases h
      · cases h
    · cases h
/-- the slot of an own thing that is handed over: the reading of its name -/
theorem dc_slo {i : Nat} (hr : DC K cm tr mr) : DC K cm (tCons (tVar i) tr) (sloA i mr) := fun s k as e' h Q q => by
  unfold sloA at h
  split at h
  · rename_i x hx
    split at h
    · rename_i o ho
      obtain ⟨a, h1, h2, h3⟩ := k.own i x o hx ho
      obtain ⟨xs, e2, g2, h⟩ := bnd_some h
      cases h
      exact ⟨_, h1, hr s k xs _ g2 _ fun vs B2 H2 s2 k2 r2 => q (.ref a :: vs) B2 H2 s2 k2 (.slo h1 r2)⟩
    · cases h
  · cases h
theorem argsE_val {d : D} : ∀ {as : List Arg} {e es : SDs} {k : Nat}, argsE as e = some es → es[k]? = some (.fro d) → as[k]? = some (.inl d)
  | [], _, _, _, h, h2 => by cases h; simp at h2
  | .inl d :: r, e, es, k, h, h2 => by
    unfold argsE at h
    split at h
    · rename_i xs hx
      cases h
      cases k with
      | zero => cases h2; rfl
      | succ k => simpa using argsE_val (k := k) hx (by simpa using h2)
    · cases h
  | .inr j :: r, e, es, k, h, h2 => by
    unfold argsE at h
    split at h
    · split at h
      · split at h
        · rename_i xs hxs
          cases h
          cases k with
          | zero => cases h2
          | succ k => simpa using argsE_val (k := k) hxs (by simpa using h2)
        · cases h
      · cases h
    · cases h
theorem argsE_own {o : OD} {x : SD} : ∀ {as : List Arg} {e es : SDs} {k : Nat}, argsE as e = some es → es[k]? = some x → x.ow = some o → ∃ i y, as[k]? = some (.inr i) ∧ e[i]? = some y ∧ y.ow = some o ∧ x = .bor o
  | [], _, _, _, h, h2, _ => by cases h; simp at h2
  | .inl d :: r, e, es, k, h, h2, h3 => by
    unfold argsE at h
    split at h
    · rename_i xs hx
      cases h
      cases k with
      | zero => cases h2; cases h3
      | succ k => simpa using argsE_own (k := k) hx (by simpa using h2) h3
    · cases h
  | .inr j :: r, e, es, k, h, h2, h3 => by
    unfold argsE at h
    split at h
    · rename_i y hy
      split at h
      · rename_i o2 ho
        split at h
        · rename_i xs hxs
          cases h
          cases k with
          | zero => cases h2; cases h3; exact ⟨j, y, rfl, hy, ho, rfl⟩
          | succ k => simpa using argsE_own (k := k) hxs (by simpa using h2) h3
        · cases h
      · cases h
    · cases h
theorem argsE_len : ∀ {as : List Arg} {e es : SDs}, argsE as e = some es → es.length = as.length
  | [], _, _, h => by cases h; rfl
  | .inl d :: r, e, es, h => by
    unfold argsE at h
    split at h
    · rename_i xs hx
      cases h
      rw [List.length_cons, List.length_cons, argsE_len hx]
    · cases h
  | .inr j :: r, e, es, h => by
    unfold argsE at h
    split at h
    · split at h
      · split at h
        · rename_i xs hxs
          cases h
          rw [List.length_cons, List.length_cons, argsE_len hxs]
        · cases h
      · cases h
    · cases h
theorem ArgR.len : ∀ {B : Hp} {σ : L2.St} {vs : List V} {as : List Arg}, ArgR K cm B σ vs as → vs.length = as.length
  | _, _, _, _, .nil => rfl
  | _, _, _, _, .val _ t => by rw [List.length_cons, List.length_cons, ArgR.len t]
  | _, _, _, _, .slo _ t => by rw [List.length_cons, List.length_cons, ArgR.len t]
theorem ArgR.val_at {B : Hp} {σ : L2.St} {d : D} : ∀ {vs : List V} {as : List Arg} {k : Nat}, ArgR K cm B σ vs as → as[k]? = some (.inl d) → ∃ v, vs[k]? = some v ∧ Rep K cm B v d
  | _, _, _, .nil, h => by simp at h
  | _, _, 0, .val r _, h => by cases h; exact ⟨_, rfl, r⟩
  | _, _, 0, .slo r _, h => by cases h
  | _, _, k + 1, .val _ t, h => by simpa using ArgR.val_at (k := k) t (by simpa using h)
  | _, _, k + 1, .slo _ t, h => by simpa using ArgR.val_at (k := k) t (by simpa using h)
theorem ArgR.slo_at {B : Hp} {σ : L2.St} {i : Nat} : ∀ {vs : List V} {as : List Arg} {k : Nat}, ArgR K cm B σ vs as → as[k]? = some (.inr i) → ∃ a, vs[k]? = some (.ref a) ∧ σ[i]? = some (some (.ref a))
  | _, _, _, .nil, h => by simp at h
  | _, _, 0, .val r _, h => by cases h
  | _, _, 0, .slo r _, h => by cases h; exact ⟨_, rfl, r⟩
  | _, _, k + 1, .val _ t, h => by simpa using ArgR.slo_at (k := k) t (by simpa using h)
  | _, _, k + 1, .slo _ t, h => by simpa using ArgR.slo_at (k := k) t (by simpa using h)
theorem mem_slots {i : Nat} : ∀ {as : List Arg} {k : Nat}, as[k]? = some (.inr i) → i ∈ slotsA as
  | [], _, h => by simp at h
  | .inl d :: r, 0, h => by cases h
  | .inl d :: r, k + 1, h => mem_slots (as := r) (k := k) (by simpa using h)
  | .inr j :: r, 0, h => by cases h; exact List.mem_cons_self
  | .inr j :: r, k + 1, h => List.mem_cons_of_mem _ (mem_slots (as := r) (k := k) (by simpa using h))
theorem slots_inj {i : Nat} : ∀ {as : List Arg} {k l : Nat}, nodupB (slotsA as) = true → as[k]? = some (.inr i) → as[l]? = some (.inr i) → k = l
  | [], _, _, _, h, _ => by simp at h
  | .inl d :: r, 0, _, _, h, _ => by cases h
  | .inl d :: r, _ + 1, 0, _, _, h => by cases h
  | .inl d :: r, k + 1, l + 1, n, h, h2 => by rw [slots_inj (as := r) (k := k) (l := l) n (by simpa using h) (by simpa using h2)]
  | .inr j :: r, 0, 0, _, _, _ => rfl
  | .inr j :: r, 0, l + 1, n, h, h2 => by
    cases h
    have : i ∈ slotsA r := mem_slots (as := r) (k := l) (by simpa using h2)
    have n : (!(slotsA r).contains i && nodupB (slotsA r)) = true := n
    simp [this] at n
  | .inr j :: r, k + 1, 0, n, h, h2 => by
    cases h2
    have : i ∈ slotsA r := mem_slots (as := r) (k := k) (by simpa using h)
    have n : (!(slotsA r).contains i && nodupB (slotsA r)) = true := n
    simp [this] at n
  | .inr j :: r, k + 1, l + 1, n, h, h2 => by
    have n : (!(slotsA r).contains j && nodupB (slotsA r)) = true := n
    rw [Bool.and_eq_true] at n
    rw [slots_inj (as := r) (k := k) (l := l) n.2 (by simpa using h) (by simpa using h2)]
theorem upSD_up (x : SD) (o p : OD) : upSD (upSD x o) p = upSD x p := by cases x <;> rfl
theorem putB_spec : ∀ {as : List Arg} {xs e e2 : SDs}, putB as xs e = some e2 → e2.length = e.length ∧ ∀ (j : Nat) (y : SD), e2[j]? = some y →
    ∃ x, e[j]? = some x ∧ (((∀ k : Nat, as[k]? ≠ some (.inr j)) ∧ y = x) ∨ ∃ (k : Nat) (o : OD), as[k]? = some (.inr j) ∧ xs[k]? = some (.bor o) ∧ y = upSD x o)
  | [], [], e, e2, h => by
    cases h
    exact ⟨rfl, fun j y h => ⟨y, h, .inl ⟨fun k => by simp, rfl⟩⟩⟩
  | [], _ :: _, e, e2, h => by cases h
  | .inl d :: r, [], e, e2, h => by cases h
  | .inl d :: r, x :: xs, e, e2, h => by
    have h : putB r xs e = some e2 := h
    obtain ⟨l, f⟩ := putB_spec h
    refine ⟨l, fun j y hj => ?_⟩
    obtain ⟨z, hz, q⟩ := f j y hj
    refine ⟨z, hz, ?_⟩
    rcases q with ⟨q1, q2⟩ | ⟨k, o, q1, q2, q3⟩
    · refine .inl ⟨fun k => ?_, q2⟩
      cases k with
      | zero => simp
      | succ k => simpa using q1 k
    · exact .inr ⟨k + 1, o, by simpa using q1, by simpa using q2, q3⟩
  | .inr i :: r, [], e, e2, h => by cases h
  | .inr i :: r, .nn :: xs, e, e2, h => by cases h
  | .inr i :: r, .fro _ :: xs, e, e2, h => by cases h
  | .inr i :: r, .own _ :: xs, e, e2, h => by cases h
  | .inr i :: r, .bor o :: xs, e, e2, h => by
    unfold putB at h
    split at h
    · rename_i x hx
      have hi : i < e.length := (List.getElem?_eq_some_iff.mp hx).1
      obtain ⟨l, f⟩ := putB_spec h
      refine ⟨by rw [l, List.length_set], fun j y hj => ?_⟩
      obtain ⟨z, hz, q⟩ := f j y hj
      rw [set_get hi] at hz
      by_cases c : j = i
      · subst c
        rw [if_pos rfl] at hz
        cases hz
        refine ⟨x, hx, .inr ?_⟩
        rcases q with ⟨q1, q2⟩ | ⟨k, o2, q1, q2, q3⟩
        · exact ⟨0, o, rfl, rfl, q2⟩
        · exact ⟨k + 1, o2, by simpa using q1, by simpa using q2, by rw [q3, upSD_up]⟩
      · rw [if_neg c] at hz
        refine ⟨z, hz, ?_⟩
        rcases q with ⟨q1, q2⟩ | ⟨k, o2, q1, q2, q3⟩
        · refine .inl ⟨fun k => ?_, q2⟩
          cases k with
          | zero => intro e; cases e; exact c rfl
          | succ k => simpa using q1 k
        · exact .inr ⟨k + 1, o2, by simpa using q1, by simpa using q2, q3⟩
    · cases h
theorem upSD_ow {x : SD} {o p : OD} (h : x.ow = some p) : (upSD x o).ow = some o := by
  cases x with
  | own q => rfl
  | bor q => rfl
  | nn => cases h
  | fro d => cases h
theorem upSD_ow' {x : SD} {o p : OD} (h : (upSD x o).ow = some p) : ∃ q, x.ow = some q := by
  cases x with
  | own q => exact ⟨q, rfl⟩
  | bor q => exact ⟨q, rfl⟩
  | nn => cases h
  | fro d => cases h
/-- the call itself, behind the arguments -/
theorem call_run {n : Nat} {F : MF} {vs : List V} {as : List Arg} {d : D} {e' : SDs} {E : XK} (k : Okm K cm s) (r : ArgR K cm s.B s.σ vs as) (hn : vs.length = n) (h : callE F as s.e = some (d, e')) (Q : VK)
    (q : ∀ v B' H', Stp s ⟨B', H', s.σ, e'⟩ → Okm K cm ⟨B', H', s.σ, e'⟩ → Rep K cm B' v d → Q v H') : spD K cm n F vs s.H Q E := by
  unfold callE at h
  split at h
  · rename_i nd
    split at h
    · cases h
    · rename_i es hes
      split at h
      · cases h
      · rename_i d2 es' hF
        cases hp : putB as es' s.e with
        | none => rw [hp] at h; cases h
        | some e2 =>
          rw [hp] at h
          cases h
          have le := argsE_len hes
          -- own things among the arguments are own things here
          have own_at : ∀ {i : Nat} {o : OD} {a : Addr} {es1 : SDs} {B1 H1 : Hp}, (∃ x, es[i]? = some x ∧ x.ow = some o) → (vs.map some)[i]? = some (some (.ref a)) → ∃ j y, as[i]? = some (.inr j) ∧ s.e[j]? = some y ∧ y.ow = some o ∧ s.σ[j]? = some (some (.ref a)) := fun {i o a es1 B1 H1} h1 h2 => by
            obtain ⟨x, h1, h3⟩ := h1
            obtain ⟨j, y, a1, a2, a3, _⟩ := argsE_own hes h1 h3
            obtain ⟨b, b1, b2⟩ := r.slo_at a1
            rw [List.getElem?_map, b1] at h2
            cases h2
            exact ⟨j, y, a1, a2, a3, b2⟩
          have ownA : ∀ {a : Addr}, OwnA ⟨s.B, s.H, vs.map some, es⟩ a → OwnA s a := fun {a} ⟨i, o, h1, h2⟩ => by
            obtain ⟨j, y, _, a2, a3, a4⟩ := own_at (es1 := es) (B1 := s.B) (H1 := s.H) h1 h2
            exact ⟨j, o, ⟨y, a2, a3⟩, a4⟩
          have k1 : Okm K cm ⟨s.B, s.H, vs.map some, es⟩ := by
            refine ⟨by rw [show es.length = as.length from le, List.length_map, r.len], k.bh, fun i d hi => ?_, fun i x o hi hx => ?_, fun i j o p a h1 h2 => ?_⟩
            · obtain ⟨v, v1, v2⟩ := r.val_at (argsE_val hes hi)
              refine ⟨v, ?_, v2⟩
              show (vs.map some)[i]? = _
              rw [List.getElem?_map, v1]
              rfl
            · obtain ⟨j, y, a1, a2, a3, _⟩ := argsE_own hes hi hx
              obtain ⟨b, b1, b2⟩ := r.slo_at a1
              obtain ⟨a, c1, c2, c3⟩ := k.own j y o a2 a3
              rw [b2] at c1
              cases c1
              refine ⟨b, ?_, c2, c3⟩
              show (vs.map some)[i]? = _
              rw [List.getElem?_map, b1]
              rfl
            · obtain ⟨i', y, a1, a2, a3, a4⟩ := own_at (es1 := es) (B1 := s.B) (H1 := s.H) h1.1 h1.2
              obtain ⟨j', z, b1, b2, b3, b4⟩ := own_at (es1 := es) (B1 := s.B) (H1 := s.H) h2.1 h2.2
              have := k.dis i' j' o p a ⟨⟨y, a2, a3⟩, a4⟩ ⟨⟨z, b2, b3⟩, b4⟩
              subst this
              exact slots_inj nd a1 b1
          refine ⟨s.B, es, d, es', hn, k1, hF, fun v B' H' st k' rv => ?_⟩
          obtain ⟨l2, sp⟩ := putB_spec hp
          have nOwn : ∀ {a : Addr}, ¬ OwnA s a → ¬ OwnA ⟨s.B, s.H, vs.map some, es⟩ a := fun {a} h1 h2 => h1 (ownA h2)
          have back : ∀ {i : Nat} {o : OD} {a : Addr}, AtM ⟨B', H', s.σ, e'⟩ i o a → ∃ p, AtM s i p a := fun {i o a} ⟨⟨y, h1, h2⟩, h3⟩ => by
            obtain ⟨x, hx, q⟩ := sp i y h1
            rcases q with ⟨_, rfl⟩ | ⟨k2, o2, _, _, rfl⟩
            · exact ⟨o, ⟨y, hx, h2⟩, h3⟩
            · obtain ⟨p, hp2⟩ := upSD_ow' h2
              exact ⟨p, ⟨x, hx, hp2⟩, h3⟩
          have st2 : Stp s ⟨B', H', s.σ, e'⟩ := by
            refine ⟨fun a o h1 h2 => st.ex a o h1 (nOwn h2), st.bb, fun a o h1 h2 => (st.fr a o h1 h2).imp_right ownA, fun a ⟨i, o, h1⟩ => .inl ?_, fun i o a h1 h2 => ⟨?_, h2⟩, st.dm⟩
            · obtain ⟨p, hp2⟩ := back h1
              exact ⟨i, p, hp2⟩
            · have hi : i < e'.length := by rw [l2]; exact (List.getElem?_eq_some_iff.mp h1).1
              obtain ⟨x, hx, q2⟩ := sp i _ (List.getElem?_eq_getElem hi)
              rw [h1] at hx
              cases hx
              have hg : e'[i]? = some e'[i] := List.getElem?_eq_getElem hi
              rcases q2 with ⟨_, q3⟩ | ⟨k2, o2, _, _, q3⟩
              · exact ⟨o, by show e'[i]? = _; rw [hg, q3]⟩
              · exact ⟨o2, by show e'[i]? = _; rw [hg, q3]; rfl⟩
          refine q v B' H' st2 ⟨by rw [show e'.length = s.e.length from l2]; exact k.len, k'.bh, fun i d hi => ?_, fun i y o hi hy => ?_, fun i j o p a h1 h2 => ?_⟩ rv
          · obtain ⟨x, hx, q2⟩ := sp i _ hi
            rcases q2 with ⟨_, rfl⟩ | ⟨k2, o2, b1, _, q3⟩
            · obtain ⟨v, v1, v2⟩ := k.fro i d hx
              exact ⟨v, v1, v2.mono st.bb⟩
            · obtain ⟨x2, o3, c1, c2, _⟩ := argsE_slot hes b1
              rw [hx] at c1
              cases c1
              have := upSD_ow (o := o2) c2
              rw [← q3] at this
              cases this
          · obtain ⟨x, hx, q2⟩ := sp i _ hi
            rcases q2 with ⟨q3, rfl⟩ | ⟨k2, o2, b1, b2, q3⟩
            · obtain ⟨a, c1, c2, c3⟩ := k.own i y o hx hy
              have na : ¬ OwnA ⟨s.B, s.H, vs.map some, es⟩ a := fun ⟨j, o2, h1, h2⟩ => by
                obtain ⟨j', z, d1, d2, d3, d4⟩ := own_at (es1 := es) (B1 := s.B) (H1 := s.H) h1 h2
                have := k.dis i j' o o2 a ⟨⟨y, hx, hy⟩, c1⟩ ⟨⟨z, d2, d3⟩, d4⟩
                exact q3 j (this ▸ d1)
              refine ⟨a, c1, ?_, c3.mono st.bb fun u hu => st.ex a u hu na⟩
              cases hB : B' a with
              | none => exact hB
              | some w =>
                rcases st.fr a w hB c2 with z | z
                · obtain ⟨u, hu⟩ := c3.there
                  have z : s.H a = none := z
                  rw [hu] at z
                  cases z
                · exact absurd z na
            · obtain ⟨x2, o3, c1, c2, c4⟩ := argsE_slot hes b1
              rw [hx] at c1
              cases c1
              have eo : o = o2 := by
                have := upSD_ow (o := o2) c2
                rw [← q3, hy] at this
                exact Option.some.inj this
              subst eo
              obtain ⟨a, d1, d2, d3⟩ := k'.own k2 _ o b2 rfl
              obtain ⟨b, f1, f2⟩ := r.slo_at b1
              have d1 : (vs.map some)[k2]? = some (some (.ref a)) := d1
              rw [List.getElem?_map, f1] at d1
              cases d1
              exact ⟨a, f2, d2, d3⟩
          · obtain ⟨o2, h1⟩ := back h1
            obtain ⟨p2, h2⟩ := back h2
            exact k.dis i j o2 p2 a h1 h2
  · cases h
theorem de_call {n : Nat} {F : MF} {E : XK} (h : DC K cm tr mr) (hl : ∀ e as e', mr e = some (as, e') → as.length = n) : DE K cm (tCall (spD K cm n F) [] E tr) (callM F mr) := fun s k d e' hm Q q => by
  obtain ⟨as, e1, h1, hm⟩ := bnd_some hm
  refine h s k as e1 h1 _ fun vs B1 H1 s1 k1 r1 => ?_
  rw [List.append_nil]
  exact call_run (s := ⟨B1, H1, s.σ, e1⟩) k1 r1 (by rw [r1.len, hl _ _ _ h1]) hm Q fun v B2 H2 s2 k2 r2 => q v B2 H2 (s1.trans s2) k2 r2
/-! ### a def by its body -/
def finX : SD → SD → SD
  | .bor _, b => b
  | a, _ => a
def finE : SDs → SDs → SDs
  | [], _ => []
  | a :: r, e' => finX a (e'.headD .nn) :: finE r e'.tail
def noOwn (es : SDs) : Bool := es.all fun x => match x with | .own _ => false | _ => true
def defF (n N : Nat) (m : MS) : MF := fun es => if es.length = n ∧ noOwn es = true then match m (es ++ List.replicate (N - n) .nn) with | some (.rt d e') => some (d, finE es e') | some (.nx e') => some (.non, finE es e') | _ => none else none
theorem finE_len : ∀ (es e' : SDs), (finE es e').length = es.length
  | [], _ => rfl
  | a :: r, e' => by
    show (finE r e'.tail).length + 1 = r.length + 1
    rw [finE_len]
theorem finE_get : ∀ {es e' : SDs} {i : Nat} {y : SD}, (finE es e')[i]? = some y → ∃ x, es[i]? = some x ∧ y = finX x ((e'[i]?).getD .nn)
  | [], _, _, _, h => by simp [finE] at h
  | a :: r, e', 0, y, h => by
    refine ⟨a, rfl, ?_⟩
    have h := Option.some.inj (show some (finX a (e'.headD .nn)) = some y from h)
    rw [← h]
    cases e' <;> rfl
  | a :: r, e', i + 1, y, h => by
    obtain ⟨x, h1, h2⟩ := finE_get (es := r) (e' := e'.tail) (i := i) (y := y) (by simpa [finE] using h)
    refine ⟨x, by simpa using h1, ?_⟩
    rw [h2]
    cases e' <;> rfl
theorem noOwn_at {es : SDs} (h : noOwn es = true) {i : Nat} {o : OD} : es[i]? ≠ some (.own o) := fun c => by
  have := List.all_eq_true.mp h _ (List.mem_of_getElem? c)
  cases this
theorem def_run {Ns : List Str} {n : Nat} {ts : TS} {ms : MS} {vs : List V} {H : Hp} {Q : VK} {E : XK} (h : DS K cm ts ms) (w : spD K cm n (defF n Ns.length ms) vs H Q E) : ts { nx := fun _ H' => Q .non H', rt := Q } (start Ns vs) H := by
  obtain ⟨B, es, d, es', hn, k, hF, q⟩ := w
  unfold defF at hF
  split at hF
  · rename_i hc
    obtain ⟨hc1, hc2⟩ := hc
    have hl : (vs.map some).length = es.length := k.len.symm
    have gl : ∀ {i : Nat} {x : SD}, (es ++ List.replicate (Ns.length - n) SD.nn)[i]? = some x → x ≠ .nn → i < es.length ∧ es[i]? = some x := fun {i x} h1 h2 => by
      by_cases c : i < es.length
      · rw [List.getElem?_append_left c] at h1
        exact ⟨c, h1⟩
      · rw [List.getElem?_append_right (by omega), List.getElem?_replicate] at h1
        split at h1
        · cases h1; exact absurd rfl h2
        · cases h1
    have gs : ∀ {i : Nat}, i < es.length → (start Ns vs)[i]? = (vs.map some)[i]? := fun {i} hi => by
      unfold L2.start
      exact List.getElem?_append_left (by rw [hl]; exact hi)
    have at0 : ∀ {i : Nat} {o : OD} {a : Addr}, AtM ⟨B, H, start Ns vs, es ++ List.replicate (Ns.length - n) .nn⟩ i o a → AtM ⟨B, H, vs.map some, es⟩ i o a := fun {i o a} ⟨⟨x, h1, h2⟩, h3⟩ => by
      obtain ⟨hi, h1⟩ := gl h1 (fun c => by subst c; cases h2)
      exact ⟨⟨x, h1, h2⟩, (gs hi) ▸ h3⟩
    have k0 : Okm K cm ⟨B, H, start Ns vs, es ++ List.replicate (Ns.length - n) .nn⟩ := by
      refine ⟨?_, k.bh, fun i d hi => ?_, fun i x o hi hx => ?_, fun i j o p a h1 h2 => k.dis i j o p a (at0 h1) (at0 h2)⟩
      · show (es ++ List.replicate (Ns.length - n) SD.nn).length = (start Ns vs).length
        unfold L2.start
        rw [List.length_append, List.length_append, hl, List.length_replicate, List.length_replicate]
        rw [show n = vs.length from hn.symm]
      · obtain ⟨hi', h1⟩ := gl hi (fun c => nomatch c)
        obtain ⟨v, v1, v2⟩ := k.fro i d h1
        exact ⟨v, by rw [show (start Ns vs)[i]? = _ from gs hi']; exact v1, v2⟩
      · obtain ⟨hi', h1⟩ := gl hi (fun c => by subst c; cases hx)
        obtain ⟨a, v1, v2⟩ := k.own i x o h1 hx
        exact ⟨a, by rw [show (start Ns vs)[i]? = _ from gs hi']; exact v1, v2⟩
    -- at the end
    have fin : ∀ {v : V} {d : D} {σ' : L2.St} {B' H' : Hp} {e' : SDs}, Stp ⟨B, H, start Ns vs, es ++ List.replicate (Ns.length - n) .nn⟩ ⟨B', H', σ', e'⟩ → Okm K cm ⟨B', H', σ', e'⟩ →
        Stp ⟨B, H, vs.map some, es⟩ ⟨B', H', vs.map some, finE es e'⟩ ∧ Okm K cm ⟨B', H', vs.map some, finE es e'⟩ := fun {v d σ' B' H' e'} st k' => by
      have bor : ∀ {i : Nat} {o : OD} {a : Addr}, es[i]? = some (.bor o) → (vs.map some)[i]? = some (some (.ref a)) → (∃ o', e'[i]? = some (.bor o')) ∧ σ'[i]? = some (some (.ref a)) := fun {i o a} h1 h2 => by
        have hi : i < es.length := (List.getElem?_eq_some_iff.mp h1).1
        exact st.bo i o a (by show (es ++ _)[i]? = _; rw [List.getElem?_append_left hi]; exact h1) (by show (start Ns vs)[i]? = _; rw [gs hi]; exact h2)
      have fget : ∀ {i : Nat} {y : SD}, (finE es e')[i]? = some y → (∃ o o' a, es[i]? = some (.bor o) ∧ y = .bor o' ∧ e'[i]? = some (.bor o') ∧ (vs.map some)[i]? = some (some (.ref a)) ∧ σ'[i]? = some (some (.ref a))) ∨ (es[i]? = some y ∧ y.ow = none) := fun {i y} h1 => by
        obtain ⟨x, hx, hy⟩ := finE_get h1
        cases x with
        | bor o =>
          obtain ⟨a, a1, _⟩ := k.own i _ o hx rfl
          obtain ⟨⟨o', b1⟩, b2⟩ := bor hx a1
          rw [b1] at hy
          exact .inl ⟨o, o', a, hx, hy, b1, a1, b2⟩
        | own o => exact absurd hx (noOwn_at hc2)
        | nn => cases hy; exact .inr ⟨hx, rfl⟩
        | fro d => cases hy; exact .inr ⟨hx, rfl⟩
      have own0 : ∀ {i : Nat} {o : OD} {a : Addr}, AtM ⟨B', H', vs.map some, finE es e'⟩ i o a → AtM ⟨B', H', σ', e'⟩ i o a ∧ ∃ p, AtM ⟨B, H, vs.map some, es⟩ i p a := fun {i o a} ⟨⟨y, h1, h2⟩, h3⟩ => by
        rcases fget h1 with ⟨o1, o', a', c1, rfl, c2, c3, c4⟩ | ⟨c1, c2⟩
        · have h3 : (vs.map some)[i]? = some (some (.ref a)) := h3
          rw [c3] at h3
          cases h3
          exact ⟨⟨⟨_, c2, h2⟩, c4⟩, o1, ⟨_, c1, rfl⟩, c3⟩
        · rw [c2] at h2; cases h2
      have ownU : ∀ {a : Addr}, OwnA ⟨B, H, start Ns vs, es ++ List.replicate (Ns.length - n) .nn⟩ a → OwnA ⟨B, H, vs.map some, es⟩ a := fun {a} ⟨i, o, h1⟩ => ⟨i, o, at0 h1⟩
      refine ⟨⟨fun a o h1 h2 => st.ex a o h1 fun c => h2 (ownU c), st.bb, fun a o h1 h2 => (st.fr a o h1 h2).imp_right ownU, fun a ⟨i, o, h1⟩ => .inl ?_, fun i o a h1 h2 => ?_, st.dm⟩, ⟨?_, k'.bh, fun i d hi => ?_, fun i y o hi hy => ?_, fun i j o p a h1 h2 => ?_⟩⟩
      · obtain ⟨_, p, h2⟩ := own0 h1
        exact ⟨i, p, h2⟩
      · obtain ⟨⟨o', b1⟩, b2⟩ := bor h1 h2
        refine ⟨⟨o', ?_⟩, h2⟩
        have hi : i < (finE es e').length := by rw [finE_len]; exact (List.getElem?_eq_some_iff.mp h1).1
        have hg : (finE es e')[i]? = some (finE es e')[i] := List.getElem?_eq_getElem hi
        rcases fget hg with ⟨o1, o2, a', c1, c0, c2, c3, c4⟩ | ⟨c1, c2⟩
        · rw [b1] at c2
          cases c2
          show (finE es e')[i]? = _
          rw [hg, c0]
        · rw [h1] at c1
          have c1 := Option.some.inj c1
          rw [← c1] at c2
          cases c2
      · show (finE es e').length = _
        rw [finE_len]
        exact k.len
      · rcases fget hi with ⟨o1, o2, a', c1, c0, _⟩ | ⟨c1, c2⟩
        · cases c0
        · obtain ⟨v, v1, v2⟩ := k.fro i d c1
          exact ⟨v, v1, v2.mono st.bb⟩
      · rcases fget hi with ⟨o1, o2, a', c1, rfl, c2, c3, c4⟩ | ⟨c1, c2⟩
        · cases hy
          obtain ⟨a, d1, d2, d3⟩ := k'.own i _ o c2 rfl
          have d1 : σ'[i]? = _ := d1
          rw [c4] at d1
          cases d1
          exact ⟨a', c3, d2, d3⟩
        · rw [c2] at hy; cases hy
      · exact k'.dis i j o p a (own0 h1).1 (own0 h2).1
    cases hm : ms (es ++ List.replicate (Ns.length - n) .nn) with
    | none => rw [hm] at hF; cases hF
    | some o =>
      rw [hm] at hF
      refine h ⟨B, H, start Ns vs, es ++ List.replicate (Ns.length - n) .nn⟩ k0 o hm _ ?_
      cases o with
      | rt d2 e' =>
        cases hF
        exact fun v σ' B' H' st k' r => q v B' H' (fin (v := v) (d := d) st k').1 (fin (v := v) (d := d) st k').2 r
      | nx e' =>
        cases hF
        exact fun σ' B' H' st k' => q .non B' H' (fin (v := .non) (d := .non) st k').1 (fin (v := .non) (d := .non) st k').2 .non
      | bk e' => cases hF
      | ct e' => cases hF
      | ro o e' => cases hF
  · cases hF
/-- a def that hands back a new thing -/
abbrev MFO := SDs → Option (OD × SDs)
def defO (n N : Nat) (m : MS) : MFO := fun es => if es.length = n ∧ noOwn es = true then match m (es ++ List.replicate (N - n) .nn) with | some (.ro d e') => some (d, finE es e') | _ => none else none
def spF (K : PySem.W.Frag) (cm : CM) (n : Nat) (F : MFO) : Sp := fun vs H Q _ => ∃ B es d es', vs.length = n ∧ Okm K cm ⟨B, H, vs.map some, es⟩ ∧ F es = some (d, es') ∧
  ∀ p B' H', Stp ⟨B, H, vs.map some, es⟩ ⟨B', H', vs.map some, es'⟩ → Okm K cm ⟨B', H', vs.map some, es'⟩ → H p = none → B' p = none → OwnR K cm B' H' p d → ¬ OwnA ⟨B', H', vs.map some, es'⟩ p → Q (.ref p) H'
theorem spF_len {n : Nat} {F : MFO} {vs : List V} {H : Hp} {Q : VK} {E : XK} (h : spF K cm n F vs H Q E) : vs.length = n := by
  obtain ⟨_, _, _, _, h, _⟩ := h
  exact h
theorem def_runF {Ns : List Str} {n : Nat} {ts : TS} {ms : MS} {vs : List V} {H : Hp} {Q : VK} {E : XK} (h : DS K cm ts ms) (w : spF K cm n (defO n Ns.length ms) vs H Q E) : ts { nx := fun _ H' => Q .non H', rt := Q } (start Ns vs) H := by
  obtain ⟨B, es, d, es', hn, k, hF, q⟩ := w
  unfold defO at hF
  split at hF
  · rename_i hc
    obtain ⟨hc1, hc2⟩ := hc
    have hl : (vs.map some).length = es.length := k.len.symm
    have gl : ∀ {i : Nat} {x : SD}, (es ++ List.replicate (Ns.length - n) SD.nn)[i]? = some x → x ≠ .nn → i < es.length ∧ es[i]? = some x := fun {i x} h1 h2 => by
      by_cases c : i < es.length
      · rw [List.getElem?_append_left c] at h1
        exact ⟨c, h1⟩
      · rw [List.getElem?_append_right (by omega), List.getElem?_replicate] at h1
        split at h1
        · cases h1; exact absurd rfl h2
        · cases h1
    have gs : ∀ {i : Nat}, i < es.length → (start Ns vs)[i]? = (vs.map some)[i]? := fun {i} hi => by
      unfold L2.start
      exact List.getElem?_append_left (by rw [hl]; exact hi)
    have at0 : ∀ {i : Nat} {o : OD} {a : Addr}, AtM ⟨B, H, start Ns vs, es ++ List.replicate (Ns.length - n) .nn⟩ i o a → AtM ⟨B, H, vs.map some, es⟩ i o a := fun {i o a} ⟨⟨x, h1, h2⟩, h3⟩ => by
      obtain ⟨hi, h1⟩ := gl h1 (fun c => by subst c; cases h2)
      exact ⟨⟨x, h1, h2⟩, (gs hi) ▸ h3⟩
    have k0 : Okm K cm ⟨B, H, start Ns vs, es ++ List.replicate (Ns.length - n) .nn⟩ := by
      refine ⟨?_, k.bh, fun i d hi => ?_, fun i x o hi hx => ?_, fun i j o p a h1 h2 => k.dis i j o p a (at0 h1) (at0 h2)⟩
      · show (es ++ List.replicate (Ns.length - n) SD.nn).length = (start Ns vs).length
        unfold L2.start
        rw [List.length_append, List.length_append, hl, List.length_replicate, List.length_replicate]
        rw [show n = vs.length from hn.symm]
      · obtain ⟨hi', h1⟩ := gl hi (fun c => nomatch c)
        obtain ⟨v, v1, v2⟩ := k.fro i d h1
        exact ⟨v, by rw [show (start Ns vs)[i]? = _ from gs hi']; exact v1, v2⟩
      · obtain ⟨hi', h1⟩ := gl hi (fun c => by subst c; cases hx)
        obtain ⟨a, v1, v2⟩ := k.own i x o h1 hx
        exact ⟨a, by rw [show (start Ns vs)[i]? = _ from gs hi']; exact v1, v2⟩
    -- at the end
    have fin : ∀ {v : V} {d : D} {σ' : L2.St} {B' H' : Hp} {e' : SDs}, Stp ⟨B, H, start Ns vs, es ++ List.replicate (Ns.length - n) .nn⟩ ⟨B', H', σ', e'⟩ → Okm K cm ⟨B', H', σ', e'⟩ →
        Stp ⟨B, H, vs.map some, es⟩ ⟨B', H', vs.map some, finE es e'⟩ ∧ Okm K cm ⟨B', H', vs.map some, finE es e'⟩ := fun {v d σ' B' H' e'} st k' => by
      have bor : ∀ {i : Nat} {o : OD} {a : Addr}, es[i]? = some (.bor o) → (vs.map some)[i]? = some (some (.ref a)) → (∃ o', e'[i]? = some (.bor o')) ∧ σ'[i]? = some (some (.ref a)) := fun {i o a} h1 h2 => by
        have hi : i < es.length := (List.getElem?_eq_some_iff.mp h1).1
        exact st.bo i o a (by show (es ++ _)[i]? = _; rw [List.getElem?_append_left hi]; exact h1) (by show (start Ns vs)[i]? = _; rw [gs hi]; exact h2)
      have fget : ∀ {i : Nat} {y : SD}, (finE es e')[i]? = some y → (∃ o o' a, es[i]? = some (.bor o) ∧ y = .bor o' ∧ e'[i]? = some (.bor o') ∧ (vs.map some)[i]? = some (some (.ref a)) ∧ σ'[i]? = some (some (.ref a))) ∨ (es[i]? = some y ∧ y.ow = none) := fun {i y} h1 => by
        obtain ⟨x, hx, hy⟩ := finE_get h1
        cases x with
        | bor o =>
          obtain ⟨a, a1, _⟩ := k.own i _ o hx rfl
          obtain ⟨⟨o', b1⟩, b2⟩ := bor hx a1
          rw [b1] at hy
          exact .inl ⟨o, o', a, hx, hy, b1, a1, b2⟩
        | own o => exact absurd hx (noOwn_at hc2)
        | nn => cases hy; exact .inr ⟨hx, rfl⟩
        | fro d => cases hy; exact .inr ⟨hx, rfl⟩
      have own0 : ∀ {i : Nat} {o : OD} {a : Addr}, AtM ⟨B', H', vs.map some, finE es e'⟩ i o a → AtM ⟨B', H', σ', e'⟩ i o a ∧ ∃ p, AtM ⟨B, H, vs.map some, es⟩ i p a := fun {i o a} ⟨⟨y, h1, h2⟩, h3⟩ => by
        rcases fget h1 with ⟨o1, o', a', c1, rfl, c2, c3, c4⟩ | ⟨c1, c2⟩
        · have h3 : (vs.map some)[i]? = some (some (.ref a)) := h3
          rw [c3] at h3
          cases h3
          exact ⟨⟨⟨_, c2, h2⟩, c4⟩, o1, ⟨_, c1, rfl⟩, c3⟩
        · rw [c2] at h2; cases h2
      have ownU : ∀ {a : Addr}, OwnA ⟨B, H, start Ns vs, es ++ List.replicate (Ns.length - n) .nn⟩ a → OwnA ⟨B, H, vs.map some, es⟩ a := fun {a} ⟨i, o, h1⟩ => ⟨i, o, at0 h1⟩
      refine ⟨⟨fun a o h1 h2 => st.ex a o h1 fun c => h2 (ownU c), st.bb, fun a o h1 h2 => (st.fr a o h1 h2).imp_right ownU, fun a ⟨i, o, h1⟩ => .inl ?_, fun i o a h1 h2 => ?_, st.dm⟩, ⟨?_, k'.bh, fun i d hi => ?_, fun i y o hi hy => ?_, fun i j o p a h1 h2 => ?_⟩⟩
      · obtain ⟨_, p, h2⟩ := own0 h1
        exact ⟨i, p, h2⟩
      · obtain ⟨⟨o', b1⟩, b2⟩ := bor h1 h2
        refine ⟨⟨o', ?_⟩, h2⟩
        have hi : i < (finE es e').length := by rw [finE_len]; exact (List.getElem?_eq_some_iff.mp h1).1
        have hg : (finE es e')[i]? = some (finE es e')[i] := List.getElem?_eq_getElem hi
        rcases fget hg with ⟨o1, o2, a', c1, c0, c2, c3, c4⟩ | ⟨c1, c2⟩
        · rw [b1] at c2
          cases c2
          show (finE es e')[i]? = _
          rw [hg, c0]
        · rw [h1] at c1
          have c1 := Option.some.inj c1
          rw [← c1] at c2
          cases c2
      · show (finE es e').length = _
        rw [finE_len]
        exact k.len
      · rcases fget hi with ⟨o1, o2, a', c1, c0, _⟩ | ⟨c1, c2⟩
        · cases c0
        · obtain ⟨v, v1, v2⟩ := k.fro i d c1
          exact ⟨v, v1, v2.mono st.bb⟩
      · rcases fget hi with ⟨o1, o2, a', c1, rfl, c2, c3, c4⟩ | ⟨c1, c2⟩
        · cases hy
          obtain ⟨a, d1, d2, d3⟩ := k'.own i _ o c2 rfl
          have d1 : σ'[i]? = _ := d1
          rw [c4] at d1
          cases d1
          exact ⟨a', c3, d2, d3⟩
        · rw [c2] at hy; cases hy
      · exact k'.dis i j o p a (own0 h1).1 (own0 h2).1
    have nOwn : ∀ {σ' : L2.St} {B' H' : Hp} {e' : SDs} {p : Addr}, Stp ⟨B, H, start Ns vs, es ++ List.replicate (Ns.length - n) .nn⟩ ⟨B', H', σ', e'⟩ → Okm K cm ⟨B', H', σ', e'⟩ → ¬ OwnA ⟨B', H', σ', e'⟩ p → ¬ OwnA ⟨B', H', vs.map some, finE es e'⟩ p := fun {σ' B' H' e' p} st k' nw ⟨i, o, ⟨y, h1, h2⟩, h3⟩ => by
      obtain ⟨x, hx, hy⟩ := finE_get h1
      cases x with
      | bor o2 =>
        obtain ⟨a, a1, _⟩ := k.own i _ o2 hx rfl
        have hi : i < es.length := (List.getElem?_eq_some_iff.mp hx).1
        obtain ⟨⟨o', b1⟩, b2⟩ := st.bo i o2 a (by show (es ++ _)[i]? = _; rw [List.getElem?_append_left hi]; exact hx) (by show (start Ns vs)[i]? = _; rw [gs hi]; exact a1)
        have h3 : (vs.map some)[i]? = some (some (.ref p)) := h3
        have a1 : (vs.map some)[i]? = some (some (.ref a)) := a1
        rw [a1] at h3
        cases h3
        exact nw ⟨i, o', ⟨_, b1, rfl⟩, b2⟩
      | own o2 => exact absurd hx (noOwn_at hc2)
      | nn => cases hy; cases h2
      | fro d => cases hy; cases h2
    cases hm : ms (es ++ List.replicate (Ns.length - n) .nn) with
    | none => rw [hm] at hF; cases hF
    | some o =>
      rw [hm] at hF
      refine h ⟨B, H, start Ns vs, es ++ List.replicate (Ns.length - n) .nn⟩ k0 o hm _ ?_
      cases o with
      | ro d2 e' =>
        cases hF
        exact fun p σ' B' H' st k' n1 n2 ow nw => q p B' H' (fin (v := .non) (d := .non) st k').1 (fin (v := .non) (d := .non) st k').2 n1 n2 ow (nOwn st k' nw)
      | rt d e' => cases hF
      | nx e' => cases hF
      | bk e' => cases hF
      | ct e' => cases hF
  · cases hF
/-- such a call, its arguments data -/
def callF (F : MFO) (ma : ML) : MO := fun e => bnd (ma e) fun ds e1 => match F (ds.map SD.fro) with | some (o, _) => some (o, e1) | none => none
theorem fro_no {vs : L2.St} {B H : Hp} {ds : List D} {a : Addr} : ¬ OwnA ⟨B, H, vs, ds.map SD.fro⟩ a := fun ⟨i, o, ⟨x, h1, h2⟩, _⟩ => by
  have h1 : (ds.map SD.fro)[i]? = some x := h1
  rw [List.getElem?_map] at h1
  cases hd : ds[i]? with
  | none => rw [hd] at h1; cases h1
  | some d => rw [hd] at h1; cases h1; cases h2
theorem df_callG {n : Nat} {F : MFO} {E : XK} {mr : ML} {sp : Sp} (hsp : ∀ vs H Q E, spF K cm n F vs H Q E → sp vs H Q E) (h : DA K cm tr mr) (hl : ∀ e ds e', mr e = some (ds, e') → ds.length = n) : DF K cm (tCall sp [] E tr) (callF F mr) := fun s k o e' hm Q q => by
  obtain ⟨ds, e1, h1, hm⟩ := bnd_some hm
  split at hm
  · rename_i o2 es' hF
    cases hm
    refine h s k ds _ h1 _ fun vs B1 H1 s1 k1 r1 => ?_
    rw [List.append_nil]
    refine hsp _ _ _ _ ⟨B1, ds.map SD.fro, o, es', by rw [r1.len, hl _ _ _ h1], ⟨by show (ds.map SD.fro).length = (vs.map some).length; rw [List.length_map, List.length_map, r1.len], k1.bh, fun i d hi => ?_, fun i x p hi hx => ?_, fun i j p p2 a h2 _ => absurd ⟨i, p, h2⟩ fro_no⟩, hF, fun p B' H' st k' n1 n2 ow nw => ?_⟩
    · have hi : (ds.map SD.fro)[i]? = some (.fro d) := hi
      rw [List.getElem?_map] at hi
      cases hd : ds[i]? with
      | none => rw [hd] at hi; cases hi
      | some d2 =>
        rw [hd] at hi
        cases hi
        obtain ⟨v, v1, v2⟩ := r1.get hd
        exact ⟨v, by show (vs.map some)[i]? = _; rw [List.getElem?_map, v1]; rfl, v2⟩
    · have hi : (ds.map SD.fro)[i]? = some x := hi
      rw [List.getElem?_map] at hi
      cases hd : ds[i]? with
      | none => rw [hd] at hi; cases hi
      | some d2 => rw [hd] at hi; cases hi; cases hx
    · have gr : Gro B1 H1 B' H' := ⟨fun a o h => st.ex a o h fro_no, st.bb, k'.bh, fun a o h h2 => (st.fr a o h h2).elim id fun z => absurd z fro_no⟩
      have k2 := gr.ok (s := ⟨B1, H1, s.σ, e'⟩) k1
      exact q p B' H' (s1.trans (gr.step (s := ⟨B1, H1, s.σ, e'⟩))) k2 (s1.dm p n1) n2 ow fun ⟨i, o2, ⟨x, a1, a2⟩, a3⟩ => by
        obtain ⟨a, b1, b2, b3⟩ := k1.own i x o2 a1 a2
        have a3 : s.σ[i]? = _ := a3
        have b1 : s.σ[i]? = _ := b1
        rw [a3] at b1
        cases b1
        obtain ⟨u, hu⟩ := b3.there
        have n1 : H1 p = none := n1
        rw [show H1 p = some u from hu] at n1
        cases n1
  · cases hm
theorem df_call {n : Nat} {F : MFO} {E : XK} {mr : ML} (h : DA K cm tr mr) (hl : ∀ e ds e', mr e = some (ds, e') → ds.length = n) : DF K cm (tCall (spF K cm n F) [] E tr) (callF F mr) := df_callG (fun _ _ _ _ h => h) h hl
theorem spD_len {n : Nat} {F : MF} {vs : List V} {H : Hp} {Q : VK} {E : XK} (h : spD K cm n F vs H Q E) : vs.length = n := by
  obtain ⟨_, _, _, _, h, _⟩ := h
  exact h
end
end Mir

set_option Elab.async false
set_option linter.all false
set_option maxRecDepth 100000
set_option maxHeartbeats 2000000
namespace Mir
open PySem PySem.Spec PyProof.Rows L2 Evl WS
/-! ### comprehensions -/
def wipeE : List Nat → SDs → Option SDs
  | [], e => some e
  | i :: r, e => match wipeE r e with | none => none | some e1 => (match e1[i]? with | some (.own _) => none | some (.bor _) => none | _ => some (e1.set i .nn))
def restE (e0 : SDs) : List Nat → SDs → SDs
  | [], e => e
  | i :: r, e => (restE e0 r e).set i (e0.getD i .nn)
def compL (vs : List Nat) (ga : D → SDs → Option SDs) (mt : MT) (me : M) : List D → SDs → Option (List D × SDs)
  | [], e => some ([], e)
  | x :: r, e => match ga x e with | none => none | some e1 => bnd (mt e1) fun b e2 => if b then (bnd (me e2) fun d e3 => match wipeE vs e3 with | none => none | some e4 => (match compL vs ga mt me r e4 with | none => none | some (ds, e5) => some (d :: ds, e5))) else (match wipeE vs e2 with | none => none | some e4 => compL vs ga mt me r e4)
def compF (mi : ML) (vs : List Nat) (ga : D → SDs → Option SDs) (mt : MT) (me : M) : MO := fun e => bnd (mi e) fun xs e1 => if xs.length ≤ sizeLine then (match wipeE vs e1 with | none => none | some e2 => match compL vs ga mt me xs e2 with | none => none | some (ds, e3) => some (.lst ds, restE e1 vs e3)) else none
def yesT : MT := fun e => some (true, e)
section
variable {K : PySem.W.Frag} {cm : CM} {ta tb te tc : TE} {tr : TA} {t u tt : TT} {ma mb m mc me : M} {mr : MA} {s : MSt} {mt : MT} {g : TG} {ga : D → SDs → Option SDs} {js vs : List Nat}
theorem dt_yes : DT K cm tYes yesT := fun s k b e' h Q q => by
  cases h
  exact q s.B s.H (Stp.refl s) k
theorem wipe_at (σ : L2.St) : ∀ (vs : List Nat) (j : Nat), (wipe σ vs)[j]? = if j ∈ vs then (σ[j]?).map (fun _ => none) else σ[j]?
  | [], j => by simp [wipe]
  | i :: r, j => by
    unfold wipe
    by_cases c : j = i
    · subst c
      rw [if_pos List.mem_cons_self]
      by_cases h : j < σ.length
      · rw [List.getElem?_set_self (by rw [wipe_length]; exact h), List.getElem?_eq_getElem h]
        rfl
      · rw [List.getElem?_eq_none (by rw [List.length_set, wipe_length]; omega), List.getElem?_eq_none (by omega)]
        rfl
    · rw [List.getElem?_set_ne (Ne.symm c), wipe_at σ r j]
      by_cases c2 : j ∈ r
      · rw [if_pos c2, if_pos (List.mem_cons_of_mem _ c2)]
      · rw [if_neg c2, if_neg (by rw [List.mem_cons, not_or]; exact ⟨c, c2⟩)]
theorem wipe_same {σ σ' : L2.St} (h : ∀ j : Nat, j ∉ vs → σ'[j]? = σ[j]?) (hl : σ'.length = σ.length) : wipe σ' vs = wipe σ vs := by
  apply List.ext_getElem?
  intro j
  rw [wipe_at, wipe_at]
  by_cases c : j ∈ vs
  · rw [if_pos c, if_pos c]
    by_cases h : j < σ.length
    · rw [List.getElem?_eq_getElem h, List.getElem?_eq_getElem (by omega)]
      rfl
    · rw [List.getElem?_eq_none (by omega), List.getElem?_eq_none (by omega)]
  · rw [if_neg c, if_neg c]
    exact h j c
theorem wipeE_spec : ∀ {vs : List Nat} {e e1 : SDs}, wipeE vs e = some e1 → e1.length = e.length ∧ ∀ (j : Nat) (y : SD), e1[j]? = some y → (j ∈ vs ∧ y = .nn ∧ ∃ x, e[j]? = some x ∧ x.ow = none) ∨ (j ∉ vs ∧ e[j]? = some y)
  | [], e, e1, h => by
    cases h
    exact ⟨rfl, fun j y h => .inr ⟨by simp, h⟩⟩
  | i :: r, e, e1, h => by
    unfold wipeE at h
    split at h
    · cases h
    · rename_i e2 he2
      obtain ⟨l, f⟩ := wipeE_spec he2
      have key : (∀ o, e2[i]? ≠ some (.own o)) → (∀ o, e2[i]? ≠ some (.bor o)) → e1 = e2.set i .nn → e1.length = e.length ∧ ∀ (j : Nat) (y : SD), e1[j]? = some y → (j ∈ i :: r ∧ y = .nn ∧ ∃ x, e[j]? = some x ∧ x.ow = none) ∨ (j ∉ i :: r ∧ e[j]? = some y) := fun n1 n2 he => by
        subst he
        refine ⟨by rw [List.length_set, l], fun j y hj => ?_⟩
        by_cases c : j = i
        · subst c
          have hj2 : j < e2.length := by
            have := (List.getElem?_eq_some_iff.mp hj).1
            rwa [List.length_set] at this
          rw [List.getElem?_set_self hj2] at hj
          cases hj
          refine .inl ⟨List.mem_cons_self, rfl, ?_⟩
          have hg : e2[j]? = some e2[j] := List.getElem?_eq_getElem hj2
          rcases f j _ hg with ⟨_, _, q⟩ | ⟨_, q⟩
          · exact q
          · refine ⟨_, q, ?_⟩
            cases hx : e2[j] with
            | own o => rw [hx] at hg; exact absurd hg (n1 o)
            | bor o => rw [hx] at hg; exact absurd hg (n2 o)
            | nn => rfl
            | fro d => rfl
        · rw [List.getElem?_set_ne (Ne.symm c)] at hj
          rcases f j y hj with ⟨q1, q2⟩ | ⟨q1, q2⟩
          · exact .inl ⟨List.mem_cons_of_mem _ q1, q2⟩
          · exact .inr ⟨by rw [List.mem_cons, not_or]; exact ⟨c, q1⟩, q2⟩
      split at h
      · cases h
      · cases h
      · rename_i n1 n2
        cases h
        exact key (fun o c => n1 o c) (fun o c => n2 o c) rfl
theorem ow_wipe {e e1 : SDs} (h : wipeE vs e = some e1) {j : Nat} {y : SD} {o : OD} (h1 : e1[j]? = some y) (h2 : y.ow = some o) : j ∉ vs ∧ e[j]? = some y := by
  rcases (wipeE_spec h).2 j y h1 with ⟨_, rfl, _⟩ | q
  · cases h2
  · exact q
theorem wipe_ok {e1 : SDs} (k : Okm K cm s) (h : wipeE vs s.e = some e1) : Okm K cm ⟨s.B, s.H, wipe s.σ vs, e1⟩ ∧ Stp s ⟨s.B, s.H, wipe s.σ vs, e1⟩ := by
  obtain ⟨l, f⟩ := wipeE_spec h
  have at0 : ∀ {i : Nat} {o : OD} {a : Addr}, AtM ⟨s.B, s.H, wipe s.σ vs, e1⟩ i o a → AtM s i o a := fun {i o a} ⟨⟨y, h1, h2⟩, h3⟩ => by
    obtain ⟨q1, q2⟩ := ow_wipe h h1 h2
    have h3 : (wipe s.σ vs)[i]? = some (some (.ref a)) := h3
    rw [wipe_at, if_neg q1] at h3
    exact ⟨⟨y, q2, h2⟩, h3⟩
  refine ⟨⟨?_, k.bh, fun i d hi => ?_, fun i x o hi hx => ?_, fun i j o p a h1 h2 => k.dis i j o p a (at0 h1) (at0 h2)⟩, ⟨fun a o h _ => h, Ex.refl _, fun a o h n => (by have n : s.B a = none := n; have h : s.B a = some o := h; rw [n] at h; cases h), fun a ⟨i, o, h1⟩ => .inl ⟨i, o, at0 h1⟩, fun i o a h1 h2 => ?_, fun a h => h⟩⟩
  · show e1.length = (wipe s.σ vs).length
    rw [l, wipe_length, k.len]
  · rcases f i _ hi with ⟨_, c, _⟩ | ⟨q1, q2⟩
    · cases c
    · obtain ⟨v, v1, v2⟩ := k.fro i d q2
      refine ⟨v, ?_, v2⟩
      show (wipe s.σ vs)[i]? = _
      rw [wipe_at, if_neg q1]
      exact v1
  · obtain ⟨q1, q2⟩ := ow_wipe h hi hx
    obtain ⟨a, v1, v2⟩ := k.own i x o q2 hx
    refine ⟨a, ?_, v2⟩
    show (wipe s.σ vs)[i]? = _
    rw [wipe_at, if_neg q1]
    exact v1
  · have hi : i < e1.length := by rw [l]; exact (List.getElem?_eq_some_iff.mp h1).1
    have hg : e1[i]? = some e1[i] := List.getElem?_eq_getElem hi
    rcases f i _ hg with ⟨_, _, x, q1, q2⟩ | ⟨q1, q2⟩
    · rw [h1] at q1
      cases q1
      cases q2
    · rw [h1] at q2
      refine ⟨⟨o, ?_⟩, ?_⟩
      · show e1[i]? = _
        rw [hg]
        exact q2.symm
      · show (wipe s.σ vs)[i]? = _
        rw [wipe_at, if_neg q1]
        exact h2
theorem restE_spec (e0 : SDs) : ∀ (vs : List Nat) (e : SDs), (restE e0 vs e).length = e.length ∧ ∀ (j : Nat) (y : SD), (restE e0 vs e)[j]? = some y → (j ∈ vs ∧ y = e0.getD j .nn) ∨ (j ∉ vs ∧ e[j]? = some y)
  | [], e => ⟨rfl, fun j y h => .inr ⟨by simp, h⟩⟩
  | i :: r, e => by
    obtain ⟨l, f⟩ := restE_spec e0 r e
    unfold restE
    refine ⟨by rw [List.length_set, l], fun j y hj => ?_⟩
    by_cases c : j = i
    · subst c
      have hj2 : j < (restE e0 r e).length := by
        have := (List.getElem?_eq_some_iff.mp hj).1
        rwa [List.length_set] at this
      rw [List.getElem?_set_self hj2] at hj
      cases hj
      exact .inl ⟨List.mem_cons_self, rfl⟩
    · rw [List.getElem?_set_ne (Ne.symm c)] at hj
      rcases f j y hj with ⟨q1, q2⟩ | ⟨q1, q2⟩
      · exact .inl ⟨List.mem_cons_of_mem _ q1, q2⟩
      · exact .inr ⟨by rw [List.mem_cons, not_or]; exact ⟨c, q1⟩, q2⟩
/-- the outer names as they were -/
theorem rest_ok {B H : Hp} {e2 ew : SDs} (k : Okm K cm s) (h : wipeE vs s.e = some ew) (st : Stp ⟨s.B, s.H, wipe s.σ vs, ew⟩ ⟨B, H, wipe s.σ vs, e2⟩) (k2 : Okm K cm ⟨B, H, wipe s.σ vs, e2⟩) :
    Okm K cm ⟨B, H, s.σ, restE s.e vs e2⟩ ∧ Stp s ⟨B, H, s.σ, restE s.e vs e2⟩ := by
  obtain ⟨l, f⟩ := restE_spec s.e vs e2
  obtain ⟨lw, fw⟩ := wipeE_spec h
  have l2 : e2.length = s.σ.length := by
    have : e2.length = (wipe s.σ vs).length := k2.len
    rw [wipe_length] at this
    exact this
  have noOw : ∀ {j : Nat}, j ∈ vs → (s.e.getD j .nn).ow = none := fun {j} hj => by
    cases hx : s.e[j]? with
    | none => rw [List.getD_eq_getElem?_getD, hx]; rfl
    | some x =>
      rw [List.getD_eq_getElem?_getD, hx]
      show x.ow = none
      have hl : j < ew.length := by rw [lw]; exact (List.getElem?_eq_some_iff.mp hx).1
      have hg : ew[j]? = some ew[j] := List.getElem?_eq_getElem hl
      rcases fw j _ hg with ⟨_, _, y, q1, q2⟩ | ⟨q1, _⟩
      · rw [hx] at q1
        cases q1
        exact q2
      · exact absurd hj q1
  have at2 : ∀ {i : Nat} {o : OD} {a : Addr}, AtM ⟨B, H, s.σ, restE s.e vs e2⟩ i o a → AtM ⟨B, H, wipe s.σ vs, e2⟩ i o a := fun {i o a} ⟨⟨y, h1, h2⟩, h3⟩ => by
    rcases f i y h1 with ⟨q1, rfl⟩ | ⟨q1, q2⟩
    · rw [noOw q1] at h2; cases h2
    · refine ⟨⟨y, q2, h2⟩, ?_⟩
      show (wipe s.σ vs)[i]? = _
      rw [wipe_at, if_neg q1]
      exact h3
  obtain ⟨kw, sw⟩ := wipe_ok k h
  have st2 := sw.trans st
  refine ⟨⟨?_, k2.bh, fun i d hi => ?_, fun i x o hi hx => ?_, fun i j o p a h1 h2 => k2.dis i j o p a (at2 h1) (at2 h2)⟩, ⟨st2.ex, st2.bb, st2.fr, fun a ⟨i, o, h1⟩ => st2.ow a ⟨i, o, at2 h1⟩, fun i o a h1 h2 => ?_, st2.dm⟩⟩
  · show (restE s.e vs e2).length = _
    rw [l, l2]
  · rcases f i _ hi with ⟨q1, q2⟩ | ⟨q1, q2⟩
    · cases hx : s.e[i]? with
      | none => rw [List.getD_eq_getElem?_getD, hx] at q2; cases q2
      | some x =>
        rw [List.getD_eq_getElem?_getD, hx] at q2
        cases q2
        obtain ⟨v, v1, v2⟩ := k.fro i d hx
        exact ⟨v, v1, v2.mono st2.bb⟩
    · obtain ⟨v, v1, v2⟩ := k2.fro i d q2
      refine ⟨v, ?_, v2⟩
      have v1 : (wipe s.σ vs)[i]? = _ := v1
      rw [wipe_at, if_neg q1] at v1
      exact v1
  · rcases f i _ hi with ⟨q1, q2⟩ | ⟨q1, q2⟩
    · rw [q2, noOw q1] at hx; cases hx
    · obtain ⟨a, v1, v2⟩ := k2.own i x o q2 hx
      refine ⟨a, ?_, v2⟩
      have v1 : (wipe s.σ vs)[i]? = _ := v1
      rw [wipe_at, if_neg q1] at v1
      exact v1
  · obtain ⟨⟨o', b1⟩, b2⟩ := st2.bo i o a h1 h2
    refine ⟨⟨o', ?_⟩, h2⟩
    have hi : i < (restE s.e vs e2).length := by rw [l, l2, ← k.len]; exact (List.getElem?_eq_some_iff.mp h1).1
    have hg : (restE s.e vs e2)[i]? = some (restE s.e vs e2)[i] := List.getElem?_eq_getElem hi
    rcases f i _ hg with ⟨q1, q2⟩ | ⟨q1, q2⟩
    · have := noOw q1
      rw [List.getD_eq_getElem?_getD, h1] at this
      cases this
    · have b1 : e2[i]? = _ := b1
      rw [b1] at q2
      show (restE s.e vs e2)[i]? = _
      rw [hg]
      exact q2.symm
/-- a thing of no one changes -/
theorem Stp.mut {s t : MSt} {p : Addr} {o : HO} (st : Stp s t) (h : s.H p = none) : Stp s ⟨t.B, upd t.H p o, t.σ, t.e⟩ := ⟨fun a u h1 h2 => by
  have : a ≠ p := fun c => by rw [c, h] at h1; cases h1
  show upd t.H p o a = some u
  rw [upd_ne this]
  exact st.ex a u h1 h2, st.bb, st.fr, fun a ⟨i, o, h1⟩ => st.ow a ⟨i, o, h1⟩, st.bo, fun a h1 => by
  have h1 : upd t.H p o a = none := h1
  by_cases c : a = p
  · rw [c]; exact h
  · rw [upd_ne c] at h1
    exact st.dm a h1⟩
theorem Okm.mut {t : MSt} {p : Addr} {o : HO} (k : Okm K cm t) (h1 : t.B p = none) (h2 : ¬ OwnA t p) : Okm K cm ⟨t.B, upd t.H p o, t.σ, t.e⟩ := ⟨k.len, fun a u h => by
  have : a ≠ p := fun c => by have h : t.B a = some u := h; rw [c, h1] at h; cases h
  show upd t.H p o a = some u
  rw [upd_ne this]
  exact k.bh a u h, k.fro, fun i x o2 h3 h4 => by
  obtain ⟨a, a1, a2, a3⟩ := k.own i x o2 h3 h4
  refine ⟨a, a1, a2, a3.mono (Ex.refl _) fun u hu => ?_⟩
  have : a ≠ p := fun c => h2 (c ▸ ⟨i, o2, ⟨x, h3, h4⟩, a1⟩)
  show upd t.H p o a = some u
  rw [upd_ne this]
  exact hu, k.dis⟩
/-- a temporary thing stays through a step -/
theorem keepT {s t : MSt} {p : Addr} {u : HO} (k : Okm K cm s) (st : Stp s t) (h : s.H p = some u) (hb : s.B p = none) (n : ¬ OwnA s p) : t.H p = some u ∧ t.B p = none ∧ ¬ OwnA t p := by
  refine ⟨st.ex p u h n, ?_, fun c => ?_⟩
  · cases q : t.B p with
    | none => rfl
    | some w =>
      rcases st.fr p w q hb with z | z
      · rw [h] at z; cases z
      · exact absurd z n
  · rcases st.ow p c with z | z
    · exact n z
    · rw [h] at z; cases z
theorem compL_len : ∀ {xs : List D} {e e2 : SDs} {ds : List D}, compL vs ga mt me xs e = some (ds, e2) → ds.length ≤ xs.length
  | [], e, e2, ds, h => by cases h; exact Nat.le_refl _
  | x :: r, e, e2, ds, h => by
    unfold compL at h
    split at h
    · cases h
    · rename_i e1 h1
      obtain ⟨b, e3, _, h⟩ := bnd_some h
      split at h
      · obtain ⟨d, e4, _, h⟩ := bnd_some h
        split at h
        · cases h
        · split at h
          · cases h
          · rename_i ds2 e6 h6
            cases h
            exact Nat.succ_le_succ (compL_len h6)
      · split at h
        · cases h
        · exact Nat.le_succ_of_le (compL_len h)
theorem df_comp {wi : TI} {mi : ML} (h1 : DIt K cm wi mi) (h2 : DG K cm g js ga) (hj : ∀ j ∈ js, j ∈ vs) (h3 : DT K cm tt mt) (h4 : DE K cm te me) : DF K cm (tLc wi g tt te vs) (compF mi vs ga mt me) := fun s k o e' hm Q q => by
  obtain ⟨xs, e1, g1, hm⟩ := bnd_some hm
  split at hm
  · rename_i hlen
    split at hm
    · cases hm
    · rename_i ew hw
      split at hm
      · cases hm
      · rename_i ds e3 hc
        cases hm
        refine h1 s k xs e1 g1 _ fun J B1 H1 s1 k1 w1 Dl hD => ?_
        obtain ⟨kw, sw⟩ := wipe_ok (s := ⟨B1, H1, s.σ, e1⟩) k1 hw
        have nb : B1 Dl = none := fresh_back k1.bh hD
        have nO : ¬ OwnA ⟨B1, H1, s.σ, e1⟩ Dl := notOwnA k1 hD
        have nOw : ¬ OwnA ⟨B1, H1, wipe s.σ vs, ew⟩ Dl := notOwnA kw hD
        refine ⟨fun i n H' => n + i = xs.length ∧ ∃ B' e' acc da dr, Stp ⟨B1, H1, wipe s.σ vs, ew⟩ ⟨B', H', wipe s.σ vs, e'⟩ ∧ Okm K cm ⟨B', H', wipe s.σ vs, e'⟩ ∧ ¬ OwnA ⟨B', H', wipe s.σ vs, e'⟩ Dl ∧ B' Dl = none ∧ H' Dl = some (.lst acc) ∧ Reps K cm B' acc da ∧ da ++ dr = ds ∧ da.length ≤ i ∧ compL vs ga mt me (xs.drop i) e' = some (dr, e3),
          ⟨xs.length, rfl, B1, ew, [], [], ds, (Stp.refl ⟨B1, H1, wipe s.σ vs, ew⟩).mut hD, kw.mut nb nOw, nOw, nb, upd_same, .nil, rfl, Nat.le_refl _, hc⟩, fun i n H' hW => ?_⟩
        obtain ⟨hn, B', e', acc, da, dr, st, k', nO', nB', hH', ra, hds, hda, hc'⟩ := hW
        have ww := w1 B' H' st.bb k'.bh i
        cases hx : xs[i]? with
        | none =>
          have hl := List.getElem?_eq_none_iff.mp hx
          rw [List.drop_eq_nil_of_le hl] at hc'
          cases hc'
          rw [List.append_nil] at hds
          subst hds
          obtain ⟨k5, s5⟩ := rest_ok (s := ⟨B1, H1, s.σ, e1⟩) k1 hw st k'
          have n5 : ¬ OwnA ⟨B', H', s.σ, restE e1 vs e3⟩ Dl := fun c => by
            rcases s5.ow Dl c with z | z
            · exact nO z
            · obtain ⟨j, o2, ⟨y, c1, c2⟩, c3⟩ := c
              obtain ⟨a, a1, a2, a3⟩ := k5.own j y o2 c1 c2
              rcases (restE_spec e1 vs e3).2 j y c1 with ⟨q1, q2⟩ | ⟨q1, q2⟩
              · cases hy : e1[j]? with
                | none => rw [List.getD_eq_getElem?_getD, hy] at q2; rw [q2] at c2; cases c2
                | some x =>
                  rw [List.getD_eq_getElem?_getD, hy] at q2
                  cases q2
                  exact nO ⟨j, o2, ⟨_, hy, c2⟩, c3⟩
              · exact nO' ⟨j, o2, ⟨y, q2, c2⟩, by show (wipe s.σ vs)[j]? = _; rw [wipe_at, if_neg q1]; exact c3⟩
          exact .inl ⟨ww.2 hl, q Dl B' H' (s1.trans s5) k5 (s1.dm Dl hD) nB' ⟨acc, hH', ra⟩ n5⟩
        | some x =>
          have hl : i < xs.length := (List.getElem?_eq_some_iff.mp hx).1
          have hd : xs.drop i = x :: xs.drop (i + 1) := by
            rw [List.drop_eq_getElem_cons hl]
            rw [(List.getElem?_eq_some_iff.mp hx).2]
          rw [hd] at hc'
          unfold compL at hc'
          split at hc'
          · cases hc'
          · rename_i e5 hg
            obtain ⟨b, e6, hb, hc'⟩ := bnd_some hc'
            obtain ⟨w2, w3⟩ := ww.1 x hx
            refine .inr ⟨w2, fun H2 => ∃ B' e' acc da dr, Stp ⟨B1, H1, wipe s.σ vs, ew⟩ ⟨B', H2, wipe s.σ vs, e'⟩ ∧ Okm K cm ⟨B', H2, wipe s.σ vs, e'⟩ ∧ ¬ OwnA ⟨B', H2, wipe s.σ vs, e'⟩ Dl ∧ B' Dl = none ∧ H2 Dl = some (.lst acc) ∧ Reps K cm B' acc da ∧ da ++ dr = ds ∧ da.length ≤ i + 1 ∧ compL vs ga mt me (xs.drop (i + 1)) e' = some (dr, e3),
              fun H2 ⟨B2, e2, acc2, da2, dr2, p⟩ => ⟨n - 1, by omega, by omega, B2, e2, acc2, da2, dr2, p⟩, fun v H2 hy => ?_⟩
            obtain ⟨B2, gr, rx⟩ := w3 v H2 hy
            have k2 := gr.ok (s := ⟨B', H', wipe s.σ vs, e'⟩) k'
            have s2 := gr.step (s := ⟨B', H', wipe s.σ vs, e'⟩)
            obtain ⟨t1, t2, t3⟩ := keepT k' s2 hH' nB' nO'
            refine h2 ⟨B2, H2, wipe s.σ vs, e'⟩ k2 v x e5 rx hg _ fun σ3 B3 H3 s3 k3 n3 l3 => ?_
            obtain ⟨t4, t5, t6⟩ := keepT k2 s3 t1 t2 t3
            have wv : wipe σ3 vs = wipe s.σ vs := by
              rw [wipe_same (σ := wipe s.σ vs) (fun j hj' => n3 j fun c => hj' (hj j c)) l3]
              exact wipe_same (fun j hj' => by rw [wipe_at, if_neg hj']) (wipe_length _ _)
            refine ⟨wv, h3 ⟨B3, H3, σ3, e5⟩ k3 b e6 hb _ fun B4 H4 s4 k4 => ?_⟩
            obtain ⟨t7, t8, t9⟩ := keepT k3 s4 t4 t5 t6
            have sA := ((st.trans s2).trans s3).trans s4
            cases b with
            | false =>
              rw [if_neg Bool.false_ne_true]
              have hc' : (match wipeE vs e6 with | none => none | some e4 => compL vs ga mt me (xs.drop (i + 1)) e4) = some (dr, e3) := hc'
              split at hc'
              · cases hc'
              · rename_i e7 he7
                obtain ⟨k7, s7⟩ := wipe_ok (s := ⟨B4, H4, σ3, e6⟩) k4 he7
                have k7 : Okm K cm ⟨B4, H4, wipe σ3 vs, e7⟩ := k7
                have s7 : Stp ⟨B4, H4, σ3, e6⟩ ⟨B4, H4, wipe σ3 vs, e7⟩ := s7
                rw [wv] at k7 s7
                obtain ⟨u1, u2, u3⟩ := keepT k4 s7 t7 t8 t9
                exact ⟨B4, e7, acc, da, dr, sA.trans s7, k7, u3, u2, u1, ra.mono (((s2.trans s3).trans s4).bb), hds, Nat.le_succ_of_le hda, hc'⟩
            | true =>
              rw [if_pos rfl]
              have hc' : (bnd (me e6) fun d e3 => match wipeE vs e3 with | none => none | some e4 => (match compL vs ga mt me (xs.drop (i + 1)) e4 with | none => none | some (ds, e5) => some (d :: ds, e5))) = some (dr, e3) := hc'
              obtain ⟨d, e7, hd7, hc'⟩ := bnd_some hc'
              split at hc'
              · cases hc'
              · rename_i e8 he8
                split at hc'
                · cases hc'
                · rename_i dr2 e9 hc9
                  cases hc'
                  refine h4 ⟨B4, H4, σ3, e6⟩ k4 d e7 hd7 _ fun y B5 H5 s5 k5 r5 => ?_
                  obtain ⟨v1, v2, v3⟩ := keepT k4 s5 t7 t8 t9
                  obtain ⟨k7, s7⟩ := wipe_ok (s := ⟨B5, H5, σ3, e7⟩) k5 he8
                  have k7 : Okm K cm ⟨B5, H5, wipe σ3 vs, e8⟩ := k7
                  have s7 : Stp ⟨B5, H5, σ3, e7⟩ ⟨B5, H5, wipe σ3 vs, e8⟩ := s7
                  rw [wv] at k7 s7
                  obtain ⟨u1, u2, u3⟩ := keepT k5 s7 v1 v2 v3
                  have sB := (sA.trans s5).trans s7
                  have rb := ra.mono ((((s2.trans s3).trans s4).trans s5).bb)
                  refine ⟨acc, v1, ?_, B5, e8, acc ++ [y], da ++ [d], dr2, sB.mut hD, k7.mut u2 u3, u3, u2, upd_same, rb.app (.cons r5 .nil), ?_, ?_, hc9⟩
                  · rw [ra.len]
                    exact Nat.lt_of_lt_of_le (Nat.lt_of_le_of_lt hda hl) hlen
                  · rw [List.append_assoc]
                    exact hds
                  · rw [List.length_append]
                    exact Nat.succ_le_succ hda
  · cases hm
end
end Mir

set_option Elab.async false
set_option linter.all false
set_option maxRecDepth 100000
set_option maxHeartbeats 2000000
namespace Mir
open PySem PySem.Spec PyProof.Rows L2 Evl WS
/-! ### what is walked -/
def lstI (m : M) : ML := fun e => bnd (m e) fun d e1 => match d with | .lst xs => some (xs, e1) | .scr xs => some (xs, e1) | _ => none
def tupI (m : M) : ML := fun e => bnd (m e) fun d e1 => match d with | .tup xs => some (xs, e1) | _ => none
def rngD (i : Int) (n : Nat) : List D := (List.range n).map fun k : Nat => D.int (i + (k : Int))
def rng1I (m : ML) : ML := fun e => bnd (m e) fun ds e1 => match ds with | [.int j] => if -(2 ^ 62) ≤ j ∧ j < 2 ^ 62 then some (rngD 0 j.toNat, e1) else none | _ => none
def rng2I (m : ML) : ML := fun e => bnd (m e) fun ds e1 => match ds with | [.int i, .int j] => if -(2 ^ 62) ≤ i ∧ i < 2 ^ 62 ∧ -(2 ^ 62) ≤ j ∧ j < 2 ^ 62 then some (rngD i (j - i).toNat, e1) else none | _ => none
def rng3D (i c : Int) (n : Nat) : List D := (List.range n).map fun k : Nat => D.int (i + (k : Int) * c)
def rng3I (m : ML) : ML := fun e => bnd (m e) fun ds e1 => match ds with | [.int i, .int j, .int c] => if c ≠ 0 ∧ c.natAbs < 1073741824 ∧ Builtin.Range.small i j c = true ∧ 0 ≤ Builtin.Range.rangeSize i j c then some (rng3D i c (Builtin.Range.rangeSize i j c).toNat, e1) else none | _ => none
def enumD (n : Nat) : List D → List D
  | [] => []
  | x :: r => .tup [.int (n : Int), x] :: enumD (n + 1) r
def enumI (m : ML) : ML := fun e => bnd (m e) fun ds e1 => match ds with | [.lst xs] => some (enumD 0 xs, e1) | [.scr xs] => some (enumD 0 xs, e1) | _ => none
def lsO : D → Option (List D)
  | .lst xs => some xs
  | .scr xs => some xs
  | _ => none
def zipD : List D → List D → List D
  | x :: r, y :: t => .tup [x, y] :: zipD r t
  | _, _ => []
def zipI (m : ML) : ML := fun e => bnd (m e) fun ds e1 => match ds with | [a, b] => (match lsO a, lsO b with | some xs, some ys => some (zipD xs ys, e1) | _, _ => none) | _ => none
def revI (m : ML) : ML := fun e => bnd (m e) fun ds e1 => match ds with | [a] => (match lsO a with | some xs => some (xs.reverse, e1) | none => none) | _ => none
def strI (m : M) : ML := fun e => bnd (m e) fun d e1 => match d with | .str x => some (x.cps.toList.map fun c => D.str ⟨#[c]⟩, e1) | _ => none
section
variable {K : PySem.W.Frag} {cm : CM} {ta tb te tc : TE} {tr : TA} {t u tt : TT} {ma mb m mc me : M} {mr : ML} {s : MSt} {mt : MT} {g : TG} {ga : D → SDs → Option SDs} {js vs : List Nat} {B H : Hp}
theorem lsO_sq {v : V} {d : D} {ds : List D} (r : Rep K cm B v d) (h : lsO d = some ds) : ∃ a xs, v = .ref a ∧ SqL K B a xs ∧ Reps K cm B xs ds := by
  cases r with
  | lst a r => cases h; exact ⟨_, _, rfl, sq_of a, r⟩
  | scr a r => cases h; exact ⟨_, _, rfl, a, r⟩
  | _ => cases h
theorem dit_list (h : DE K cm te m) : DIt K cm (iList K te) (lstI m) := fun s k xs e' hm R q => by
  obtain ⟨d, e1, h1, hm⟩ := bnd_some hm
  refine h s k d e1 h1 _ fun v B1 H1 s1 k1 r1 => ?_
  have hd : lsO d = some xs ∧ e1 = e' := by
    cases d <;> first | (cases hm; exact ⟨rfl, rfl⟩) | cases hm
  obtain ⟨hd, rfl⟩ := hd
  obtain ⟨a, ys, rfl, hy, ry⟩ := lsO_sq r1 hd
  have hy1 := ex_l k1.bh hy
  refine ⟨a, rfl, ⟨ys, hy1⟩, q _ B1 H1 s1 k1 fun B' H' eb eh i => ⟨fun x hx => ?_, fun hl => ⟨ys, ex_l eh (ex_l eb hy), by rw [ry.len]; exact hl⟩⟩⟩
  obtain ⟨v, hv, rv⟩ := ry.get hx
  refine ⟨⟨ys, v, ex_l eh (ex_l eb hy), hv⟩, fun w H2 hw => ?_⟩
  obtain ⟨rfl, hw⟩ := hw
  have := hw ys (ex_l eh (ex_l eb hy))
  rw [hv] at this
  cases this
  exact ⟨B', Gro.refl eh, rv.mono eb⟩
theorem dit_tup (h : DE K cm te m) : DIt K cm (iTup K te) (tupI m) := fun s k xs e' hm R q => by
  obtain ⟨d, e1, h1, hm⟩ := bnd_some hm
  refine h s k d e1 h1 _ fun v B1 H1 s1 k1 r1 => ?_
  cases r1 with
  | @tup a ys ds hy ry =>
    cases hm
    refine ⟨a, rfl, ⟨ys, ex_t k1.bh hy⟩, q _ B1 H1 s1 k1 fun B' H' eb eh i => ⟨fun x hx => ?_, fun hl => ⟨ys, ex_t eh (ex_t eb hy), by rw [ry.len]; exact hl⟩⟩⟩
    obtain ⟨v, hv, rv⟩ := ry.get hx
    refine ⟨⟨ys, v, ex_t eh (ex_t eb hy), hv⟩, fun w H2 hw => ?_⟩
    obtain ⟨rfl, hw⟩ := hw
    have := hw ys (ex_t eh (ex_t eb hy))
    rw [hv] at this
    cases this
    exact ⟨B', Gro.refl eh, rv.mono eb⟩
  | _ => cases hm
theorem rng_at {i : Int} {n k : Nat} {x : D} (h : (rngD i n)[k]? = some x) : k < n ∧ x = .int (i + (k : Int)) := by
  unfold rngD at h
  rw [List.getElem?_map] at h
  by_cases c : k < n
  · rw [List.getElem?_range c] at h
    cases h
    exact ⟨c, rfl⟩
  · rw [List.getElem?_eq_none (by rw [List.length_range]; omega)] at h
    cases h
theorem walks_rng {i : Int} {n : Nat} : Walks K cm (Itr i n) B (rngD i n) := fun B' H' eb eh k => ⟨fun x hx => by
  obtain ⟨h1, rfl⟩ := rng_at hx
  refine ⟨h1, fun v H2 hv => ?_⟩
  obtain ⟨rfl, rfl⟩ := hv
  exact ⟨B', Gro.refl eh, .int _⟩, fun hl => by
  unfold rngD at hl
  rw [List.length_map, List.length_range] at hl
  exact hl⟩
theorem reps_int1 {vs : List V} {i : Int} (r : Reps K cm B vs [.int i]) : vs = [.int i] := by
  cases r with
  | cons r1 r2 => cases r1; cases r2; rfl
theorem dit_r1 (h : DA K cm tr mr) : DIt K cm (iRng1 tr) (rng1I mr) := fun s k xs e' hm R q => by
  obtain ⟨d, e1, h1, hm⟩ := bnd_some hm
  split at hm
  · rename_i j
    split at hm
    · rename_i hj
      cases hm
      exact h s k _ _ h1 _ fun v B1 H1 s1 k1 r1 => ⟨j, reps_int1 r1, hj.1, hj.2, q _ B1 H1 s1 k1 walks_rng⟩
    · cases hm
  · cases hm
theorem dit_r2 (h : DA K cm tr mr) : DIt K cm (iRng2 tr) (rng2I mr) := fun s k xs e' hm R q => by
  obtain ⟨d, e1, h1, hm⟩ := bnd_some hm
  split at hm
  · rename_i i j
    split at hm
    · rename_i hj
      cases hm
      exact h s k _ _ h1 _ fun v B1 H1 s1 k1 r1 => ⟨i, j, (by cases r1 with | cons r1 r2 => cases r1; rw [reps_int1 r2]), hj, q _ B1 H1 s1 k1 walks_rng⟩
    · cases hm
  · cases hm
theorem dit_r3 (h : DA K cm tr mr) : DIt K cm (iRng3 tr) (rng3I mr) := fun s k xs e' hm R q => by
  obtain ⟨d, e1, h1, hm⟩ := bnd_some hm
  split at hm
  · rename_i i j c
    split at hm
    · rename_i hj
      cases hm
      refine h s k _ _ h1 _ fun v B1 H1 s1 k1 r1 => ⟨i, j, c, _, (by cases r1 with | cons r1 r2 => cases r1; cases r2 with | cons r2 r3 => cases r2; rw [reps_int1 r3]), ⟨hj.1, hj.2.1, hj.2.2.1, (Int.toNat_of_nonneg hj.2.2.2).symm⟩, q _ B1 H1 s1 k1 fun B' H' eb eh n => ⟨fun x hx => ?_, fun hl => ?_⟩⟩
      · unfold rng3D at hx
        rw [List.getElem?_map] at hx
        by_cases c2 : n < (Builtin.Range.rangeSize i j c).toNat
        · rw [List.getElem?_range c2] at hx
          cases hx
          refine ⟨c2, fun v H2 hv => ?_⟩
          obtain ⟨rfl, rfl⟩ := hv
          exact ⟨B', Gro.refl eh, .int _⟩
        · rw [List.getElem?_eq_none (by rw [List.length_range]; omega)] at hx
          cases hx
      · unfold rng3D at hl
        rw [List.length_map, List.length_range] at hl
        exact hl
    · cases hm
  · cases hm
theorem enum_at : ∀ {xs : List D} {n k : Nat} {x : D}, (enumD n xs)[k]? = some x → ∃ y, xs[k]? = some y ∧ x = .tup [.int ((n + k : Nat) : Int), y]
  | [], _, _, _, h => by simp [enumD] at h
  | y :: r, n, 0, x, h => by cases h; exact ⟨y, rfl, rfl⟩
  | y :: r, n, k + 1, x, h => by
    obtain ⟨z, h1, h2⟩ := enum_at (xs := r) (n := n + 1) (k := k) (x := x) (by simpa [enumD] using h)
    exact ⟨z, by simpa using h1, by rw [h2, Nat.add_assoc, Nat.add_comm 1 k]⟩
theorem enum_len : ∀ (xs : List D) (n : Nat), (enumD n xs).length = xs.length
  | [], _ => rfl
  | _ :: r, n => by rw [enumD, List.length_cons, List.length_cons, enum_len r]
theorem dit_enum (h : DA K cm tr mr) : DIt K cm (iEnum K tr) (enumI mr) := fun s k xs e' hm R q => by
  obtain ⟨d, e1, h1, hm⟩ := bnd_some hm
  have hd : ∃ a ys, d = [a] ∧ lsO a = some ys ∧ xs = enumD 0 ys ∧ e1 = e' := by
    split at hm
    · cases hm; exact ⟨_, _, rfl, rfl, rfl, rfl⟩
    · cases hm; exact ⟨_, _, rfl, rfl, rfl, rfl⟩
    · cases hm
  obtain ⟨a, ys, rfl, hy, rfl, rfl⟩ := hd
  refine h s k _ _ h1 _ fun v B1 H1 s1 k1 r1 => ?_
  cases r1 with
  | cons r1 r2 =>
    cases r2
    obtain ⟨p, zs, rfl, hz, rz⟩ := lsO_sq r1 hy
    refine ⟨p, zs, rfl, ex_l k1.bh hz, q _ B1 H1 s1 k1 fun B' H' eb eh i => ⟨fun x hx => ?_, fun hl => ⟨zs, ex_l eh (ex_l eb hz), by rw [rz.len, ← enum_len ys 0]; exact hl⟩⟩⟩
    obtain ⟨y, hy1, rfl⟩ := enum_at hx
    obtain ⟨w, hw, rw'⟩ := rz.get hy1
    refine ⟨⟨zs, w, ex_l eh (ex_l eb hz), hw⟩, fun v2 H2 hv => ?_⟩
    obtain ⟨T, x2, rfl, hT, rfl, hx2⟩ := hv
    have := hx2 zs (ex_l eh (ex_l eb hz))
    rw [hw] at this
    cases this
    have gr := Gro.new (o := .tup [.int (i : Nat), w]) eh hT
    refine ⟨_, gr, .tup (st_of upd_same) (.cons ?_ (.cons ((rw'.mono eb).mono gr.bb) .nil))⟩
    rw [Nat.zero_add]
    exact .int _
theorem zip_at : ∀ {xs ys : List D} {k : Nat} {x : D}, (zipD xs ys)[k]? = some x → ∃ y z, xs[k]? = some y ∧ ys[k]? = some z ∧ x = .tup [y, z]
  | [], _, _, _, h => by simp [zipD] at h
  | _ :: _, [], _, _, h => by simp [zipD] at h
  | y :: r, z :: t, 0, x, h => by cases h; exact ⟨y, z, rfl, rfl, rfl⟩
  | y :: r, z :: t, k + 1, x, h => by
    obtain ⟨a, b, h1, h2, h3⟩ := zip_at (xs := r) (ys := t) (k := k) (x := x) (by simpa [zipD] using h)
    exact ⟨a, b, by simpa using h1, by simpa using h2, h3⟩
theorem zip_stop : ∀ {xs ys : List D} {k : Nat}, (zipD xs ys).length ≤ k → xs.length ≤ k ∨ ys.length ≤ k
  | [], _, _, _ => .inl (Nat.zero_le _)
  | _ :: _, [], _, _ => .inr (Nat.zero_le _)
  | y :: r, z :: t, 0, h => by simp [zipD] at h
  | y :: r, z :: t, k + 1, h => by
    rcases zip_stop (xs := r) (ys := t) (k := k) (by simpa [zipD] using h) with h | h
    · exact .inl (by simpa using h)
    · exact .inr (by simpa using h)
theorem dit_zip (h : DA K cm tr mr) : DIt K cm (iZip K tr) (zipI mr) := fun s k xs e' hm R q => by
  obtain ⟨d, e1, h1, hm⟩ := bnd_some hm
  split at hm
  · rename_i a b
    split at hm
    · rename_i xa xb ha hb
      cases hm
      refine h s k _ _ h1 _ fun v B1 H1 s1 k1 r1 => ?_
      cases r1 with
      | cons r1 r2 =>
        cases r2 with
        | cons r2 r3 =>
          cases r3
          obtain ⟨p, zs, rfl, hz, rz⟩ := lsO_sq r1 ha
          obtain ⟨p2, ws, rfl, hw, rw'⟩ := lsO_sq r2 hb
          refine ⟨p, p2, zs, ws, rfl, ex_l k1.bh hz, ex_l k1.bh hw, q _ B1 H1 s1 k1 fun B' H' eb eh i => ⟨fun x hx => ?_, fun hl => ⟨zs, ws, ex_l eh (ex_l eb hz), ex_l eh (ex_l eb hw), by rw [rz.len, rw'.len]; exact zip_stop hl⟩⟩⟩
          obtain ⟨y1, y2, hy1, hy2, rfl⟩ := zip_at hx
          obtain ⟨w1, hw1, rw1⟩ := rz.get hy1
          obtain ⟨w2, hw2, rw2⟩ := rw'.get hy2
          refine ⟨⟨zs, ws, w1, w2, ex_l eh (ex_l eb hz), ex_l eh (ex_l eb hw), hw1, hw2⟩, fun v2 H2 hv => ?_⟩
          obtain ⟨T, x1, x2, rfl, hT, rfl, hx1, hx2⟩ := hv
          have e1 := hx1 zs (ex_l eh (ex_l eb hz))
          have e2 := hx2 ws (ex_l eh (ex_l eb hw))
          rw [hw1] at e1
          rw [hw2] at e2
          cases e1
          cases e2
          have gr := Gro.new (o := .tup [w1, w2]) eh hT
          exact ⟨_, gr, .tup (st_of upd_same) (.cons ((rw1.mono eb).mono gr.bb) (.cons ((rw2.mono eb).mono gr.bb) .nil))⟩
    · cases hm
  · cases hm
theorem dit_rev (h : DA K cm tr mr) : DIt K cm (iRev K tr) (revI mr) := fun s k xs e' hm R q => by
  obtain ⟨d, e1, h1, hm⟩ := bnd_some hm
  split at hm
  · rename_i a
    split at hm
    · rename_i xa ha
      cases hm
      refine h s k _ _ h1 _ fun v B1 H1 s1 k1 r1 => ?_
      cases r1 with
      | cons r1 r2 =>
        cases r2
        obtain ⟨p, zs, rfl, hz, rz⟩ := lsO_sq r1 ha
        refine ⟨p, zs, rfl, ex_l k1.bh hz, q _ B1 H1 s1 k1 fun B' H' eb eh i => ⟨fun x hx => ?_, fun hl => (by rw [List.length_reverse, ← rz.len] at hl; exact hl)⟩⟩
        obtain ⟨w, hw, rw'⟩ := rz.rev.get hx
        have hi : i < zs.length := by
          have := (List.getElem?_eq_some_iff.mp hw).1
          rwa [List.length_reverse] at this
        rw [List.getElem?_reverse hi] at hw
        refine ⟨⟨hi, zs, w, ex_l eh (ex_l eb hz), hw⟩, fun v2 H2 hv => ?_⟩
        obtain ⟨rfl, hv⟩ := hv
        have := hv zs (ex_l eh (ex_l eb hz))
        rw [hw] at this
        cases this
        exact ⟨B', Gro.refl eh, rw'.mono eb⟩
    · cases hm
  · cases hm
theorem dit_str (h : DE K cm te m) : DIt K cm (iStr te) (strI m) := fun s k xs e' hm R q => by
  obtain ⟨d, e1, h1, hm⟩ := bnd_some hm
  refine h s k d e1 h1 _ fun v B1 H1 s1 k1 r1 => ?_
  cases r1 with
  | str y =>
    cases hm
    refine ⟨y, rfl, q _ B1 H1 s1 k1 fun B' H' eb eh i => ⟨fun x hx => ?_, fun hl => (by rw [List.length_map, Array.length_toList] at hl; exact hl)⟩⟩
    rw [List.getElem?_map] at hx
    cases hc : y.cps.toList[i]? with
    | none => rw [hc] at hx; cases hx
    | some c =>
      rw [hc] at hx
      cases hx
      have hc' : y.cps[i]? = some c := by rw [← Array.getElem?_toList]; exact hc
      refine ⟨(Array.getElem?_eq_some_iff.mp hc').1, fun v2 H2 hv => ?_⟩
      obtain ⟨rfl, c2, hc2, rfl⟩ := hv
      rw [hc'] at hc2
      cases hc2
      exact ⟨B', Gro.refl eh, .str _⟩
  | _ => cases hm
/-! ### own things changed -/
theorem own_put {i : Nat} {x : SD} {o o' : OD} {a : Addr} {w : HO} (k : Okm K cm s) (hx : s.e[i]? = some x) (ho : x.ow = some o) (ha : s.σ[i]? = some (some (.ref a))) (hr : OwnR K cm s.B (upd s.H a w) a o') :
    Okm K cm ⟨s.B, upd s.H a w, s.σ, s.e.set i (upSD x o')⟩ ∧ Stp s ⟨s.B, upd s.H a w, s.σ, s.e.set i (upSD x o')⟩ := by
  have hi : i < s.e.length := (List.getElem?_eq_some_iff.mp hx).1
  obtain ⟨a2, b1, b2, b3⟩ := k.own i x o hx ho
  rw [ha] at b1
  cases b1
  have back : ∀ {j : Nat} {p : OD} {b : Addr}, AtM ⟨s.B, upd s.H a w, s.σ, s.e.set i (upSD x o')⟩ j p b → ∃ q, AtM s j q b := fun {j p b} ⟨⟨y, h1, h2⟩, h3⟩ => by
    have h1 : (s.e.set i (upSD x o'))[j]? = some y := h1
    rw [set_get hi] at h1
    by_cases c : j = i
    · subst c; exact ⟨o, ⟨x, hx, ho⟩, h3⟩
    · rw [if_neg c] at h1; exact ⟨p, ⟨y, h1, h2⟩, h3⟩
  refine ⟨⟨?_, fun b u h => ?_, fun j d hj => ?_, fun j y p hj hy => ?_, fun j l p q b h1 h2 => ?_⟩, ⟨fun b u h n => ?_, Ex.refl _, fun b u h n => (by have n : s.B b = none := n; have h : s.B b = some u := h; rw [n] at h; cases h), fun b ⟨j, p, h1⟩ => .inl ?_, fun j p b h1 h2 => ⟨?_, h2⟩, fun b h => ?_⟩⟩
  · show (s.e.set i (upSD x o')).length = _
    rw [List.length_set]
    exact k.len
  · have : b ≠ a := fun c => by have h : s.B b = some u := h; rw [c, b2] at h; cases h
    show upd s.H a w b = some u
    rw [upd_ne this]
    exact k.bh b u h
  · have hj : (s.e.set i (upSD x o'))[j]? = some (.fro d) := hj
    rw [set_get hi] at hj
    by_cases c : j = i
    · rw [if_pos c] at hj
      have hj := Option.some.inj hj
      have := upSD_ow (o := o') ho
      rw [hj] at this
      cases this
    · rw [if_neg c] at hj
      exact k.fro j d hj
  · have hj : (s.e.set i (upSD x o'))[j]? = some y := hj
    rw [set_get hi] at hj
    by_cases c : j = i
    · rw [if_pos c] at hj
      have hj := Option.some.inj hj
      have := upSD_ow (o := o') ho
      rw [hj, hy] at this
      cases this
      subst c
      exact ⟨a, ha, b2, hr⟩
    · rw [if_neg c] at hj
      obtain ⟨b, c1, c2, c3⟩ := k.own j y p hj hy
      refine ⟨b, c1, c2, c3.mono (Ex.refl _) fun u hu => ?_⟩
      have : b ≠ a := fun z => c (k.dis j i p o b ⟨⟨y, hj, hy⟩, c1⟩ ⟨⟨x, hx, ho⟩, z ▸ ha⟩)
      show upd s.H a w b = some u
      rw [upd_ne this]
      exact hu
  · obtain ⟨p2, h1⟩ := back h1
    obtain ⟨q2, h2⟩ := back h2
    exact k.dis j l p2 q2 b h1 h2
  · have : b ≠ a := fun c => n (c ▸ ⟨i, o, ⟨x, hx, ho⟩, ha⟩)
    show upd s.H a w b = some u
    rw [upd_ne this]
    exact h
  · obtain ⟨p2, h1⟩ := back h1
    exact ⟨j, p2, h1⟩
  · show ∃ o2, (s.e.set i (upSD x o'))[j]? = some (.bor o2)
    rw [set_get hi]
    by_cases c : j = i
    · rw [if_pos c]
      subst c
      rw [hx] at h1
      cases h1
      exact ⟨o', rfl⟩
    · rw [if_neg c]
      exact ⟨p, h1⟩
  · have h : upd s.H a w b = none := h
    by_cases c : b = a
    · subst c; rw [upd_same] at h; cases h
    · rw [upd_ne c] at h; exact h
def ownAt (e : SDs) (i : Nat) : Option (SD × OD) := match e[i]? with | some x => (match x.ow with | some o => some (x, o) | none => none) | none => none
theorem ownAt_some {e : SDs} {i : Nat} {x : SD} {o : OD} (h : ownAt e i = some (x, o)) : e[i]? = some x ∧ x.ow = some o := by
  unfold ownAt at h
  split at h
  · rename_i y hy
    split at h
    · rename_i p hp
      cases h
      exact ⟨hy, hp⟩
    · cases h
  · cases h
def appM (i : Nat) (m : M) : MS := fun e => match ownAt e i with | some (_, .lst _) => (bnd (m e) fun d e1 => match ownAt e1 i with | some (x, .lst xs) => if xs.length < sizeLine then some (.nx (e1.set i (upSD x (.lst (xs ++ [d]))))) else none | _ => none) | _ => none
theorem ds_app {i : Nat} (h : DE K cm te m) : DS K cm (tDrop (tBM K "list" rAppend (tVar i) (tCons te tNil))) (appM i m) := fun s k o hm E q => by
  unfold appM at hm
  split at hm
  · rename_i x xs hx
    obtain ⟨hx, ho⟩ := ownAt_some hx
    obtain ⟨d, e1, h1, hm⟩ := bnd_some hm
    split at hm
    · rename_i y ys hy
      obtain ⟨hy, hyo⟩ := ownAt_some hy
      split at hm
      · rename_i hlt
        cases hm
        obtain ⟨a, a1, a2, zs, a3, a4⟩ := k.own i _ _ hx ho
        refine ⟨.ref a, a1, .inl ⟨rfl, _, .inl (.inl a3)⟩, h s k d e1 h1 _ fun v B1 H1 s1 k1 r1 => ?_⟩
        obtain ⟨b, b1, b2, ws, b3, b4⟩ := k1.own i _ _ hy hyo
        have b1 : s.σ[i]? = _ := b1
        rw [a1] at b1
        cases b1
        obtain ⟨k2, s2⟩ := own_put (s := ⟨B1, H1, s.σ, e1⟩) (w := .lst (ws ++ [v])) k1 hy hyo a1 (o' := .lst (ys ++ [d])) ⟨_, upd_same, b4.app (.cons r1 .nil)⟩
        exact ⟨a, ws, v, rfl, rfl, b3, by rw [b4.len]; exact hlt, q s.σ B1 (upd H1 a (.lst (ws ++ [v]))) (s1.trans s2) k2⟩
      · cases hm
    · cases hm
  · cases hm
def putM (i : Nat) (mi mv : M) : MS := fun e => bnd (mv e) fun d e1 => match ownAt e1 i with | some (_, .lst _) => (bnd (mi e1) fun j e2 => match ownAt e2 i, j with | some (x, .lst xs), .int n => (match ixN xs.length n with | some p => some (.nx (e2.set i (upSD x (.lst (xs.set p d))))) | none => none) | _, _ => none) | _ => none
theorem ds_put {i : Nat} {ti : TE} {mi : M} (hi : DE K cm ti mi) (h : DE K cm te m) : DS K cm (tAsg te (gSub (tVar i) ti rSetL)) (putM i mi m) := fun s k o hm E q => by
  obtain ⟨d, e1, h1, hm⟩ := bnd_some hm
  split at hm
  · rename_i x0 xs0 hx0
    obtain ⟨hx0, ho0⟩ := ownAt_some hx0
    obtain ⟨j, e2, h2, hm⟩ := bnd_some hm
    split at hm
    · rename_i x xs n hx
      obtain ⟨hx, ho⟩ := ownAt_some hx
      split at hm
      · rename_i p hp
        cases hm
        refine h s k d e1 h1 _ fun v B1 H1 s1 k1 r1 => ?_
        obtain ⟨a, ha, _⟩ := k1.own i _ _ hx0 ho0
        refine ⟨.ref a, ha, hi ⟨B1, H1, s.σ, e1⟩ k1 _ e2 h2 _ fun w B2 H2 s2 k2 r2 => ?_⟩
        obtain ⟨b, b1, b2, ws, b3, b4⟩ := k2.own i _ _ hx ho
        have b1 : s.σ[i]? = _ := b1
        have ha : s.σ[i]? = _ := ha
        rw [ha] at b1
        cases b1
        cases r2
        obtain ⟨k3, s3⟩ := own_put (s := ⟨B2, H2, s.σ, e2⟩) (w := .lst (ws.set p v)) k2 hx ho ha (o' := .lst (xs.set p d)) ⟨_, upd_same, Reps.set (r1.mono s2.bb) p b4⟩
        exact ⟨a, ws, n, p, rfl, rfl, b3, by rw [b4.len]; exact hp, q s.σ B2 (upd H2 a (.lst (ws.set p v))) ((s1.trans s2).trans s3) k3⟩
      · cases hm
    · cases hm
  · cases hm
end
end Mir

set_option Elab.async false
set_option linter.all false
set_option maxRecDepth 100000
set_option maxHeartbeats 2000000
namespace Mir
open PySem PySem.Spec PyProof.Rows L2 Evl WS
/-! ### objects -/
def fldM (cs : List Nat) (f : Str) (m : M) : M := fun e => bnd (m e) fun d e1 => match d with | .ins c fs => if cs.contains c then rsl (fs.lookup f) e1 else none | _ => none
def fldO (cs : List Nat) (i : Nat) (f : Str) : M := fun e => match ownAt e i with | some (_, .ins c fs) => if cs.contains c then rsl (fs.lookup f) e else none | _ => none
def putFD (f : Str) (v : D) : List (Str × D) → List (Str × D)
  | [] => [(f, v)]
  | (g, x) :: r => if g = f then (g, v) :: r else (g, x) :: putFD f v r
def setF (cs : List Nat) (i : Nat) (f : Str) (m : M) : MS := fun e => bnd (m e) fun d e1 => match ownAt e1 i with | some (x, .ins c fs) => if cs.contains c ∧ fs.length < 1000 then some (.nx (e1.set i (upSD x (.ins c (putFD f d fs))))) else none | _ => none
def methM (c : Nat) (nm : Str) (F : MF) (mo : M) (ma : MA) : M := fun e => bnd (mo e) fun d e1 => match d with | .ins c2 fs => if c2 = c ∧ fs.lookup nm = none then bnd (ma e1) fun as e2 => callE F (.inl d :: as) e2 else none | _ => none
def propM (c : Nat) (F : MF) (mo : M) : M := fun e => bnd (mo e) fun d e1 => match d with | .ins c2 _ => if c2 = c then callE F [.inl d] e1 else none | _ => none
def makeM (c : Nat) (F : MF) (ma : ML) : M := fun e => bnd (ma e) fun ds e1 => match F (.bor (.ins c []) :: ds.map SD.fro) with | some (.non, .bor o :: _) => some (o.d, e1) | _ => none
section
variable {K : PySem.W.Frag} {cm : CM} {ta tb te tc : TE} {tr : TA} {t u tt : TT} {ma mb m mc me mo : M} {mr : ML} {mA : MA} {s : MSt} {mt : MT} {g : TG} {B H : Hp}
theorem look_get {f : Str} {d : D} : ∀ {fs : List (Str × V)} {gs : List (Str × D)}, fs.map (·.1) = gs.map (·.1) → Reps K cm B (fs.map (·.2)) (gs.map (·.2)) → gs.lookup f = some d → ∃ v, fs.lookup f = some v ∧ Rep K cm B v d
  | [], [], _, _, h => by cases h
  | [], _ :: _, h, _, _ => by cases h
  | _ :: _, [], h, _, _ => by cases h
  | (a, v) :: r, (b, x) :: t, h, h2, h3 => by
    have h1 : a = b := (List.cons.inj h).1
    subst h1
    cases h2 with
    | cons r1 r2 =>
      rw [List.lookup_cons] at h3
      rw [List.lookup_cons]
      cases hb : f == a with
      | true => rw [hb] at h3; cases h3; exact ⟨v, rfl, r1⟩
      | false => rw [hb] at h3; exact look_get (List.cons.inj h).2 r2 h3
theorem look_none {f : Str} : ∀ {fs : List (Str × V)} {gs : List (Str × D)}, fs.map (·.1) = gs.map (·.1) → gs.lookup f = none → fs.lookup f = none
  | [], [], _, h => rfl
  | [], _ :: _, h, _ => by cases h
  | _ :: _, [], h, _ => by cases h
  | (a, v) :: r, (b, x) :: t, h, h3 => by
    have h1 : a = b := (List.cons.inj h).1
    subst h1
    rw [List.lookup_cons] at h3
    rw [List.lookup_cons]
    cases hb : f == a with
    | true => rw [hb] at h3; cases h3
    | false => rw [hb] at h3; exact look_none (List.cons.inj h).2 h3
theorem putF_map {f : Str} {v : V} {d : D} (rv : Rep K cm B v d) : ∀ {fs : List (Str × V)} {gs : List (Str × D)}, fs.map (·.1) = gs.map (·.1) → Reps K cm B (fs.map (·.2)) (gs.map (·.2)) →
    (putF f v fs).map (·.1) = (putFD f d gs).map (·.1) ∧ Reps K cm B ((putF f v fs).map (·.2)) ((putFD f d gs).map (·.2))
  | [], [], _, _ => ⟨rfl, .cons rv .nil⟩
  | [], _ :: _, h, _ => by cases h
  | _ :: _, [], h, _ => by cases h
  | (a, w) :: r, (b, x) :: t, h, h2 => by
    have h1 : a = b := (List.cons.inj h).1
    subst h1
    cases h2 with
    | cons r1 r2 =>
      obtain ⟨p, q⟩ := putF_map rv (List.cons.inj h).2 r2
      rw [show putF f v ((a, w) :: r) = (if a = f then (a, v) :: r else (a, w) :: putF f v r) from rfl, show putFD f d ((a, x) :: t) = (if a = f then (a, d) :: t else (a, x) :: putFD f d t) from rfl]
      by_cases c : a = f
      · rw [if_pos c, if_pos c]
        exact ⟨h, .cons rv r2⟩
      · rw [if_neg c, if_neg c]
        refine ⟨?_, .cons r1 q⟩
        rw [List.map_cons, List.map_cons, p]
theorem de_fld {cs : List Nat} {f : Str} (hc : ∀ c ∈ cs, Cls K (cm c) ∧ NoAttr K (cm c) f) (h : DE K cm te m) : DE K cm (tFld K te f) (fldM cs f m) := fun s k d e' hm Q q => by
  obtain ⟨x, e1, h1, hm⟩ := bnd_some hm
  refine h s k x e1 h1 _ fun v B1 H1 s1 k1 r1 => ?_
  cases r1 with
  | @ins a dx c fs gs hb hk hr =>
    have hm : (if cs.contains c = true then rsl (gs.lookup f) e1 else none) = some (d, e') := hm
    split at hm
    · rename_i hcs
      obtain ⟨hl, rfl⟩ := rsl_some hm
      obtain ⟨w, hw, rw'⟩ := look_get hk hr hl
      have hc2 := hc c (by simpa using hcs)
      exact ⟨a, cm c, dx, fs, w, rfl, k1.bh _ _ hb, hc2.1, hc2.2, hw, q w B1 H1 s1 k1 rw'⟩
    · cases hm
  | _ => cases hm
theorem de_fldO {cs : List Nat} {i : Nat} {f : Str} (hc : ∀ c ∈ cs, Cls K (cm c) ∧ NoAttr K (cm c) f) : DE K cm (tFld K (tVar i) f) (fldO cs i f) := fun s k d e' hm Q q => by
  unfold fldO at hm
  split at hm
  · rename_i x c gs hx
    obtain ⟨hx, ho⟩ := ownAt_some hx
    split at hm
    · rename_i hcs
      obtain ⟨hl, rfl⟩ := rsl_some hm
      obtain ⟨a, a1, a2, dx, fs, a3, hk, hr⟩ := k.own i _ _ hx ho
      obtain ⟨w, hw, rw'⟩ := look_get hk hr hl
      have hc2 := hc c (by simpa using hcs)
      exact ⟨.ref a, a1, a, cm c, dx, fs, w, rfl, a3, hc2.1, hc2.2, hw, q w s.B s.H (Stp.refl s) k rw'⟩
    · cases hm
  · cases hm
theorem ds_setF {cs : List Nat} {i : Nat} {f : Str} (hc : ∀ c ∈ cs, Cls K (cm c) ∧ NoAttr K (cm c) f) (h : DE K cm te m) : DS K cm (sFld K (tVar i) te f) (setF cs i f m) := fun s k o hm E q => by
  obtain ⟨d, e1, h1, hm⟩ := bnd_some hm
  split at hm
  · rename_i x c gs hx
    obtain ⟨hx, ho⟩ := ownAt_some hx
    split at hm
    · rename_i hcs
      cases hm
      refine h s k d e1 h1 _ fun v B1 H1 s1 k1 r1 => ?_
      obtain ⟨a, a1, a2, dx, fs, a3, hk, hr⟩ := k1.own i _ _ hx ho
      have hc2 := hc c (by simpa using hcs.1)
      obtain ⟨p1, p2⟩ := putF_map (f := f) r1 hk hr
      obtain ⟨k2, s2⟩ := own_put (s := ⟨B1, H1, s.σ, e1⟩) (w := .ins (cm c) dx (putF f v fs)) k1 hx ho a1 (o' := .ins c (putFD f d gs)) ⟨dx, _, upd_same, p1, p2⟩
      have hlen : fs.length = gs.length := by
        have := congrArg List.length hk
        simpa using this
      exact ⟨.ref a, a1, a, cm c, dx, fs, rfl, a3, hc2.1, hc2.2, by rw [hlen]; exact hcs.2, q s.σ B1 _ (s1.trans s2) k2⟩
    · cases hm
  · cases hm
theorem de_meth {c n : Nat} {nm : Str} {F : MF} {E : XK} (ho : DE K cm te mo) (h : DC K cm tr mA) (hl : ∀ e as e', mA e = some (as, e') → as.length + 1 = n) : DE K cm (tMeth (cm c) nm (spD K cm n F) [] E te tr) (methM c nm F mo mA) := fun s k d e' hm Q q => by
  obtain ⟨x, e1, h1, hm⟩ := bnd_some hm
  refine ho s k x e1 h1 _ fun v B1 H1 s1 k1 r1 => ?_
  cases r1 with
  | @ins a dx c2 fs gs hb hk hr =>
    have hm2 : (if c2 = c ∧ gs.lookup nm = none then bnd (mA e1) fun as e2 => callE F (.inl (.ins c2 gs) :: as) e2 else none) = some (d, e') := hm
    clear hm
    split at hm2
    · rename_i hc
      obtain ⟨rfl, hc2⟩ := hc
      obtain ⟨as, e2, h2, hm⟩ := bnd_some hm2
      refine ⟨a, dx, fs, rfl, k1.bh _ _ hb, look_none hk hc2, h ⟨B1, H1, s.σ, e1⟩ k1 as e2 h2 _ fun vs B2 H2 s2 k2 r2 => ?_⟩
      rw [List.append_nil]
      have rr : Rep K cm B2 (.ref a) (.ins c2 gs) := (Rep.ins hb hk hr).mono s2.bb
      exact call_run (s := ⟨B2, H2, s.σ, e2⟩) k2 (.val rr r2) (by rw [List.length_cons, r2.len]; exact hl _ _ _ h2) hm Q fun v B3 H3 s3 k3 r3 => q v B3 H3 ((s1.trans s2).trans s3) k3 r3
    · cases hm2
  | _ => cases hm
theorem de_prop {c : Nat} {F : MF} {E : XK} (ho : DE K cm te mo) : DE K cm (tProp (cm c) (spD K cm 1 F) [] E te) (propM c F mo) := fun s k d e' hm Q q => by
  obtain ⟨x, e1, h1, hm⟩ := bnd_some hm
  refine ho s k x e1 h1 _ fun v B1 H1 s1 k1 r1 => ?_
  cases r1 with
  | @ins a dx c2 fs gs hb hk hr =>
    have hm2 : (if c2 = c then callE F [.inl (.ins c2 gs)] e1 else none) = some (d, e') := hm
    clear hm
    split at hm2
    · rename_i hc
      subst hc
      exact ⟨a, dx, fs, rfl, k1.bh _ _ hb, call_run (s := ⟨B1, H1, s.σ, e1⟩) k1 (.val (Rep.ins hb hk hr) .nil) rfl hm2 Q fun v B3 H3 s3 k3 r3 => q v B3 H3 (s1.trans s3) k3 r3⟩
    · cases hm2
  | _ => cases hm
theorem frs_get {i : Nat} : ∀ {vs : List V} {ds : List D} {x : SD}, Reps K cm B vs ds → (ds.map SD.fro)[i]? = some x → ∃ v d, x = .fro d ∧ vs[i]? = some v ∧ Rep K cm B v d := fun {vs ds x} r h => by
  rw [List.getElem?_map] at h
  cases hd : ds[i]? with
  | none => rw [hd] at h; cases h
  | some d =>
    rw [hd] at h
    cases h
    obtain ⟨v, v1, v2⟩ := r.get hd
    exact ⟨v, d, rfl, v1, v2⟩
theorem de_makeG {c n : Nat} {F : MF} {E : XK} {sp : Sp} (hsp : ∀ vs H Q E, spD K cm n F vs H Q E → sp vs H Q E) (h : DA K cm tr mr) (hl : ∀ e ds e', mr e = some (ds, e') → ds.length + 1 = n) : DE K cm (tMake (cm c) sp [] E tr) (makeM c F mr) := fun s k d e' hm Q q => by
  obtain ⟨ds, e1, h1, hm⟩ := bnd_some hm
  split at hm
  · rename_i o rest hF
    cases hm
    refine h s k ds e' h1 _ fun vs B1 H1 s1 k1 r1 x dx hx hdx hne => ?_
    rw [List.append_nil]
    have hxd : upd (upd H1 dx (.own x)) x (.ins (cm c) dx []) x = some (.ins (cm c) dx []) := upd_same
    have nB : B1 x = none := fresh_back k1.bh hx
    have e12 : Ex H1 (upd (upd H1 dx (.own x)) x (.ins (cm c) dx [])) := (Ex.new hdx).trans (Ex.new (by rw [upd_ne (Ne.symm hne)]; exact hx))
    have only : ∀ {i : Nat} {p : OD} {a : Addr}, AtM ⟨B1, upd (upd H1 dx (.own x)) x (.ins (cm c) dx []), (V.ref x :: vs).map some, .bor (.ins c []) :: ds.map SD.fro⟩ i p a → i = 0 ∧ a = x := fun {i p a} ⟨⟨y, h1, h2⟩, h3⟩ => by
      cases i with
      | zero => cases h3; exact ⟨rfl, rfl⟩
      | succ i =>
        have h1 : (ds.map SD.fro)[i]? = some y := by simpa using h1
        obtain ⟨_, _, rfl, _⟩ := frs_get r1 h1
        cases h2
    refine hsp _ _ _ _ ⟨B1, .bor (.ins c []) :: ds.map SD.fro, .non, .bor o :: rest, ?_, ⟨?_, k1.bh.trans e12, fun i d2 hi => ?_, fun i y p hi hy => ?_, fun i j p p2 a h1 h2 => (only h1).1.trans (only h2).1.symm⟩, hF, fun v B' H' st k' rv => ?_⟩
    · rw [List.length_cons, r1.len]
      exact hl _ _ _ h1
    · show (SD.bor (.ins c []) :: ds.map SD.fro).length = ((V.ref x :: vs).map some).length
      rw [List.length_cons, List.length_map, List.length_map, List.length_cons, r1.len]
    · cases i with
      | zero => cases hi
      | succ i =>
        have hi : (ds.map SD.fro)[i]? = some (.fro d2) := by simpa using hi
        obtain ⟨v, d3, e, v1, v2⟩ := frs_get r1 hi
        cases e
        refine ⟨v, ?_, v2⟩
        show ((V.ref x :: vs).map some)[i + 1]? = _
        rw [List.map_cons, List.getElem?_cons_succ, List.getElem?_map, v1]
        rfl
    · cases i with
      | zero =>
        cases hi
        cases hy
        exact ⟨x, rfl, nB, dx, [], hxd, rfl, .nil⟩
      | succ i =>
        have hi : (ds.map SD.fro)[i]? = some y := by simpa using hi
        obtain ⟨_, _, rfl, _⟩ := frs_get r1 hi
        cases hy
    · cases rv
      refine ⟨rfl, ?_⟩
      obtain ⟨a, a1, a2, a3⟩ := k'.own 0 _ o rfl rfl
      cases a1
      obtain ⟨u, hu⟩ := a3.there
      have eb : Ex B' (upd B' x u) := Ex.new a2
      have nO : ∀ {a : Addr} {w : HO}, H1 a = some w → ¬ OwnA ⟨B1, upd (upd H1 dx (.own x)) x (.ins (cm c) dx []), (V.ref x :: vs).map some, .bor (.ins c []) :: ds.map SD.fro⟩ a := fun {a w} ha ⟨i, p, hp⟩ => by
        rw [(only hp).2, hx] at ha
        cases ha
      have gr : Gro B1 H1 (upd B' x u) H' := ⟨fun a w ha => st.ex a w (e12 a w ha) (nO ha), st.bb.trans eb, fun a w ha => by
        by_cases c : a = x
        · subst c; rw [upd_same] at ha; cases ha; exact hu
        · rw [upd_ne c] at ha; exact k'.bh a w ha, fun a w ha hb => by
        by_cases c : a = x
        · subst c; exact hx
        · rw [upd_ne c] at ha
          rcases st.fr a w ha hb with z | ⟨i, p, hp⟩
          · exact fresh_back e12 z
          · exact absurd (only hp).2 c⟩
      exact q (.ref x) (upd B' x u) H' (s1.trans (gr.step (s := ⟨B1, H1, s.σ, e'⟩))) (gr.ok (s := ⟨B1, H1, s.σ, e'⟩) k1) (a3.rep eb fun w hw => by rw [hu] at hw; cases hw; exact upd_same)
  · cases hm
theorem de_make {c n : Nat} {F : MF} {E : XK} (h : DA K cm tr mr) (hl : ∀ e ds e', mr e = some (ds, e') → ds.length + 1 = n) : DE K cm (tMake (cm c) (spD K cm n F) [] E tr) (makeM c F mr) := de_makeG (fun _ _ _ _ h => h) h hl
/-! ### isinstance -/
inductive Kd where
  | ty (n : String) | cl (c : Nat) | no
def kdOf : D → Kd
  | .non => .ty "NoneType"
  | .bl _ => .ty "bool"
  | .int _ => .ty "int"
  | .str _ => .ty "str"
  | .lst _ => .ty "list"
  | .scr _ => .ty "list"
  | .tup _ => .ty "tuple"
  | .dic _ => .ty "dict"
  | .ins c _ => .cl c
  | .exc _ _ => .no
  | .fn _ => .no
  | .rng _ _ => .no
def kdV (cm : CM) : Kd → Value
  | .ty n => .type n
  | .cl c => .ref (cm c)
  | .no => .none
def isiM (f : Kd → Option Bool) (m : M) : M := fun e => bnd (m e) fun d e1 => match f (kdOf d) with | some b => some (.bl b, e1) | none => none
structure ClsOk (K : PySem.W.Frag) (C : Addr) : Prop where
  cl : Cls K C
  ha : PySem.W.findIn K (.ref C) "__class__" = some (some (.builtin "object.__class__"))
  hn : PySem.W.specialIn K (.builtin "object.__class__") "__get__" = some (some (.builtin "getset_descriptor.__get__"))
  ht : PySem.W.takesIn K (.builtin "object.__class__") = some true
  hm : PySem.W.mroIn K C (.type "object") = some true
theorem ty_of {v : V} {d : D} (r : Rep K cm B v d) (e : Ex B H) (hc : ∀ c, kdOf d = .cl c → ClsOk K (cm c)) (hd : kdOf d ≠ .no) : TyX K H v (kdV cm (kdOf d)) := by
  cases r with
  | non => exact .base .non
  | bl b => exact .base (.bl b)
  | int i => exact .base (.int i)
  | str x => exact .base (.str x)
  | lst h _ => exact .base (.lst (e _ _ h))
  | scr h _ =>
    rcases h with (h | ⟨o, h⟩) | ⟨dd, its, n, h1, h2⟩
    · exact .base (.lst (e _ _ h))
    · exact .base (.frz (e _ _ h))
    · exact .kList h1 h2.1
  | tup h _ =>
    rcases h with (h | ⟨o, h⟩) | ⟨dd, its, n, h1, h2⟩
    · exact .base (.tup (e _ _ h))
    · exact .fTuple (e _ _ h)
    · exact .kTuple h1 h2.1
  | dic h _ _ => exact .base (.dK (e _ _ h))
  | @ins a dx c fs gs h _ _ =>
    have k := hc c rfl
    exact .base (.ins (e _ _ h) k.cl k.ha k.hn k.ht k.hm)
  | exc _ _ _ => exact absurd rfl hd
  | fn _ => exact absurd rfl hd
  | rng _ => exact absurd rfl hd
theorem de_isiC {x : V} {u : Value} {f : Kd → Option Bool} (hx : ClsV x u) (hf : ∀ k b, f k = some b → PySem.W.kitOne K (kdV cm k) u = some b) (hc : ∀ c, f (.cl c) ≠ none → ClsOk K (cm c)) (h : DE K cm te m) (hno : f .no = none := by rfl) :
    DE K cm (tCB (rIsi K) (tCons te (tCons (tC x) tNil))) (isiM f m) := fun s k d e' hm Q q => by
  obtain ⟨y, e1, h1, hm⟩ := bnd_some hm
  split at hm
  · rename_i b hb
    cases hm
    exact h s k y _ h1 _ fun v B1 H1 s1 k1 r1 => ⟨v, x, _, u, b, rfl, hx, ty_of r1 k1.bh (fun c hk => hc c (by rw [← hk, hb]; exact fun z => nomatch z)) (fun z => by rw [z, hno] at hb; cases hb), hf _ _ hb, q _ B1 H1 s1 k1 (.bl b)⟩
  · cases hm
/-- a built-in class -/
def tyF (n : String) : Kd → Option Bool
  | .ty a => kitB a n
  | _ => none
theorem de_isiT {n : String} (h : DE K cm te m) : DE K cm (tCB (rIsi K) (tCons te (tCons (tC (.ty n)) tNil))) (isiM (tyF n) m) :=
  de_isiC (ClsV.ty n) (fun k b hb => by cases k with | ty a => exact kit_ty hb | cl c => cases hb | no => cases hb) (fun c hc => absurd rfl hc) h
/-- an own class: itself -/
def ownF (c : Nat) : Kd → Option Bool
  | .cl d => if d = c then some true else none
  | _ => none
theorem de_isiO {c : Nat} (hk : ClsOk K (cm c)) (h : DE K cm te m) : DE K cm (tCB (rIsi K) (tCons te (tCons (tC (.ref (cm c))) tNil))) (isiM (ownF c) m) :=
  de_isiC (ClsV.own _) (fun k b hb => by
    cases k with
    | ty a => cases hb
    | no => cases hb
    | cl d =>
      have hb : (if d = c then some true else none) = some b := hb
      split at hb
      · rename_i e
        have hb := Option.some.inj hb
        subst hb
        rw [e]
        show PySem.W.kitOne K (.ref (cm c)) (.ref (cm c)) = some true
        unfold PySem.W.kitOne
        rw [if_pos (beq_self_eq_true _)]
      · cases hb) (fun d hd => by
    by_cases e : d = c
    · subst e; exact hk
    · exact absurd (show (if d = c then some true else none) = none from if_neg e) hd) h
end
end Mir

set_option Elab.async false
set_option linter.all false
set_option maxRecDepth 100000
set_option maxHeartbeats 2000000
/-! x op= e by any rule of the operator in place -/
namespace WS
open PySem PySem.Spec PyProof.Rows L2 Evl
theorem ip_of {X : Cx} {op : Operator} {r : R2} (h : OpR X (inplaceOp op) r) : PIp X op r := fun pins s σ H x y v u Q I r1 r2 q => h pins s σ H x y v u Q I r1 r2 q
section
variable {σ : L2.St} {H : Hp} {te : TE} {D : Ends} {tz : TS}
theorem s_augR {i : Nat} {r : R2} {x y z : V} (hx : σ[i]? = some (some x)) (h : Ev te σ H y) (hr : RV r x y H z) (k : ∀ H1, Ex H H1 → D.nx (σ.set i (some z)) H1) : tAug i te r D σ H :=
  ⟨x, hx, h H (Ex.refl H) _ fun H1 e => hr H1 e _ fun H2 e2 => k H2 (e.trans e2)⟩
theorem q_augR {i : Nat} {r : R2} {x y z : V} (hx : σ[i]? = some (some x)) (h : Ev te σ H y) (hr : RV r x y H z) (k : ∀ H1, Ex H H1 → tz D (σ.set i (some z)) H1) : tSeq (tAug i te r) tz D σ H :=
  s_augR (D := { D with nx := tz D }) hx h hr k
end
end WS

set_option Elab.async false
set_option linter.all false
set_option maxRecDepth 100000
set_option maxHeartbeats 2000000
namespace Mir
open PySem PySem.Spec PyProof.Rows L2 Evl WS
/-! ### operators -/
def orR (r r' : R2) : R2 := fun x y H Q => r x y H Q ∨ r' x y H Q
theorem opOr {X : Cx} {f : Value → Value → Sem Value} {r r' : R2} (h : OpR X f r) (h' : OpR X f r') : OpR X f (orR r r') := fun pins s σ H x y v u Q I rx ry q => q.elim (h pins s σ H x y v u Q I rx ry) (h' pins s σ H x y v u Q I rx ry)
theorem peOr {X : Cx} {e : Expr} {t u : TE} (h : PE X e t) (h' : PE X e u) : PE X e (fun σ H Q => t σ H Q ∨ u σ H Q) := ⟨fun pins s σ H Q I q => q.elim (h.run pins s σ H Q I) (h'.run pins s σ H Q I)⟩
def rAddStr : R2 := fun x y H Q => ∃ i j, x = .str i ∧ y = .str j ∧ i.length + j.length ≤ sizeLine ∧ Q (.str (i ++ j)) H
abbrev rAddA (K : PySem.W.Frag) : R2 := orR (orR (rI0 fun i j => .int (i + j)) rAddStr) (orR rCat (rCatA K))
theorem op_addA {X : Cx} : OpR X (binaryOp .Add) (rAddA X.K) := opOr (opOr op_add op_add_str) (opOr op_cat op_catA)
def addD : D → D → Option D
  | .int i, .int j => some (.int (i + j))
  | .str i, .str j => if i.length + j.length ≤ sizeLine then some (.str (i ++ j)) else none
  | .lst xs, .lst ys => if xs.length + ys.length ≤ sizeLine then some (.lst (xs ++ ys)) else none
  | .tup xs, .tup ys => if xs.length + ys.length ≤ sizeLine then some (.tup (xs ++ ys)) else none
  | _, _ => none
section
variable {K : PySem.W.Frag} {cm : CM}
theorem rd_add : RD K cm (rAddA K) addD := fun B H x y dx dy d e rx ry h Q q => by
  cases rx with
  | int i => cases ry with
    | int j => cases h; exact .inl (.inl ⟨i, j, rfl, rfl, q _ B H (Gro.refl e) (.int _)⟩)
    | _ => cases h
  | str i => cases ry with
    | str j =>
      have h : (if i.length + j.length ≤ sizeLine then some (D.str (i ++ j)) else none) = some d := h
      split at h
      · rename_i hl; cases h; exact .inl (.inr ⟨i, j, rfl, rfl, hl, q _ B H (Gro.refl e) (.str _)⟩)
      · cases h
    | _ => cases h
  | @lst a xs ds ha ra => cases ry with
    | @lst b ys es hb rb =>
      have h : (if ds.length + es.length ≤ sizeLine then some (D.lst (ds ++ es)) else none) = some d := h
      split at h
      · rename_i hl
        cases h
        refine .inr (.inl ⟨a, b, xs, ys, rfl, rfl, e _ _ ha, e _ _ hb, by rw [ra.len, rb.len]; exact hl, fun p hp => ?_⟩)
        have g := Gro.new (o := .lst (xs ++ ys)) e hp
        exact q _ _ _ g (.lst upd_same ((ra.app rb).mono g.bb))
      · cases h
    | _ => cases h
  | @tup a xs ds ha ra => cases ry with
    | @tup b ys es hb rb =>
      have h : (if ds.length + es.length ≤ sizeLine then some (D.tup (ds ++ es)) else none) = some d := h
      split at h
      · rename_i hl
        cases h
        refine .inr (.inr ⟨a, b, xs, ys, rfl, rfl, ex_t e ha, ex_t e hb, by rw [ra.len, rb.len]; exact hl, fun hx => ?_, fun hx hy => ?_, fun _ _ p hp => ?_⟩)
        · subst hx
          cases ra
          exact q _ B H (Gro.refl e) (.tup hb rb)
        · subst hy
          cases rb
          rw [List.append_nil] at q
          exact q _ B H (Gro.refl e) (.tup ha ra)
        · have g := Gro.new (o := .tup (xs ++ ys)) e hp
          exact q _ _ _ g (.tup (st_of upd_same) ((ra.app rb).mono g.bb))
      · cases h
    | _ => cases h
  | _ => cases h
def i0D (g : Int → Int → Int) : D → D → Option D
  | .int i, .int j => some (.int (g i j))
  | _, _ => none
theorem rd_i0 {g : Int → Int → Int} : RD K cm (rI0 fun i j => .int (g i j)) (i0D g) := fun B H x y dx dy d e rx ry h Q q => by
  cases rx with
  | int i => cases ry with
    | int j => cases h; exact ⟨i, j, rfl, rfl, q _ B H (Gro.refl e) (.int _)⟩
    | _ => cases h
  | _ => cases h
def iCD (C : Int → Int → Prop) [∀ i j, Decidable (C i j)] (g : Int → Int → Int) : D → D → Option D
  | .int i, .int j => if C i j then some (.int (g i j)) else none
  | _, _ => none
theorem rd_iC {C : Int → Int → Prop} [∀ i j, Decidable (C i j)] {g : Int → Int → Int} : RD K cm (rI C fun i j => .int (g i j)) (iCD C g) := fun B H x y dx dy d e rx ry h Q q => by
  cases rx with
  | int i => cases ry with
    | int j =>
      have h : (if C i j then some (D.int (g i j)) else none) = some d := h
      split at h
      · rename_i hc; cases h; exact ⟨i, j, rfl, rfl, hc, q _ B H (Gro.refl e) (.int _)⟩
      · cases h
    | _ => cases h
  | _ => cases h
def bD (g : Int → Int → Bool) : D → D → Option D
  | .int i, .int j => some (.bl (g i j))
  | _, _ => none
theorem rd_b {g : Int → Int → Bool} : RD K cm (rI0 fun i j => .bl (g i j)) (bD g) := fun B H x y dx dy d e rx ry h Q q => by
  cases rx with
  | int i => cases ry with
    | int j => cases h; exact ⟨i, j, rfl, rfl, q _ B H (Gro.refl e) (.bl _)⟩
    | _ => cases h
  | _ => cases h
def nleB (n k : Nat) : Bool := n / (k + 1) == 0
theorem nleB_iff {n k : Nat} : nleB n k = true ↔ n ≤ k := by
  unfold nleB
  rw [beq_iff_eq, Nat.div_eq_zero_iff]
  omega
instance : ∀ i j, Decidable (CMulX i j) := fun i j => decidable_of_iff (nleB (Builtin.Int.intBits i + Builtin.Int.intBits j) 134217728 = true) (by
  rw [nleB_iff]
  show _ ↔ (_ : Int) ≤ _
  omega)
instance : ∀ i j, Decidable (CDivW i j) := fun i j => inferInstanceAs (Decidable (_ ∧ _))
instance : ∀ i j, Decidable (CPowW i j) := fun i j => inferInstanceAs (Decidable (_ ∧ _))
instance : ∀ i j, Decidable (CShl i j) := fun i j => decidable_of_iff (0 ≤ j ∧ nleB (Builtin.Int.intBits i + j.toNat) 134217728 = true) (by
  rw [nleB_iff]
  show _ ↔ _ ∧ (_ : Int) ≤ 2 ^ 27
  constructor <;> intro h <;> refine ⟨h.1, ?_⟩ <;> have := h.2 <;> have := h.1 <;> omega)
def CNz (_ j : Int) : Prop := j ≠ 0
def CNn (_ j : Int) : Prop := 0 ≤ j
instance : ∀ i j, Decidable (CNz i j) := fun i j => inferInstanceAs (Decidable (_ ≠ _))
instance : ∀ i j, Decidable (CNn i j) := fun i j => inferInstanceAs (Decidable (_ ≤ _))
abbrev subD := i0D fun i j => i - j
abbrev fdivD := iCD CDivW fun i j => i / j
abbrev modD := iCD CNz fun i j => i.fmod j
abbrev powD := iCD CPowW fun i j => i ^ j.toNat
abbrev shlD := iCD CShl fun i j => i * 2 ^ j.toNat
abbrev shrD := iCD CNn fun i j => i / 2 ^ j.toNat
abbrev andD := i0D Builtin.bitAnd
abbrev orD := i0D Builtin.bitOr
abbrev xorD := i0D Builtin.bitXor
abbrev ltD := bD fun i j => decide (i < j)
abbrev leD := bD fun i j => decide (i ≤ j)
abbrev gtD := bD fun i j => decide (j < i)
abbrev geD := bD fun i j => decide (j ≤ i)
/-- * : ints, a list and an int -/
abbrev rMulA : R2 := orR (rI CMulX fun i j => .int (i * j)) rRep
theorem op_mulA {X : Cx} : OpR X (binaryOp .Mult) rMulA := opOr op_mulX op_rep
def repD (xs : List D) (k : Int) : Option (List D) := if -(2 ^ 63) ≤ k ∧ k < 2 ^ 63 ∧ xs.length * k.toNat ≤ sizeLine then some (List.replicate k.toNat xs).flatten else none
def mulD : D → D → Option D
  | .int i, .int j => if CMulX i j then some (.int (i * j)) else none
  | .lst xs, .int k => match repD xs k with | some ys => some (.lst ys) | none => none
  | _, _ => none
theorem Reps.rep {B : Hp} {xs : List V} {ds : List D} (r : Reps K cm B xs ds) : ∀ n : Nat, Reps K cm B (List.replicate n xs).flatten (List.replicate n ds).flatten
  | 0 => .nil
  | n + 1 => by
    rw [List.replicate_succ, List.replicate_succ, List.flatten_cons, List.flatten_cons]
    exact r.app (Reps.rep r n)
theorem rd_mul : RD K cm rMulA mulD := fun B H x y dx dy d e rx ry h Q q => by
  cases rx with
  | int i => cases ry with
    | int j =>
      have h : (if CMulX i j then some (D.int (i * j)) else none) = some d := h
      split at h
      · rename_i hc; cases h; exact .inl ⟨i, j, rfl, rfl, hc, q _ B H (Gro.refl e) (.int _)⟩
      · cases h
    | _ => cases h
  | @lst a xs ds ha ra => cases ry with
    | int k =>
      have h : (match repD ds k with | some ys => some (D.lst ys) | none => none) = some d := h
      unfold repD at h
      split at h
      · rename_i ys hy
        split at hy
        · rename_i hc
          cases hy
          cases h
          refine .inr ⟨a, k, xs, rfl, rfl, e _ _ ha, hc.1, hc.2.1, by rw [ra.len]; exact hc.2.2, fun p hp => ?_⟩
          have g := Gro.new (o := .lst (List.replicate k.toNat xs).flatten) e hp
          exact q _ _ _ g (.lst upd_same ((ra.rep _).mono g.bb))
        · cases hy
      · cases h
    | _ => cases h
  | _ => cases h
/-! == of data -/
mutual
def toP : D → Option PyData
  | .non => some .none
  | .bl b => some (.bool b)
  | .int i => some (.int i)
  | .str s => some (.str s)
  | .lst xs => (toPs xs).map .list
  | .scr xs => (toPs xs).map .list
  | .tup xs => (toPs xs).map .tuple
  | _ => none
def toPs : List D → Option (List PyData)
  | [] => some []
  | x :: r => match toP x, toPs r with | some p, some q => some (p :: q) | _, _ => none
end
mutual
theorem dp_of {B H : Hp} (e : Ex B H) : ∀ {v : V} {d : D} {p : PyData}, Rep K cm B v d → toP d = some p → Dp K H v p
  | _, _, _, .non, h => by cases h; exact .non
  | _, _, _, .bl b, h => by cases h; exact .bl b
  | _, _, _, .int i, h => by cases h; exact .int i
  | _, _, _, .str s, h => by cases h; exact .str s
  | _, .lst ds, p, .lst ha r, h => by
    have h : (toPs ds).map PyData.list = some p := h
    cases hq : toPs ds with
    | none => rw [hq] at h; cases h
    | some q => rw [hq] at h; cases h; exact .lst (sq_of (e _ _ ha)) (dps_of e r hq)
  | _, .scr ds, p, .scr ha r, h => by
    have h : (toPs ds).map PyData.list = some p := h
    cases hq : toPs ds with
    | none => rw [hq] at h; cases h
    | some q => rw [hq] at h; cases h; exact .lst (ex_l e ha) (dps_of e r hq)
  | _, .tup ds, p, .tup ha r, h => by
    have h : (toPs ds).map PyData.tuple = some p := h
    cases hq : toPs ds with
    | none => rw [hq] at h; cases h
    | some q => rw [hq] at h; cases h; exact .tup (ex_t e ha) (dps_of e r hq)
  | _, _, _, .dic _ _ _, h => by cases h
  | _, _, _, .ins _ _ _, h => by cases h
theorem dps_of {B H : Hp} (e : Ex B H) : ∀ {vs : List V} {ds : List D} {ps : List PyData}, Reps K cm B vs ds → toPs ds = some ps → DpAll K H vs ps
  | _, _, _, .nil, h => by cases h; exact .nil
  | _, d :: ds, ps, .cons r1 r2, h => by
    have h : (match toP d, toPs ds with | some p, some q => some (p :: q) | _, _ => none) = some ps := h
    split at h
    · rename_i p q h1 h2
      cases h
      exact .cons (dp_of e r1 h1) (dps_of e r2 h2)
    · cases h
end
def eqD (neg : Bool) (x y : D) : Option D := match x, y with
  | .str a, .str b => some (.bl (if neg then !(a == b) else a == b))
  | x, y => match toP x, toP y with | some p, some q => if SeqAt.shaped p = true ∧ SeqAt.shaped q = true then some (.bl (if neg then !PyData.eqv p q else PyData.eqv p q)) else none | _, _ => none
theorem dec_strB {a b : Str} : decide (V.str a = V.str b) = (a == b) := by
  rw [Bool.eq_iff_iff, decide_eq_true_iff, beq_iff_eq]
  exact ⟨fun h => by cases h; rfl, fun h => by rw [h]⟩
theorem rd_eq : RD K cm (orR rEq (rEqD K)) (eqD false) := fun B H x y dx dy d e rx ry h Q q => by
  unfold eqD at h
  split at h
  · cases rx
    cases ry
    cases h
    exact .inl ⟨rfl, by rw [dec_strB]; exact q _ B H (Gro.refl e) (.bl _)⟩
  · split at h
    · rename_i p1 p2 h1 h2
      split at h
      · rename_i hs
        cases h
        exact .inr ⟨p1, p2, dp_of e rx h1, dp_of e ry h2, hs.1, hs.2, q _ B H (Gro.refl e) (.bl _)⟩
      · cases h
    · cases h
theorem rd_ne : RD K cm (orR rNe (rNeD K)) (eqD true) := fun B H x y dx dy d e rx ry h Q q => by
  unfold eqD at h
  split at h
  · cases rx
    cases ry
    cases h
    exact .inl ⟨rfl, by rw [dec_strB]; exact q _ B H (Gro.refl e) (.bl _)⟩
  · split at h
    · rename_i p1 p2 h1 h2
      split at h
      · rename_i hs
        cases h
        exact .inr ⟨p1, p2, dp_of e rx h1, dp_of e ry h2, hs.1, hs.2, q _ B H (Gro.refl e) (.bl _)⟩
      · cases h
    · cases h
def isNon : D → Bool
  | .non => true
  | _ => false
theorem isNon_v {B : Hp} {v : V} {d : D} (r : Rep K cm B v d) : decide (v = .non) = isNon d := by cases r <;> rfl
def isD (neg : Bool) : D → D → Option D
  | x, .non => some (.bl (if neg then !isNon x else isNon x))
  | .bl a, .bl b => some (.bl (if neg then !decide (a = b) else decide (a = b)))
  | _, _ => none
abbrev rIsA : R2 := orR (fun x y H Q => y = .non ∧ Q (.bl (decide (x = .non))) H) rIsB
abbrev rNotA : R2 := orR (fun x y H Q => y = .non ∧ Q (.bl (!decide (x = .non))) H) rNotB
theorem op_isA {X : Cx} : OpR X (compareOp .Is) rIsA := opOr op_isN op_isBl
theorem op_notA {X : Cx} : OpR X (compareOp .IsNot) rNotA := opOr op_notN op_notBl
theorem rd_is : RD K cm rIsA (isD false) := fun B H x y dx dy d e rx ry h Q q => by
  cases ry with
  | non =>
    have h : some (D.bl (isNon dx)) = some d := by cases dx <;> exact h
    cases h
    exact .inl ⟨rfl, by rw [isNon_v rx]; exact q _ B H (Gro.refl e) (.bl _)⟩
  | bl b =>
    cases rx with
    | bl a => cases h; exact .inr ⟨a, b, rfl, rfl, q _ B H (Gro.refl e) (.bl _)⟩
    | _ => cases h
  | _ => cases rx <;> cases h
theorem rd_not : RD K cm rNotA (isD true) := fun B H x y dx dy d e rx ry h Q q => by
  cases ry with
  | non =>
    have h : some (D.bl (!isNon dx)) = some d := by cases dx <;> exact h
    cases h
    exact .inl ⟨rfl, by rw [isNon_v rx]; exact q _ B H (Gro.refl e) (.bl _)⟩
  | bl b =>
    cases rx with
    | bl a => cases h; exact .inr ⟨a, b, rfl, rfl, q _ B H (Gro.refl e) (.bl _)⟩
    | _ => cases h
  | _ => cases rx <;> cases h
/-! in -/
def flatB (d : D) : Bool := match d with | .non => true | .bl _ => true | .int _ => true | .str _ => true | _ => false
def eqF : D → D → Bool
  | .non, .non => true
  | .bl a, .bl b => a == b
  | .bl a, .int b => (if a then 1 else 0) == b
  | .int a, .bl b => a == (if b then 1 else 0)
  | .int a, .int b => a == b
  | .str a, .str b => a == b
  | _, _ => false
theorem flat_v {B : Hp} {v : V} {d : D} (r : Rep K cm B v d) (h : flatB d = true) : flatV v = true := by cases r <;> first | rfl | cases h
theorem flats_v {B : Hp} : ∀ {vs : List V} {ds : List D}, Reps K cm B vs ds → ds.all flatB = true → vs.all flatV = true
  | _, _, .nil, _ => rfl
  | _, _, .cons r t, h => by
    rw [List.all_cons, Bool.and_eq_true] at h ⊢
    exact ⟨flat_v r h.1, flats_v t h.2⟩
theorem eqf_v {B : Hp} {v w : V} {d f : D} (r : Rep K cm B v d) (r' : Rep K cm B w f) (h : flatB d = true) (h' : flatB f = true) : eqV v w = eqF d f := by
  cases r <;> cases r' <;> first | rfl | cases h | cases h'
theorem inv_v {B : Hp} {v : V} {d : D} (r : Rep K cm B v d) (h : flatB d = true) : ∀ {vs : List V} {ds : List D}, Reps K cm B vs ds → ds.all flatB = true → inV v vs = ds.any fun y => eqF y d
  | _, _, .nil, _ => rfl
  | _, _, .cons r2 t, h2 => by
    rw [List.all_cons, Bool.and_eq_true] at h2
    have ih := inv_v r h t h2.2
    unfold inV at ih ⊢
    rw [List.any_cons, List.any_cons, ih, eqf_v r2 r h2.1 h]
def seqO : D → Option (List D)
  | .lst xs => some xs
  | .scr xs => some xs
  | .tup xs => some xs
  | _ => none
theorem seqO_sq {B : Hp} {v : V} {d : D} {ds : List D} (r : Rep K cm B v d) (h : seqO d = some ds) : ∃ a xs, v = .ref a ∧ (SqL K B a xs ∨ SqT K B a xs) ∧ Reps K cm B xs ds := by
  cases r with
  | lst a r => cases h; exact ⟨_, _, rfl, .inl (sq_of a), r⟩
  | scr a r => cases h; exact ⟨_, _, rfl, .inl a, r⟩
  | tup a r => cases h; exact ⟨_, _, rfl, .inr a, r⟩
  | _ => cases h
theorem sq_ex {B H : Hp} {a : Addr} {xs : List V} (e : Ex B H) (h : SqL K B a xs ∨ SqT K B a xs) : SqL K H a xs ∨ SqT K H a xs := h.imp (ex_l e) (ex_t e)
abbrev rInA (K : PySem.W.Frag) (neg : Bool) : R2 := orR (rIn K neg) (orR (fun x y H Q => ∃ i j, x = .str i ∧ y = .str j ∧ Q (.bl (if neg then !(!(Builtin.Str.occurrences j i 0 j.length 1).isEmpty) else !(Builtin.Str.occurrences j i 0 j.length 1).isEmpty)) H) (if neg then rNotInD K else rInD K))
theorem op_inA {X : Cx} (hu : X.A.units + 65 < cLine) : OpR X (compareOp .In) (rInA X.K false) := opOr op_in_seq (opOr op_in_str (op_inD hu))
theorem op_ninA {X : Cx} (hu : X.A.units + 65 < cLine) : OpR X (compareOp .NotIn) (rInA X.K true) := opOr op_notIn_seq (opOr op_notIn_str (op_notInD hu))
def inD (neg : Bool) (x y : D) : Option D := match y with
  | .str j => match x with | .str i => some (.bl (if neg then !(!(Builtin.Str.occurrences j i 0 j.length 1).isEmpty) else !(Builtin.Str.occurrences j i 0 j.length 1).isEmpty)) | _ => none
  | y => match seqO y with
    | none => none
    | some ds => if flatB x = true ∧ ds.all flatB = true then some (.bl (if neg then !(ds.any fun y => eqF y x) else ds.any fun y => eqF y x)) else
      match y, toP x, toPs ds with
      | .tup _, _, _ => none
      | _, some p, some ps => if SeqAt.shaped p = true ∧ SeqAt.shaped (.list ps) = true then some (.bl (if neg then !(ps.any fun z => PyData.eqv z p) else ps.any fun z => PyData.eqv z p)) else none
      | _, _, _ => none
theorem rd_in {neg : Bool} : RD K cm (rInA K neg) (inD neg) := fun B H x y dx dy d e rx ry h Q q => by
  unfold inD at h
  split at h
  · split at h
    · cases ry
      cases rx
      cases h
      exact .inr (.inl ⟨_, _, rfl, rfl, q _ B H (Gro.refl e) (.bl _)⟩)
    · cases h
  · split at h
    · cases h
    · rename_i ds hds
      split at h
      · rename_i hf
        cases h
        obtain ⟨a, xs, rfl, ha, ra⟩ := seqO_sq ry hds
        refine .inl ⟨a, xs, rfl, sq_ex e ha, flat_v rx hf.1, flats_v ra hf.2, ?_⟩
        rw [inv_v rx hf.1 ra hf.2]
        exact q _ B H (Gro.refl e) (.bl _)
      · split at h
        · cases h
        · rename_i p ps hn hp hps hx9
          split at h
          · rename_i hs
            cases h
            have hd : Dp K H y (.list ps) := by
              cases ry with
              | lst ha r => cases hds; exact .lst (sq_of (e _ _ ha)) (dps_of e r hps)
              | scr ha r => cases hds; exact .lst (ex_l e ha) (dps_of e r hps)
              | tup ha r => exact absurd rfl (hn _ )
              | _ => cases hds
            refine .inr (.inr ?_)
            cases neg
            · exact ⟨p, ps, dp_of e rx hp, hd, hs.1, hs.2, q _ B H (Gro.refl e) (.bl _)⟩
            · exact ⟨p, ps, dp_of e rx hp, hd, hs.1, hs.2, q _ B H (Gro.refl e) (.bl _)⟩
          · cases h
        · cases h
/-! a[i] -/
theorem ixOr {X : Cx} {r r' : R2} (h : IxR X r) (h' : IxR X r') : IxR X (orR r r') := fun a b pins s σ H x y v u Q I rx ry q => q.elim (h a b pins s σ H x y v u Q I rx ry) (h' a b pins s σ H x y v u Q I rx ry)
abbrev rIxA (K : PySem.W.Frag) : R2 := orR (rIxL K) (orR (rIxT K) rIxS)
theorem ix_A {X : Cx} : IxR X (rIxA X.K) := ixOr ix_list (ixOr ix_tup ix_str)
def ixD (x y : D) : Option D := match y with
  | .int i => (match x with
    | .str z => if z.length ≤ sizeLine then (match atI z.cps.toList i with | some c => some (.str ⟨#[c]⟩) | none => none) else none
    | x => match seqO x with | some ds => atI ds i | none => none)
  | _ => none
theorem atI_reps {B : Hp} {xs : List V} {ds : List D} {i : Int} {d : D} (r : Reps K cm B xs ds) (h : atI ds i = some d) : ∃ v, atI xs i = some v ∧ Rep K cm B v d := by
  unfold atI at h ⊢
  rw [r.len]
  cases hk : ixN ds.length i with
  | none => rw [hk] at h; cases h
  | some k => rw [hk] at h; exact r.get h
theorem rd_ix : RD K cm (rIxA K) ixD := fun B H x y dx dy d e rx ry h Q q => by
  unfold ixD at h
  split at h
  · rename_i i
    cases ry
    split at h
    · cases rx
      split at h
      · rename_i hl
        split at h
        · rename_i c hc
          cases h
          exact .inr (.inr ⟨_, i, c, rfl, rfl, hl, hc, q _ B H (Gro.refl e) (.str _)⟩)
        · cases h
      · cases h
    · split at h
      · rename_i ds hds
        obtain ⟨a, xs, rfl, ha, ra⟩ := seqO_sq rx hds
        obtain ⟨v, hv, rv⟩ := atI_reps ra h
        rcases ha with ha | ha
        · exact .inl ⟨a, xs, i, v, rfl, rfl, ex_l e ha, hv, q v B H (Gro.refl e) rv⟩
        · exact .inr (.inl ⟨a, xs, i, v, rfl, rfl, ex_t e ha, hv, q v B H (Gro.refl e) rv⟩)
      · cases h
  · cases h
/-! unary -/
def negD : D → Option D
  | .int i => some (.int (-i))
  | _ => none
theorem rud_neg : RUD K cm (rU fun i => .int (-i)) negD := fun B H x dx d e rx h Q q => by
  cases rx with
  | int i => cases h; exact ⟨i, rfl, q _ B H (Gro.refl e) (.int _)⟩
  | _ => cases h
end
end Mir

set_option Elab.async false
set_option linter.all false
set_option maxRecDepth 100000
set_option maxHeartbeats 2000000
namespace Mir
open PySem PySem.Spec PyProof.Rows L2 Evl WS
/-! ### built-in calls -/
def intsO : List D → Option (List Int)
  | [] => some []
  | .int i :: r => match intsO r with | some ns => some (i :: ns) | none => none
  | _ :: _ => none
def blsO : List D → Option (List Bool)
  | [] => some []
  | .bl i :: r => match blsO r with | some ns => some (i :: ns) | none => none
  | _ :: _ => none
def strsO : List D → Option (List Str)
  | [] => some []
  | .str i :: r => match strsO r with | some ns => some (i :: ns) | none => none
  | _ :: _ => none
section
variable {K : PySem.W.Frag} {cm : CM}
theorem intsO_v {B : Hp} : ∀ {vs : List V} {ds : List D} {ns : List Int}, Reps K cm B vs ds → intsO ds = some ns → vs = ns.map V.int
  | _, _, _, .nil, h => by cases h; rfl
  | _, d :: ds, ns, .cons r t, h => by
    cases r with
    | int i =>
      have h : (match intsO ds with | some ns => some (i :: ns) | none => none) = some ns := h
      split at h
      · rename_i ms hm
        cases h
        rw [intsO_v t hm]
        rfl
      · cases h
    | _ => cases h
theorem blsO_v {B : Hp} : ∀ {vs : List V} {ds : List D} {ns : List Bool}, Reps K cm B vs ds → blsO ds = some ns → vs = ns.map V.bl
  | _, _, _, .nil, h => by cases h; rfl
  | _, d :: ds, ns, .cons r t, h => by
    cases r with
    | bl i =>
      have h : (match blsO ds with | some ns => some (i :: ns) | none => none) = some ns := h
      split at h
      · rename_i ms hm
        cases h
        rw [blsO_v t hm]
        rfl
      · cases h
    | _ => cases h
theorem strsO_v {B : Hp} : ∀ {vs : List V} {ds : List D} {ns : List Str}, Reps K cm B vs ds → strsO ds = some ns → vs = ns.map V.str
  | _, _, _, .nil, h => by cases h; rfl
  | _, d :: ds, ns, .cons r t, h => by
    cases r with
    | str i =>
      have h : (match strsO ds with | some ns => some (i :: ns) | none => none) = some ns := h
      split at h
      · rename_i ms hm
        cases h
        rw [strsO_v t hm]
        rfl
      · cases h
    | _ => cases h
theorem Reps.of_strs {B : Hp} : ∀ (ns : List Str), Reps K cm B (ns.map V.str) (ns.map D.str)
  | [] => .nil
  | n :: r => .cons (.str n) (Reps.of_strs r)
theorem reps1 {B : Hp} {vs : List V} {d : D} (r : Reps K cm B vs [d]) : ∃ v, vs = [v] ∧ Rep K cm B v d := by
  cases r with
  | cons r1 r2 => cases r2; exact ⟨_, rfl, r1⟩
theorem reps2 {B : Hp} {vs : List V} {d f : D} (r : Reps K cm B vs [d, f]) : ∃ v w, vs = [v, w] ∧ Rep K cm B v d ∧ Rep K cm B w f := by
  cases r with
  | cons r1 r2 =>
    obtain ⟨w, rfl, r3⟩ := reps1 r2
    exact ⟨_, w, rfl, r1, r3⟩
/-- one argument -/
def one (f : D → Option D) : List D → Option D
  | [d] => f d
  | _ => none
def two (f : D → D → Option D) : List D → Option D
  | [d, e] => f d e
  | _ => none
theorem one_some {f : D → Option D} {ds : List D} {d : D} (h : one f ds = some d) : ∃ x, ds = [x] ∧ f x = some d := by
  unfold one at h
  split at h
  · exact ⟨_, rfl, h⟩
  · cases h
theorem two_some {f : D → D → Option D} {ds : List D} {d : D} (h : two f ds = some d) : ∃ x y, ds = [x, y] ∧ f x y = some d := by
  unfold two at h
  split at h
  · exact ⟨_, _, rfl, h⟩
  · cases h
/-! len -/
abbrev orC (r r' : List V → Hp → VK → Prop) : List V → Hp → VK → Prop := fun xs H Q => r xs H Q ∨ r' xs H Q
def rLenS' : List V → Hp → VK → Prop := fun xs H Q => ∃ z, xs = [.str z] ∧ z.length ≤ sizeLine ∧ Q (.int z.length) H
abbrev rLenA (K : PySem.W.Frag) := orC (rLenS K) rLenS'
theorem cr_lenA {X : Cx} : CallR X (.builtin "len") (rLenA X.K) := CallR.or call_len_seq call_len_str
def lenD : D → Option D
  | .str z => if z.length ≤ sizeLine then some (.int z.length) else none
  | d => match seqO d with | some ds => some (.int ds.length) | none => none
theorem rcd_len : RCD K cm (rLenA K) (one lenD) := fun B H xs ds d e r h Q q => by
  obtain ⟨x, rfl, hh⟩ := one_some h
  replace h := hh
  clear hh
  obtain ⟨v, rfl, rv⟩ := reps1 r
  unfold lenD at h
  split at h
  · cases rv
    split at h
    · rename_i hl
      cases h
      exact .inr ⟨_, rfl, hl, q _ B H (Gro.refl e) (.int _)⟩
    · cases h
  · split at h
    · rename_i es hes
      cases h
      obtain ⟨a, ys, rfl, ha, ra⟩ := seqO_sq rv hes
      refine .inl ⟨a, ys, rfl, sq_ex e ha, ?_⟩
      rw [ra.len]
      exact q _ B H (Gro.refl e) (.int _)
    · cases h
/-! sum, min, max, abs, int -/
def sumD (d : D) : Option D := match lsO d with | some ds => (match intsO ds with | some ns => some (.int ns.sum) | none => none) | none => none
theorem rcd_sum : RCD K cm (rSum K) (one sumD) := fun B H xs ds d e r h Q q => by
  obtain ⟨x, rfl, hh⟩ := one_some h
  replace h := hh
  clear hh
  obtain ⟨v, rfl, rv⟩ := reps1 r
  unfold sumD at h
  split at h
  · rename_i es hes
    split at h
    · rename_i ns hns
      cases h
      obtain ⟨a, ys, rfl, ha, ra⟩ := lsO_sq rv hes
      have := intsO_v ra hns
      subst this
      exact ⟨a, ns, rfl, ex_l e ha, q _ B H (Gro.refl e) (.int _)⟩
    · cases h
  · cases h
def maxI : List Int → Option Int
  | [] => none
  | x :: r => match maxI r with | none => some x | some m => some (if m > x then m else x)
def minI : List Int → Option Int
  | [] => none
  | x :: r => match minI r with | none => some x | some m => some (if m < x then m else x)
theorem maxI_eq : ∀ {ns : List Int} {m k : Int}, maxI ns = some m → k ∈ ns → (∀ y ∈ ns, y ≤ k) → k = m
  | [], _, _, _, h, _ => by cases h
  | x :: r, m, k, h, hk, hle => by
    have key : ∀ {ns : List Int} {m : Int}, maxI ns = some m → m ∈ ns ∧ ∀ y ∈ ns, y ≤ m := by
      intro ns
      induction ns with
      | nil => intro m h; cases h
      | cons x r ih =>
        intro m h
        unfold maxI at h
        split at h
        · rename_i hr
          cases h
          cases r with
          | nil => exact ⟨List.mem_cons_self, fun y hy => by cases hy with | head => exact Int.le_refl _ | tail _ z => cases z⟩
          | cons a t =>
            unfold maxI at hr
            split at hr <;> cases hr
        · rename_i m2 hr
          cases h
          obtain ⟨a, b⟩ := ih hr
          by_cases c : m2 > x
          · rw [if_pos c]
            exact ⟨List.mem_cons_of_mem _ a, fun y hy => by
              cases hy with
              | head => omega
              | tail _ z => exact b y z⟩
          · rw [if_neg c]
            exact ⟨List.mem_cons_self, fun y hy => by
              cases hy with
              | head => exact Int.le_refl _
              | tail _ z => have := b y z; omega⟩
    obtain ⟨a, b⟩ := key h
    exact Int.le_antisymm (b k hk) (hle m a)
theorem minI_eq : ∀ {ns : List Int} {m k : Int}, minI ns = some m → k ∈ ns → (∀ y ∈ ns, k ≤ y) → k = m
  | [], _, _, _, h, _ => by cases h
  | x :: r, m, k, h, hk, hle => by
    have key : ∀ {ns : List Int} {m : Int}, minI ns = some m → m ∈ ns ∧ ∀ y ∈ ns, m ≤ y := by
      intro ns
      induction ns with
      | nil => intro m h; cases h
      | cons x r ih =>
        intro m h
        unfold minI at h
        split at h
        · rename_i hr
          cases h
          cases r with
          | nil => exact ⟨List.mem_cons_self, fun y hy => by cases hy with | head => exact Int.le_refl _ | tail _ z => cases z⟩
          | cons a t =>
            unfold minI at hr
            split at hr <;> cases hr
        · rename_i m2 hr
          cases h
          obtain ⟨a, b⟩ := ih hr
          by_cases c : m2 < x
          · rw [if_pos c]
            exact ⟨List.mem_cons_of_mem _ a, fun y hy => by
              cases hy with
              | head => omega
              | tail _ z => exact b y z⟩
          · rw [if_neg c]
            exact ⟨List.mem_cons_self, fun y hy => by
              cases hy with
              | head => exact Int.le_refl _
              | tail _ z => have := b y z; omega⟩
    obtain ⟨a, b⟩ := key h
    exact Int.le_antisymm (hle m a) (b k hk)
def mmD (f : List Int → Option Int) (d : D) : Option D := match lsO d with | some ds => (match intsO ds with | some ns => (match f ns with | some m => some (.int m) | none => none) | none => none) | none => none
theorem rcd_max : RCD K cm (rMax K) (one (mmD maxI)) := fun B H xs ds d e r h Q q => by
  obtain ⟨x, rfl, hh⟩ := one_some h
  replace h := hh
  clear hh
  obtain ⟨v, rfl, rv⟩ := reps1 r
  unfold mmD at h
  split at h
  · rename_i es hes
    split at h
    · rename_i ns hns
      split at h
      · rename_i m hm
        cases h
        obtain ⟨a, ys, rfl, ha, ra⟩ := lsO_sq rv hes
        have := intsO_v ra hns
        subst this
        refine ⟨a, ns, rfl, ex_l e ha, ?_, fun k hk hle => ?_⟩
        · cases ns with
          | nil => cases hm
          | cons a r => simp
        · rw [maxI_eq hm hk hle]
          exact q _ B H (Gro.refl e) (.int _)
      · cases h
    · cases h
  · cases h
theorem rcd_min : RCD K cm (rMin K) (one (mmD minI)) := fun B H xs ds d e r h Q q => by
  obtain ⟨x, rfl, hh⟩ := one_some h
  replace h := hh
  clear hh
  obtain ⟨v, rfl, rv⟩ := reps1 r
  unfold mmD at h
  split at h
  · rename_i es hes
    split at h
    · rename_i ns hns
      split at h
      · rename_i m hm
        cases h
        obtain ⟨a, ys, rfl, ha, ra⟩ := lsO_sq rv hes
        have := intsO_v ra hns
        subst this
        refine ⟨a, ns, rfl, ex_l e ha, ?_, fun k hk hle => ?_⟩
        · cases ns with
          | nil => cases hm
          | cons a r => simp
        · rw [minI_eq hm hk hle]
          exact q _ B H (Gro.refl e) (.int _)
      · cases h
    · cases h
  · cases h
theorem rcd_i2 {g : Int → Int → Int} : RCD K cm (fun xs H Q => ∃ i j, xs = [.int i, .int j] ∧ Q (.int (g i j)) H) (two (i0D g)) := fun B H xs ds d e r h Q q => by
  obtain ⟨x, y, rfl, hh⟩ := two_some h
  replace h := hh
  clear hh
  obtain ⟨v, w, rfl, rv, rw'⟩ := reps2 r
  unfold i0D at h
  split at h
  · cases rv
    cases rw'
    cases h
    exact ⟨_, _, rfl, q _ B H (Gro.refl e) (.int _)⟩
  · cases h
def i1D (g : Int → Int) : D → Option D
  | .int i => some (.int (g i))
  | _ => none
theorem rcd_i1 {g : Int → Int} : RCD K cm (fun xs H Q => ∃ i, xs = [.int i] ∧ Q (.int (g i)) H) (one (i1D g)) := fun B H xs ds d e r h Q q => by
  obtain ⟨x, rfl, hh⟩ := one_some h
  replace h := hh
  clear hh
  obtain ⟨v, rfl, rv⟩ := reps1 r
  unfold i1D at h
  split at h
  · cases rv
    cases h
    exact ⟨_, rfl, q _ B H (Gro.refl e) (.int _)⟩
  · cases h
def intD : D → Option D
  | .int i => some (.int i)
  | .bl k => some (.int (if k then 1 else 0))
  | _ => none
theorem rcd_int : RCD K cm rInt1 (one intD) := fun B H xs ds d e r h Q q => by
  obtain ⟨x, rfl, hh⟩ := one_some h
  replace h := hh
  clear hh
  obtain ⟨v, rfl, rv⟩ := reps1 r
  cases rv with
  | int i => cases h; exact .inl ⟨i, rfl, q _ B H (Gro.refl e) (.int _)⟩
  | bl k => cases h; exact .inr ⟨k, rfl, q _ B H (Gro.refl e) (.int _)⟩
  | _ => cases h
def alD (f : List Bool → Bool) (d : D) : Option D := match lsO d with | some ds => (match blsO ds with | some ns => some (.bl (f ns)) | none => none) | none => none
theorem rcd_all : RCD K cm (rAll K) (one (alD fun bs => bs.all id)) := fun B H xs ds d e r h Q q => by
  obtain ⟨x, rfl, hh⟩ := one_some h
  replace h := hh
  clear hh
  obtain ⟨v, rfl, rv⟩ := reps1 r
  unfold alD at h
  split at h
  · rename_i es hes
    split at h
    · rename_i ns hns
      cases h
      obtain ⟨a, ys, rfl, ha, ra⟩ := lsO_sq rv hes
      have := blsO_v ra hns
      subst this
      exact ⟨a, ns, rfl, ex_l e ha, q _ B H (Gro.refl e) (.bl _)⟩
    · cases h
  · cases h
theorem rcd_any : RCD K cm (rAny K) (one (alD fun bs => bs.any id)) := fun B H xs ds d e r h Q q => by
  obtain ⟨x, rfl, hh⟩ := one_some h
  replace h := hh
  clear hh
  obtain ⟨v, rfl, rv⟩ := reps1 r
  unfold alD at h
  split at h
  · rename_i es hes
    split at h
    · rename_i ns hns
      cases h
      obtain ⟨a, ys, rfl, ha, ra⟩ := lsO_sq rv hes
      have := blsO_v ra hns
      subst this
      exact ⟨a, ns, rfl, ex_l e ha, q _ B H (Gro.refl e) (.bl _)⟩
    · cases h
  · cases h
/-! list(..), tuple(..), sorted(..) : new lists -/
def listD (d : D) : Option D := match seqO d with | some ds => some (.lst ds) | none => none
theorem rcd_list : RCD K cm (rListS K) (one listD) := fun B H xs ds d e r h Q q => by
  obtain ⟨x, rfl, hh⟩ := one_some h
  replace h := hh
  clear hh
  obtain ⟨v, rfl, rv⟩ := reps1 r
  unfold listD at h
  split at h
  · rename_i es hes
    cases h
    obtain ⟨a, ys, rfl, ha, ra⟩ := seqO_sq rv hes
    refine ⟨a, ys, rfl, sq_ex e ha, fun p hp => ?_⟩
    have g := Gro.new (o := .lst ys) e hp
    exact q _ _ _ g (.lst upd_same (ra.mono g.bb))
  · cases h
/-- the same, kept as a thing of its own -/
def listF (ma : ML) : MO := fun e => bnd (ma e) fun xs e1 => match xs with | [d] => (match seqO d with | some ds => some (.lst ds, e1) | none => none) | _ => none
theorem df_list {tr : TA} {mr : ML} (ha : DA K cm tr mr) : DF K cm (tCB (rListS K) tr) (listF mr) := fun s k o e' h Q q => by
  obtain ⟨x, e1, h1, h⟩ := bnd_some h
  split at h
  · rename_i d
    split at h
    · rename_i ds hds
      cases h
      refine ha s k _ _ h1 _ fun vs B1 H1 s1 k1 r1 => ?_
      obtain ⟨v, rfl, rv⟩ := reps1 r1
      obtain ⟨a, ys, rfl, hy, ry⟩ := seqO_sq rv hds
      refine ⟨a, ys, rfl, sq_ex k1.bh hy, fun p hp => ?_⟩
      have g := Gro.lay k1.bh (Ex.new (o := .lst ys) hp)
      have nO : ¬ OwnA ⟨B1, H1, s.σ, e'⟩ p := notOwnA k1 hp
      exact q p _ _ (s1.trans (g.step (s := ⟨B1, H1, s.σ, e'⟩))) (g.ok (s := ⟨B1, H1, s.σ, e'⟩) k1) (s1.dm p hp) (fresh_back k1.bh hp) ⟨ys, upd_same, ry⟩ nO
    · cases h
  · cases h
def rTupS (K : PySem.W.Frag) : List V → Hp → VK → Prop := fun xs H Q => ∃ p ys, xs = [.ref p] ∧ ((SqL K H p ys ∧ ∀ l, H l = none → Q (.ref l) (upd H l (.tup ys))) ∨ (SqT K H p ys ∧ Q (.ref p) H))
def tupD (d : D) : Option D := match seqO d with | some ds => some (.tup ds) | none => none
theorem rcd_tup : RCD K cm (rTupS K) (one tupD) := fun B H xs ds d e r h Q q => by
  obtain ⟨x, rfl, hh⟩ := one_some h
  replace h := hh
  clear hh
  obtain ⟨v, rfl, rv⟩ := reps1 r
  cases rv with
  | @lst a ys es ha ra =>
    cases h
    refine ⟨a, ys, rfl, .inl ⟨sq_of (e _ _ ha), fun p hp => ?_⟩⟩
    have g := Gro.new (o := .tup ys) e hp
    exact q _ _ _ g (.tup (st_of upd_same) (ra.mono g.bb))
  | @scr a ys es ha ra =>
    cases h
    refine ⟨a, ys, rfl, .inl ⟨ex_l e ha, fun p hp => ?_⟩⟩
    have g := Gro.new (o := .tup ys) e hp
    exact q _ _ _ g (.tup (st_of upd_same) (ra.mono g.bb))
  | @tup a ys es ha ra =>
    cases h
    exact ⟨a, ys, rfl, .inr ⟨ex_t e ha, q _ B H (Gro.refl e) (.tup ha ra)⟩⟩
  | _ => cases h
def insI (x : Int) : List Int → List Int
  | [] => [x]
  | y :: r => if x ≤ y then x :: y :: r else y :: insI x r
def sortI : List Int → List Int
  | [] => []
  | x :: r => insI x (sortI r)
theorem insI_perm (x : Int) : ∀ ns : List Int, (insI x ns).Perm (x :: ns)
  | [] => .refl _
  | y :: r => by
    unfold insI
    split
    · exact .refl _
    · exact ((insI_perm x r).cons y).trans (.swap x y r)
theorem insI_up (x : Int) : ∀ {ns : List Int}, ns.Pairwise (· ≤ ·) → (insI x ns).Pairwise (· ≤ ·)
  | [], _ => List.pairwise_cons.mpr ⟨fun _ h => (nomatch h), .nil⟩
  | y :: r, h => by
    obtain ⟨h1, h2⟩ := List.pairwise_cons.mp h
    unfold insI
    split
    · rename_i c
      exact List.pairwise_cons.mpr ⟨fun z hz => by
        cases hz with
        | head => exact c
        | tail _ hz => exact Int.le_trans c (h1 z hz), h⟩
    · rename_i c
      exact List.pairwise_cons.mpr ⟨fun z hz => by
        have := (insI_perm x r).mem_iff.mp hz
        cases this with
        | head => omega
        | tail _ hz => exact h1 z hz, insI_up x h2⟩
theorem sortI_perm : ∀ ns : List Int, (sortI ns).Perm ns
  | [] => .refl _
  | x :: r => (insI_perm x _).trans ((sortI_perm r).cons x)
theorem sortI_up : ∀ ns : List Int, (sortI ns).Pairwise (· ≤ ·)
  | [] => .nil
  | x :: r => insI_up x (sortI_up r)
theorem sorted_one {xs ys : List Int} (p : xs.Perm ys) (a : xs.Pairwise (· ≤ ·)) (b : ys.Pairwise (· ≤ ·)) : xs = ys := p.eq_of_pairwise (fun _ _ _ _ h1 h2 => Int.le_antisymm h1 h2) a b
def sortD (d : D) : Option D := match lsO d with | some ds => (match intsO ds with | some ns => some (.lst ((sortI ns).map D.int)) | none => none) | none => none
theorem rcd_sort : RCD K cm (rSortedI K) (one sortD) := fun B H xs ds d e r h Q q => by
  obtain ⟨x, rfl, hh⟩ := one_some h
  replace h := hh
  clear hh
  obtain ⟨v, rfl, rv⟩ := reps1 r
  unfold sortD at h
  split at h
  · rename_i es hes
    split at h
    · rename_i ns hns
      cases h
      obtain ⟨a, ys, rfl, ha, ra⟩ := lsO_sq rv hes
      have := intsO_v ra hns
      subst this
      refine ⟨a, ns, rfl, ex_l e ha, fun ms p hp up hn => ?_⟩
      have : ms = sortI ns := sorted_one (hp.trans (sortI_perm ns).symm) up (sortI_up ns)
      subst this
      have g := Gro.new (o := .lst ((sortI ns).map V.int)) e hn
      exact q _ _ _ g (.lst upd_same (Reps.of_ints _))
    · cases h
  · cases h
/-! bit_length -/
def bitsD : D → Option D
  | .int i => some (.int (Builtin.Int.intBits i : Nat))
  | _ => none
theorem de_bits {te : TE} {m : M} (h : DE K cm te m) : DE K cm (tBits te) (unM bitsD m) := fun s k d e' hm Q q => by
  obtain ⟨x, e1, h1, hm⟩ := bnd_some hm
  obtain ⟨h2, rfl⟩ := rsl_some hm
  refine h s k x e1 h1 _ fun v B1 H1 s1 k1 r1 => ?_
  cases r1 with
  | int i => cases h2; exact ⟨i, rfl, q _ B1 H1 s1 k1 (.int _)⟩
  | _ => cases h2
/-! slices -/
def cutD (ds : List D) (lo hi : Option Int) : List D := (ds.drop (HT.sIx ds.length 0 lo)).take (HT.sIx ds.length ds.length hi - HT.sIx ds.length 0 lo)
theorem cut_reps {B : Hp} {xs : List V} {ds : List D} {lo hi : Option Int} (r : Reps K cm B xs ds) : Reps K cm B (cutV xs lo hi) (cutD ds lo hi) := by
  unfold cutV cutD
  rw [r.len]
  exact (r.drop _).take _
theorem slOr {X : Cx} {r r' : V → Option Int → Option Int → Hp → VK → Prop} (h : SlR X r) (h' : SlR X r') : SlR X (fun x lo hi H Q => r x lo hi H Q ∨ r' x lo hi H Q) := h.or h'
def rSlM (K : PySem.W.Frag) : V → Option Int → Option Int → Hp → VK → Prop := fun x lo hi H Q => rSlL K x lo hi H Q ∨ (rSlT K x lo hi H Q ∨ rSlS x lo hi H Q)
theorem sl_A {X : Cx} : SlR X (rSlM X.K) := SlR.or sl_list (SlR.or sl_tup sl_str)
def slD (d : D) (lo hi : Option Int) : Option D := match d with
  | .str z => if z.length ≤ sizeLine then some (.str (cutS z lo hi)) else none
  | .tup ds => if HT.sIx ds.length 0 lo = 0 ∧ HT.sIx ds.length ds.length hi = ds.length then none else some (.tup (cutD ds lo hi))
  | d => match lsO d with | some ds => some (.lst (cutD ds lo hi)) | none => none
def slM (m : M) (ml mh : MI) : M := fun e => bnd (m e) fun d e1 => bnd (ml e1) fun lo e2 => bnd (mh e2) fun hi e3 => rsl (slD d lo hi) e3
theorem de_sl {te : TE} {m : M} {tl th : TO} {ml mh : MI} (h : DE K cm te m) (hl : DI K cm tl ml) (hh : DI K cm th mh) : DE K cm (tSl (rSlM K) te tl th) (slM m ml mh) := fun s k d e' hm Q q => by
  obtain ⟨x, e1, h1, hm⟩ := bnd_some hm
  obtain ⟨lo, e2, h2, hm⟩ := bnd_some hm
  obtain ⟨hi, e3, h3, hm⟩ := bnd_some hm
  obtain ⟨h4, rfl⟩ := rsl_some hm
  refine h s k x e1 h1 _ fun v B1 H1 s1 k1 r1 => hl ⟨B1, H1, s.σ, e1⟩ k1 lo e2 h2 _ fun B2 H2 s2 k2 => hh ⟨B2, H2, s.σ, e2⟩ k2 hi e3 h3 _ fun B3 H3 s3 k3 => ?_
  have r3 := (r1.mono s2.bb).mono s3.bb
  have fin : ∀ {v : V} {B4 H4 : Hp}, Gro B3 H3 B4 H4 → Rep K cm B4 v d → Q v H4 := fun {v B4 H4} g r => q v B4 H4 (((s1.trans s2).trans s3).trans (g.step (s := ⟨B3, H3, s.σ, e3⟩))) (g.ok (s := ⟨B3, H3, s.σ, e3⟩) k3) r
  unfold slD at h4
  split at h4
  · cases r3
    split at h4
    · rename_i hz
      cases h4
      exact .inr (.inr ⟨_, rfl, hz, fin (Gro.refl k3.bh) (.str _)⟩)
    · cases h4
  · cases r3 with
    | @tup a ys ds ha ra =>
      split at h4
      · cases h4
      · rename_i hn
        cases h4
        refine .inr (.inl ⟨a, ys, rfl, ex_t k3.bh ha, by rw [ra.len]; exact hn, fun p hp => ?_⟩)
        have g := Gro.new (o := .tup (cutV ys lo hi)) k3.bh hp
        exact fin g (.tup (st_of upd_same) ((cut_reps ra).mono g.bb))
  · split at h4
    · rename_i ds hds
      cases h4
      obtain ⟨a, ys, rfl, ha, ra⟩ := lsO_sq r3 hds
      refine .inl ⟨a, ys, rfl, ex_l k3.bh ha, fun p hp => ?_⟩
      have g := Gro.new (o := .lst (cutV ys lo hi)) k3.bh hp
      exact fin g (.lst upd_same ((cut_reps ra).mono g.bb))
    · cases h4
/-! concatenation, kept as a thing of its own -/
def catF (ma mb : M) : MO := fun e => bnd (ma e) fun x e1 => bnd (mb e1) fun y e2 => match x, y with | .lst xs, .lst ys => if xs.length + ys.length ≤ sizeLine then some (.lst (xs ++ ys), e2) else none | _, _ => none
def repF (ma mb : M) : MO := fun e => bnd (ma e) fun x e1 => bnd (mb e1) fun y e2 => match x, y with | .lst xs, .int k => (match repD xs k with | some ys => some (.lst ys, e2) | none => none) | _, _ => none
theorem df_cat {ta tb : TE} {ma mb : M} (ha : DE K cm ta ma) (hb : DE K cm tb mb) : DF K cm (tOp (rAddA K) ta tb) (catF ma mb) := fun s k o e' h Q q => by
  obtain ⟨x, e1, h1, h⟩ := bnd_some h
  obtain ⟨y, e2, h2, h⟩ := bnd_some h
  split at h
  · rename_i xs ys
    split at h
    · rename_i hl
      cases h
      refine ha s k _ e1 h1 _ fun v B1 H1 s1 k1 r1 => hb ⟨B1, H1, s.σ, e1⟩ k1 _ _ h2 _ fun w B2 H2 s2 k2 r2 => ?_
      have r1 := r1.mono s2.bb
      cases r1 with
      | @lst a vs _ a1 a2 =>
        cases r2 with
        | @lst b ws _ b1 b2 =>
          refine .inr (.inl ⟨a, b, vs, ws, rfl, rfl, k2.bh _ _ a1, k2.bh _ _ b1, by rw [a2.len, b2.len]; exact hl, fun p hp => ?_⟩)
          have g := Gro.lay k2.bh (Ex.new (o := .lst (vs ++ ws)) hp)
          have nO : ¬ OwnA ⟨B2, H2, s.σ, e'⟩ p := notOwnA k2 hp
          exact q p _ _ ((s1.trans s2).trans (g.step (s := ⟨B2, H2, s.σ, e'⟩))) (g.ok (s := ⟨B2, H2, s.σ, e'⟩) k2) ((s1.trans s2).dm p hp) (fresh_back k2.bh hp) ⟨_, upd_same, a2.app b2⟩ nO
    · cases h
  · cases h
theorem df_rep {ta tb : TE} {ma mb : M} (ha : DE K cm ta ma) (hb : DE K cm tb mb) : DF K cm (tOp rMulA ta tb) (repF ma mb) := fun s k o e' h Q q => by
  obtain ⟨x, e1, h1, h⟩ := bnd_some h
  obtain ⟨y, e2, h2, h⟩ := bnd_some h
  split at h
  · rename_i xs kk hq9
    split at h
    · rename_i ys hy
      cases h
      refine ha s k _ e1 h1 _ fun v B1 H1 s1 k1 r1 => hb ⟨B1, H1, s.σ, e1⟩ k1 _ _ h2 _ fun w B2 H2 s2 k2 r2 => ?_
      have r1 := r1.mono s2.bb
      cases r1 with
      | @lst a vs _ a1 a2 =>
        cases r2 with
        | int _ =>
          unfold repD at hy
          split at hy
          · rename_i hc
            cases hy
            refine .inr ⟨a, kk, vs, rfl, rfl, k2.bh _ _ a1, hc.1, hc.2.1, by rw [a2.len]; exact hc.2.2, fun p hp => ?_⟩
            have g := Gro.lay k2.bh (Ex.new (o := .lst (List.replicate kk.toNat vs).flatten) hp)
            have nO : ¬ OwnA ⟨B2, H2, s.σ, e'⟩ p := notOwnA k2 hp
            exact q p _ _ ((s1.trans s2).trans (g.step (s := ⟨B2, H2, s.σ, e'⟩))) (g.ok (s := ⟨B2, H2, s.σ, e'⟩) k2) ((s1.trans s2).dm p hp) (fresh_back k2.bh hp) ⟨_, upd_same, a2.rep _⟩ nO
          · cases hy
    · cases h
  · cases h
/-! repr -/
def reprD (d : D) : Option D := match d with
  | .lst _ => go d
  | .scr _ => go d
  | .tup _ => go d
  | _ => none
where go (d : D) : Option D := match toP d with | some p => if p.showable = true ∧ p.hasDict = false ∧ p.depth ≤ 50 ∧ p.shown.length ≤ sizeLine then some (.str p.shown) else none | none => none
theorem rcd_repr : RCD K cm (rRepr K) (one reprD) := fun B H xs ds d e r h Q q => by
  obtain ⟨x, rfl, hh⟩ := one_some h
  replace h := hh
  clear hh
  obtain ⟨v, rfl, rv⟩ := reps1 r
  have hg : reprD.go x = some d ∧ ∃ a, v = .ref a := by
    cases rv <;> first | exact ⟨h, _, rfl⟩ | cases h
  obtain ⟨hg, a, rfl⟩ := hg
  unfold reprD.go at hg
  split at hg
  · rename_i p hp
    split at hg
    · rename_i hc
      cases hg
      exact ⟨a, p, rfl, dp_of e rv hp, hc.1, hc.2.1, hc.2.2.1, hc.2.2.2, q _ B H (Gro.refl e) (.str _)⟩
    · cases hg
  · cases hg
end
end Mir

set_option Elab.async false
set_option linter.all false
set_option maxRecDepth 100000
set_option maxHeartbeats 2000000
namespace Mir
open PySem PySem.Spec PyProof.Rows L2 Evl WS
/-! ### own lists read at a place; lists made longer -/
def ixO (i : Nat) (mk : M) : M := fun e => match ownAt e i with | some _ => (bnd (mk e) fun j e1 => match ownAt e1 i, j with | some (_, .lst xs), .int n => rsl (atI xs n) e1 | _, _ => none) | none => opM ixD (varM i) mk e
def lsO' : D → Option (List D)
  | .lst xs => some xs
  | _ => none
def addS : D → D → Option D
  | .int i, .int j => some (.int (i + j))
  | .str i, .str j => if i.length + j.length ≤ sizeLine then some (.str (i ++ j)) else none
  | _, _ => none
def extM (i : Nat) (m : M) : MS := fun e => match ownAt e i with | some _ => (bnd (m e) fun d e1 => match ownAt e1 i, lsO' d with | some (x, .lst xs), some ys => if xs.length + ys.length ≤ sizeLine then some (.nx (e1.set i (upSD x (.lst (xs ++ ys))))) else none | _, _ => none) | none => augM i addS m e
def keyO : D → Option Key
  | .int i => some (.inl i)
  | .str x => some (.inr x)
  | _ => none
def valD (ks : List (Key × D)) (k : Key) : Option D := (ks.find? fun kv => decide (kv.1 = k)).map (·.2)
def putD (ks : List (Key × D)) (k : Key) (v : D) : List (Key × D) := if ks.any fun kv => decide (kv.1 = k) then ks.map fun kv => if kv.1 = k then (kv.1, v) else kv else ks ++ [(k, v)]
section
variable {K : PySem.W.Frag} {cm : CM} {ta tb te tk td tx : TE} {tr : TA} {ma mb m mk md mx : M} {mr : ML} {s : MSt} {B H : Hp}
theorem de_ixO {i : Nat} (h : DE K cm tk mk) : DE K cm (tOp (rIxA K) (tVar i) tk) (ixO i mk) := fun s k d e' hm Q q => by
  unfold ixO at hm
  split at hm
  · rename_i x0 hx0
    obtain ⟨x0, o0⟩ := x0
    obtain ⟨hx0, ho0⟩ := ownAt_some hx0
    obtain ⟨j, e1, h1, hm⟩ := bnd_some hm
    split at hm
    · rename_i x xs n hx
      obtain ⟨hx, ho⟩ := ownAt_some hx
      obtain ⟨hat, rfl⟩ := rsl_some hm
      obtain ⟨a, a1, _⟩ := k.own i _ _ hx0 ho0
      refine ⟨.ref a, a1, h s k _ e1 h1 _ fun v B1 H1 s1 k1 r1 => ?_⟩
      obtain ⟨b, b1, b2, ys, b3, b4⟩ := k1.own i _ _ hx ho
      have b1 : s.σ[i]? = _ := b1
      rw [a1] at b1
      cases b1
      cases r1
      obtain ⟨w, hw, rw'⟩ := atI_reps b4 hat
      exact .inl ⟨a, ys, n, w, rfl, rfl, sq_of b3, hw, q w B1 H1 s1 k1 rw'⟩
    · cases hm
  · exact de_op rd_ix de_var h s k d e' hm Q q
theorem ds_ext {i : Nat} (h : DE K cm te m) : DS K cm (tAug i te (orR (orR (rI0 fun i j => .int (i + j)) rAddStr) rExt2)) (extM i m) := fun s k o hm E q => by
  unfold extM at hm
  split at hm
  · rename_i x0 hx0
    obtain ⟨x0, o0⟩ := x0
    obtain ⟨hx0, ho0⟩ := ownAt_some hx0
    obtain ⟨d, e1, h1, hm⟩ := bnd_some hm
    split at hm
    · rename_i x xs ys hx hd
      obtain ⟨hx, ho⟩ := ownAt_some hx
      split at hm
      · rename_i hl
        cases hm
        obtain ⟨a, a1, _⟩ := k.own i _ _ hx0 ho0
        refine ⟨.ref a, a1, h s k _ e1 h1 _ fun v B1 H1 s1 k1 r1 => ?_⟩
        obtain ⟨b, b1, b2, zs, b3, b4⟩ := k1.own i _ _ hx ho
        have b1 : s.σ[i]? = _ := b1
        rw [a1] at b1
        cases b1
        cases r1 with
        | @lst c ws es hc rc =>
          cases hd
          obtain ⟨k2, s2⟩ := own_put (s := ⟨B1, H1, s.σ, e1⟩) (w := .lst (zs ++ ws)) k1 hx ho a1 (o' := .lst (xs ++ ys)) ⟨_, upd_same, b4.app rc⟩
          refine .inr ⟨a, c, zs, ws, rfl, rfl, b3, k1.bh _ _ hc, by rw [b4.len, rc.len]; exact hl, ?_⟩
          have hs : s.σ.set i (some (.ref a)) = s.σ := by
            apply List.ext_getElem?
            intro j
            by_cases c : j = i
            · subst c
              rw [List.getElem?_set_self (List.getElem?_eq_some_iff.mp a1).1, a1]
            · rw [List.getElem?_set_ne (Ne.symm c)]
          show E.nx (s.σ.set i (some (.ref a))) (upd H1 a (.lst (zs ++ ws)))
          rw [hs]
          exact q s.σ B1 _ (s1.trans s2) k2
        | _ => cases hd
      · cases hm
    · cases hm
  · refine ds_aug (fun B H x y dx dy d e rx ry h Q q => ?_) h s k o hm E q
    cases rx with
    | int i => cases ry with
      | int j => cases h; exact .inl (.inl ⟨i, j, rfl, rfl, q _ B H (Gro.refl e) (.int _)⟩)
      | _ => cases h
    | str i => cases ry with
      | str j =>
        have h : (if i.length + j.length ≤ sizeLine then some (D.str (i ++ j)) else none) = some d := h
        split at h
        · rename_i hl; cases h; exact .inl (.inr ⟨i, j, rfl, rfl, hl, q _ B H (Gro.refl e) (.str _)⟩)
        · cases h
      | _ => cases h
    | _ => cases h
/-! ### dicts -/
theorem key_v {v : V} {d : D} {k : Key} (r : Rep K cm B v d) (h : keyO d = some k) : v = kV k := by
  cases r <;> first | (cases h; rfl) | cases h
theorem val_get {k : Key} {d : D} : ∀ {kvs : List (Key × V)} {ks : List (Key × D)}, kvs.map (·.1) = ks.map (·.1) → Reps K cm B (kvs.map (·.2)) (ks.map (·.2)) → valD ks k = some d → ∃ v, valV kvs k = some v ∧ Rep K cm B v d
  | [], [], _, _, h => by cases h
  | [], _ :: _, h, _, _ => by cases h
  | _ :: _, [], h, _, _ => by cases h
  | (a, v) :: r, (b, x) :: t, h, h2, h3 => by
    have h1 : a = b := (List.cons.inj h).1
    subst h1
    cases h2 with
    | cons r1 r2 =>
      unfold valD at h3
      unfold valV
      rw [List.find?_cons] at h3 ⊢
      by_cases c : a = k
      · have hc : decide (a = k) = true := decide_eq_true c
        rw [show decide (((a, x) : Key × D).1 = k) = true from hc] at h3
        rw [show decide (((a, v) : Key × V).1 = k) = true from hc]
        cases h3
        exact ⟨v, rfl, r1⟩
      · have hc : decide (a = k) = false := decide_eq_false c
        rw [show decide (((a, x) : Key × D).1 = k) = false from hc] at h3
        rw [show decide (((a, v) : Key × V).1 = k) = false from hc]
        exact val_get (List.cons.inj h).2 r2 h3
theorem val_none {k : Key} : ∀ {kvs : List (Key × V)} {ks : List (Key × D)}, kvs.map (·.1) = ks.map (·.1) → valD ks k = none → valV kvs k = none
  | [], [], _, _ => rfl
  | [], _ :: _, h, _ => by cases h
  | _ :: _, [], h, _ => by cases h
  | (a, v) :: r, (b, x) :: t, h, h3 => by
    have h1 : a = b := (List.cons.inj h).1
    subst h1
    unfold valD at h3
    unfold valV
    rw [List.find?_cons] at h3 ⊢
    by_cases c : a = k
    · have hc : decide (a = k) = true := decide_eq_true c
      rw [show decide (((a, x) : Key × D).1 = k) = true from hc] at h3
      cases h3
    · have hc : decide (a = k) = false := decide_eq_false c
      rw [show decide (((a, x) : Key × D).1 = k) = false from hc] at h3
      rw [show decide (((a, v) : Key × V).1 = k) = false from hc]
      exact val_none (List.cons.inj h).2 h3
def dgD (x y : D) : Option D := match x, keyO y with | .dic ks, some k => valD ks k | _, _ => none
theorem dgD_some {x y d : D} (h : dgD x y = some d) : ∃ ks k, x = .dic ks ∧ keyO y = some k ∧ valD ks k = some d := by
  unfold dgD at h
  split at h
  · rename_i ks k hk
    exact ⟨_, _, rfl, hk, h⟩
  · cases h
def dgM (md mk : M) : M := opM dgD md mk
theorem de_dg (hd : DE K cm td md) (hk : DE K cm tk mk) : DE K cm (tDGet td tk) (dgM md mk) := fun s k d e' hm Q q => by
  obtain ⟨x, e1, h1, hm⟩ := bnd_some hm
  obtain ⟨y, e2, h2, hm⟩ := bnd_some hm
  obtain ⟨h3, rfl⟩ := rsl_some hm
  refine hd s k x e1 h1 _ fun v B1 H1 s1 k1 r1 => hk ⟨B1, H1, s.σ, e1⟩ k1 y e2 h2 _ fun w B2 H2 s2 k2 r2 => ?_
  have r1 := r1.mono s2.bb
  obtain ⟨ks, kk, rfl, hkk, h3⟩ := dgD_some h3
  cases r1 with
  | @dic a kvs _ ha hm2 hr =>
    obtain ⟨u, hu, ru⟩ := val_get hm2 hr h3
    refine ⟨a, u, rfl, ?_, q u B2 H2 (s1.trans s2) k2 ru⟩
    rw [key_v r2 hkk, ← hu]
    exact DGet.k (k2.bh _ _ ha)
def dg2D (x y z : D) : Option D := match x, keyO y with | .dic ks, some k => some ((valD ks k).getD z) | _, _ => none
theorem dg2D_some {x y z d : D} (h : dg2D x y z = some d) : ∃ ks k, x = .dic ks ∧ keyO y = some k ∧ (valD ks k).getD z = d := by
  unfold dg2D at h
  split at h
  · rename_i ks k hk
    exact ⟨_, _, rfl, hk, Option.some.inj h⟩
  · cases h
def dg2M (md mk mx : M) : M := fun e => bnd (md e) fun x e1 => bnd (mk e1) fun y e2 => bnd (mx e2) fun z e3 => rsl (dg2D x y z) e3
theorem de_dg2 (hd : DE K cm td md) (hk : DE K cm tk mk) (hx : DE K cm tx mx) : DE K cm (tDGet2 td tk tx) (dg2M md mk mx) := fun s k d e' hm Q q => by
  obtain ⟨x, e1, h1, hm⟩ := bnd_some hm
  obtain ⟨y, e2, h2, hm⟩ := bnd_some hm
  obtain ⟨z, e3, h3, hm⟩ := bnd_some hm
  obtain ⟨h4, rfl⟩ := rsl_some hm
  obtain ⟨ks, kk, rfl, hkk, rfl⟩ := dg2D_some h4
  refine hd s k _ e1 h1 _ fun v B1 H1 s1 k1 r1 => ?_
  cases r1 with
  | @dic a kvs _ ha hm2 hr =>
    refine ⟨a, rfl, .inl ⟨kvs, .inl (k1.bh _ _ ha)⟩, hk ⟨B1, H1, s.σ, e1⟩ k1 y e2 h2 _ fun w B2 H2 s2 k2 r2 => hx ⟨B2, H2, s.σ, e2⟩ k2 z e3 h3 _ fun u B3 H3 s3 k3 r3 => ?_⟩
    have ha3 : H3 a = some (.dK kvs) := k3.bh _ _ (s3.bb _ _ (s2.bb _ _ ha))
    refine ⟨valV kvs kk, ?_, ?_⟩
    · rw [key_v r2 hkk]
      exact DGet.k ha3
    · cases hv : valD ks kk with
      | none =>
        rw [val_none hm2 hv]
        rw [hv] at q
        exact q u B3 H3 ((s1.trans s2).trans s3) k3 r3
      | some d2 =>
        obtain ⟨u2, hu, ru⟩ := val_get hm2 hr hv
        rw [hu]
        rw [hv] at q
        exact q u2 B3 H3 ((s1.trans s2).trans s3) k3 ((ru.mono s2.bb).mono s3.bb)
def dinD (neg : Bool) (y x : D) : Option D := match x, keyO y with | .dic ks, some k => some (.bl (if neg then !(valD ks k).isSome else (valD ks k).isSome)) | _, _ => none
theorem de_din (hk : DE K cm tk mk) (hd : DE K cm td md) : DE K cm (tDIn tk td) (opM (dinD false) mk md) := fun s k d e' hm Q q => by
  obtain ⟨y, e1, h1, hm⟩ := bnd_some hm
  obtain ⟨x, e2, h2, hm⟩ := bnd_some hm
  obtain ⟨h3, rfl⟩ := rsl_some hm
  refine hk s k y e1 h1 _ fun w B1 H1 s1 k1 r2 => hd ⟨B1, H1, s.σ, e1⟩ k1 x e2 h2 _ fun v B2 H2 s2 k2 r1 => ?_
  have r2 := r2.mono s2.bb
  unfold dinD at h3
  split at h3
  · rename_i ks kk hkk
    cases h3
    cases r1 with
    | @dic a kvs _ ha hm2 hr =>
      refine ⟨a, valV kvs kk, rfl, ?_, ?_⟩
      · rw [key_v r2 hkk]
        exact DGet.k (k2.bh _ _ ha)
      · have : (valV kvs kk).isSome = (valD ks kk).isSome := by
          cases hv : valD ks kk with
          | none => rw [val_none hm2 hv]; rfl
          | some d2 =>
            obtain ⟨u2, hu, _⟩ := val_get hm2 hr hv
            rw [hu]
            rfl
        rw [this]
        exact q _ B2 H2 (s1.trans s2) k2 (.bl _)
  · cases h3
theorem de_dnin (hk : DE K cm tk mk) (hd : DE K cm td md) : DE K cm (tDNotIn tk td) (opM (dinD true) mk md) := fun s k d e' hm Q q => by
  obtain ⟨y, e1, h1, hm⟩ := bnd_some hm
  obtain ⟨x, e2, h2, hm⟩ := bnd_some hm
  obtain ⟨h3, rfl⟩ := rsl_some hm
  refine hk s k y e1 h1 _ fun w B1 H1 s1 k1 r2 => hd ⟨B1, H1, s.σ, e1⟩ k1 x e2 h2 _ fun v B2 H2 s2 k2 r1 => ?_
  have r2 := r2.mono s2.bb
  unfold dinD at h3
  split at h3
  · rename_i ks kk hkk
    cases h3
    cases r1 with
    | @dic a kvs _ ha hm2 hr =>
      refine ⟨a, valV kvs kk, rfl, ?_, ?_⟩
      · rw [key_v r2 hkk]
        exact DGet.k (k2.bh _ _ ha)
      · have : (valV kvs kk).isSome = (valD ks kk).isSome := by
          cases hv : valD ks kk with
          | none => rw [val_none hm2 hv]; rfl
          | some d2 =>
            obtain ⟨u2, hu, _⟩ := val_get hm2 hr hv
            rw [hu]
            rfl
        rw [this]
        exact q _ B2 H2 (s1.trans s2) k2 (.bl _)
  · cases h3
def newF : MO := fun e => some (.dic [], e)
theorem df_new : DF K cm tDNewK newF := fun s k o e' h Q q => by
  cases h
  intro p hp
  have g := Gro.lay k.bh (Ex.new (o := .dK []) hp)
  have nO : ¬ OwnA s p := notOwnA k hp
  exact q p _ _ (g.step (s := s)) (g.ok (s := s) k) hp (fresh_back k.bh hp) ⟨[], upd_same, rfl, .nil⟩ nO
theorem any_map {α β κ : Type} [DecidableEq κ] (k : κ) : ∀ {xs : List (κ × α)} {ys : List (κ × β)}, xs.map (·.1) = ys.map (·.1) → (xs.any fun kv => decide (kv.1 = k)) = ys.any fun kv => decide (kv.1 = k)
  | [], [], _ => rfl
  | [], _ :: _, h => by cases h
  | _ :: _, [], h => by cases h
  | (a, v) :: r, (b, x) :: t, h => by
    have h1 : a = b := (List.cons.inj h).1
    subst h1
    rw [List.any_cons, List.any_cons, any_map k (List.cons.inj h).2]
theorem putK_map1 {k : Key} {v : V} {d : D} (rv : Rep K cm B v d) : ∀ {kvs : List (Key × V)} {ks : List (Key × D)}, kvs.map (·.1) = ks.map (·.1) → Reps K cm B (kvs.map (·.2)) (ks.map (·.2)) →
    (kvs.map fun kv => if kv.1 = k then (kv.1, v) else kv).map (·.1) = (ks.map fun kv => if kv.1 = k then (kv.1, d) else kv).map (·.1) ∧ Reps K cm B ((kvs.map fun kv => if kv.1 = k then (kv.1, v) else kv).map (·.2)) ((ks.map fun kv => if kv.1 = k then (kv.1, d) else kv).map (·.2))
  | [], [], _, _ => ⟨rfl, .nil⟩
  | [], _ :: _, h, _ => by cases h
  | _ :: _, [], h, _ => by cases h
  | (a1, a2) :: t, (b1, b2) :: u, h, r => by
    have h1 : a1 = b1 := (List.cons.inj h).1
    subst h1
    cases r with
    | cons r1 r2 =>
      obtain ⟨p, q⟩ := putK_map1 rv (List.cons.inj h).2 r2
      simp only [List.map_cons] at p q ⊢
      by_cases c : a1 = k
      · simp only [c, if_true]
        exact ⟨by rw [p], .cons rv q⟩
      · simp only [c, if_false]
        exact ⟨by rw [p], .cons r1 q⟩
theorem putK_map {k : Key} {v : V} {d : D} (rv : Rep K cm B v d) {kvs : List (Key × V)} {ks : List (Key × D)} (h : kvs.map (·.1) = ks.map (·.1)) (r : Reps K cm B (kvs.map (·.2)) (ks.map (·.2))) :
    (putK kvs k v).map (·.1) = (putD ks k d).map (·.1) ∧ Reps K cm B ((putK kvs k v).map (·.2)) ((putD ks k d).map (·.2)) := by
  unfold putK putD
  rw [any_map k h]
  split
  · exact putK_map1 rv h r
  · rw [List.map_append, List.map_append, List.map_append, List.map_append, h]
    exact ⟨rfl, r.app (.cons rv .nil)⟩
def dputM (i : Nat) (mk m : M) : MS := fun e => bnd (m e) fun d e1 => match ownAt e1 i with | some (_, .dic _) => (bnd (mk e1) fun y e2 => match ownAt e2 i, keyO y with | some (x, .dic ks), some k => if ks.length < sizeLine then some (.nx (e2.set i (upSD x (.dic (putD ks k d))))) else none | _, _ => none) | _ => none
theorem ds_dput {i : Nat} (hk : DE K cm tk mk) (h : DE K cm te m) : DS K cm (sDPut (tVar i) tk te) (dputM i mk m) := fun s k o hm E q => by
  obtain ⟨d, e1, h1, hm⟩ := bnd_some hm
  split at hm
  · rename_i x0 ks0 hx0
    obtain ⟨hx0, ho0⟩ := ownAt_some hx0
    obtain ⟨y, e2, h2, hm⟩ := bnd_some hm
    split at hm
    · rename_i x ks kk hx hkk
      obtain ⟨hx, ho⟩ := ownAt_some hx
      split at hm
      · rename_i hl
        cases hm
        refine h s k d e1 h1 _ fun v B1 H1 s1 k1 r1 => ?_
        obtain ⟨a, ha, _⟩ := k1.own i _ _ hx0 ho0
        refine ⟨.ref a, ha, hk ⟨B1, H1, s.σ, e1⟩ k1 y e2 h2 _ fun w B2 H2 s2 k2 r2 => ?_⟩
        obtain ⟨b, b1, b2, kvs, b3, b4, b5⟩ := k2.own i _ _ hx ho
        have b1 : s.σ[i]? = _ := b1
        have ha : s.σ[i]? = _ := ha
        rw [ha] at b1
        cases b1
        have hlen : kvs.length = ks.length := by
          have := congrArg List.length b4
          simpa using this
        obtain ⟨p1, p2⟩ := putK_map (k := kk) (r1.mono s2.bb) b4 b5
        obtain ⟨k3, s3⟩ := own_put (s := ⟨B2, H2, s.σ, e2⟩) (w := .dK (putK kvs kk v)) k2 hx ho ha (o' := .dic (putD ks kk d)) ⟨_, upd_same, p1, p2⟩
        exact ⟨a, _, rfl, .inl ⟨kvs, kk, b3, key_v r2 hkk, by rw [hlen]; exact hl, rfl⟩, q s.σ B2 _ ((s1.trans s2).trans s3) k3⟩
      · cases hm
    · cases hm
  · cases hm
/-! ### texts -/
theorem strs_seq {v : V} {d : D} {ds : List D} {ys : List Str} (rv : Rep K cm B v d) (h : seqO d = some ds) (h2 : strsO ds = some ys) : ∃ p, v = .ref p ∧ (SqL K B p (ys.map V.str) ∨ SqT K B p (ys.map V.str)) := by
  obtain ⟨a, xs, rfl, ha, ra⟩ := seqO_sq rv h
  rw [strsO_v ra h2] at ha
  exact ⟨a, rfl, ha⟩
def joinD (x y : D) : Option D := match x, seqO y with | .str a, some ds => (match strsO ds with | some ys => if (ys.map (·.length)).sum + ys.length * a.length ≤ 16777216 then some (.str (Txt.join a ys)) else none | none => none) | _, _ => none
def rJoin (K : PySem.W.Frag) : V → List V → Hp → VK → Prop := fun x xs H Q => ∃ a p, ∃ ys : List Str, x = .str a ∧ xs = [.ref p] ∧ (SqL K H p (ys.map V.str) ∨ SqT K H p (ys.map V.str)) ∧ (ys.map (·.length)).sum + ys.length * a.length ≤ 16777216 ∧ Q (.str (Txt.join a ys)) H
def isStr : D → Bool
  | .str _ => true
  | _ => false
def m1M (f : D → D → Option D) (ma mb : M) : M := fun e => bnd (ma e) fun x e1 => if isStr x then bnd (mb e1) fun y e2 => rsl (f x y) e2 else none
theorem de_m1 {r : V → List V → Hp → VK → Prop} {f : D → D → Option D} (hr : ∀ B H x y dx dy d, Ex B H → Rep K cm B x dx → Rep K cm B y dy → f dx dy = some d → ∀ Q : VK, (∀ v B' H', Gro B H B' H' → Rep K cm B' v d → Q v H') → r x [y] H Q)
    (ha : DE K cm ta ma) (hb : DE K cm tb mb) : DE K cm (tM1 r ta tb) (m1M f ma mb) := fun s k d e' hm Q q => by
  obtain ⟨x, e1, h1, hm⟩ := bnd_some hm
  split at hm
  · rename_i hs
    obtain ⟨y, e2, h2, hm⟩ := bnd_some hm
    obtain ⟨h3, rfl⟩ := rsl_some hm
    refine ha s k x e1 h1 _ fun v B1 H1 s1 k1 r1 => ⟨?_, hb ⟨B1, H1, s.σ, e1⟩ k1 y e2 h2 _ fun w B2 H2 s2 k2 r2 => hr B2 H2 v w x y d k2.bh (r1.mono s2.bb) r2 h3 Q fun u B3 H3 g r3 => q u B3 H3 ((s1.trans s2).trans (g.step (s := ⟨B2, H2, s.σ, e2⟩))) (g.ok (s := ⟨B2, H2, s.σ, e2⟩) k2) r3⟩
    cases r1 with
    | str z => exact ⟨z, rfl⟩
    | _ => cases hs
  · cases hm
theorem de_join (ha : DE K cm ta ma) (hb : DE K cm tb mb) : DE K cm (tM1 (rJoin K) ta tb) (m1M joinD ma mb) := de_m1 (fun B H x y dx dy d e rx ry h Q q => by
  unfold joinD at h
  split at h
  · rename_i a ds hds
    split at h
    · rename_i ys hys
      split at h
      · rename_i hl
        cases h
        cases rx
        obtain ⟨p, rfl, hp⟩ := strs_seq ry hds hys
        exact ⟨a, p, ys, rfl, rfl, sq_ex e hp, hl, q _ B H (Gro.refl e) (.str _)⟩
      · cases h
    · cases h
  · cases h) ha hb
def rCount : V → List V → Hp → VK → Prop := fun x xs H Q => ∃ a b, x = .str a ∧ xs = [.str b] ∧ Q (.int (Txt.count a b)) H
def cntD : D → D → Option D
  | .str a, .str b => some (.int (Txt.count a b))
  | _, _ => none
theorem de_count (ha : DE K cm ta ma) (hb : DE K cm tb mb) : DE K cm (tM1 rCount ta tb) (m1M cntD ma mb) := de_m1 (fun B H x y dx dy d e rx ry h Q q => by
  unfold cntD at h
  split at h
  · cases rx
    cases ry
    cases h
    exact ⟨_, _, rfl, rfl, q _ B H (Gro.refl e) (.int _)⟩
  · cases h) ha hb
/-! ### several names at once -/
inductive Arr (K : PySem.W.Frag) (cm : CM) (t : MSt) : List V → List SD → Prop
  | nil : Arr K cm t [] []
  | fro {v : V} {d : D} {vs : List V} {xs : List SD} : Rep K cm t.B v d → Arr K cm t vs xs → Arr K cm t (v :: vs) (.fro d :: xs)
  | own {p : Addr} {o : OD} {vs : List V} {xs : List SD} : t.B p = none → OwnR K cm t.B t.H p o → ¬ OwnA t p → (∀ o2, (V.ref p, SD.own o2) ∉ vs.zip xs) → Arr K cm t vs xs → Arr K cm t (.ref p :: vs) (.own o :: xs)
def DAS (K : PySem.W.Frag) (cm : CM) (ta : TA) (m : SDs → Option (List SD × SDs)) : Prop := ∀ s : MSt, Okm K cm s → ∀ xs e', m s.e = some (xs, e') → ∀ Q : List V → Hp → Prop,
  (∀ vs B' H', Stp s ⟨B', H', s.σ, e'⟩ → Okm K cm ⟨B', H', s.σ, e'⟩ → Arr K cm ⟨B', H', s.σ, e'⟩ vs xs → (∀ p o, (V.ref p, SD.own o) ∈ vs.zip xs → s.H p = none) → Q vs H') → ta s.σ s.H Q
def nilX : SDs → Option (List SD × SDs) := fun e => some ([], e)
def froX (m : M) (r : SDs → Option (List SD × SDs)) : SDs → Option (List SD × SDs) := fun e => bnd (m e) fun d e1 => bnd (r e1) fun xs e2 => some (.fro d :: xs, e2)
def ownX (m : MO) (r : SDs → Option (List SD × SDs)) : SDs → Option (List SD × SDs) := fun e => bnd (m e) fun d e1 => bnd (r e1) fun xs e2 => some (.own d :: xs, e2)
theorem das_nil : DAS K cm tNil nilX := fun s k xs e' h Q q => by
  cases h
  exact q [] s.B s.H (Stp.refl s) k .nil fun p o h => by cases h
theorem das_fro {mr : SDs → Option (List SD × SDs)} (h : DE K cm te m) (hr : DAS K cm tr mr) : DAS K cm (tCons te tr) (froX m mr) := fun s k xs e' hm Q q => by
  obtain ⟨d, e1, h1, hm⟩ := bnd_some hm
  obtain ⟨ys, e2, h2, hm⟩ := bnd_some hm
  cases hm
  refine h s k d e1 h1 _ fun v B1 H1 s1 k1 r1 => hr ⟨B1, H1, s.σ, e1⟩ k1 ys _ h2 _ fun vs B2 H2 s2 k2 r2 n2 => q (v :: vs) B2 H2 (s1.trans s2) k2 (.fro (r1.mono s2.bb) r2) fun p o hp => ?_
  rw [List.zip_cons_cons] at hp
  cases hp with
  | tail _ hp => exact s1.dm p (n2 p o hp)
theorem das_own {mr : SDs → Option (List SD × SDs)} {mo : MO} (h : DF K cm te mo) (hr : DAS K cm tr mr) : DAS K cm (tCons te tr) (ownX mo mr) := fun s k xs e' hm Q q => by
  obtain ⟨d, e1, h1, hm⟩ := bnd_some hm
  obtain ⟨ys, e2, h2, hm⟩ := bnd_some hm
  cases hm
  refine h s k d e1 h1 _ fun p B1 H1 s1 k1 n1 n2 ow nw => hr ⟨B1, H1, s.σ, e1⟩ k1 ys _ h2 _ fun vs B2 H2 s2 k2 r2 n3 => ?_
  obtain ⟨u, hu⟩ := ow.there
  obtain ⟨t1, t2, t3⟩ := keepT k1 s2 hu n2 nw
  refine q (.ref p :: vs) B2 H2 (s1.trans s2) k2 (.own t2 (ow.mono s2.bb fun w hw => by rw [hu] at hw; cases hw; exact t1) t3 (fun o2 hp => ?_) r2) fun p2 o hp => ?_
  · have := n3 p o2 hp
    have this : H1 p = none := this
    rw [hu] at this
    cases this
  · rw [List.zip_cons_cons] at hp
    cases hp with
    | head => exact n1
    | tail _ hp => exact s1.dm p2 (n3 p2 o hp)
def setL : List Nat → List SD → SDs → Option SDs
  | [], [], e => some e
  | i :: r, x :: xs, e => match setS i x e with | none => none | some e1 => setL r xs e1
  | _, _, _ => none
def parM (is : List Nat) (m : SDs → Option (List SD × SDs)) : MS := fun e => bnd (m e) fun xs e1 => (setL is xs e1).map Out.nx
def setV : List Nat → List V → L2.St → L2.St
  | i :: r, v :: vs, σ => setV r vs (σ.set i (some v))
  | _, _, σ => σ
theorem arr_set {t : MSt} {i : Nat} {v : V} {x : SD} {e1 : SDs} {vs : List V} {xs : List SD} (h1 : setS i x t.e = some e1) (k : Okm K cm t) (hb : ∀ o, x ≠ .bor o) (hx : ∀ o, x = .own o → ∃ p, v = .ref p ∧ ∀ o2, (V.ref p, SD.own o2) ∉ vs.zip xs)
    (r : Arr K cm t vs xs) : Arr K cm ⟨t.B, t.H, t.σ.set i (some v), e1⟩ vs xs := by
  induction r with
  | nil => exact .nil
  | fro r1 r2 ih => exact .fro r1 (ih fun o c => by
      obtain ⟨p, e, f⟩ := hx o c
      exact ⟨p, e, fun o2 hp => f o2 (by rw [List.zip_cons_cons]; exact List.mem_cons_of_mem _ hp)⟩)
  | @own p o vs xs q1 q2 q3 q4 r2 ih => exact .own q1 q2 (fun ⟨j, o2, ⟨y, c1, c2⟩, c3⟩ => by
      obtain ⟨hi, hn, rfl⟩ := setS_at h1
      have hi2 : i < t.σ.length := by rw [← k.len]; exact hi
      have b1 : (t.e.set i x)[j]? = some y := c1
      have b3 : (t.σ.set i (some v))[j]? = some (some (.ref p)) := c3
      clear c1 c3
      rw [set_get hi] at b1
      rw [set_get hi2] at b3
      by_cases c : j = i
      · rw [if_pos c] at b1 b3
        have b1 := Option.some.inj b1
        subst b1
        cases x with
        | own o3 =>
          obtain ⟨p2, e, f⟩ := hx o3 rfl
          have b4 := Option.some.inj (Option.some.inj b3)
          rw [e] at b4
          cases b4
          exact f o (by rw [List.zip_cons_cons]; exact List.mem_cons_self)
        | bor o3 => exact hb o3 rfl
        | nn => cases c2
        | fro d => cases c2
      · rw [if_neg c] at b1 b3
        exact q3 ⟨j, o2, ⟨y, b1, c2⟩, b3⟩) q4 (ih fun o c => by
      obtain ⟨p, e, f⟩ := hx o c
      exact ⟨p, e, fun o2 hp => f o2 (by rw [List.zip_cons_cons]; exact List.mem_cons_of_mem _ hp)⟩)
theorem setL_ok : ∀ {is : List Nat} {vs : List V} {xs : List SD} {s0 t : MSt} {e' : SDs}, Okm K cm t → Stp s0 t → Arr K cm t vs xs → (∀ p o, (V.ref p, SD.own o) ∈ vs.zip xs → s0.H p = none) → setL is xs t.e = some e' →
    vs.length = is.length ∧ Okm K cm ⟨t.B, t.H, setV is vs t.σ, e'⟩ ∧ Stp s0 ⟨t.B, t.H, setV is vs t.σ, e'⟩
  | [], _, _, s0, t, e', k, st, .nil, _, h => by cases h; exact ⟨rfl, k, st⟩
  | [], _, _, _, _, _, _, _, .fro _ _, _, h => by cases h
  | [], _, _, _, _, _, _, _, .own _ _ _ _ _, _, h => by cases h
  | _ :: _, _, _, _, _, _, _, _, .nil, _, h => by cases h
  | i :: r, _, _, s0, t, e', k, st, @Arr.fro _ _ _ v d vs xs r1 r2, n, h => by
    unfold setL at h
    split at h
    · cases h
    · rename_i e1 h1
      have k1 := set_ok (v := v) k h1 (fun d2 c => by cases c; exact r1) (fun _ c => nomatch c) (fun _ c => nomatch c) (fun _ _ c => nomatch c)
      have s1 := set_st (v := v) st k h1 (fun _ c => nomatch c) (fun _ _ c => nomatch c)
      obtain ⟨a, b, c⟩ := setL_ok (is := r) (t := ⟨t.B, t.H, t.σ.set i (some v), e1⟩) k1 s1 (arr_set (v := v) (x := .fro d) h1 k (fun _ c => nomatch c) (fun o c => nomatch c) r2) (fun p o hp => n p o (by rw [List.zip_cons_cons]; exact List.mem_cons_of_mem _ hp)) h
      exact ⟨by rw [List.length_cons, List.length_cons, a], b, c⟩
  | i :: r, _, _, s0, t, e', k, st, @Arr.own _ _ _ p o vs xs q1 q2 q3 q4 r2, n, h => by
    unfold setL at h
    split at h
    · cases h
    · rename_i e1 h1
      have np := n p o (by rw [List.zip_cons_cons]; exact List.mem_cons_self)
      have k1 := set_ok (v := .ref p) k h1 (fun _ c => nomatch c) (fun _ c => nomatch c) (fun o2 c => by cases c; exact ⟨p, rfl, q1, q2, q3⟩) (fun _ _ _ _ => .inr (.inr trivial))
      have s1 := set_st (v := .ref p) st k h1 (fun _ c => nomatch c) (fun _ _ _ c => by cases c; exact .inr np)
      obtain ⟨a, b, c⟩ := setL_ok (is := r) (t := ⟨t.B, t.H, t.σ.set i (some (.ref p)), e1⟩) k1 s1 (arr_set (v := .ref p) (x := .own o) h1 k (fun _ c => nomatch c) (fun o2 _ => ⟨p, rfl, q4⟩) r2) (fun p o hp => n p o (by rw [List.zip_cons_cons]; exact List.mem_cons_of_mem _ hp)) h
      exact ⟨by rw [List.length_cons, List.length_cons, a], b, c⟩
theorem ds_par {i j : Nat} {mx : SDs → Option (List SD × SDs)} (h : DAS K cm tr mx) : DS K cm (tPar i j tr) (parM [i, j] mx) := fun s k o hm E q => by
  obtain ⟨xs, e1, h1, hm⟩ := bnd_some hm
  cases h3 : setL [i, j] xs e1 with
  | none => rw [h3] at hm; cases hm
  | some e2 =>
    rw [h3] at hm
    cases hm
    refine h s k xs e1 h1 _ fun vs B' H' st k' ar n => ?_
    obtain ⟨l, k2, s2⟩ := setL_ok (t := ⟨B', H', s.σ, e1⟩) k' st ar n h3
    match vs, l with
    | [v, w], _ => exact ⟨v, w, rfl, q _ B' H' s2 k2⟩
theorem ds_par3 {i j l : Nat} {mx : SDs → Option (List SD × SDs)} (h : DAS K cm tr mx) : DS K cm (tPar3 i j l tr) (parM [i, j, l] mx) := fun s k o hm E q => by
  obtain ⟨xs, e1, h1, hm⟩ := bnd_some hm
  cases h3 : setL [i, j, l] xs e1 with
  | none => rw [h3] at hm; cases hm
  | some e2 =>
    rw [h3] at hm
    cases hm
    refine h s k xs e1 h1 _ fun vs B' H' st k' ar n => ?_
    obtain ⟨l, k2, s2⟩ := setL_ok (t := ⟨B', H', s.σ, e1⟩) k' st ar n h3
    match vs, l with
    | [v, w, u], _ => exact ⟨v, w, u, rfl, q _ B' H' s2 k2⟩
end
end Mir

set_option Elab.async false
set_option linter.all false
set_option maxRecDepth 100000
set_option maxHeartbeats 2000000
namespace Mir
open PySem PySem.Spec PyProof.Rows L2 Evl WS
theorem mu1 {k : Nat} {A : Around} (r : Room k A) : A.units + 1 < cLine := by have := r.un; omega
theorem mu65 {k : Nat} {A : Around} (r : Room k A) : A.units + 65 < cLine := by have := r.un; omega
theorem pt_truthK {X : Cx} {K : PySem.W.Frag} {a : Expr} {ta : TE} (hK : X.K = K) (ha : PE X a ta) (he : ∀ whole, isTrue a X.env whole = (do let v ← whole; standAt a.pos; holding [v] (truthy v))) : PT X a (fun σ H Q => ta σ H fun x H' => ∃ k, TruV K x H' k ∧ Q k H') := by
  subst hK
  exact pt_truth ha he
theorem len_nilM : ∀ e ds e', nilM e = some (ds, e') → ds.length = 0 := fun e ds e' h => by cases h; rfl
theorem len_consM {m : M} {r : ML} {n : Nat} (hr : ∀ e ds e', r e = some (ds, e') → ds.length = n) : ∀ e ds e', consM m r e = some (ds, e') → ds.length = n + 1 := fun e ds e' h => by
  obtain ⟨d, e1, h1, h⟩ := bnd_some h
  obtain ⟨xs, e2, h2, h⟩ := bnd_some h
  cases h
  rw [List.length_cons, hr _ _ _ h2]
theorem len_up {r : ML} {n : Nat} (hr : ∀ e ds e', r e = some (ds, e') → ds.length = n) : ∀ e ds e', r e = some (ds, e') → ds.length + 1 = n + 1 := fun e ds e' h => by rw [hr _ _ _ h]
theorem len_nilA : ∀ e as e', nilA e = some (as, e') → as.length = 0 := fun e ds e' h => by cases h; rfl
theorem len_valA {m : M} {r : MA} {n : Nat} (hr : ∀ e ds e', r e = some (ds, e') → ds.length = n) : ∀ e ds e', valA m r e = some (ds, e') → ds.length = n + 1 := fun e ds e' h => by
  obtain ⟨d, e1, h1, h⟩ := bnd_some h
  obtain ⟨xs, e2, h2, h⟩ := bnd_some h
  cases h
  rw [List.length_cons, hr _ _ _ h2]
theorem len_sloA {i : Nat} {r : MA} {n : Nat} (hr : ∀ e ds e', r e = some (ds, e') → ds.length = n) : ∀ e ds e', sloA i r e = some (ds, e') → ds.length = n + 1 := fun e ds e' h => by
  unfold sloA at h
  split at h
  · split at h
    · obtain ⟨xs, e2, h2, h⟩ := bnd_some h
      cases h
      rw [List.length_cons, hr _ _ _ h2]
    · cases h
  · cases h
theorem len_upA {r : MA} {n : Nat} (hr : ∀ e ds e', r e = some (ds, e') → ds.length = n) : ∀ e ds e', r e = some (ds, e') → ds.length + 1 = n + 1 := fun e ds e' h => by rw [hr _ _ _ h]
theorem mcls_nil {K : PySem.W.Frag} {cm : CM} {f : Str} : ∀ c ∈ ([] : List Nat), Cls K (cm c) ∧ NoAttr K (cm c) f := fun c h => by cases h
theorem mcls_cons {K : PySem.W.Frag} {cm : CM} {f : Str} {c : Nat} {cs : List Nat} (h : Cls K (cm c) ∧ NoAttr K (cm c) f) (hr : ∀ c ∈ cs, Cls K (cm c) ∧ NoAttr K (cm c) f) : ∀ d ∈ c :: cs, Cls K (cm d) ∧ NoAttr K (cm d) f := fun d hd => by
  cases hd with
  | head => exact h
  | tail _ hd => exact hr d hd
/-! reversed(range(..)) -/
def revR1I (m : M) : ML := fun e => bnd (m e) fun d e1 => match d with | .int n => if -(2 ^ 62) ≤ n ∧ n < 2 ^ 62 then some (rng3D (0 + ((((n - 0).toNat : Nat) : Int)) - 1) (-1) (n - 0).toNat, e1) else none | _ => none
section
variable {K : PySem.W.Frag} {cm : CM} {te tk tv : TE} {m mk mv : M} {B : Hp} {tt : TT} {mt : MT} {g : TG} {ga : D → SDs → Option SDs} {js vs : List Nat}
theorem walks_rngC {i c : Int} {n : Nat} : Walks K cm (Itc i c n) B (rng3D i c n) := fun B' H' eb eh k => ⟨fun x hx => by
  unfold rng3D at hx
  rw [List.getElem?_map] at hx
  by_cases c2 : k < n
  · rw [List.getElem?_range c2] at hx
    cases hx
    refine ⟨c2, fun v H2 hv => ?_⟩
    obtain ⟨rfl, rfl⟩ := hv
    exact ⟨B', Gro.refl eh, .int _⟩
  · rw [List.getElem?_eq_none (by rw [List.length_range]; omega)] at hx
    exact (nomatch hx), fun hl => by
  unfold rng3D at hl
  rw [List.length_map, List.length_range] at hl
  exact hl⟩
theorem dit_revR1 (h : DE K cm te m) : DIt K cm (iRevR (tRg1 te)) (revR1I m) := fun s k xs e' hm R q => by
  obtain ⟨d, e1, h1, hm⟩ := bnd_some hm
  refine h s k d e1 h1 _ fun v B1 H1 s1 k1 r1 => ?_
  cases r1 with
  | int n =>
    have hm : (if -(2 ^ 62) ≤ n ∧ n < 2 ^ 62 then some (rng3D (0 + ((((n - 0).toNat : Nat) : Int)) - 1) (-1) (n - 0).toNat, e1) else none) = some (xs, e') := hm
    split at hm
    · rename_i hj
      cases hm
      exact ⟨n, rfl, by decide, by decide, hj.1, hj.2, q _ B1 H1 s1 k1 walks_rngC⟩
    · cases hm
  | _ => cases hm
/-! dicts by comprehension -/
def dcL (vs : List Nat) (ga : D → SDs → Option SDs) (mt : MT) (mk mv : M) : List D → List (Key × D) → SDs → Option (List (Key × D) × SDs)
  | [], acc, e => some (acc, e)
  | x :: r, acc, e => match ga x e with | none => none | some e1 => bnd (mt e1) fun b e2 => if b then (bnd (mk e2) fun y e3 => bnd (mv e3) fun d e4 => match keyO y, wipeE vs e4 with | some k, some e5 => if acc.length < sizeLine then dcL vs ga mt mk mv r (putD acc k d) e5 else none | _, _ => none) else (match wipeE vs e2 with | none => none | some e4 => dcL vs ga mt mk mv r acc e4)
def dcF (mi : ML) (vs : List Nat) (ga : D → SDs → Option SDs) (mt : MT) (mk mv : M) : MO := fun e => bnd (mi e) fun xs e1 => match wipeE vs e1 with | none => none | some e2 => match dcL vs ga mt mk mv xs [] e2 with | none => none | some (ks, e3) => some (.dic ks, restE e1 vs e3)
theorem df_dc {wi : TI} {mi : ML} (h1 : DIt K cm wi mi) (h2 : DG K cm g js ga) (hj : ∀ j ∈ js, j ∈ vs) (h3 : DT K cm tt mt) (h4 : DE K cm tk mk) (h5 : DE K cm tv mv) : DF K cm (tDc wi g tt tk tv vs) (dcF mi vs ga mt mk mv) := fun s k o e' hm Q q => by
  obtain ⟨xs, e1, g1, hm⟩ := bnd_some hm
  split at hm
  · cases hm
  · rename_i ew hw
    split at hm
    · cases hm
    · rename_i ks e3 hc
      cases hm
      refine h1 s k xs e1 g1 _ fun J B1 H1 s1 k1 w1 Dl hD => ?_
      obtain ⟨kw, sw⟩ := wipe_ok (s := ⟨B1, H1, s.σ, e1⟩) k1 hw
      have nb : B1 Dl = none := fresh_back k1.bh hD
      have nO : ¬ OwnA ⟨B1, H1, s.σ, e1⟩ Dl := notOwnA k1 hD
      have nOw : ¬ OwnA ⟨B1, H1, wipe s.σ vs, ew⟩ Dl := notOwnA kw hD
      refine ⟨fun i n H' => n + i = xs.length ∧ ∃ B' e' kvs acc, Stp ⟨B1, H1, wipe s.σ vs, ew⟩ ⟨B', H', wipe s.σ vs, e'⟩ ∧ Okm K cm ⟨B', H', wipe s.σ vs, e'⟩ ∧ ¬ OwnA ⟨B', H', wipe s.σ vs, e'⟩ Dl ∧ B' Dl = none ∧ H' Dl = some (.dK kvs) ∧ kvs.map (·.1) = acc.map (·.1) ∧ Reps K cm B' (kvs.map (·.2)) (acc.map (·.2)) ∧ dcL vs ga mt mk mv (xs.drop i) acc e' = some (ks, e3),
        ⟨xs.length, rfl, B1, ew, [], [], (Stp.refl ⟨B1, H1, wipe s.σ vs, ew⟩).mut hD, kw.mut nb nOw, nOw, nb, upd_same, rfl, .nil, hc⟩, fun i n H' hW => ?_⟩
      obtain ⟨hn, B', e', kvs, acc, st, k', nO', nB', hH', rk, ra, hc'⟩ := hW
      have ww := w1 B' H' st.bb k'.bh i
      cases hx : xs[i]? with
      | none =>
        have hl := List.getElem?_eq_none_iff.mp hx
        rw [List.drop_eq_nil_of_le hl] at hc'
        cases hc'
        obtain ⟨k5, s5⟩ := rest_ok (s := ⟨B1, H1, s.σ, e1⟩) k1 hw st k'
        have n5 : ¬ OwnA ⟨B', H', s.σ, restE e1 vs e3⟩ Dl := fun c => by
          rcases s5.ow Dl c with z | z
          · exact nO z
          · obtain ⟨j, o2, ⟨y, c1, c2⟩, c3⟩ := c
            obtain ⟨a, a1, a2, a3⟩ := k5.own j y o2 c1 c2
            rcases (restE_spec e1 vs e3).2 j y c1 with ⟨q1, q2⟩ | ⟨q1, q2⟩
            · cases hy : e1[j]? with
              | none => rw [List.getD_eq_getElem?_getD, hy] at q2; rw [q2] at c2; cases c2
              | some x =>
                rw [List.getD_eq_getElem?_getD, hy] at q2
                cases q2
                exact nO ⟨j, o2, ⟨_, hy, c2⟩, c3⟩
            · exact nO' ⟨j, o2, ⟨y, q2, c2⟩, by show (wipe s.σ vs)[j]? = _; rw [wipe_at, if_neg q1]; exact c3⟩
        exact .inl ⟨ww.2 hl, q Dl B' H' (s1.trans s5) k5 (s1.dm Dl hD) nB' ⟨kvs, hH', rk, ra⟩ n5⟩
      | some x =>
        have hl : i < xs.length := (List.getElem?_eq_some_iff.mp hx).1
        have hd : xs.drop i = x :: xs.drop (i + 1) := by
          rw [List.drop_eq_getElem_cons hl]
          rw [(List.getElem?_eq_some_iff.mp hx).2]
        rw [hd] at hc'
        unfold dcL at hc'
        split at hc'
        · cases hc'
        · rename_i e5 hg
          obtain ⟨b, e6, hb, hc'⟩ := bnd_some hc'
          obtain ⟨w2, w3⟩ := ww.1 x hx
          refine .inr ⟨w2, fun H2 => ∃ B' e' kvs acc, Stp ⟨B1, H1, wipe s.σ vs, ew⟩ ⟨B', H2, wipe s.σ vs, e'⟩ ∧ Okm K cm ⟨B', H2, wipe s.σ vs, e'⟩ ∧ ¬ OwnA ⟨B', H2, wipe s.σ vs, e'⟩ Dl ∧ B' Dl = none ∧ H2 Dl = some (.dK kvs) ∧ kvs.map (·.1) = acc.map (·.1) ∧ Reps K cm B' (kvs.map (·.2)) (acc.map (·.2)) ∧ dcL vs ga mt mk mv (xs.drop (i + 1)) acc e' = some (ks, e3),
            fun H2 ⟨B2, e2, kvs2, acc2, p⟩ => ⟨n - 1, by omega, by omega, B2, e2, kvs2, acc2, p⟩, fun v H2 hy => ?_⟩
          obtain ⟨B2, gr, rx⟩ := w3 v H2 hy
          have k2 := gr.ok (s := ⟨B', H', wipe s.σ vs, e'⟩) k'
          have s2 := gr.step (s := ⟨B', H', wipe s.σ vs, e'⟩)
          obtain ⟨t1, t2, t3⟩ := keepT k' s2 hH' nB' nO'
          refine h2 ⟨B2, H2, wipe s.σ vs, e'⟩ k2 v x e5 rx hg _ fun σ3 B3 H3 s3 k3 n3 l3 => ?_
          obtain ⟨t4, t5, t6⟩ := keepT k2 s3 t1 t2 t3
          have wv : wipe σ3 vs = wipe s.σ vs := by
            rw [wipe_same (σ := wipe s.σ vs) (fun j hj' => n3 j fun c => hj' (hj j c)) l3]
            exact wipe_same (fun j hj' => by rw [wipe_at, if_neg hj']) (wipe_length _ _)
          refine ⟨wv, h3 ⟨B3, H3, σ3, e5⟩ k3 b e6 hb _ fun B4 H4 s4 k4 => ?_⟩
          obtain ⟨t7, t8, t9⟩ := keepT k3 s4 t4 t5 t6
          have sA := ((st.trans s2).trans s3).trans s4
          cases b with
          | false =>
            rw [if_neg Bool.false_ne_true]
            have hc' : (match wipeE vs e6 with | none => none | some e4 => dcL vs ga mt mk mv (xs.drop (i + 1)) acc e4) = some (ks, e3) := hc'
            split at hc'
            · cases hc'
            · rename_i e7 he7
              obtain ⟨k7, s7⟩ := wipe_ok (s := ⟨B4, H4, σ3, e6⟩) k4 he7
              have k7 : Okm K cm ⟨B4, H4, wipe σ3 vs, e7⟩ := k7
              have s7 : Stp ⟨B4, H4, σ3, e6⟩ ⟨B4, H4, wipe σ3 vs, e7⟩ := s7
              rw [wv] at k7 s7
              obtain ⟨u1, u2, u3⟩ := keepT k4 s7 t7 t8 t9
              exact ⟨B4, e7, kvs, acc, sA.trans s7, k7, u3, u2, u1, rk, ra.mono (((s2.trans s3).trans s4).bb), hc'⟩
          | true =>
            rw [if_pos rfl]
            have hc' : (bnd (mk e6) fun y e3 => bnd (mv e3) fun d e4 => match keyO y, wipeE vs e4 with | some k, some e5 => if acc.length < sizeLine then dcL vs ga mt mk mv (xs.drop (i + 1)) (putD acc k d) e5 else none | _, _ => none) = some (ks, e3) := hc'
            obtain ⟨y, e7, hd7, hc'⟩ := bnd_some hc'
            obtain ⟨d, e8, hd8, hc'⟩ := bnd_some hc'
            split at hc'
            · rename_i kk e9 hkk he9
              split at hc'
              · rename_i hlt
                refine h4 ⟨B4, H4, σ3, e6⟩ k4 y e7 hd7 _ fun w5 B5 H5 s5 k5 r5 => h5 ⟨B5, H5, σ3, e7⟩ k5 d e8 hd8 _ fun w6 B6 H6 s6 k6 r6 => ?_
                obtain ⟨v1, v2, v3⟩ := keepT k4 s5 t7 t8 t9
                obtain ⟨v4, v5, v6⟩ := keepT k5 s6 v1 v2 v3
                obtain ⟨k7, s7⟩ := wipe_ok (s := ⟨B6, H6, σ3, e8⟩) k6 he9
                have k7 : Okm K cm ⟨B6, H6, wipe σ3 vs, e9⟩ := k7
                have s7 : Stp ⟨B6, H6, σ3, e8⟩ ⟨B6, H6, wipe σ3 vs, e9⟩ := s7
                rw [wv] at k7 s7
                obtain ⟨u1, u2, u3⟩ := keepT k6 s7 v4 v5 v6
                have sB := ((sA.trans s5).trans s6).trans s7
                have rb := ra.mono (((((s2.trans s3).trans s4).trans s5).trans s6).bb)
                obtain ⟨p1, p2⟩ := putK_map (k := kk) r6 rk rb
                have hlen : kvs.length = acc.length := by
                  have := congrArg List.length rk
                  simpa using this
                exact ⟨kvs, kk, key_v r5 hkk, v4, by rw [hlen]; exact hlt, B6, e9, putK kvs kk w6, putD acc kk d, sB.mut hD, k7.mut u2 u3, u3, u2, upd_same, p1, p2, hc'⟩
              · cases hc'
            · cases hc'
end
section
variable {X : Cx}
/-- name = {..} on one line, the name a local -/
theorem ps_setDc {i : Nat} {y : Str} {py : Pos} {kx vx tg iter : Expr} {ifs : List Expr} {scope : Scope} {own : List (Str × Nat)} {pos spos : Pos} {wi : TI} {g : TG} {tt : TT} {tk tv : TE} (hc : X.calm = true) (hN : X.N.Nodup) (hy : X.N[i]? = some y) (hyl : X.env.scope.names.lookup y = some .local)
    (hsw : swapsWith (.DictComp kx vx [⟨tg, iter, ifs, 0⟩] scope pos) (some (.Name y py)) spos.line X.env = pure true) (hi : PI X tg iter wi) (ok : BlkOk X.N X.env.scope scope own)
    (hg : ∀ (s : Shared) (H : Hp) (C : Addr) (cl : List (Str × Addr)) (fp : List Addr), PG (X.blk s H scope (compEnvC scope cl C X.env) fp) tg g) (ht : ∀ (s : Shared) (H : Hp) (C : Addr) (cl : List (Str × Addr)) (fp : List Addr), PTs (X.blk s H scope (compEnvC scope cl C X.env) fp) ifs tt)
    (hk : ∀ (s : Shared) (H : Hp) (C : Addr) (cl : List (Str × Addr)) (fp : List Addr), PE (X.blk s H scope (compEnvC scope cl C X.env) fp) kx tk)
    (he : ∀ (s : Shared) (H : Hp) (C : Addr) (cl : List (Str × Addr)) (fp : List Addr), PE (X.blk s H scope (compEnvC scope cl C X.env) fp) vx tv) (hs : ∀ x, foldedSetIterable iter X.env x = pure x := by intro _; rfl) :
    PS X (.Assign [.Name y py] (.DictComp kx vx [⟨tg, iter, ifs, 0⟩] scope pos) spos) (tAsg (tDc wi g tt tk tv (own.map (·.2))) (gName i)) := by
  refine ⟨fun pins s σ H D I h => ?_⟩
  rw [exec_Assign_Name_used _ _ _ _ hsw]
  refine wpAny_bind (wpAny_standAt (wpAny_bind ?_))
  show wpAny _ X.A (do let _ ← comprehension (.DictComp kx vx [⟨tg, iter, ifs, 0⟩] scope pos) scope X.env (firstIterPos [⟨tg, iter, ifs, 0⟩] pos) newDict false (eval iter X.env) (some (assign (.Name y py) X.env))) _ _ s
  have h : tDc wi g tt tk tv (own.map (·.2)) σ H (fun x H1 => gName i x σ H1 D.nx) := h
  refine wpAny_bind (thn (dc_core (Qf := fun _ s' => SP X pins D .next s') hc hN I hi ok hg ht hk he hs h fun L C s' m H' I' q hn f => ?_) fun _ s' hq => wpAny_pure (wpAny_pure hq))
  show wpAny _ _ (assign (.Name y py) X.env (.ref L)) _ _ _
  refine wpAny_assign_Name (store_ok2 (v := V.ref L) I' hN hy (.inl hyl) rfl (fun s2 I2 ⟨a, sb, ha⟩ => ?_) (.inr hyl))
  obtain ⟨f0, f1, f2, f3, f4, f5⟩ := f
  have haC : C ≠ a := by
    rcases ha with z | z
    · rw [z]; exact f1
    · exact fun e => f4 y a z e.symm
  refine ⟨m, hn.sameBut sb haC, fun h3 sb3 => ?_⟩
  exact ⟨_, H', I2.turned (t' := s2.toks) (fun b o hb e => (sb3.2 b hb).trans e) f0 f1 f3 f4 f5, q⟩
theorem sw_trueD {kx vx : Expr} {gs : List Comprehension} {scope : Scope} {pos py : Pos} {y : Str} {l : Nat} {env : Env} (hk : env.scope.kind = .function) (hy : env.scope.names.lookup y = some .local) (hl : (py.line == pos.line) = true)
    (ha : (scope.names.any fun (n, k) => n == y && (k == .local || k == .cell)) = false) : swapsWith (.DictComp kx vx gs scope pos) (some (.Name y py)) l env = pure true := by
  have ky : env.kindOf y = some .local := hy
  have hb : env.blockKind = .function := by unfold Env.blockKind; rw [hk]; rfl
  unfold swapsWith
  simp only [hb, ky, ha, Expr.pos, hl]
  rfl
end
end Mir

set_option Elab.async false
set_option linter.all false
set_option maxRecDepth 100000
set_option maxHeartbeats 2000000
/-! rules of my own: == and != by an own __eq__ that tells True or False; comb -/
namespace WS
open PySem PySem.Spec PyProof.Rows L2 Evl
section
variable {X : Cx} {n : Nat} {CX : CXT} {C f : Addr} {fd : FuncData} {ps : List Str} {sp : Sp} {E : XK}
/-- a right side whose type has no say ahead of C's -/
def Rhs (K : PySem.W.Frag) (C : Addr) (H : Hp) (y : V) : Prop := ∃ t, TyX K H y t ∧ PySem.W.notFirst K C t = true
def rOwn (K : PySem.W.Frag) (C : Addr) (sp : Sp) (E : XK) (neg : Bool) : R2 := fun x y H Q =>
  ∃ a dx fs, x = .ref a ∧ H a = some (.ins C dx fs) ∧ Rhs K C H y ∧ sp [.ref a, y] H (fun v H' => ∃ b, v = .bl b ∧ Q (.bl (if neg then !b else b)) H') E
theorem sub_list (K : PySem.W.Frag) (C : Addr) : PySem.W.subIn K (.type "list") (.ref C) = some false := by
  unfold PySem.W.subIn
  have h : fastBuiltinMro "list" = some [.type "list", .type "object"] := by decide +kernel
  simp [h]
theorem rhs_list {K : PySem.W.Frag} {C a : Addr} {H : Hp} {xs : List V} (h : H a = some (.lst xs)) : Rhs K C H (.ref a) :=
  ⟨.type "list", TyX.base (TyOf.lst h), by unfold PySem.W.notFirst; rw [sub_list]; rfl⟩
theorem notFirst_self (K : PySem.W.Frag) (C : Addr) : PySem.W.notFirst K C (.ref C) = true := by unfold PySem.W.notFirst; simp
/-- the callee runs anywhere below the body -/
theorem own_run (F : FnOk X.prog X.w X.K X.mg X.base CX n f fd ps sp) (hb : Binds X.K fd ps []) (hx : Passes CX X E) {A : Around} (sb : Sub X n A) {pins : List (Addr × Obj)} {s : Shared} {σ : L2.St} {H : Hp} {vs : List V} {us : List Value} {Q : VK}
    (I : Inv X pins σ H s) (r : Vals vs us) (h : sp vs H Q E) : wpAny (model X.prog X.w) A (call (.ref f) us) (EP X pins σ Q) X.xe s := by
  have k := I.env0
  have k' : Env0 X.prog X.w X.K X.mg X.base A X.stack s H := { frames := sb.fr.trans k.frames, mod := k.mod, bs := k.bs, bsz := k.bsz, funs := k.funs, frf := k.frf, hok := k.hok, bare := k.bare }
  have bd := hb s us I.kIn (by rw [List.append_nil, ← r.length]; exact F.len _ _ _ _ h)
  rw [List.append_nil] at bd
  refine wpAny_call (codeAny_mono (F.run A X.stack s H ⟨us, []⟩ us vs Q E sb.room k' bd r h) ?_)
  intro res s' z
  match res, z with
  | .error e, z => exact hx pins σ H s e s' I z
  | .ok (.ret u), z => exact I.after z
theorem cmp_back {σ : L2.St} {pins : List (Addr × Obj)} {Q : VK} (v : Value) (s' : Shared) (z : EP X pins σ (fun w H' => ∃ b, w = .bl b ∧ Q (.bl b) H') v s') : PySem.W.CmpBack (EP X pins σ Q) v s' := by
  obtain ⟨w, H', I', rw', b, rfl, q⟩ := z
  cases (show v = Value.bool b from rw')
  exact ⟨.bl b, H', I', rfl, q⟩
theorem op_own (F : FnOk X.prog X.w X.K X.mg X.base CX n f fd ps sp) (hs : PySem.W.findIn X.K (.ref C) "__eq__" = some (some (.ref f))) (hf : PySem.W.isFn X.K (.ref f) = true) (hb : Binds X.K fd ps []) (hx : Passes CX X E) (hr : Room n X.A) : OpR X (compareOp .Eq) (rOwn X.K C sp E false) := by
  intro pins s σ H x y v u Q I rx ry h
  obtain ⟨a, dx, fs, rfl, ha, ⟨t, ty, nf⟩, q⟩ := h
  cases (show v = Value.ref a from rx)
  obtain ⟨mA, J0, _⟩ := ins_get I.hok ha
  obtain ⟨od, J, _⟩ := J0.look
  obtain ⟨mm, hF⟩ := I.fr
  obtain ⟨P, kx, hp, _⟩ := kit_of I ry ty
  exact PySem.W.cmp_K (op := .Eq) (tb := t) hr.units0 hF I.ok.mod.kin J (kx.ty _ _ I.kIn hp) nf hs hf
    (wpAny_mono (own_run F hb hx ⟨hr, rfl⟩ I (Paired.cons (show RelV (V.ref a) (Value.ref a) from rfl) (Paired.cons ry Paired.nil)) q) cmp_back fun _ _ e => e)
/-- object's != asks the own == -/
theorem bound_ne {A : Around} {s : Shared} {K : PySem.W.Frag} {x : Addr} {ox : Obj} {od : Option Obj} {M : Model} {args : List Value} {R : Option Value → Shared → Prop} {E' : Value → Shared → Prop} (k : K.In s.heap) (J : PySem.W.InstAt s.heap x ox C od)
    (hN : PySem.W.findIn K (.ref C) "__ne__" = some (some (.builtin "object.__ne__"))) (h : wpAny M A (call (.builtin "object.__ne__") (.ref x :: args)) (fun v => R (some v)) E' s) : wpAny M A (callSpecialIfBound? (.ref x) "__ne__" args) R E' s := by
  unfold callSpecialIfBound? bindSpecialIfBound?
  have done : wpAny M A (do let v ← call (.builtin "object.__ne__") ([.ref x] ++ args); pure (some v)) R E' s := wpAny_bind (wpAny_mono h (fun _ _ z => wpAny_pure z) fun _ _ z => z)
  have bd : bindSpecial (.builtin "object.__ne__") (.ref x) = pure (.builtin "object.__ne__", [.ref x]) := F.cmp_object.ne.bind _
  refine wpAny_holding (wpAny_bind (wpAny_bind (wpAny_bind (J.type.here ((PySem.W.looks_findIn k hN).here (wpAny_bind (wpAny_askSetting (wpAny_ite ?_))))))))
  split
  · refine wpAny_bind (wpAny_of_eq bd (wpAny_pure ?_))
    exact done
  · refine wpAny_tryCatch (wpAny_bind (wpAny_of_eq bd (wpAny_pure ?_)))
    exact done
theorem op_ownNe (F : FnOk X.prog X.w X.K X.mg X.base CX n f fd ps sp) (hs : PySem.W.findIn X.K (.ref C) "__eq__" = some (some (.ref f))) (hN : PySem.W.findIn X.K (.ref C) "__ne__" = some (some (.builtin "object.__ne__"))) (hm : PySem.W.mroIn X.K C (.type "object") = some true)
    (hf : PySem.W.isFn X.K (.ref f) = true) (hb : Binds X.K fd ps []) (hx : Passes CX X E) (hr : Room (n + 1) X.A) : OpR X (compareOp .NotEq) (rOwn X.K C sp E true) := by
  intro pins s σ H x y v u Q I rx ry h
  obtain ⟨a, dx, fs, rfl, ha, ⟨t, ty, nf⟩, q⟩ := h
  cases (show v = Value.ref a from rx)
  obtain ⟨mA, J0, _⟩ := ins_get I.hok ha
  obtain ⟨od, J, _⟩ := J0.look
  obtain ⟨P, kx, hp, _⟩ := kit_of I ry ty
  have k := I.kIn
  have hu1 : X.A.in1.units < cLine := by have := hr.un; show X.A.units + 1 < cLine; omega
  have one : wpAny (model X.prog X.w) X.A (tryCompare (.ref a) "__ne__" u) (fun r s' => ∃ z, r = some z ∧ EP X pins σ Q z s') X.xe s := by
    unfold tryCompare
    refine wpAny_bind (bound_ne k J hN (wpAny_call (codeAny_call_builtin PySem.F.cmp_object.ne.plain PySem.F.cmpEntry_ne (PySem.W.check_slot PySem.F.cmpKind_ne PySem.F.cmpSplit_ne (J.type.andThen (PySem.W.looks_mroIn k hm)) (PySem.F.cmpArgs_ne _ _) ?_))))
    unfold Builtin.«object.__ne__» slotArgs
    refine wpAny_bind (wpAny_pure (wpAny_bind (wpAny_cRoomFor hu1 (wpAny_bind ?_))))
    refine PySem.W.ifBound_K k J hs hf (wpAny_mono (own_run (A := X.A.in1) F hb hx ⟨hr.in1, rfl⟩ I (Paired.cons (show RelV (V.ref a) (Value.ref a) from rfl) (Paired.cons ry Paired.nil)) q) (fun z s' e => ?_) fun _ _ e => e)
    obtain ⟨w', H', I', rw', b, rfl, q'⟩ := e
    cases (show z = Value.bool b from rw')
    refine wpAny_bind (wpAny_truthy_bool (wpAny_pure ?_))
    exact wpAny_pure ⟨_, rfl, .bl _, H', I', rfl, q'⟩
  show wpAny _ _ (richCompare .NotEq (.ref a) u) _ _ _
  unfold richCompare
  simp only [oneThing_ref]
  refine wpAny_holding (wpAny_bind (wpAny_cRoomFor hr.units0 (wpAny_bind (J.type.here (wpAny_bind ((kx.ty _ _ k hp).here ?_))))))
  have last : ∀ (g : Option Value → Sem Value), (∀ z, g (some z) = pure z) → wpAny (model X.prog X.w) X.A (tryCompare (.ref a) "__ne__" u >>= g) (EP X pins σ Q) X.xe s := fun g hg =>
    wpAny_bind (wpAny_mono one (fun r s' e => by obtain ⟨z, rfl, hz⟩ := e; rw [hg]; exact wpAny_pure hz) fun _ _ e => e)
  split
  · rename_i ne
    have e : PySem.W.subIn X.K t (.ref C) = some false := by
      unfold PySem.W.notFirst at nf
      rw [Bool.or_eq_true] at nf
      rcases nf with e | e
      · rw [beq_iff_eq.mp e] at ne; simp at ne
      · exact beq_iff_eq.mp e
    refine wpAny_bind ((PySem.W.looks_subIn k e).here ?_)
    simp only [Bool.false_eq_true, if_false]
    exact last _ fun _ => rfl
  · refine wpAny_bind (wpAny_pure ?_)
    simp only [Bool.false_eq_true, if_false]
    exact last _ fun _ => rfl
end
end WS

set_option Elab.async false
set_option linter.all false
set_option maxRecDepth 100000
set_option maxHeartbeats 2000000
namespace Mir
open PySem PySem.Spec PyProof.Rows L2 Evl WS
/-! ### repr of scalars, too -/
def rReprI : List V → Hp → VK → Prop := fun xs H Q => (∃ i : Int, xs = [.int i] ∧ i.natAbs.log2 < 1920 ∧ Q (.str (toString i)) H) ∨ (∃ b : Bool, xs = [.bl b] ∧ Q (.str (if b then "True" else "False")) H) ∨ (xs = [.non] ∧ Q (.str "None") H) ∨ (∃ x : Str, xs = [.str x] ∧ (reprText x).length ≤ sizeLine ∧ Q (.str (reprText x)) H)
theorem cr_reprI {X : Cx} : CallR X (.builtin "repr") rReprI := by
  intro pins s σ H xs us Q I r h
  rcases h with ⟨i, rfl, hi, q⟩ | ⟨b, rfl, q⟩ | ⟨rfl, q⟩ | ⟨x, rfl, hx, q⟩
  · obtain ⟨u, rfl, t, rfl⟩ := vals1 r
    exact PySem.P.repr_of_int hi ⟨.str _, H, I.tok _, ⟨_, rfl⟩, q⟩
  · obtain ⟨u, rfl, ru⟩ := vals1 r
    cases (show u = Value.bool b from ru)
    exact PySem.P.repr_of_bool ⟨.str _, H, I.tok _, ⟨_, rfl⟩, q⟩
  · obtain ⟨u, rfl, ru⟩ := vals1 r
    cases (show u = Value.none from ru)
    exact PySem.P.repr_of_none ⟨.str _, H, I.tok _, ⟨_, rfl⟩, q⟩
  · obtain ⟨u, rfl, ru⟩ := vals1 r
    obtain ⟨tk, rfl⟩ := (show ∃ tk, u = Value.str x tk from ru)
    exact PySem.P.repr_of_str ⟨.str _, H, I.tok _, ⟨_, rfl⟩, q⟩ hx
/-- repr({}) -/
def rReprE : List V → Hp → VK → Prop := fun xs H Q => ∃ a, xs = [.ref a] ∧ H a = some (.dK []) ∧ Q (.str "{}") H
theorem cr_reprE {X : Cx} (quiet : Quiet X.A) (room : X.A.units + 64 < cLine) : CallR X (.builtin "repr") rReprE := by
  intro pins s σ H xs us Q I r h
  obtain ⟨a, rfl, ha, q⟩ := h
  obtain ⟨u, rfl, ru⟩ := vals1 r
  cases (show u = Value.ref a from ru)
  obtain ⟨_, hne, vs, hkv, o, es, ep, ho, ex, hd, hk, hp, _⟩ := I.hok a _ ha
  cases hkv
  have he : es.toList = [] := by
    cases h0 : es.toList with
    | nil => rfl
    | cons x y => rw [h0] at hp; cases hp
  have rd : Reads s.heap (.ref a) (.dict []) (a :: [] ++ []) := .dict ho ex.1 hd (by rw [he]; exact .nil) (by rw [he]; exact .nil)
  have dp : (PyData.dict []).depth ≤ 50 := by decide +kernel
  refine repr_of_reads' rd (by decide +kernel) (fun _ z => ?_) quiet (by omega) (fun _ _ e => e) (fun h' u' tk keep => ⟨.str "{}", H, I.kept keep, ⟨u', congrArg (fun x => Value.str x u') (show (PyData.dict []).shown = Str.ofString "{}" by decide +kernel)⟩, q⟩) (by decide +kernel)
  have z : sysModules ∈ [a] := z
  rw [List.mem_singleton] at z
  rw [← z] at hne
  exact absurd hne (by decide)
abbrev rReprA (K : PySem.W.Frag) := orC (orC (rRepr K) rReprI) rReprE
theorem cr_reprA {X : Cx} (quiet : Quiet X.A) (room : X.A.units + 64 < cLine) : CallR X (.builtin "repr") (rReprA X.K) := CallR.or (CallR.or (cr_repr quiet room) cr_reprI) (cr_reprE quiet room)
def reprA : D → Option D
  | .int i => if i.natAbs.log2 < 1920 then some (.str (toString i)) else none
  | .bl b => some (.str (if b then "True" else "False"))
  | .non => some (.str "None")
  | .str x => if (reprText x).length ≤ sizeLine then some (.str (reprText x)) else none
  | .dic [] => some (.str "{}")
  | d => reprD d
section
variable {K : PySem.W.Frag} {cm : CM}
theorem rcd_reprA : RCD K cm (rReprA K) (one reprA) := fun B H xs ds d e r h Q q => by
  obtain ⟨x, rfl, hh⟩ := one_some h
  replace h := hh
  clear hh
  have hv := reps1 r
  obtain ⟨v, rfl, rv⟩ := hv
  have low : one reprD [x] = some d → rReprA K [v] H Q := fun h2 => .inl (.inl (rcd_repr B H [v] [x] d e r h2 Q q))
  cases rv with
  | int i =>
    have h : (if i.natAbs.log2 < 1920 then some (D.str (toString i)) else none) = some d := h
    split at h
    · rename_i hc
      cases h
      exact .inl (.inr (.inl ⟨i, rfl, hc, q _ B H (Gro.refl e) (.str _)⟩))
    · cases h
  | bl b => cases h; exact .inl (.inr (.inr (.inl ⟨b, rfl, q _ B H (Gro.refl e) (.str _)⟩)))
  | non => cases h; exact .inl (.inr (.inr (.inr (.inl ⟨rfl, q _ B H (Gro.refl e) (.str _)⟩))))
  | str x =>
    have h : (if (reprText x).length ≤ sizeLine then some (D.str (reprText x)) else none) = some d := h
    split at h
    · rename_i hc
      cases h
      exact .inl (.inr (.inr (.inr (.inr ⟨x, rfl, hc, q _ B H (Gro.refl e) (.str _)⟩))))
    · cases h
  | lst a b => exact low h
  | scr a b => exact low h
  | tup a b => exact low h
  | @dic a kvs ks ha hk hr =>
    cases ks with
    | nil =>
      cases h
      have hkv : kvs = [] := by
        cases kvs with
        | nil => rfl
        | cons _ _ => cases hk
      subst hkv
      exact .inr ⟨a, rfl, e _ _ ha, q _ B H (Gro.refl e) (.str _)⟩
    | cons _ _ => exact low h
  | ins a b c => exact low h
  | exc a b c => exact low h
  | fn k => exact low h
  | rng a => exact low h
/-! ### own == -/
def rhsB (c : Nat) : D → Bool
  | .lst _ => true
  | .scr _ => true
  | .tup _ => true
  | .int _ => true
  | .non => true
  | .bl _ => true
  | .str _ => true
  | .ins d _ => d == c
  | _ => false
theorem sub_ty (K : PySem.W.Frag) (C : Addr) {n : String} {l : List Value} (h : fastBuiltinMro n = some l) (hl : l.contains (.ref C) = false) : PySem.W.subIn K (.type n) (.ref C) = some false := by
  show (fastBuiltinMro n).map (fun x => x.contains (Value.ref C)) = some false
  rw [h]
  show some (l.contains (.ref C)) = some false
  rw [hl]
theorem sub_ty2 (K : PySem.W.Frag) (C : Addr) {n m : String} (h : fastBuiltinMro n = some [.type m, .type "object"]) : PySem.W.subIn K (.type n) (.ref C) = some false := sub_ty K C h (by simp)
theorem sub_kd (K : PySem.W.Frag) (C : Addr) : ∀ d : D, (∀ c fs, d ≠ .ins c fs) → kdOf d ≠ .no → PySem.W.subIn K (kdV (fun _ => C) (kdOf d)) (.ref C) = some false
  | .non, _, _ => sub_ty2 K C (m := "NoneType") (by decide +kernel)
  | .bl _, _, _ => sub_ty K C (n := "bool") (l := [.type "bool", .type "int", .type "object"]) (by decide +kernel) (by simp)
  | .int _, _, _ => sub_ty2 K C (m := "int") (by decide +kernel)
  | .str _, _, _ => sub_ty2 K C (m := "str") (by decide +kernel)
  | .lst _, _, _ => sub_ty2 K C (m := "list") (by decide +kernel)
  | .scr _, _, _ => sub_ty2 K C (m := "list") (by decide +kernel)
  | .tup _, _, _ => sub_ty2 K C (m := "tuple") (by decide +kernel)
  | .dic _, _, _ => sub_ty2 K C (m := "dict") (by decide +kernel)
  | .ins c fs, h, _ => absurd rfl (h c fs)
  | .exc _ _, _, h => absurd rfl h
  | .fn _, _, h => absurd rfl h
  | .rng _ _, _, h => absurd rfl h
theorem kd_same {cm : CM} {C : Addr} {d : D} (h : ∀ c fs, d ≠ .ins c fs) : kdV cm (kdOf d) = kdV (fun _ => C) (kdOf d) := by
  cases d <;> first | rfl | exact absurd rfl (h _ _)
def ownEq (c : Nat) (neg : Bool) (F : MF) (x y : D) : Option D := match x with
  | .ins c2 _ => if c2 = c ∧ rhsB c y = true then (match F [.fro x, .fro y] with | some (.bl b, _) => some (.bl (if neg then !b else b)) | _ => none) else none
  | _ => none
theorem no_own2 {x y : SD} {a : Addr} {vs : L2.St} {B H : Hp} {dx dy : D} : ¬ OwnA ⟨B, H, vs, [.fro dx, .fro dy]⟩ a := fun ⟨i, o, ⟨z, h1, h2⟩, _⟩ => by
  match i, h1 with
  | 0, h1 => cases h1; cases h2
  | 1, h1 => cases h1; cases h2
theorem rd_own {c : Nat} {neg : Bool} {F : MF} {E : XK} (hk : ClsOk K (cm c)) : RD K cm (rOwn K (cm c) (spD K cm 2 F) E neg) (ownEq c neg F) := fun B H x y dx dy d e rx ry h Q q => by
  cases rx with
  | @ins a dxx c2 fs gs ha hm hr =>
    have h8 : (if c2 = c ∧ rhsB c dy = true then (match F [.fro (.ins c2 gs), .fro dy] with | some (.bl b, _) => some (D.bl (if neg then !b else b)) | _ => none) else none) = some d := h
    clear h
    have h := h8
    clear h8
    split at h
    · rename_i hc
      obtain ⟨hc1, hy⟩ := hc
      subst hc1
      split at h
      · rename_i b es hF
        cases h
        have rx2 : Rep K cm B (.ref a) (.ins c2 gs) := .ins ha hm hr
        have hcl : ∀ d, kdOf dy = .cl d → ClsOk K (cm d) := fun d hd => by
          cases dy with
          | ins c3 fs3 =>
            have : c3 = c2 := by simpa [rhsB] using hy
            subst this
            cases hd
            exact hk
          | _ => cases hd
        have hdy : kdOf dy ≠ .no := fun z => by
          cases dy with
          | exc _ _ => exact Bool.false_ne_true hy
          | fn _ => exact Bool.false_ne_true hy
          | rng _ _ => exact Bool.false_ne_true hy
          | _ => cases z
        have rhs : Rhs K (cm c2) H y := ⟨_, ty_of ry e hcl hdy, by
          by_cases hi : ∃ c3 fs3, dy = .ins c3 fs3
          · obtain ⟨c3, fs3, rfl⟩ := hi
            have : c3 = c2 := by simpa [rhsB] using hy
            subst this
            exact notFirst_self _ _
          · have hn : ∀ c3 fs3, dy ≠ .ins c3 fs3 := fun c3 fs3 z => hi ⟨c3, fs3, z⟩
            rw [kd_same (C := cm c2) hn]
            unfold PySem.W.notFirst
            rw [sub_kd K (cm c2) dy hn hdy]
            simp⟩
        refine ⟨a, dxx, fs, rfl, e _ _ ha, rhs, B, [.fro (.ins c2 gs), .fro dy], .bl b, es, rfl, ⟨rfl, e, fun i d hi => ?_, fun i x o hi ho => ?_, fun i j o p a2 h1 _ => absurd ⟨i, o, h1⟩ (no_own2 (x := .nn) (y := .nn))⟩, hF, fun v B' H' st k' rv => ?_⟩
        · match i, hi with
          | 0, hi => cases hi; exact ⟨_, rfl, rx2⟩
          | 1, hi => cases hi; exact ⟨_, rfl, ry⟩
        · match i, hi with
          | 0, hi => cases hi; cases ho
          | 1, hi => cases hi; cases ho
        · cases rv
          exact ⟨b, rfl, q _ B' H' ⟨fun a2 o2 h2 => st.ex a2 o2 h2 (no_own2 (x := .nn) (y := .nn)), st.bb, k'.bh, fun a2 o2 h2 h3 => (st.fr a2 o2 h2 h3).elim id fun z => absurd z (no_own2 (x := .nn) (y := .nn))⟩ (.bl _)⟩
      · cases h
    · cases h
  | _ => cases h
/-- isinstance of an own class, both answers -/
def ownF2 (c : Nat) : Kd → Option Bool
  | .cl d => if d = c then some true else none
  | .ty n => if n == "NoneType" || n == "bool" || n == "int" || n == "str" || n == "list" || n == "tuple" || n == "dict" then some false else none
  | .no => none
theorem de_isiO2 {te : TE} {m : M} {c : Nat} (hk : ClsOk K (cm c)) (ht : PySem.W.typeIn K (.ref (cm c)) = some (.type "type")) (hs : (PySem.W.clsIn K (cm c)).isSome = true) (h : DE K cm te m) : DE K cm (tCB (rIsi K) (tCons te (tCons (tC (.ref (cm c))) tNil))) (isiM (ownF2 c) m) :=
  de_isiC (ClsV.own _) (fun k b hb => by
    cases k with
    | no => cases hb
    | ty a =>
      have hb : (if (a == "NoneType" || a == "bool" || a == "int" || a == "str" || a == "list" || a == "tuple" || a == "dict") = true then some false else none) = some b := hb
      split at hb
      · rename_i ha
        have hb := Option.some.inj hb
        subst hb
        show PySem.W.kitOne K (.type a) (.ref (cm c)) = some false
        have sub : PySem.W.subIn K (.type a) (.ref (cm c)) = some false := by
          simp only [Bool.or_eq_true, beq_iff_eq] at ha
          rcases ha with (((((rfl | rfl) | rfl) | rfl) | rfl) | rfl) | rfl
          · exact sub_kd K (cm c) .non (fun _ _ z => nomatch z) (fun z => nomatch z)
          · exact sub_kd K (cm c) (.bl true) (fun _ _ z => nomatch z) (fun z => nomatch z)
          · exact sub_kd K (cm c) (.int 0) (fun _ _ z => nomatch z) (fun z => nomatch z)
          · exact sub_kd K (cm c) (.str "") (fun _ _ z => nomatch z) (fun z => nomatch z)
          · exact sub_kd K (cm c) (.lst []) (fun _ _ z => nomatch z) (fun z => nomatch z)
          · exact sub_kd K (cm c) (.tup []) (fun _ _ z => nomatch z) (fun z => nomatch z)
          · exact sub_kd K (cm c) (.dic []) (fun _ _ z => nomatch z) (fun z => nomatch z)
        unfold PySem.W.kitOne
        rw [if_neg (by simp)]
        unfold PySem.W.kitCls
        simp only [hs, ht, sub]
        simp
      · cases hb
    | cl d =>
      have hb : (if d = c then some true else none) = some b := hb
      split at hb
      · rename_i e
        have hb := Option.some.inj hb
        subst hb
        rw [e]
        show PySem.W.kitOne K (.ref (cm c)) (.ref (cm c)) = some true
        unfold PySem.W.kitOne
        rw [if_pos (beq_self_eq_true _)]
      · cases hb) (fun d hd => by
    by_cases e : d = c
    · subst e; exact hk
    · exact absurd (show (if d = c then some true else none) = none from if_neg e) hd) h
theorem cls_some {K : PySem.W.Frag} {C : Addr} (c : Cls K C) : (PySem.W.clsIn K C).isSome = true := by
  obtain ⟨cd, hc, _⟩ := PySem.W.any_some c.hd
  rw [hc]
  rfl
/-! ### the law itself -/
def spLaw (K : PySem.W.Frag) : Sp := fun vs H Q _ => ∃ a, ∃ ns : List Int, vs = [.ref a] ∧ SqL K H a (ns.map V.int) ∧ ns.length ≤ 63 ∧ ∀ H', Q (.bl true) H'
theorem law_sp {cm : CM} {F : Nat → MF} (h : ∀ ns : List Int, ns.length ≤ 63 → ∃ n e', F n [.fro (.scr (ns.map D.int))] = some (.bl true, e')) {vs : List V} {H : Hp} {Q : VK} {E : XK} (w : spLaw K vs H Q E) : ∃ n, spD K cm 1 (F n) vs H Q E := by
  obtain ⟨a, ns, rfl, hs, hl, q⟩ := w
  obtain ⟨n, e', hF⟩ := h ns hl
  refine ⟨n, H, _, _, _, rfl, ⟨rfl, Ex.refl H, fun i d hi => ?_, fun i x o hi ho => ?_, fun i j o p a2 h1 _ => ?_⟩, hF, fun v B' H' st k' rv => ?_⟩
  · match i, hi with
    | 0, hi => cases hi; exact ⟨_, rfl, .scr hs (Reps.of_ints ns)⟩
  · match i, hi with
    | 0, hi => cases hi; cases ho
  · obtain ⟨⟨x, h2, h3⟩, _⟩ := h1
    match i, h2 with
    | 0, h2 => cases h2; cases h3
  · cases rv
    exact q H'
end
section
variable {P : Program} {w : World} {K : PySem.W.Frag} {mg : Str → Option Value} {base : Heap} {cm : CM}
theorem law_ok {CX : CXT} {k : Nat} {f : Addr} {fd : FuncData} {x : Str} {F : Nat → MF} (h : ∀ ns : List Int, ns.length ≤ 63 → ∃ n e', F n [.fro (.scr (ns.map D.int))] = some (.bl true, e')) (hk : ∀ n, FnOk P w K mg base CX k f fd [x] (spD K cm 1 (F n))) : FnOk P w K mg base CX k f fd [x] (spLaw K) :=
  ⟨fun vs H Q E q => by obtain ⟨n, q⟩ := law_sp (cm := cm) h q; exact spD_len q, fun A outer s H args us vs Q E hr he hb hv q => by
    obtain ⟨n, q⟩ := law_sp (cm := cm) h q
    exact (hk n).run A outer s H args us vs Q E hr he hb hv q⟩
theorem law_okQ {k : Nat} {f : Addr} {fd : FuncData} {x : Str} {F : Nat → MF} (h : ∀ ns : List Int, ns.length ≤ 63 → ∃ n e', F n [.fro (.scr (ns.map D.int))] = some (.bl true, e')) (hk : ∀ n, FnQ P w K mg base k f fd [x] (spD K cm 1 (F n))) : FnQ P w K mg base k f fd [x] (spLaw K) :=
  ⟨fun vs H Q E q => by obtain ⟨n, q⟩ := law_sp (cm := cm) h q; exact spD_len q, fun A outer s H args us vs Q E hq hr he hb hv q => by
    obtain ⟨n, q⟩ := law_sp (cm := cm) h q
    exact (hk n).go A outer s H args us vs Q E hq hr he hb hv q⟩
end
end Mir

set_option Elab.async false
set_option linter.all false
set_option maxRecDepth 100000
set_option maxHeartbeats 2000000
namespace Mir
open PySem PySem.Spec PyProof.Rows L2 Evl WS
/-! ### gcd, comb, list(range(..)), xs[::-1] -/
def gcdD : D → D → Option D
  | .int a, .int b => some (.int ((Nat.gcd a.natAbs b.natAbs : Nat) : Int))
  | _, _ => none
def combD : D → D → Option D
  | .int a, .int b => if 0 ≤ a ∧ 0 ≤ b ∧ a < 18446744073709551616 ∧ (b ≤ 9000 ∨ a ≤ 18000) then some (.int (PySem.W.mcComb a b)) else none
  | _, _ => none
/-- list(range(a, b)) -/
def lrgM (ma mb : M) : MO := fun e => bnd (ma e) fun x e1 => bnd (mb e1) fun y e2 => match x, y with | .int a, .int b => if -1000000 ≤ a ∧ a ≤ 1000000 ∧ -1000000 ≤ b ∧ b ≤ 1000000 then some (.lst (rngD a (b - a).toNat), e2) else none | _, _ => none
def lrg1M (mb : M) : MO := fun e => bnd (mb e) fun y e2 => match y with | .int b => if -1000000 ≤ b ∧ b ≤ 1000000 then some (.lst (rngD 0 b.toNat), e2) else none | _ => none
/-- xs[::-1] -/
def revF (m : M) : MO := fun e => bnd (m e) fun x e1 => match x with | .lst xs => some (.lst xs.reverse, e1) | .scr xs => some (.lst xs.reverse, e1) | _ => none
section
variable {K : PySem.W.Frag} {cm : CM} {ta tb te : TE} {ma mb m : M}
theorem rcd_gcd : RCD K cm rGcd (two gcdD) := fun B H xs ds d e r h Q q => by
  obtain ⟨x, y, rfl, hh⟩ := two_some h
  replace h := hh
  clear hh
  obtain ⟨v, w, rfl, rv, rw'⟩ := reps2 r
  unfold gcdD at h
  split at h
  · cases rv
    cases rw'
    cases h
    exact ⟨_, _, rfl, q _ B H (Gro.refl e) (.int _)⟩
  · cases h
theorem rcd_comb : RCD K cm rComb (two combD) := fun B H xs ds d e r h Q q => by
  obtain ⟨x, y, rfl, hh⟩ := two_some h
  replace h := hh
  clear hh
  obtain ⟨v, w, rfl, rv, rw'⟩ := reps2 r
  unfold combD at h
  split at h
  · cases rv
    cases rw'
    split at h
    · rename_i hc
      cases h
      exact ⟨_, _, rfl, hc.1, hc.2.1, hc.2.2.1, hc.2.2.2, q _ B H (Gro.refl e) (.int _)⟩
    · cases h
  · cases h
theorem rep_rg {B : Hp} (a : Int) (n : Nat) : Reps K cm B ((List.range n).map fun i : Nat => V.int (a + (i : Nat))) (rngD a n) := by
  unfold rngD
  have : ∀ ks : List Nat, Reps K cm B (ks.map fun i : Nat => V.int (a + (i : Nat))) (ks.map fun k : Nat => D.int (a + (k : Int))) := fun ks => by
    induction ks with
    | nil => exact .nil
    | cons x r ih => exact .cons (.int _) ih
  exact this _
theorem new_lst {s : MSt} {e' : SDs} {B1 H1 : Hp} {vs : List V} {xs : List D} {Q : VK} (s1 : Stp s ⟨B1, H1, s.σ, e'⟩) (k1 : Okm K cm ⟨B1, H1, s.σ, e'⟩) (r1 : Reps K cm B1 vs xs)
    (q : ∀ p B' H', Stp s ⟨B', H', s.σ, e'⟩ → Okm K cm ⟨B', H', s.σ, e'⟩ → s.H p = none → B' p = none → OwnR K cm B' H' p (.lst xs) → ¬ OwnA ⟨B', H', s.σ, e'⟩ p → Q (.ref p) H') {p : Addr} (hp : H1 p = none) : Q (.ref p) (upd H1 p (.lst vs)) := by
  have hp' : ¬ OwnA ⟨B1, H1, s.σ, e'⟩ p := notOwnA k1 hp
  have g := Gro.lay k1.bh (Ex.new (o := .lst vs) hp)
  exact q p _ _ (s1.trans (g.step (s := ⟨B1, H1, s.σ, e'⟩))) (g.ok (s := ⟨B1, H1, s.σ, e'⟩) k1) (s1.dm p hp) (fresh_back k1.bh hp) ⟨vs, upd_same, r1⟩ hp'
theorem df_lrg (ha : DE K cm ta ma) (hb : DE K cm tb mb) : DF K cm (tLstRg (tRg2 ta tb)) (lrgM ma mb) := fun s k d e' h Q q => by
  obtain ⟨x, e1, h1, h⟩ := bnd_some h
  obtain ⟨y, e2, h2, h⟩ := bnd_some h
  refine ha s k x e1 h1 _ fun v B1 H1 s1 k1 r1 => hb ⟨B1, H1, s.σ, e1⟩ k1 y e2 h2 _ fun w B2 H2 s2 k2 r2 => ?_
  split at h
  · split at h
    · rename_i hc
      cases h
      cases r1
      cases r2
      refine ⟨_, _, rfl, rfl, ⟨by omega, by omega, by omega, by omega, by omega⟩, fun p hp => ?_⟩
      exact new_lst (s1.trans s2) k2 (rep_rg _ _) q hp
    · cases h
  · cases h
theorem df_lrg1 (hb : DE K cm tb mb) : DF K cm (tLstRg (tRg1 tb)) (lrg1M mb) := fun s k d e' h Q q => by
  obtain ⟨y, e2, h2, h⟩ := bnd_some h
  refine hb s k y e2 h2 _ fun w B2 H2 s2 k2 r2 => ?_
  split at h
  · split at h
    · rename_i hc
      cases h
      cases r2
      refine ⟨_, rfl, ⟨by omega, by omega, by omega, by omega, by omega⟩, fun p hp => ?_⟩
      have := rep_rg (K := K) (cm := cm) (B := B2) 0
      unfold rgV
      rw [Int.sub_zero]
      exact new_lst s2 k2 (rep_rg _ _) q hp
    · cases h
  · cases h
theorem df_rev (h : DE K cm te m) : DF K cm (tRevL K te) (revF m) := fun s k d e' hm Q q => by
  obtain ⟨x, e1, h1, hm⟩ := bnd_some hm
  refine h s k x e1 h1 _ fun v B1 H1 s1 k1 r1 => ?_
  split at hm
  · cases hm
    cases r1 with
    | lst hx r => exact ⟨_, _, rfl, sq_of (k1.bh _ _ hx), fun p hp => new_lst s1 k1 r.rev q hp⟩
  · cases hm
    cases r1 with
    | scr hx r => exact ⟨_, _, rfl, ex_l k1.bh hx, fun p hp => new_lst s1 k1 r.rev q hp⟩
  · cases hm
end
end Mir

set_option Elab.async false
set_option linter.all false
set_option maxRecDepth 100000
set_option maxHeartbeats 2000000
namespace Mir
open PySem PySem.Spec PyProof.Rows L2 Evl WS
/-! ### sorted of lists of ints -/
def encR (r : List Int) : PyData := .list (r.map .int)
def rSortLL (K : PySem.W.Frag) : List V → Hp → VK → Prop := fun vs H Q => ∃ (a : Addr) (bs : List (V × List Int)), vs = [.ref a] ∧ SqL K H a (bs.map (·.1)) ∧ DpAll K H (bs.map (·.1)) (bs.map fun b => encR b.2) ∧
  ∀ p, H p = none → Q (.ref p) (upd H p (.lst ((bs.mergeSort (PySem.W.dataLe false fun b : V × List Int => encR b.2)).map (·.1))))
theorem each_of : ∀ {bs : List (V × List Int)} {its : List Value}, Vals (bs.map (·.1)) its → PySem.W.EachIs (fun v (b : V × List Int) => RelV b.1 v) its bs
  | [], _, r => by cases r; exact .nil
  | b :: bs, _, r => by
    rw [List.map_cons] at r
    cases r with
    | cons h t => exact .cons h (each_of t)
theorem of_each : ∀ {bs : List (V × List Int)} {its : List Value}, PySem.W.EachIs (fun v (b : V × List Int) => RelV b.1 v) its bs → Vals (bs.map (·.1)) its
  | _, _, .nil => .nil
  | _, _, .cons h t => .cons h (of_each t)
theorem cr_sortLL {X : Cx} (hu : X.A.units + 64 < cLine) : CallR X (.builtin "sorted") (rSortLL X.K) := by
  intro pins s σ H vs us Q I r h
  obtain ⟨a, bs, rfl, hs, dp, q⟩ := h
  obtain ⟨its, rv, hl, hz⟩ := I.list hs
  rw [Vals.ref1 r]
  obtain ⟨as, ra⟩ := Dp.readsAll I _ _ _ dp rv
  have er := PySem.W.readsAll_each (fun b : V × List Int => encR b.2) ra
  rw [List.length_map] at hz
  refine PySem.W.sorted_data (enc := fun b : V × List Int => encR b.2) hl.isList (each_of rv) er (PySem.W.AllAlike.of fun b b' => by
    show PySem.W.alike (encR b.2) (encR b'.2) = true
    unfold encR
    simp only [PySem.W.alike]
    exact PySem.W.alike_ints _ _) (PySem.W.Sortable.others fun b => ⟨(fun h => by unfold encR at h; cases h), (fun xs h => by unfold encR at h; cases h)⟩) hz (fun b _ => ?_) fun out hlen eo => ?_
  · have : (encR b.2).depth = 1 := by
      unfold encR
      simp only [PyData.depth, PySem.W.depth_ints]
    omega
  · obtain ⟨ep, he'⟩ := PyProof.Rows.sortedAll_at s.heap its out.toArray
    refine ⟨.ref _, upd H (s.heap.objs.size + 1) (.lst ((bs.mergeSort (PySem.W.dataLe false fun b : V × List Int => encR b.2)).map (·.1))), I.laid (t' := s.toks) (fun _ _ => PyProof.Rows.sortedAll_old) (Nat.le_succ _) ⟨?_, out, ep, of_each eo, he'⟩, rfl, q _ (I.hok.fresh (Nat.le_succ _))⟩
    rw [List.length_map, List.length_mergeSort]
    exact hz
/-- rows of ints -/
def rowsO : List D → Option (List (List Int))
  | [] => some []
  | .lst x :: r => match intsO x, rowsO r with | some y, some ys => some (y :: ys) | _, _ => none
  | _ :: _ => none
def sortLLD (d : D) : Option D := match lsO d with | some ds => (match rowsO ds with | some rs => some (.lst ((rs.mergeSort (PySem.W.dataLe false encR)).map fun r => .lst (r.map D.int))) | none => none) | none => none
def sortAD (d : D) : Option D := match sortD d with | some r => some r | none => sortLLD d
abbrev rSortedAll (K : PySem.W.Frag) := orC (rSortedI K) (rSortLL K)
theorem cr_sortedAll {X : Cx} (hu : X.A.units + 64 < cLine) : CallR X (.builtin "sorted") (rSortedAll X.K) := CallR.or cr_sortedI (cr_sortLL hu)
section
variable {K : PySem.W.Frag} {cm : CM}
theorem ints_back : ∀ {x : List D} {y : List Int}, intsO x = some y → x = y.map D.int
  | [], _, h => by cases h; rfl
  | d :: r, y, h => by
    cases d with
    | int i =>
      have h : (match intsO r with | some ns => some (i :: ns) | none => none) = some y := h
      cases hr : intsO r with
      | none => rw [hr] at h; cases h
      | some ns => rw [hr] at h; cases h; rw [ints_back hr]; rfl
    | _ => cases h
theorem rows_rep {B H : Hp} (e : Ex B H) : ∀ {xs : List V} {ds : List D} {rs : List (List Int)}, Reps K cm B xs ds → rowsO ds = some rs → ∃ bs : List (V × List Int), bs.map (·.1) = xs ∧ bs.map (·.2) = rs ∧ (∀ b ∈ bs, Rep K cm B b.1 (.lst (b.2.map D.int))) ∧ DpAll K H xs (bs.map fun b => encR b.2)
  | _, _, _, .nil, h => by cases h; exact ⟨[], rfl, rfl, (fun b hb => nomatch hb), .nil⟩
  | v :: vs, d :: ds, rs, .cons r1 r2, h => by
    cases d with
    | lst x =>
      have h : (match intsO x, rowsO ds with | some y, some ys => some (y :: ys) | _, _ => none) = some rs := h
      cases hx : intsO x with
      | none => rw [hx] at h; cases h
      | some y =>
        cases hr : rowsO ds with
        | none => rw [hx, hr] at h; cases h
        | some ys =>
          rw [hx, hr] at h
          cases h
          obtain ⟨bs, h1, h2, h3, h4⟩ := rows_rep e r2 hr
          have hxy := ints_back hx
          subst hxy
          refine ⟨(v, y) :: bs, by rw [List.map_cons, h1], by rw [List.map_cons, h2], fun b hb => ?_, ?_⟩
          · rcases List.mem_cons.mp hb with rfl | hb
            · exact r1
            · exact h3 b hb
          · rw [List.map_cons]
            refine .cons ?_ h4
            refine dp_of e r1 ?_
            show (toPs (y.map D.int)).map PyData.list = some (PyData.list (y.map .int))
            have : ∀ y : List Int, toPs (y.map D.int) = some (y.map PyData.int) := fun y => by
              induction y with
              | nil => rfl
              | cons i t ih =>
                show (match toP (.int i), toPs (t.map D.int) with | some p, some q => some (p :: q) | _, _ => none) = _
                rw [ih]
                rfl
            rw [this]
            rfl
    | _ => cases h
theorem reps_of {B : Hp} : ∀ (bs : List (V × List Int)), (∀ b ∈ bs, Rep K cm B b.1 (.lst (b.2.map D.int))) → Reps K cm B (bs.map (·.1)) ((bs.map (·.2)).map fun r => .lst (r.map D.int))
  | [], _ => .nil
  | b :: r, h => .cons (h b List.mem_cons_self) (reps_of r fun c hc => h c (List.mem_cons_of_mem _ hc))
theorem rcd_sortLL : RCD K cm (rSortLL K) (one sortLLD) := fun B H xs ds d e r h Q q => by
  obtain ⟨x, rfl, hh⟩ := one_some h
  replace h := hh
  clear hh
  obtain ⟨v, rfl, rv⟩ := reps1 r
  unfold sortLLD at h
  split at h
  · rename_i ds2 h1
    split at h
    · rename_i rs hr
      cases h
      obtain ⟨a, ys, rfl, hs, rr⟩ : ∃ a ys, v = .ref a ∧ SqL K H a ys ∧ Reps K cm B ys ds2 := by
        cases rv with
        | lst ha ra => cases h1; exact ⟨_, _, rfl, sq_of (e _ _ ha), ra⟩
        | scr ha ra => cases h1; exact ⟨_, _, rfl, ex_l e ha, ra⟩
        | _ => cases h1
      obtain ⟨bs, b1, b2, b3, b4⟩ := rows_rep e rr hr
      subst b1 b2
      refine ⟨a, bs, rfl, hs, b4, fun p hp => ?_⟩
      have g := Gro.new (o := .lst ((bs.mergeSort (PySem.W.dataLe false fun b : V × List Int => encR b.2)).map (·.1))) e hp
      have hm : (bs.mergeSort (PySem.W.dataLe false fun b : V × List Int => encR b.2)).map (·.2) = (bs.map (·.2)).mergeSort (PySem.W.dataLe false encR) := List.map_mergeSort fun _ _ _ _ => rfl
      have rp := reps_of (K := K) (cm := cm) (B := B) (bs.mergeSort (PySem.W.dataLe false fun b : V × List Int => encR b.2)) fun b hb => b3 b (List.mem_mergeSort.mp hb)
      rw [hm] at rp
      exact q _ _ _ g (.lst upd_same (rp.mono g.bb))
    · cases h
  · cases h
theorem rcd_sortA : RCD K cm (rSortedAll K) (one sortAD) := fun B H xs ds d e r h Q q => by
  obtain ⟨x, rfl, hh⟩ := one_some h
  replace h := hh
  clear hh
  unfold sortAD at h
  split at h
  · rename_i z hz
    cases h
    exact .inl (rcd_sort B H xs [x] _ e r hz Q q)
  · exact .inr (rcd_sortLL B H xs [x] d e r h Q q)
/-- a if t else b, both new -/
def ifF (t : MT) (ma mb : MO) : MO := fun e => bnd (t e) fun b e1 => if b then ma e1 else mb e1
theorem df_if {t : TT} {mt : MT} {ta tb : TE} {ma mb : MO} (h : DT K cm t mt) (ha : DF K cm ta ma) (hb : DF K cm tb mb) : DF K cm (tIf t ta tb) (ifF mt ma mb) := fun s k o e' hm Q q => by
  obtain ⟨c, e1, g1, hm⟩ := bnd_some hm
  refine h s k c e1 g1 _ fun B1 H1 s1 k1 => ?_
  cases c with
  | true => exact ha ⟨B1, H1, s.σ, e1⟩ k1 o e' hm Q fun p B' H' st k' n1 n2 ow nw => q p B' H' (s1.trans st) k' (s1.dm p n1) n2 ow nw
  | false => exact hb ⟨B1, H1, s.σ, e1⟩ k1 o e' hm Q fun p B' H' st k' n1 n2 ow nw => q p B' H' (s1.trans st) k' (s1.dm p n1) n2 ow nw
/-- a, b = xs, a list -/
def lstG (n : Nat) (r : List D → SDs → Option SDs) : D → SDs → Option SDs := fun d e => match d with | .lst ds => if ds.length = n then r ds e else none | .scr ds => if ds.length = n then r ds e else none | _ => none
theorem dg_lst {gr : TGs} {gb : List D → SDs → Option SDs} {is : List Nat} {n : Nat} (h2 : DGs K cm gr is gb) : DG K cm (gLst K n gr) is (lstG n gb) := fun s k v d e' r h Q q => by
  cases r with
  | @lst a xs ds hx rs =>
    have h : (if ds.length = n then gb ds s.e else none) = some e' := h
    split at h
    · rename_i hl
      exact ⟨a, xs, rfl, sq_of (k.bh _ _ hx), by rw [rs.len]; exact hl, h2 s k xs ds e' rs h Q q⟩
    · cases h
  | @scr a xs ds hx rs =>
    have h : (if ds.length = n then gb ds s.e else none) = some e' := h
    split at h
    · rename_i hl
      exact ⟨a, xs, rfl, ex_l k.bh hx, by rw [rs.len]; exact hl, h2 s k xs ds e' rs h Q q⟩
    · cases h
  | _ => cases h
end
end Mir

set_option Elab.async false
set_option linter.all false
set_option maxRecDepth 100000
set_option maxHeartbeats 4000000
namespace Mir
open PySem PySem.Spec PyProof.Rows L2 Evl WS
/-! ### a caught error is told of like other data -/
theorem exT_ok {P : Program} {w : World} {H : Hp} {h : Heap} {a : Addr} {cls : Value} {d : Option Addr} {ob : Obj} {fv : Array Value} (e : h.get? a = some ob) (z : Zc cls d ob) (f : ob.data = .fields fv) : ObjOk P w H h a (ExT cls d a) :=
  ⟨⟨ob, fv, e, z, f⟩, ⟨ob, e⟩, fun _ _ ⟨o1, v1, q1, z1, f1⟩ k => ⟨o1, v1, k o1 q1, z1, f1⟩⟩
section
variable {X : Cx} {pins : List (Addr × Obj)} {σ : L2.St} {H : Hp} {s : Shared}
theorem inv_track {a : Addr} {o : HO} (I : Inv X pins σ H s) (hn : H a = none) (h0 : X.s_0.heap.get? a = none) (nL : a ≠ X.env.locals) (nc : ∀ x c, X.env.cells.lookup x = some c → c ≠ a) (np : ∀ p ∈ X.pn ++ pins, p.1 ≠ a)
    (new : ObjOk X.prog X.w (upd H a o) s.heap a o) : Inv X pins σ (upd H a o) s where
  ok := I.ok
  os := I.os
  bare := I.bare
  base := {
    keep := I.base.keep
    slot := I.base.slot
    there := I.base.there
    free := fun b u e n x => by
      have ne : b ≠ a := fun z => by
        rw [z, h0] at e
        cases e
      rw [upd_ne ne]
      exact I.base.free b u e n x
    tups := fun b xs e => by
      have z := I.base.tups b xs e
      rw [upd_ne (ne_of_none z hn)]
      exact z
    frzs := fun b u v e => by
      have z := I.base.frzs b u v e
      rw [upd_ne (ne_of_none z hn)]
      exact z
    tbls := fun b ps e => by
      obtain ⟨more, z⟩ := I.base.tbls b ps e
      refine ⟨more, ?_⟩
      rw [upd_ne (ne_of_none z hn)]
      exact z }
  loc := I.loc
  cell := I.cell
  free := by
    rw [upd_ne (Ne.symm nL)]
    exact I.free
  freeC := fun x c e => by
    rw [upd_ne (nc x c e)]
    exact I.freeC x c e
  pin := fun p hp => by
    obtain ⟨e, n, r⟩ := I.pin p hp
    refine ⟨e, ?_, r⟩
    rw [upd_ne (np p hp)]
    exact n
  hok := fun b u e => by
    by_cases c : b = a
    · subst c
      rw [upd_same] at e
      cases e
      exact new
    · rw [upd_ne c] at e
      exact (I.hok b u e).stay (fun _ _ _ q => q) (fun c2 q => by rw [upd_ne (ne_of_none q hn)]; exact q) fun c2 xs q => by rw [upd_ne (ne_of_none q hn)]; exact q
  len := I.len
/-- into an except suite, the error not pinned -/
theorem inv_in {a : Addr} (I : Inv X pins σ H s) : Inv (X.suite a (X.pn ++ pins)) [] σ H s where
  ok := I.ok.suite _ _
  os := I.os
  bare := I.bare
  base := I.base
  loc := I.loc
  cell := I.cell
  free := I.free
  freeC := I.freeC
  pin := fun p hp => I.pin p (by rw [List.append_nil] at hp; exact hp)
  hok := I.hok
  len := I.len
theorem inv_out {a : Addr} {more : List (Addr × Obj)} (I : Inv (X.suite a (X.pn ++ pins)) more σ H s) (ok : X.Ok) : Inv X pins σ H s where
  ok := ok
  os := I.os
  bare := I.bare
  base := I.base
  loc := I.loc
  cell := I.cell
  free := I.free
  freeC := I.freeC
  pin := fun p hp => I.pin p (List.mem_append_left _ hp)
  hok := I.hok
  len := I.len
end
/-- what the clause wishes: the error is told of from then on -/
def wTr (K : PySem.W.Frag) (c : Value) (i : Nat) (ts : TS) (Wout : WX) (D : Ends) : WX := fun cls d σ H =>
  ∃ b, PySem.W.exmOne K cls c = some b ∧ (b = false → Wout cls d σ H) ∧
    (b = true → ∀ a, H a = none → ts { nx := fun σ1 H1 => D.nx (σ1.set i none) H1, rt := D.rt, bk := fun σ1 H1 => D.bk (σ1.set i none) H1, ct := fun σ1 H1 => D.ct (σ1.set i none) H1 } (σ.set i (some (.ref a))) (upd H a (ExT cls d a)))
section
variable {X : Cx} {x n : Str} {c : Value} {i : Nat} {body suite : List Stmt} {b0 : Stmt} {np p1 p2 : Pos} {tb : WX → TS} {ts : TS} {Wout : WX}
theorem ps_tryT (st : X.stack = X.env :: X.outer) (fr : X.env.frame = some X.env.locals) (nd : X.N.Nodup) (hi : X.N[i]? = some n) (kl : X.env.kindOf n = some .local) (hx : X.ex = []) (nm : Names X x c) (tk : Takes X Wout)
    (hb : ∀ (W : WX) (pn : List (Addr × Obj)) (xe : Value → Shared → Prop), Takes (X.tr pn xe) W → PassesOwn (model X.prog X.w) X.A X.env xe → PSs (X.tr pn xe) body (tb W))
    (hsu : ∀ (a : Addr) (pn : List (Addr × Obj)), PSs (X.suite a pn) (b0 :: suite) ts) :
    PS X (.Try body [.ExceptHandler (some (.Name x np)) (some n) (b0 :: suite) p2] [] [] p1) (fun D σ H => tb (wTr X.K c i ts Wout D) D σ H) := ⟨fun pins s σ H D I want => by
  have ok := I.ok
  have fs : X.A.frames = some (X.env :: X.outer) := ok.frames.trans (congrArg some st)
  have vis : Loc X.env.scope n := .inl kl
  refine wpAny_Try_except (wpAny_mono ((hb (wTr X.K c i ts Wout D) (X.pn ++ pins) (fun u z => wpAny (model X.prog X.w) X.A (noteFrame u X.env) (fun _ z2 => wpAny (model X.prog X.w) X.A (setFlight u none) (fun _ z3 =>
    wpAny (model X.prog X.w) X.A (handleBy u X.env [.ExceptHandler (some (.Name x np)) (some n) (b0 :: suite) p2]) (SP X pins D) X.xe z3) X.xe z2) X.xe z) (fun u t air => ?_) PassesOwn.looking).run [] s σ H D (I.toTry _) want) (fun fl t ends => ?_) (fun _ _ z => z))
  case refine_1 =>
    obtain ⟨a, B, z, more, σ1, H1, cls, d, rfl, J0, low, up, sky, na, os, bare, b, hb1, hno, hyes⟩ := air
    have J : Inv X pins σ1 H1 z := J0.ofTry ok
    rw [st] at sky low
    refine Sky.land Zc.steady fs fr sky fun g1 fly up1 => ?_
    have J1 : Inv X pins σ1 H1 { t with heap := g1 } := J.landed (by rw [st]; exact low) fly.1 (up.trans up1) os bare
    obtain ⟨ob, fv, he, hz, hd⟩ := fly.there
    have out : a ∉ frs (X.env :: X.outer) := fun hm => by
      obtain ⟨_, o2, e2, nf⟩ := fly.2.2.1.mem hm
      rw [he] at e2
      cases e2
      exact nf _ hd
    have nL : a ≠ X.env.locals := fun e => out (List.mem_filterMap.mpr ⟨X.env, List.mem_cons_self, by rw [fr, e]⟩)
    have na0 : z.heap.get? a = none := by
      cases e : z.heap.get? a with
      | none => rfl
      | some o2 =>
        have q := low a o2 e out
        rw [fly.2.1] at q
        cases q
    have n0 : X.s_0.heap.get? a = none := by
      cases e : X.s_0.heap.get? a with
      | none => rfl
      | some o2 =>
        obtain ⟨o3, q⟩ := J.base.there a o2 e (by rw [hx]; exact List.not_mem_nil)
        rw [na0] at q
        cases q
    have nc : ∀ y k, X.env.cells.lookup y = some k → k ≠ a := fun y k e q => by
      obtain ⟨v, o2, e2, _⟩ := J.cell y k e
      rw [q, na0] at e2
      cases e2
    have npn : ∀ p ∈ X.pn ++ pins, p.1 ≠ a := fun p hp q => by
      have e2 := (J.pin p hp).1
      rw [q, na0] at e2
      cases e2
    have hear : ∀ {Q : Value → Shared → Prop} {E : Value → Shared → Prop}, Q c { t with heap := g1 } → wpAny (model X.prog X.w) (X.A.mark (some (.ref a))) (eval (.Name x np) X.env) Q E { t with heap := g1 } := fun {Q E} q => by
      have S := inv_in (a := a) J1
      obtain ⟨hg, nd2, hm | ⟨hm, hv, hn2⟩⟩ := nm
      · exact ld_glob (X := X.suite a (X.pn ++ pins)) S hg hm q nd2
      · exact ld_blt (X := X.suite a (X.pn ++ pins)) S hg hm hv q hn2 nd2
    have LT : PySem.W.Looks (model X.prog X.w) g1 (typeOf (.ref a)) cls := fun _ _ _ _ k q => wpAny_typeOf_ref (k _ _ he) (by rw [hz.1]; exact q)
    have LE := PySem.W.exm_one (M := model X.prog X.w) J1.kIn LT hb1
    refine wpAny_handleBy_cons (codeAny_handlers_test ?_) (fun q => nomatch q)
    refine hear (LE.here ?_)
    cases b with
    | false =>
      show wpAny _ X.A (handleBy (.ref a) X.env []) _ _ _
      obtain ⟨_, _, _, o2, v2, T, oT, tv, e2, z2, d2, h1, _⟩ := id fly
      refine wpAny_handleBy_nil ?_
      unfold PySem.passOn
      refine wpAny_bind (wpAny_field e2 d2 h1 ?_)
      rw [if_neg (show ¬ ((Value.ref T == Value.none) = true) by simp)]
      have last : wpAny (model X.prog X.w) X.A (setFlight (.ref a) X.env.frame) (fun _ t4 => wpAny (model X.prog X.w) X.A (throw (.ref a) : Sem Flow) (SP X pins D) X.xe t4) X.xe { t with heap := g1 } := by
        rw [fr]
        exact HandSPX.setFlight_upZ fly fun g2 held up2 => wpAny_throw (tk _ _ ⟨a, B, z, pins, σ1, H1, cls, d, rfl, J, by rw [st]; exact low, (up.trans up1).trans up2, .inr (.inr (by rw [st]; exact held)), na, os, bare, hno rfl⟩)
      first
        | exact wpAny_bind (wpAny_pure (wpAny_bind last))
        | exact wpAny_bind last
    | true =>
      refine codeAny_handlers_suite_as (HandSPX.lands_againZ fly fun g2 fly2 up2 => ?_)
      have J2 : Inv X pins σ1 H1 { t with heap := g2 } := J.landed (by rw [st]; exact low) fly2.1 ((up.trans up1).trans up2) os bare
      obtain ⟨ob2, fv2, he2, hz2, hd2⟩ := fly2.there
      have J3 := inv_track (o := ExT cls d a) J2 na n0 nL nc npn (exT_ok he2 hz2 hd2)
      refine store_ok (X := X.suite a (X.pn ++ pins)) (v := .ref a) (inv_in (a := a) J3) nd hi vis rfl (fun t5 S5 => ?_) (.inr kl)
      have fin : ∀ {σ6 : L2.St} {H6 : Hp} {t6 : Shared} {Q : Shared → Prop}, Inv (X.suite a (X.pn ++ pins)) [] σ6 H6 t6 → (∀ t7, Inv X pins (σ6.set i none) H6 t7 → Q t7) →
          wpAny (model X.prog X.w) X.A (do bindName X.env n .none; unbindBehindTheSuite X.env n p2) (fun _ t7 => Q t7) X.xe t6 := fun {σ6 H6 t6 Q} S6 q => gone_ok (inv_out S6 ok) nd hi kl q
      refine wpAny_mono ((hsu a (X.pn ++ pins)).run [] t5 _ _ _ S5 (hyes rfl a na)) (fun fl t6 ends => ?_) (fun _ _ q => False.elim q)
      cases fl with
      | next =>
        obtain ⟨σ6, H6, S6, q6⟩ := ends
        exact fin S6 fun t7 J7 => ⟨_, _, J7, q6⟩
      | brk =>
        obtain ⟨σ6, H6, S6, q6⟩ := ends
        exact fin S6 fun t7 J7 => ⟨_, _, J7, q6⟩
      | cont =>
        obtain ⟨σ6, H6, S6, q6⟩ := ends
        exact fin S6 fun t7 J7 => ⟨_, _, J7, q6⟩
      | ret u =>
        obtain ⟨v6, σ6, H6, S6, r6, q6⟩ := ends
        exact fin S6 fun t7 J7 => ⟨_, _, _, J7, r6, q6⟩
  case refine_2 =>
    cases fl with
    | next =>
      obtain ⟨σ1, H1, J, q⟩ := ends
      exact wpAny_execs_nil ⟨_, _, J.ofTry ok, q⟩
    | brk =>
      obtain ⟨σ1, H1, J, q⟩ := ends
      exact ⟨_, _, J.ofTry ok, q⟩
    | cont =>
      obtain ⟨σ1, H1, J, q⟩ := ends
      exact ⟨_, _, J.ofTry ok, q⟩
    | ret u =>
      obtain ⟨v, σ1, H1, J, r, q⟩ := ends
      exact ⟨_, _, _, J.ofTry ok, r, q⟩⟩
end
end Mir

set_option Elab.async false
set_option linter.all false
set_option maxRecDepth 100000
set_option maxHeartbeats 4000000
namespace Mir
open PySem PySem.Spec PyProof.Rows L2 Evl WS
/-! ### errors of own classes: what is asked of the class -/
structure ErrOk (K : PySem.W.Frag) (C : Addr) : Prop where
  ex : OexC K C
  ec : ExcC K C
  nv : PySem.W.findIn K (.ref C) "value" = some none
theorem inst_of {K : PySem.W.Frag} {P : Program} {w : World} {H : Hp} {h : Heap} {a C dd : Addr} {fs : List (Str × V)} (ok : HOk P w H h) (e1 : H a = some (ExT (.ref C) (some dd) a)) (e2 : H dd = some (.xd fs)) :
    ∃ (ob od : Obj) (mA : Str → Option Value), PySem.W.InstAt h a ob C (some od) ∧ (∀ name, PySem.W.lookIn name od = some (mA name)) ∧ ∀ f, RelO (fs.lookup f) (mA f) := by
  obtain ⟨⟨ob, fv, q, z, f⟩, _⟩ := ok a _ e1
  obtain ⟨mA, ns, rel⟩ := ok dd _ e2
  obtain ⟨od, ho, hl⟩ := lookIn_ns ns
  refine ⟨ob, od, mA, ⟨q, z.1, ?_, ?_⟩, hl, rel⟩
  · unfold PySem.W.notCls
    rw [f]
  · rw [z.2]
    exact ho
/-- isinstance(e, c) of an error told of -/
def rIsT (K : PySem.W.Frag) : List V → Hp → VK → Prop := fun xs H Q => ∃ (a C dd : Addr) (fs : List (Str × V)) (c : V) (cv : Value) (b : Bool), xs = [.ref a, c] ∧ H a = some (ExT (.ref C) (some dd) a) ∧ H dd = some (.xd fs) ∧ (∀ u, RelV c u → u = cv) ∧ ExcC K C ∧ PySem.W.kitOne K (.ref C) cv = some b ∧ Q (.bl b) H
theorem call_isT {X : Cx} : CallR X (.builtin "isinstance") (rIsT X.K) := by
  intro pins s σ H xs us Q I r h
  obtain ⟨a, C, dd, fs, c, cv, b, rfl, e1, e2, hcv, k, e, q⟩ := h
  obtain ⟨u1, u2, rfl, r1, r2⟩ : ∃ u1 u2, us = [u1, u2] ∧ RelV (.ref a) u1 ∧ RelV c u2 := by
    cases r with
    | cons ra rr =>
      cases rr with
      | cons rb rr =>
        cases rr
        exact ⟨_, _, rfl, ra, rb⟩
  obtain rfl : u1 = Value.ref a := r1
  have hu := hcv _ r2
  subst hu
  obtain ⟨ob, od, mA, J, _, _⟩ := inst_of (K := X.K) I.hok e1 e2
  obtain ⟨cd, hc, _⟩ := PySem.W.any_some k.hd
  exact PySem.W.kia_one (PySem.W.kitx_exc (od := some od) (by rw [hc]; rfl) k.hg k.hk k.hs k.ha k.hn k.ht k.hm) I.kIn J e (fun z => nomatch z) fun tk => ⟨.bl b, H, I.kept (t' := tk) fun _ _ q => q, rfl, q⟩
/-- e.f of an error told of -/
def tFT (K : PySem.W.Frag) (f : Str) (te : TE) : TE := fun σ H Q => te σ H fun x H1 => ∃ (a C dd : Addr) (fs : List (Str × V)) (v : V), x = .ref a ∧ ErrOk K C ∧ PySem.W.findIn K (.ref C) f = some none ∧ H1 a = some (ExT (.ref C) (some dd) a) ∧ H1 dd = some (.xd fs) ∧ fs.lookup f = some v ∧ Q v H1
theorem pe_ft {X : Cx} {e : Expr} {te : TE} {pos : Pos} {n : Str} (he : PE X e te) (hb : attributeBase e n X.env (eval e X.env) = eval e X.env := by rfl) : PE X (.Attribute e n pos) (tFT X.K n te) := ⟨fun pins s σ H Q I h => by
  refine attr_of hb (thn (he.run pins s σ H _ I h) fun u t hh => ?_)
  obtain ⟨x, H1, I1, rx, a, C, dd, fs, v, ex, k, hno, e1, e2, lk, q⟩ := hh
  subst ex
  obtain rfl : u = Value.ref a := rx
  obtain ⟨ob, od, mA, J, hl, rel⟩ := inst_of (K := X.K) I1.hok e1 e2
  obtain ⟨y, hy, ry⟩ := RelO.some_of (v := v) (o := mA n) (by rw [← lk]; exact rel n)
  have fo := PySem.W.findObj_own (K := X.K) (C := C) (name := n) (od := od) (v := y) k.ec.hd hno rfl (by rw [hl, hy])
  exact HandSPX.exc_get I1.kIn J k.ec.hg k.ec.hk k.ec.hs fo (handed_of ry) ⟨v, H1, I1.tok _, ry, q⟩⟩
/-! ### the mirrors -/
section
variable {K : PySem.W.Frag} {cm : CM} {te : TE} {m : M}
def isT (tab : Nat → Option Bool) : D → Option D
  | .exc c _ => (tab c).map D.bl
  | _ => none
theorem de_isT {x : V} {u : Value} {tab : Nat → Option Bool} (hx : ∀ w, RelV x w → w = u) (ht : ∀ c b, tab c = some b → ErrOk K (cm c) ∧ PySem.W.kitOne K (.ref (cm c)) u = some b) (h : DE K cm te m) :
    DE K cm (tCB (rIsT K) (tCons te (tCons (tC x) tNil))) (unM (isT tab) m) := fun s k d e' hm Q q => by
  obtain ⟨y, e1, h1, hm⟩ := bnd_some hm
  obtain ⟨h3, rfl⟩ := rsl_some hm
  refine h s k y e1 h1 _ fun v B1 H1 s1 k1 r1 => ?_
  cases r1 with
  | @exc a dd c w d2 ha hd rv =>
    have h3 : (tab c).map D.bl = some d := h3
    cases hb : tab c with
    | none => rw [hb] at h3; cases h3
    | some b =>
      rw [hb] at h3
      cases h3
      obtain ⟨k1', k2'⟩ := ht c b hb
      exact ⟨a, _, dd, _, x, u, b, rfl, k1.bh _ _ ha, k1.bh _ _ hd, hx, k1'.ec, k2', q _ B1 H1 s1 k1 (.bl b)⟩
  | _ => cases h3
def errV (cs : List Nat) : D → Option D
  | .exc c d => if cs.contains c then some d else none
  | _ => none
theorem de_ft {cs : List Nat} (ht : ∀ c, cs.contains c = true → ErrOk K (cm c)) (h : DE K cm te m) : DE K cm (tFT K "value" te) (unM (errV cs) m) := fun s k d e' hm Q q => by
  obtain ⟨y, e1, h1, hm⟩ := bnd_some hm
  obtain ⟨h3, rfl⟩ := rsl_some hm
  refine h s k y e1 h1 _ fun v B1 H1 s1 k1 r1 => ?_
  cases r1 with
  | @exc a dd c w d2 ha hd rv =>
    have h3 : (if cs.contains c then some d2 else none) = some d := h3
    split at h3
    · rename_i hc
      cases h3
      have kk := ht c hc
      exact ⟨a, _, dd, _, w, rfl, kk, kk.nv, k1.bh _ _ ha, k1.bh _ _ hd, rfl, q _ B1 H1 s1 k1 rv⟩
    · cases h3
  | _ => cases h3
end
end Mir

set_option Elab.async false
set_option linter.all false
set_option maxRecDepth 100000
set_option maxHeartbeats 4000000
namespace Mir
open PySem PySem.Spec PyProof.Rows L2 Evl WS
/-! ### the second mirror: what is raised, and in which slots -/
abbrev MX := SDs → Option (Nat × D × SDs)
abbrev XF := SDs → Option (Nat × D)
/-- an error in the air -/
def ErrR (K : PySem.W.Frag) (cm : CM) (B : Hp) (cls : Value) (dd : Option Addr) (c : Nat) (d : D) : Prop := cls = .ref (cm c) ∧ ∃ p v, dd = some p ∧ B p = some (.xd [("value", v)]) ∧ Rep K cm B v d
section
variable (K : PySem.W.Frag) (cm : CM) (W : WX)
def XE1 (te : TE) (x : MX) : Prop := ∀ s : MSt, Okm K cm s → ∀ c d e', x s.e = some (c, d, e') → ∀ Q : VK, (∀ cls dd B' H', Stp s ⟨B', H', s.σ, e'⟩ → Okm K cm ⟨B', H', s.σ, e'⟩ → ErrR K cm B' cls dd c d → W cls dd s.σ H') → te s.σ s.H Q
def XA1 (te : TA) (x : MX) : Prop := ∀ s : MSt, Okm K cm s → ∀ c d e', x s.e = some (c, d, e') → ∀ Q : List V → Hp → Prop, (∀ cls dd B' H', Stp s ⟨B', H', s.σ, e'⟩ → Okm K cm ⟨B', H', s.σ, e'⟩ → ErrR K cm B' cls dd c d → W cls dd s.σ H') → te s.σ s.H Q
def XS1 (ts : TS) (x : MX) : Prop := ∀ s : MSt, Okm K cm s → ∀ c d e', x s.e = some (c, d, e') → ∀ E : Ends, (∀ cls dd σ' B' H', Stp s ⟨B', H', σ', e'⟩ → Okm K cm ⟨B', H', σ', e'⟩ → ErrR K cm B' cls dd c d → W cls dd σ' H') → ts E s.σ s.H
end
def noX : MX := fun _ => none
def seqX (xa : MX) (a : MS) (xb : MX) : MX := fun e => match xa e with | some r => some r | none => match a e with | some (.nx e1) => xb e1 | _ => none
def ifX (t : MT) (xa xb : MX) : MX := fun e => bnd (t e) fun c e1 => if c then xa e1 else xb e1
def raX (c : Nat) (m : M) : MX := fun e => bnd (m e) fun d e1 => some (c, d, e1)
def allFro (es : SDs) : Bool := es.all fun x => match x with | .fro _ => true | _ => false
def callX (X : XF) (ma : MA) : MX := fun e => bnd (ma e) fun as e1 => match argsE as e1 with | some es => if allFro es = true then (match X es with | some (c, d) => some (c, d, e1) | none => none) else none | none => none
def consX1 (xa : MX) : MX := xa
def consX2 (ma : M) (xr : MX) : MX := fun e => bnd (ma e) fun _ e1 => xr e1
def forXL (g : D → SDs → Option SDs) (b : MS) (xb : MX) : List D → MX
  | [], _ => none
  | y :: r, e => match g y e with
    | none => none
    | some e1 => match xb e1 with
      | some q => some q
      | none => match b e1 with
        | some (.nx e2) => forXL g b xb r e2
        | some (.ct e2) => forXL g b xb r e2
        | _ => none
def forX (mi : ML) (g : D → SDs → Option SDs) (b : MS) (xb : MX) : MX := fun e => bnd (mi e) fun xs e1 => forXL g b xb xs e1
/-- a def's promise, both ends -/
def spX (K : PySem.W.Frag) (cm : CM) (n : Nat) (F : MF) (X : XF) : Sp := fun vs H Q E => spD K cm n F vs H Q E ∨
  ∃ B es c d, vs.length = n ∧ Okm K cm ⟨B, H, vs.map some, es⟩ ∧ allFro es = true ∧ X es = some (c, d) ∧ ∀ cls dd B' H', Gro B H B' H' → ErrR K cm B' cls dd c d → E cls dd H'
def defX (n N : Nat) (x : MX) : XF := fun es => if es.length = n then (match x (es ++ List.replicate (N - n) .nn) with | some (c, d, _) => some (c, d) | none => none) else none
section
variable {K : PySem.W.Frag} {cm : CM} {W : WX} {ta te : TE} {tr : TA} {t : TT} {tz tw : TS} {g : TG} {m : M} {mr : MA} {mt : MT} {a b : MS} {x xa xb : MX} {ga : D → SDs → Option SDs} {js : List Nat}
theorem ErrR.mono {B B' : Hp} {cls : Value} {dd : Option Addr} {c : Nat} {d : D} (e : Ex B B') : ErrR K cm B cls dd c d → ErrR K cm B' cls dd c d := fun ⟨h1, p, v, h2, h3, h4⟩ => ⟨h1, p, v, h2, e _ _ h3, h4.mono e⟩
theorem xs_no : XS1 K cm W tz noX := fun s k c d e' h => nomatch h
theorem xe_no : XE1 K cm W te noX := fun s k c d e' h => nomatch h
theorem xa_no : XA1 K cm W tr noX := fun s k c d e' h => nomatch h
theorem xs_seq (h1 : XS1 K cm W tz xa) (h2 : DS K cm tz a) (h3 : XS1 K cm W tw xb) : XS1 K cm W (tSeq tz tw) (seqX xa a xb) := fun s k c d e' h E q => by
  unfold seqX at h
  split at h
  · rename_i r hr
    cases h
    exact h1 s k c d e' hr _ q
  · split at h
    · rename_i e1 ha
      exact h2 s k _ ha { E with nx := tw E } fun σ' B' H' st k' => h3 ⟨B', H', σ', e1⟩ k' c d e' h E fun cls dd σ2 B2 H2 st2 => q cls dd σ2 B2 H2 (st.trans st2)
    · cases h
theorem xs_if (h : DT K cm t mt) (h1 : XS1 K cm W tz xa) (h2 : XS1 K cm W tw xb) : XS1 K cm W (tIfS t tz tw) (ifX mt xa xb) := fun s k c d e' hm E q => by
  obtain ⟨b, e1, g1, hm⟩ := bnd_some hm
  refine h s k b e1 g1 _ fun B1 H1 s1 k1 => ?_
  cases b with
  | true => exact h1 ⟨B1, H1, s.σ, e1⟩ k1 c d e' hm E fun cls dd σ2 B2 H2 st2 => q cls dd σ2 B2 H2 (s1.trans st2)
  | false => exact h2 ⟨B1, H1, s.σ, e1⟩ k1 c d e' hm E fun cls dd σ2 B2 H2 st2 => q cls dd σ2 B2 H2 (s1.trans st2)
theorem xs_dr (h : XE1 K cm W te x) : XS1 K cm W (tDrop te) x := fun s k c d e' hm E q => h s k c d e' hm _ fun cls dd B' H' st k' r => q cls dd s.σ B' H' st k' r
theorem xs_ret (h : XE1 K cm W te x) : XS1 K cm W (tRet te) x := fun s k c d e' hm E q => h s k c d e' hm _ fun cls dd B' H' st k' r => q cls dd s.σ B' H' st k' r
theorem xs_as (h : XE1 K cm W te x) : XS1 K cm W (tAsg te g) x := fun s k c d e' hm E q => h s k c d e' hm _ fun cls dd B' H' st k' r => q cls dd s.σ B' H' st k' r
theorem xa_1 (h : XE1 K cm W te x) : XA1 K cm W (tCons te tr) x := fun s k c d e' hm Q q => h s k c d e' hm _ q
theorem xa_2 (h1 : DE K cm te m) (h : XA1 K cm W tr x) : XA1 K cm W (tCons te tr) (consX2 m x) := fun s k c d e' hm Q q => by
  obtain ⟨y, e1, g1, hm⟩ := bnd_some hm
  exact h1 s k y e1 g1 _ fun v B1 H1 s1 k1 r1 => h ⟨B1, H1, s.σ, e1⟩ k1 c d e' hm _ fun cls dd B2 H2 st2 => q cls dd B2 H2 (s1.trans st2)
theorem xe_lst (h : XA1 K cm W tr x) : XE1 K cm W (tLst tr) x := fun s k c d e' hm Q q => h s k c d e' hm _ q
/-- what an error's own __init__ keeps -/
def spI (K : PySem.W.Frag) (C : Addr) : Sp := fun vs H Q _ => ∃ (p : Addr) (v : V), vs = [.ref p, v] ∧ H p = some (exo p C none) ∧ ∀ dx, H dx = none → dx ≠ p → Q .non (upd (upd H dx (exd dx [("value", v)])) p (exo p C (some dx)))
/-- raise C(e) -/
def raT (W : WX) (C : Addr) (sp : Sp) (te : TE) : TS := fun _ σ H => tMkO C sp [] (tCons te tNil) σ H fun cls d H1 => W cls d σ H1
theorem xs_ra {c : Nat} (h : DE K cm te m) : XS1 K cm W (raT W (cm c) (spI K (cm c)) te) (raX c m) := fun s k c2 d e' hm E q => by
  obtain ⟨y, e1, g1, hm⟩ := bnd_some hm
  cases hm
  refine h s k _ _ g1 _ fun v B1 H1 s1 k1 r1 => ⟨(by show 1 ≤ 1000; decide), fun a ha => ⟨a, v, rfl, upd_same, fun dx hd ne => ⟨rfl, dx, [("value", v)], upd_same, ?_, ?_, ?_⟩⟩⟩
  · rw [upd_ne ne, upd_same]
  · rw [upd_ne ne] at hd
    exact hd
  · rw [upd_ne ne] at hd
    have hp : H1 dx = none := hd
    have eq : upd (del (upd (upd (upd H1 a (exo a (cm c) none)) dx (exd dx [("value", v)])) a (exo a (cm c) (some dx))) a) dx (.xd [("value", v)]) = upd H1 dx (.xd [("value", v)]) := by
      funext b
      by_cases c1 : b = dx
      · rw [c1, upd_same, upd_same]
      · rw [upd_ne c1, upd_ne c1]
        by_cases c2 : b = a
        · rw [c2, del_same, ha]
        · rw [del_ne c2, upd_ne c2, upd_ne c1, upd_ne c2]
    rw [eq]
    have g := Gro.new (o := .xd [("value", v)]) k1.bh hp
    exact q _ _ s.σ _ _ (s1.trans (g.step (s := ⟨B1, H1, s.σ, e'⟩))) (g.ok (s := ⟨B1, H1, s.σ, e'⟩) k1) ⟨rfl, dx, v, rfl, upd_same, r1.mono g.bb⟩
/-! ### calls -/
theorem de_callN {n : Nat} {F : MF} {X : XF} {E : L2.St → XK} (h : DC K cm tr mr) (hl : ∀ e as e', mr e = some (as, e') → as.length = n) : DE K cm (tCallSD (spX K cm n F X) [] E tr) (callM F mr) := fun s k d e' hm Q q => by
  obtain ⟨as, e1, h1, hm⟩ := bnd_some hm
  refine h s k as e1 h1 _ fun vs B1 H1 s1 k1 r1 => .inl ?_
  rw [List.append_nil]
  exact call_run (s := ⟨B1, H1, s.σ, e1⟩) k1 r1 (by rw [r1.len, hl _ _ _ h1]) hm Q fun v B2 H2 s2 k2 r2 => q v B2 H2 (s1.trans s2) k2 r2
/-- within an expression: nothing is wished of what is raised -/
theorem de_callP {n : Nat} {F : MF} {X : XF} {E : XK} (h : DC K cm tr mr) (hl : ∀ e as e', mr e = some (as, e') → as.length = n) : DE K cm (tCall (spX K cm n F X) [] E tr) (callM F mr) := fun s k d e' hm Q q => by
  obtain ⟨as, e1, h1, hm⟩ := bnd_some hm
  refine h s k as e1 h1 _ fun vs B1 H1 s1 k1 r1 => .inl ?_
  rw [List.append_nil]
  exact call_run (s := ⟨B1, H1, s.σ, e1⟩) k1 r1 (by rw [r1.len, hl _ _ _ h1]) hm Q fun v B2 H2 s2 k2 r2 => q v B2 H2 (s1.trans s2) k2 r2
theorem argR_fro {B : Hp} {σ : L2.St} : ∀ {vs : List V} {as : List Arg} {e es : SDs}, ArgR K cm B σ vs as → argsE as e = some es → allFro es = true → ∃ ds, es = ds.map SD.fro ∧ Reps K cm B vs ds
  | _, _, _, _, .nil, h, _ => by cases h; exact ⟨[], rfl, .nil⟩
  | _, _, e, es, .val (as := as) rv rr, h, hf => by
    unfold argsE at h
    split at h
    · rename_i xs hx
      cases h
      obtain ⟨ds, rfl, q⟩ := argR_fro rr hx (by
        unfold allFro at hf
        rw [List.all_cons, Bool.and_eq_true] at hf
        exact hf.2)
      exact ⟨_ :: ds, rfl, .cons rv q⟩
    · cases h
  | _, _, e, es, .slo (as := as) hs rr, h, hf => by
    unfold argsE at h
    split at h
    · split at h
      · split at h
        · cases h
          unfold allFro at hf
          rw [List.all_cons, Bool.and_eq_true] at hf
          exact absurd hf.1 Bool.false_ne_true
        · cases h
      · cases h
    · cases h
theorem okm_fro {B H : Hp} (e : Ex B H) {vs : List V} {ds : List D} (r : Reps K cm B vs ds) : Okm K cm ⟨B, H, vs.map some, ds.map SD.fro⟩ := by
  refine ⟨?_, e, fun i d hi => ?_, fun i x o hi ho => ?_, fun i j o p a h1 _ => ?_⟩
  · show (ds.map SD.fro).length = (vs.map some).length
    rw [List.length_map, List.length_map, r.len]
  · have hi : (ds.map SD.fro)[i]? = some (.fro d) := hi
    rw [List.getElem?_map] at hi
    cases hd : ds[i]? with
    | none => rw [hd] at hi; cases hi
    | some d2 =>
      rw [hd] at hi
      cases hi
      obtain ⟨v, h1, h2⟩ := r.get hd
      exact ⟨v, by show (vs.map some)[i]? = _; rw [List.getElem?_map, h1]; rfl, h2⟩
  · have hi : (ds.map SD.fro)[i]? = some x := hi
    rw [List.getElem?_map] at hi
    cases hd : ds[i]? with
    | none => rw [hd] at hi; cases hi
    | some d2 => rw [hd] at hi; cases hi; cases ho
  · obtain ⟨⟨x, hi, ho⟩, _⟩ := h1
    have hi : (ds.map SD.fro)[i]? = some x := hi
    rw [List.getElem?_map] at hi
    cases hd : ds[i]? with
    | none => rw [hd] at hi; cases hi
    | some d2 => rw [hd] at hi; cases hi; cases ho
theorem allFro_map (ds : List D) : allFro (ds.map SD.fro) = true := by
  unfold allFro
  rw [List.all_map]
  exact List.all_eq_true.mpr fun _ _ => rfl
theorem xe_call {n : Nat} {F : MF} {X : XF} (h : DC K cm tr mr) (hl : ∀ e as e', mr e = some (as, e') → as.length = n) : XE1 K cm W (tCallSD (spX K cm n F X) [] (WE W) tr) (callX X mr) := fun s k c d e' hm Q q => by
  obtain ⟨as, e1, h1, hm⟩ := bnd_some hm
  split at hm
  · rename_i es hes
    split at hm
    · rename_i hf
      split at hm
      · rename_i c2 d2 hX
        cases hm
        refine h s k as _ h1 _ fun vs B1 H1 s1 k1 r1 => ?_
        rw [List.append_nil]
        obtain ⟨ds, rfl, rs⟩ := argR_fro r1 hes hf
        refine .inr ⟨B1, ds.map SD.fro, c, d, by rw [r1.len, hl _ _ _ h1], okm_fro k1.bh rs, hf, hX, fun cls dd B2 H2 gr er => ?_⟩
        exact q cls dd B2 H2 (s1.trans (gr.step (s := ⟨B1, H1, s.σ, e'⟩))) (gr.ok (s := ⟨B1, H1, s.σ, e'⟩) k1) er
      · cases hm
    · cases hm
  · cases hm
/-! ### loops -/
theorem xs_for {wi : TI} {mi : ML} (h1 : DIt K cm wi mi) (h2 : DG K cm g js ga) (h3 : DS K cm tz a) (h4 : XS1 K cm W tz xa) : XS1 K cm W (tFor wi g tz) (forX mi ga a xa) := fun s k c d e' hm E q => by
  obtain ⟨xs, e1, g1, hm⟩ := bnd_some hm
  refine h1 s k xs e1 g1 _ fun J B1 H1 s1 k1 w1 => ?_
  refine ⟨fun i n σ' H' => n + i = xs.length ∧ ∃ B' e2, Stp ⟨B1, H1, s.σ, e1⟩ ⟨B', H', σ', e2⟩ ∧ Okm K cm ⟨B', H', σ', e2⟩ ∧ forXL ga a xa (xs.drop i) e2 = some (c, d, e'), ⟨xs.length, rfl, B1, e1, Stp.refl _, k1, hm⟩, fun i n σ' H' hW => ?_⟩
  obtain ⟨hn, B', e2, st, k', hm'⟩ := hW
  have ww := w1 B' H' st.bb k'.bh i
  cases hx : xs[i]? with
  | none =>
    rw [List.drop_eq_nil_of_le (List.getElem?_eq_none_iff.mp hx)] at hm'
    cases hm'
  | some y =>
    have hl : i < xs.length := (List.getElem?_eq_some_iff.mp hx).1
    have hd : xs.drop i = y :: xs.drop (i + 1) := by
      rw [List.drop_eq_getElem_cons hl, (List.getElem?_eq_some_iff.mp hx).2]
    rw [hd] at hm'
    have hm' : (match ga y e2 with | none => none | some e3 => match xa e3 with | some r => some r | none => match a e3 with | some (.nx e4) => forXL ga a xa (xs.drop (i + 1)) e4 | some (.ct e4) => forXL ga a xa (xs.drop (i + 1)) e4 | _ => none) = some (c, d, e') := hm'
    obtain ⟨w2, w3⟩ := ww.1 y hx
    refine .inr ⟨w2, fun σ2 H2 => ∃ B2 e4, Stp ⟨B1, H1, s.σ, e1⟩ ⟨B2, H2, σ2, e4⟩ ∧ Okm K cm ⟨B2, H2, σ2, e4⟩ ∧ forXL ga a xa (xs.drop (i + 1)) e4 = some (c, d, e'), fun σ2 H2 ⟨B2, e4, p1, p2, p3⟩ => ⟨n - 1, by omega, by omega, B2, e4, p1, p2, p3⟩, fun v H2 hy => ?_⟩
    obtain ⟨B2, gr, rx⟩ := w3 v H2 hy
    have k2 := gr.ok (s := ⟨B', H', σ', e2⟩) k'
    have s2 := st.trans (gr.step (s := ⟨B', H', σ', e2⟩))
    cases hg : ga y e2 with
    | none => rw [hg] at hm'; cases hm'
    | some e3 =>
      rw [hg] at hm'
      dsimp only at hm'
      refine h2 ⟨B2, H2, σ', e2⟩ k2 v y e3 rx hg _ fun σ3 B3 H3 s3 k3 _ _ => ?_
      cases hxa : xa e3 with
      | some r =>
        rw [hxa] at hm'
        obtain ⟨c3, d3, e5⟩ := r
        cases hm'
        exact h4 ⟨B3, H3, σ3, e3⟩ k3 c d e' hxa _ fun cls dd σ5 B5 H5 s5 => q cls dd σ5 B5 H5 (s1.trans ((s2.trans s3).trans s5))
      | none =>
        rw [hxa] at hm'
        dsimp only at hm'
        cases ha : a e3 with
        | none => rw [ha] at hm'; cases hm'
        | some o1 =>
          rw [ha] at hm'
          refine h3 ⟨B3, H3, σ3, e3⟩ k3 o1 ha _ ?_
          cases o1 with
          | nx e4 => exact fun σ4 B4 H4 s4 k4 => ⟨B4, e4, (s2.trans s3).trans s4, k4, hm'⟩
          | ct e4 => exact fun σ4 B4 H4 s4 k4 => ⟨B4, e4, (s2.trans s3).trans s4, k4, hm'⟩
          | bk e4 => cases hm'
          | rt d2 e4 => cases hm'
          | ro w e4 => cases hm'
end
end Mir

set_option Elab.async false
set_option linter.all false
set_option maxRecDepth 100000
set_option maxHeartbeats 4000000
namespace Mir
open PySem PySem.Spec PyProof.Rows L2 Evl WS
/-! ### a def that may raise, by its body -/
section
variable {K : PySem.W.Frag} {cm : CM} {tz : TS}
theorem spX_len {n : Nat} {F : MF} {X : XF} {vs : List V} {H : Hp} {Q : VK} {E : XK} (h : spX K cm n F X vs H Q E) : vs.length = n := by
  rcases h with ⟨_, _, _, _, h, _⟩ | ⟨_, _, _, _, h, _⟩ <;> exact h
theorem fro_of {B : Hp} : ∀ {vs : List V} {es : SDs}, allFro es = true → es.length = (vs.map some).length → (∀ (i : Nat) (d : D), es[i]? = some (.fro d) → ∃ v, (vs.map some)[i]? = some (some v) ∧ Rep K cm B v d) → ∃ ds : List D, es = ds.map SD.fro ∧ Reps K cm B vs ds
  | [], [], _, _, _ => ⟨[], rfl, .nil⟩
  | [], _ :: _, _, h, _ => nomatch h
  | _ :: _, [], _, h, _ => nomatch h
  | v :: vr, y :: r, hf, kl, kf => by
    unfold allFro at hf
    rw [List.all_cons, Bool.and_eq_true] at hf
    cases y with
    | fro d0 =>
      obtain ⟨v0, h1, h2⟩ := kf 0 d0 rfl
      have h1 : some (some v) = some (some v0) := h1
      cases h1
      obtain ⟨ds, h3, h4⟩ := fro_of (vs := vr) (es := r) hf.2 (by simpa using kl) (fun i d hi => kf (i + 1) d hi)
      exact ⟨d0 :: ds, by rw [h3]; rfl, .cons h2 h4⟩
    | nn => exact absurd hf.1 Bool.false_ne_true
    | own _ => exact absurd hf.1 Bool.false_ne_true
    | bor _ => exact absurd hf.1 Bool.false_ne_true
theorem def_runX {Ns : List Str} {n : Nat} {ts : TS} {ms : MS} {x : MX} {vs : List V} {H : Hp} {Q : VK} {E : XK} (h : DS K cm ts ms) (hx : XS1 K cm (fun cls d _ H => E cls d H) ts x) (w : spX K cm n (defF n Ns.length ms) (defX n Ns.length x) vs H Q E) :
    ts { nx := fun _ H' => Q .non H', rt := Q } (start Ns vs) H := by
  rcases w with w | ⟨B, es, c, d, hn, k, hf, hX, q⟩
  · exact def_run h w
  · unfold defX at hX
    split at hX
    · rename_i hl
      split at hX
      · rename_i c2 d2 e2 hx2
        cases hX
        have ds : ∃ ds : List D, es = ds.map SD.fro ∧ Reps K cm B vs ds := fro_of hf k.len k.fro
        obtain ⟨ds, rfl, rs⟩ := ds
        have nw : ∀ a : Addr, ¬ OwnA ⟨B, H, start Ns vs, ds.map SD.fro ++ List.replicate (Ns.length - n) .nn⟩ a := fun a ⟨i, o, ⟨y, h1, h2⟩, _⟩ => by
          have h1 : (ds.map SD.fro ++ List.replicate (Ns.length - n) SD.nn)[i]? = some y := h1
          rcases List.mem_append.mp (List.mem_of_getElem? h1) with z | z
          · rw [List.mem_map] at z
            obtain ⟨_, _, rfl⟩ := z
            cases h2
          · rw [(List.mem_replicate.mp z).2] at h2
            cases h2
        have k0 : Okm K cm ⟨B, H, start Ns vs, ds.map SD.fro ++ List.replicate (Ns.length - n) .nn⟩ := by
          refine ⟨?_, k.bh, fun i d hi => ?_, fun i y o hi ho => ?_, fun i j o p a h1 _ => absurd ⟨i, o, h1⟩ (nw a)⟩
          · show (ds.map SD.fro ++ List.replicate (Ns.length - n) SD.nn).length = (start Ns vs).length
            unfold L2.start
            rw [List.length_append, List.length_append, List.length_replicate, List.length_replicate, List.length_map, List.length_map, rs.len, show n = ds.length by rw [← rs.len]; exact hn.symm]
          · have hi : (ds.map SD.fro ++ List.replicate (Ns.length - n) SD.nn)[i]? = some (.fro d) := hi
            by_cases c1 : i < ds.length
            · rw [List.getElem?_append_left (by rw [List.length_map]; exact c1), List.getElem?_map] at hi
              cases hd : ds[i]? with
              | none => rw [hd] at hi; cases hi
              | some d2 =>
                rw [hd] at hi
                cases hi
                obtain ⟨v, h1, h2⟩ := rs.get hd
                refine ⟨v, ?_, h2⟩
                show (start Ns vs)[i]? = _
                unfold L2.start
                rw [List.getElem?_append_left (by rw [List.length_map, rs.len]; exact c1), List.getElem?_map, h1]
                rfl
            · rw [List.getElem?_append_right (by rw [List.length_map]; omega), List.getElem?_replicate] at hi
              split at hi <;> cases hi
          · have hi : (ds.map SD.fro ++ List.replicate (Ns.length - n) SD.nn)[i]? = some y := hi
            rcases List.mem_append.mp (List.mem_of_getElem? hi) with z | z
            · rw [List.mem_map] at z
              obtain ⟨_, _, rfl⟩ := z
              cases ho
            · rw [(List.mem_replicate.mp z).2] at ho
              cases ho
        refine hx ⟨B, H, start Ns vs, _⟩ k0 _ _ _ hx2 _ fun cls dd σ' B' H' st k' er => q cls dd B' H' ⟨fun a o ha => st.ex a o ha (nw a), st.bb, k'.bh, fun a o h1 h2 => (st.fr a o h1 h2).elim id fun z => absurd z (nw a)⟩ er
      · cases hX
    · cases hX
/-! ### try: what is caught -/
def wipe1 (i : Nat) (e : SDs) : Option SDs := match e[i]? with | some (.fro _) => some (e.set i .nn) | some .nn => some (e.set i .nn) | _ => none
def tryM (b : MS) (x : MX) (tab : Nat → Option Bool) (i : Nat) (suite : MS) : MS := fun e => match x e with
  | none => b e
  | some (c, d, e1) => match tab c with
    | some true => (match setS i (.fro (.exc c d)) e1 with
      | none => none
      | some e2 => match suite e2 with
        | some (.nx e3) => (wipe1 i e3).map Out.nx
        | some (.rt d2 e3) => some (.rt d2 e3)
        | _ => none)
    | _ => none
theorem wipe1_ok {s0 s : MSt} {i : Nat} {e' : SDs} (st : Stp s0 s) (k : Okm K cm s) (h : wipe1 i s.e = some e') : Stp s0 ⟨s.B, s.H, s.σ.set i none, e'⟩ ∧ Okm K cm ⟨s.B, s.H, s.σ.set i none, e'⟩ := by
  have hx : ∃ y, s.e[i]? = some y ∧ y.ow = none ∧ e' = s.e.set i .nn := by
    unfold wipe1 at h
    split at h
    · rename_i d hd
      cases h
      exact ⟨_, hd, rfl, rfl⟩
    · rename_i hd
      cases h
      exact ⟨_, hd, rfl, rfl⟩
    · cases h
  obtain ⟨y, hy, ho, rfl⟩ := hx
  have hi : i < s.e.length := (List.getElem?_eq_some_iff.mp hy).1
  have hi2 : i < s.σ.length := by rw [← k.len]; exact hi
  have back : ∀ {j : Nat} {z : SD} {o : OD}, (s.e.set i SD.nn)[j]? = some z → z.ow = some o → j ≠ i ∧ s.e[j]? = some z := fun {j z o} h1 h2 => by
    rw [set_get hi] at h1
    by_cases c : j = i
    · rw [if_pos c] at h1
      cases h1
      cases h2
    · rw [if_neg c] at h1
      exact ⟨c, h1⟩
  have sg : ∀ {j : Nat}, j ≠ i → (s.σ.set i none)[j]? = s.σ[j]? := fun {j} c => List.getElem?_set_ne (Ne.symm c)
  have at1 : ∀ {j : Nat} {o : OD} {a : Addr}, AtM ⟨s.B, s.H, s.σ.set i none, s.e.set i .nn⟩ j o a → AtM s j o a := fun {j o a} ⟨⟨z, h1, h2⟩, h3⟩ => by
    obtain ⟨c, h4⟩ := back h1 h2
    have h3 : (s.σ.set i none)[j]? = some (some (.ref a)) := h3
    rw [sg c] at h3
    exact ⟨⟨z, h4, h2⟩, h3⟩
  refine ⟨⟨st.ex, st.bb, st.fr, fun a ⟨j, o, h1⟩ => st.ow a ⟨j, o, at1 h1⟩, fun j o a h1 h2 => ?_, st.dm⟩, ⟨?_, k.bh, fun j d hj => ?_, fun j z o hj hz => ?_, fun j l o p a h1 h2 => k.dis j l o p a (at1 h1) (at1 h2)⟩⟩
  · obtain ⟨⟨o', h3⟩, h4⟩ := st.bo j o a h1 h2
    have c : j ≠ i := fun c => by
      rw [c, hy] at h3
      cases h3
      cases ho
    refine ⟨⟨o', ?_⟩, ?_⟩
    · show (s.e.set i SD.nn)[j]? = _
      rw [set_get hi, if_neg c]
      exact h3
    · show (s.σ.set i none)[j]? = _
      rw [sg c]
      exact h4
  · show (s.e.set i SD.nn).length = (s.σ.set i none).length
    rw [List.length_set, List.length_set, k.len]
  · have hj : (s.e.set i SD.nn)[j]? = some (.fro d) := hj
    rw [set_get hi] at hj
    by_cases c : j = i
    · rw [if_pos c] at hj
      cases hj
    · rw [if_neg c] at hj
      obtain ⟨v, h1, h2⟩ := k.fro j d hj
      refine ⟨v, ?_, h2⟩
      show (s.σ.set i none)[j]? = _
      rw [sg c]
      exact h1
  · obtain ⟨c, h4⟩ := back hj hz
    obtain ⟨a, h1, h2⟩ := k.own j z o h4 hz
    refine ⟨a, ?_, h2⟩
    show (s.σ.set i none)[j]? = _
    rw [sg c]
    exact h1
theorem ds_try {tb : WX → TS} {ts : TS} {Wout : WX} {cv : Value} {i : Nat} {b suite : MS} {x : MX} {tab : Nat → Option Bool} (ht : ∀ c r, tab c = some r → PySem.W.exmOne K (.ref (cm c)) cv = some r)
    (h1 : ∀ W, DS K cm (tb W) b) (h2 : ∀ W, XS1 K cm W (tb W) x) (h3 : DS K cm ts suite) : DS K cm (fun D σ H => tb (wTr K cv i ts Wout D) D σ H) (tryM b x tab i suite) := fun s k o hm E q => by
  unfold tryM at hm
  split at hm
  · exact h1 _ s k o hm E q
  · rename_i c d e1 hx
    refine h2 _ s k c d e1 hx E fun cls dd σ' B' H' st k' er => ?_
    split at hm
    · rename_i hc
      split at hm
      · cases hm
      · rename_i e2 he2
        obtain ⟨rfl, p, v, rfl, hp, rv⟩ := er
        refine ⟨true, ht c true hc, fun z => (nomatch z), fun _ a ha => ?_⟩
        have gr := Gro.new (o := ExT (.ref (cm c)) (some p) a) k'.bh ha
        have k2 := gr.ok (s := ⟨B', H', σ', e1⟩) k'
        have s2 := st.trans (gr.step (s := ⟨B', H', σ', e1⟩))
        have rx : Rep K cm (upd B' a (ExT (.ref (cm c)) (some p) a)) (.ref a) (.exc c d) := .exc upd_same (gr.bb _ _ hp) (rv.mono gr.bb)
        have k3 := set_ok (s := ⟨upd B' a (ExT (.ref (cm c)) (some p) a), upd H' a (ExT (.ref (cm c)) (some p) a), σ', e1⟩) (v := .ref a) k2 he2 (fun d2 z => by cases z; exact rx) (fun _ z => nomatch z) (fun _ z => nomatch z) (fun _ _ z => nomatch z)
        have s3 := set_st (s := ⟨upd B' a (ExT (.ref (cm c)) (some p) a), upd H' a (ExT (.ref (cm c)) (some p) a), σ', e1⟩) (v := .ref a) s2 k2 he2 (fun _ z => nomatch z) (fun _ _ z => nomatch z)
        split at hm
        · rename_i e3 hs
          cases hw : wipe1 i e3 with
          | none => rw [hw] at hm; cases hm
          | some e4 =>
            rw [hw] at hm
            cases hm
            exact h3 ⟨_, _, _, e2⟩ k3 _ hs _ fun σ4 B4 H4 st4 k4 => by
              obtain ⟨w1, w2⟩ := wipe1_ok (s := ⟨B4, H4, σ4, e3⟩) (s3.trans st4) k4 hw
              exact q _ _ _ w1 w2
        · rename_i d2 e3 hs
          cases hm
          exact h3 ⟨_, _, _, e2⟩ k3 _ hs _ fun v4 σ4 B4 H4 st4 k4 r4 => q v4 σ4 B4 H4 (s3.trans st4) k4 r4
        · cases hm
    · cases hm
end
end Mir

set_option Elab.async false
set_option linter.all false
set_option maxRecDepth 100000
set_option maxHeartbeats 4000000
namespace Mir
open PySem PySem.Spec PyProof.Rows L2 Evl WS
/-! ### what a text says of an error's class -/
/-- a def whose defaults may be any -/
structure FunA (K : PySem.W.Frag) (x qual : Str) (st : Stmt) (f : Addr) (fd : FuncData) : Prop where
  ex : ∃ (oc : Value) (od : Option Addr) (dV kV doc pm : Value) (an : Option Addr) (cdv ct : Value) (osl : Array (Option Value)),
    fd = PySem.W.fnOf x qual (defArgs st) (defBody st) (defScope st) dV kV doc pm an cdv ct ∧ K.lookup f = some ⟨oc, od, .func fd, osl⟩ ∧ PySem.W.codeIn K cdv qual = true
theorem funA_mk {K : PySem.W.Frag} {x qual : Str} {st : Stmt} {f : Addr} {oc : Value} {od an : Option Addr} {osl : Array (Option Value)} {dV kV doc pm cdv ct : Value}
    (l : K.lookup f = some ⟨oc, od, .func (PySem.W.fnOf x qual (defArgs st) (defBody st) (defScope st) dV kV doc pm an cdv ct), osl⟩) (c : PySem.W.codeIn K cdv qual = true) : FunA K x qual st f (PySem.W.fnOf x qual (defArgs st) (defBody st) (defScope st) dV kV doc pm an cdv ct) :=
  ⟨⟨oc, od, dV, kV, doc, pm, an, cdv, ct, osl, rfl, l, c⟩⟩
theorem FunA.binds {K : PySem.W.Frag} {x qual : Str} {st : Stmt} {f : Addr} {fd : FuncData} {ps : List Str} (F : FunA K x qual st f fd)
    (h : ∀ (dV kV doc pm : Value) (an : Option Addr) (cdv ct : Value) (us : List Value), us.length = ps.length → bindArgs (PySem.W.fnOf x qual (defArgs st) (defBody st) (defScope st) dV kV doc pm an cdv ct) ⟨us, []⟩ = pure (ps.zip us)) : Binds K fd ps [] := by
  obtain ⟨oc, od, dV, kV, doc, pm, an, cdv, ct, osl, rfl, lk, hcd⟩ := F.ex
  exact .all (h dV kV doc pm an cdv ct)
section
variable {P : Program} {w : World} {K : PySem.W.Frag} {mg : Str → Option Value} {base : Heap}
theorem FunA.okE {x qual : Str} {st : Stmt} {f : Addr} {fd : FuncData} {N ps : List Str} {k : Nat} {sp : Sp} (F : FunA K x qual st f fd) (S : FnScope N ps (defScope st)) (len : ∀ vs H Q E, sp vs H Q E → vs.length = ps.length)
    (body : ∀ (cdv : Value) (A : Around) (outer : List Env) (s : Shared) (H : Hp) (vs : List V) (Q : VK) (E : XK), Room k (A.deeper (envOfC qual (defScope st) s.heap.objs.size f cdv)) → sp vs H Q E →
      ∃ t, PSs (cxOf CX0 P w K mg base N qual (defScope st) f cdv A outer s H E) (defBody st) t ∧ t { nx := fun _ H' => Q .non H', rt := Q } (start N vs) H) : FnOk P w K mg base CX0 (k + 1) f fd ps sp := by
  obtain ⟨oc, od, dV, kV, doc, pm, an, cdv, ct, osl, rfl, lk, code⟩ := F.ex
  exact fn_of lk code S len (body cdv)
end
/-- both parameters are given, the default is not asked for -/
theorem errBinds {K : PySem.W.Frag} {x qual : Str} {st : Stmt} {T : Addr} {kV doc pm cdv ct oct : Value} {an odt : Option Addr} {m : Nat} {slt : Array (Option Value)} (lT : K.lookup T = some ⟨oct, odt, .seq #[.none] m, slt⟩)
    (h : ∀ a b : Value, ∃ k, bindArgs (PySem.W.fnOf x qual (defArgs st) (defBody st) (defScope st) (.ref T) kV doc pm an cdv ct) ⟨[a, b], []⟩ = seqItems? (.ref T) >>= k ∧ k (some #[.none]) = pure ([("self" : Str), "value"].zip [a, b])) :
    Binds K (PySem.W.fnOf x qual (defArgs st) (defBody st) (defScope st) (.ref T) kV doc pm an cdv ct) ["self", "value"] [] := fun s us X hl => by
  match us, hl with
  | [a, b], _ =>
    obtain ⟨k, e1, e2⟩ := h a b
    refine BindsTo.of_looks fun M => ?_
    show PySem.W.Looks M s.heap (bindArgs _ ⟨[a, b], []⟩) _
    rw [e1]
    exact looks_items X lT rfl (.of_pure e2)
structure ErrT (K : PySem.W.Frag) (mg : Str → Option Value) (x : Str) (C fI : Addr) (fd : FuncData) : Prop where
  ok : ErrOk K C
  g : mg x = some (.ref C)
  ini : PySem.W.findIn K (.ref C) "__init__" = some (some (.ref fI))
  ty : PySem.W.typeIn K (.ref fI) = some (.type "function")
  b : Binds K fd ["self", "value"] []
theorem spI_len {K : PySem.W.Frag} {C : Addr} {vs : List V} {H : Hp} {Q : VK} {E : XK} (h : spI K C vs H Q E) : vs.length = 2 := by
  obtain ⟨_, _, rfl, _⟩ := h
  rfl
theorem err_run {K : PySem.W.Frag} {C : Addr} {vs : List V} {H : Hp} {Q : VK} {E : XK} (k : ErrOk K C) (h : spI K C vs H Q E) : tOst K "value" (tVar 0) (tVar 1) { nx := fun _ H' => Q .non H', rt := Q } (start ["self", "value"] vs) H := by
  obtain ⟨p, v, rfl, h1, h2⟩ := h
  exact ⟨v, rfl, .ref p, rfl, p, C, rfl, k.ex, k.nv, .inl ⟨h1, fun dx hd ne => h2 dx hd ne⟩⟩
/-- what a clause names -/
theorem exm_of {K : PySem.W.Frag} {S : Addr} {cls : Value} {b : Bool} (h1 : PySem.W.subIn K (.ref S) (.type "BaseException") = some true) (h2 : PySem.W.hasDictIn K S = true) (h3 : PySem.W.typeIn K (.ref S) = some (.type "type")) (h4 : PySem.W.subIn K cls (.ref S) = some b) : PySem.W.exmOne K cls (.ref S) = some b := PySem.W.exm_ref h1 h2 h3 h4
theorem kit_of {K : PySem.W.Frag} {a c : Addr} {b : Bool} (h : PySem.W.subIn K (.ref a) (.ref c) = some b) (self : PySem.W.subIn K (.ref c) (.ref c) = some true) (hd : PySem.W.hasDictIn K c = true) (ht : PySem.W.typeIn K (.ref c) = some (.type "type")) : PySem.W.kitOne K (.ref a) (.ref c) = some b := by
  obtain ⟨cd, hc, _⟩ := PySem.W.any_some hd
  unfold PySem.W.kitOne
  by_cases e : a = c
  · subst e
    rw [self] at h
    cases h
    rw [if_pos (beq_self_eq_true _)]
  · rw [if_neg (by simpa using e)]
    unfold PySem.W.kitCls
    simp only [hc, ht, h]
    simp
theorem ds_noA {K : PySem.W.Frag} {cm : CM} {tz : TS} : DS K cm tz noM := fun s k o h E q => nomatch h
end Mir

set_option Elab.async false
set_option linter.all false
set_option maxRecDepth 100000
set_option maxHeartbeats 4000000
namespace Mir
open PySem PySem.Spec PyProof.Rows L2 Evl WS
/-! ### defs as values -/
theorem FnOk.lift {P : Program} {w : World} {K : PySem.W.Frag} {mg : Str → Option Value} {base : Heap} {CX : CXT} {k : Nat} {f : Addr} {fd : FuncData} {ps : List Str} {sp : Sp} (F : FnOk P w K mg base CX0 k f fd ps sp) : FnOk P w K mg base CX k f fd ps sp :=
  ⟨F.len, fun A outer s H args us vs Q E hr he hb hv hs => codeAny_mono (F.run A outer s H args us vs Q E hr he hb hv hs) fun r s' q => by
    match r, q with
    | .ok (.ret u), q => exact q⟩
/-- a def that raises nothing, told like one that may -/
theorem FnOk.noX {P : Program} {w : World} {K : PySem.W.Frag} {cm : CM} {mg : Str → Option Value} {base : Heap} {CX : CXT} {k n : Nat} {f : Addr} {fd : FuncData} {ps : List Str} {F : MF} (h : FnOk P w K mg base CX0 k f fd ps (spD K cm n F)) : FnOk P w K mg base CX k f fd ps (spX K cm n F fun _ => none) :=
  (FnOk.lift h).imp fun vs H Q E q => by
    rcases q with q | ⟨_, _, _, _, _, _, _, q, _⟩
    · exact q
    · cases q
/-- f0(..): S tells the promises of the defs that f0 may be -/
def tCallV (S : Addr → Sp → Prop) (E : L2.St → XK) (tf : TE) (t : TA) : TE := fun σ H Q => tf σ H fun x H1 => ∃ f sp, x = .ref f ∧ S f sp ∧ t σ H1 fun vs H2 => sp vs H2 Q (E σ)
theorem pe_callV {X : Cx} {CX : CXT} {k : Nat} {S : Addr → Sp → Prop} {E : L2.St → XK} {f0 e : Expr} {es : List Expr} {pos : Pos} {tf : TE} {t : TA} (A : ∀ f sp, S f sp → ∃ fd ps, FnOk X.prog X.w X.K X.mg X.base CX k f fd ps sp ∧ PySem.W.keepIn X.K (.ref f) = true ∧ Binds X.K fd ps [])
    (hr : Room k X.A) (hx : ∀ σ, PassesAt CX X σ (E σ)) (hf : PE X f0 tf) (ha : PA X (e :: es) t) (hc : eval (.Call f0 (e :: es) [] pos) X.env = (do callWith pos (← eval f0 X.env) [] (backTo pos (starEach (e :: es) X.env)) (backToKw pos (keywordEach [] X.env))) := by rfl)
    (he : starEach (e :: es) X.env = (false, eval e X.env) :: starEach es X.env := by rfl) (hp : (backTo pos (starEach es X.env)).any (·.1) = false := by rfl) : PE X (.Call f0 (e :: es) [] pos) (tCallV S E tf t) := ⟨fun pins s σ H Q I w => by
  rw [hc]
  refine wpAny_bind (thn (hf.run pins s σ H _ I w) fun u z told => ?_)
  obtain ⟨x, H1, I1, rx, f, sp, ex, hS, w1⟩ := told
  subst ex
  obtain rfl : u = Value.ref f := rx
  obtain ⟨fd, ps, F, kp, b⟩ := A f sp hS
  refine PySem.W.callWith_K (h₀ := X.base) I1.ok.mod.kin kp (thn (ha.run pos pins z σ H1 _ I1 w1) fun us z2 told2 => ?_) he hp
  obtain ⟨vs, H2, I2, r2, q⟩ := told2
  exact ⟨I2.kIn, run_fnSD (dvs := []) F hr b .nil (hx σ) I2 r2 (by rw [List.append_nil]; exact q)⟩⟩
abbrev FTab := Nat → Option (Nat × MF × XF)
def fnS (K : PySem.W.Frag) (cm : CM) (tab : FTab) (f : Addr) (sp : Sp) : Prop := ∃ k a, tab k = some a ∧ f = cm (1000 + k) ∧ sp = spX K cm a.1 a.2.1 a.2.2
def callV (tab : FTab) (mf : M) (mr : MA) : M := fun e => bnd (mf e) fun d e1 => match d with
  | .fn k => (match tab k with
    | some a => bnd (mr e1) fun as e2 => if as.length = a.1 then callE a.2.1 as e2 else none
    | none => none)
  | _ => none
def callVX (tab : FTab) (mf : M) (mr : MA) : MX := fun e => bnd (mf e) fun d e1 => match d with
  | .fn k => (match tab k with
    | some a => bnd (mr e1) fun as e2 => if as.length = a.1 then (match argsE as e2 with | some es => if allFro es = true then (match a.2.2 es with | some (c, d) => some (c, d, e2) | none => none) else none | none => none) else none
    | none => none)
  | _ => none
section
variable {K : PySem.W.Frag} {cm : CM} {W : WX} {tf : TE} {tr : TA} {mf : M} {mr : MA} {tab : FTab}
theorem de_callV {E : L2.St → XK} (hf : DE K cm tf mf) (h : DC K cm tr mr) : DE K cm (tCallV (fnS K cm tab) E tf tr) (callV tab mf mr) := fun s k d e' hm Q q => by
  obtain ⟨x, e1, h1, hm⟩ := bnd_some hm
  split at hm
  · rename_i j
    split at hm
    · rename_i a ha
      obtain ⟨as, e2, h2, hm⟩ := bnd_some hm
      split at hm
      · rename_i hl
        refine hf s k _ e1 h1 _ fun v B1 H1 s1 k1 r1 => ?_
        cases r1
        refine ⟨_, _, rfl, ⟨j, a, ha, rfl, rfl⟩, h ⟨B1, H1, s.σ, e1⟩ k1 as e2 h2 _ fun vs B2 H2 s2 k2 r2 => .inl ?_⟩
        exact call_run (s := ⟨B2, H2, s.σ, e2⟩) k2 r2 (by rw [r2.len, hl]) hm Q fun v B3 H3 s3 k3 r3 => q v B3 H3 ((s1.trans s2).trans s3) k3 r3
      · cases hm
    · cases hm
  · cases hm
theorem xe_callV (hf : DE K cm tf mf) (h : DC K cm tr mr) : XE1 K cm W (tCallV (fnS K cm tab) (WE W) tf tr) (callVX tab mf mr) := fun s k c d e' hm Q q => by
  obtain ⟨x, e1, h1, hm⟩ := bnd_some hm
  split at hm
  · rename_i j
    split at hm
    · rename_i a ha
      obtain ⟨as, e2, h2, hm⟩ := bnd_some hm
      split at hm
      · rename_i hl
        split at hm
        · rename_i es hes
          split at hm
          · rename_i hfr
            split at hm
            · rename_i c2 d2 hX
              cases hm
              refine hf s k _ e1 h1 _ fun v B1 H1 s1 k1 r1 => ?_
              cases r1
              refine ⟨_, _, rfl, ⟨j, a, ha, rfl, rfl⟩, h ⟨B1, H1, s.σ, e1⟩ k1 as _ h2 _ fun vs B2 H2 s2 k2 r2 => ?_⟩
              obtain ⟨ds, rfl, rs⟩ := argR_fro r2 hes hfr
              refine .inr ⟨B2, ds.map SD.fro, c, d, by rw [r2.len, hl], okm_fro k2.bh rs, hfr, hX, fun cls dd B3 H3 gr er => ?_⟩
              exact q cls dd B3 H3 ((s1.trans s2).trans (gr.step (s := ⟨B2, H2, s.σ, e'⟩))) (gr.ok (s := ⟨B2, H2, s.σ, e'⟩) k2) er
            · cases hm
          · cases hm
        · cases hm
      · cases hm
    · cases hm
  · cases hm
end
/-! ### list.index -/
end Mir

set_option Elab.async false
set_option linter.all false
set_option maxRecDepth 100000
set_option maxHeartbeats 4000000
namespace Mir
open PySem PySem.Spec PyProof.Rows L2 Evl WS
/-! ### xs.index(y) of flat items -/
def flD : D → Option V
  | .non => some .non
  | .bl b => some (.bl b)
  | .int i => some (.int i)
  | .str x => some (.str x)
  | _ => none
def flsD : List D → Option (List V)
  | [] => some []
  | d :: r => match flD d, flsD r with | some v, some vs => some (v :: vs) | _, _ => none
def idxV (y : V) : List V → Option Nat
  | [] => none
  | z :: r => if eqV z y then some 0 else (idxV y r).map (· + 1)
def isLst : D → Bool
  | .lst _ => true
  | _ => false
def indexD (x y : D) : Option D := match x with
  | .lst ds => (match flsD ds, flD y with | some zs, some v => (idxV v zs).map fun j : Nat => D.int (j : Int) | _, _ => none)
  | _ => none
def idxM (ma mb : M) : M := fun e => bnd (ma e) fun x e1 => if isLst x then bnd (mb e1) fun y e2 => rsl (indexD x y) e2 else none
section
variable {K : PySem.W.Frag} {cm : CM} {ta tb : TE} {ma mb : M}
theorem flD_rep {B : Hp} {v w : V} {d : D} (r : Rep K cm B v d) (h : flD d = some w) : v = w ∧ flatV w = true := by
  cases r with
  | non => cases h; exact ⟨rfl, rfl⟩
  | bl b => cases h; exact ⟨rfl, rfl⟩
  | int i => cases h; exact ⟨rfl, rfl⟩
  | str x => cases h; exact ⟨rfl, rfl⟩
  | _ => cases h
theorem flsD_rep {B : Hp} : ∀ {vs ws : List V} {ds : List D}, Reps K cm B vs ds → flsD ds = some ws → vs = ws ∧ ws.all flatV = true
  | _, _, _, .nil, h => by cases h; exact ⟨rfl, rfl⟩
  | _, _, _, .cons (v := v) (vs := vs) (d := d) (ds := ds) r rs, h => by
    have h : (match flD d, flsD ds with | some v, some vs => some (v :: vs) | _, _ => none) = some _ := h
    cases h1 : flD d with
    | none => rw [h1] at h; cases h
    | some w =>
      cases h2 : flsD ds with
      | none => rw [h1, h2] at h; cases h
      | some us =>
        rw [h1, h2] at h
        cases h
        obtain ⟨rfl, f1⟩ := flD_rep r h1
        obtain ⟨rfl, f2⟩ := flsD_rep rs h2
        exact ⟨rfl, by rw [List.all_cons, f1, f2]; rfl⟩
theorem idxV_some {y : V} : ∀ {zs : List V} {j : Nat}, idxV y zs = some j → ∃ z, zs[j]? = some z ∧ eqV z y = true ∧ ∀ (m : Nat) (z' : V), m < j → zs[m]? = some z' → eqV z' y = false
  | [], j, h => nomatch h
  | z :: r, j, h => by
    unfold idxV at h
    split at h
    · rename_i hz
      cases h
      exact ⟨z, rfl, hz, fun m z' hm => absurd hm (Nat.not_lt_zero m)⟩
    · rename_i hz
      cases hr : idxV y r with
      | none => rw [hr] at h; cases h
      | some k =>
        rw [hr] at h
        cases h
        obtain ⟨w, h1, h2, h3⟩ := idxV_some hr
        refine ⟨w, h1, h2, fun m z' hm hz' => ?_⟩
        cases m with
        | zero =>
          have hz' : some z = some z' := hz'
          cases hz'
          exact Bool.eq_false_iff.mpr hz
        | succ m =>
          have hm : m + 1 < k + 1 := hm
          exact h3 m z' (by omega) hz'
theorem de_idx (ha : DE K cm ta ma) (hb : DE K cm tb mb) : DE K cm (tBM K "list" (rIndex K) ta (tCons tb tNil)) (idxM ma mb) := fun s k d e' hm Q q => by
  obtain ⟨x, e1, h1, hm⟩ := bnd_some hm
  split at hm
  · rename_i hx
    obtain ⟨y, e2, h2, hm⟩ := bnd_some hm
    obtain ⟨h3, rfl⟩ := rsl_some hm
    refine ha s k x e1 h1 _ fun v B1 H1 s1 k1 r1 => ?_
    cases r1 with
    | @lst a xs ds hl rs =>
      have h3 : (match flsD ds, flD y with | some zs, some v => (idxV v zs).map fun j : Nat => D.int (j : Int) | _, _ => none) = some d := h3
      cases hz : flsD ds with
      | none => rw [hz] at h3; cases h3
      | some zs =>
        cases hw : flD y with
        | none => rw [hz, hw] at h3; cases h3
        | some w =>
          rw [hz, hw] at h3
          have h3 : ((idxV w zs).map fun j : Nat => D.int (j : Int)) = some d := h3
          cases hi : idxV w zs with
          | none => rw [hi] at h3; cases h3
          | some j =>
            rw [hi] at h3
            cases h3
            obtain ⟨rfl, fz⟩ := flsD_rep rs hz
            obtain ⟨z, g1, g2, g3⟩ := idxV_some hi
            refine ⟨.inl ⟨rfl, _, .inl (.inl (k1.bh _ _ hl))⟩, hb ⟨B1, H1, s.σ, e1⟩ k1 y e2 h2 _ fun u B2 H2 s2 k2 r2 => ?_⟩
            obtain ⟨rfl, fw⟩ := flD_rep r2 hw
            exact ⟨a, xs, _, j, z, rfl, rfl, .inl (.inl (k2.bh _ _ (s2.bb _ _ hl))), fw, fz, g1, g2, g3, q _ B2 H2 (s1.trans s2) k2 (.int _)⟩
    | _ => cases hx
  · cases hm
end
def modPD : D → D → Option D := iCD (fun _ j => 0 < j) fun i j => i % j
/-! ### freezing ahead of what raises -/
def frzX (i : Nat) (x : MX) : MX := fun e => match e[i]? with | some (.fro _) => x e | _ => none
theorem xs_frz {K : PySem.W.Frag} {cm : CM} {W : WX} {ts : TS} {i : Nat} {x : MX} (h : XS1 K cm W ts x) : XS1 K cm W ts (frzX i x) := fun s k c d e' hm E q => by
  unfold frzX at hm
  split at hm
  · exact h s k c d e' hm E q
  · cases hm
end Mir

set_option Elab.async false
set_option linter.all false
set_option maxRecDepth 100000
set_option maxHeartbeats 4000000
namespace Mir
open PySem PySem.Spec PyProof.Rows L2 Evl WS
/-! ### xs.count(y) of flat items -/
def rCountF (K : PySem.W.Frag) : V → List V → Hp → VK → Prop := fun x xs H Q => ∃ (p : Addr) (ys : List V) (y : V), x = .ref p ∧ xs = [y] ∧ SqL K H p ys ∧ flatV y = true ∧ ys.all flatV = true ∧ Q (.int ((ys.countP fun z => eqV z y : Nat) : Int)) H
theorem count_vals {y : V} : ∀ {ys : List V} {us : List Value}, Vals ys us → ys.all flatV = true → us.countP (eqU y) = ys.countP fun z => eqV z y
  | _, _, .nil, _ => rfl
  | z :: zs, u :: us, .cons r rs, f => by
    rw [List.all_cons, Bool.and_eq_true] at f
    rw [List.countP_cons, List.countP_cons, count_vals rs f.2, eqU_of r f.1]
theorem mt_countF {X : Cx} : MtR X "list.count" (rCountF X.K) := by
  intro pins s σ H x xs v us Q I rx rxs told
  obtain ⟨p, ys, y, rfl, rfl, hs, fy, fys, q⟩ := told
  cases rx
  obtain ⟨uy, rfl, ry⟩ : ∃ uy, us = [uy] ∧ RelV y uy := by
    cases rxs with
    | cons a b => cases b; exact ⟨_, rfl, a⟩
  obtain ⟨its, rv, ⟨⟨cc, dd, da, sl⟩, n, ho, h1, h2, h3⟩, hlen⟩ := I.list hs
  simp only at h1 h3
  subst h1 h3
  refine call_meets PySem.F.slot_list_count ⟨_, ho, rfl⟩ PySem.F.entry_list_count (PySem.F.args_list_count_2 _ _) (SeqAt.list_countAt p its.toArray n dd sl uy (eqU y)) ⟨ho, fun u' hu' => mem_eqAt ry fy rv fys u' (by simpa using hu'), ?_⟩
  refine ⟨.int ((ys.countP fun z => eqV z y : Nat) : Int), H, I.tok _, ⟨s.toks, ?_⟩, q⟩
  show Value.int ((its.toArray.toList.countP (eqU y) : Nat) : Int) s.toks = _
  rw [show its.toArray.toList = its from rfl, count_vals rv fys]
def countD (x y : D) : Option D := match x with
  | .lst ds => (match flsD ds, flD y with | some zs, some v => some (.int ((zs.countP fun z => eqV z v : Nat) : Int)) | _, _ => none)
  | _ => none
def cntFM (ma mb : M) : M := fun e => bnd (ma e) fun x e1 => if isLst x then bnd (mb e1) fun y e2 => rsl (countD x y) e2 else none
section
variable {K : PySem.W.Frag} {cm : CM} {ta tb te : TE} {tr : TA} {ma mb m : M} {mr : ML} {W : WX}
theorem de_cntF (ha : DE K cm ta ma) (hb : DE K cm tb mb) : DE K cm (tBM K "list" (rCountF K) ta (tCons tb tNil)) (cntFM ma mb) := fun s k d e' hm Q q => by
  obtain ⟨x, e1, h1, hm⟩ := bnd_some hm
  split at hm
  · rename_i hx
    obtain ⟨y, e2, h2, hm⟩ := bnd_some hm
    obtain ⟨h3, rfl⟩ := rsl_some hm
    refine ha s k x e1 h1 _ fun v B1 H1 s1 k1 r1 => ?_
    cases r1 with
    | @lst a xs ds hl rs =>
      have h3 : (match flsD ds, flD y with | some zs, some v => some (D.int ((zs.countP fun z => eqV z v : Nat) : Int)) | _, _ => none) = some d := h3
      cases hz : flsD ds with
      | none => rw [hz] at h3; cases h3
      | some zs =>
        cases hw : flD y with
        | none => rw [hz, hw] at h3; cases h3
        | some w =>
          rw [hz, hw] at h3
          cases h3
          obtain ⟨rfl, fz⟩ := flsD_rep rs hz
          refine ⟨.inl ⟨rfl, _, .inl (.inl (k1.bh _ _ hl))⟩, hb ⟨B1, H1, s.σ, e1⟩ k1 y e2 h2 _ fun u B2 H2 s2 k2 r2 => ?_⟩
          obtain ⟨rfl, fw⟩ := flD_rep r2 hw
          exact ⟨a, xs, _, rfl, rfl, .inl (.inl (k2.bh _ _ (s2.bb _ _ hl))), fw, fz, q _ B2 H2 (s1.trans s2) k2 (.int _)⟩
    | _ => cases hx
  · cases hm
/-! ### a def that hands back a new list, or raises -/
def spFX (K : PySem.W.Frag) (cm : CM) (n : Nat) (F : MFO) (X : XF) : Sp := fun vs H Q E => spF K cm n F vs H Q E ∨
  ∃ B es c d, vs.length = n ∧ Okm K cm ⟨B, H, vs.map some, es⟩ ∧ allFro es = true ∧ X es = some (c, d) ∧ ∀ cls dd B' H', Gro B H B' H' → ErrR K cm B' cls dd c d → E cls dd H'
theorem spFX_len {n : Nat} {F : MFO} {X : XF} {vs : List V} {H : Hp} {Q : VK} {E : XK} (h : spFX K cm n F X vs H Q E) : vs.length = n := by
  rcases h with h | ⟨_, _, _, _, h, _⟩
  · exact spF_len h
  · exact h
theorem def_runFX {Ns : List Str} {n : Nat} {ts : TS} {ms : MS} {x : MX} {vs : List V} {H : Hp} {Q : VK} {E : XK} (h : DS K cm ts ms) (hx : XS1 K cm (fun cls d _ H => E cls d H) ts x) (w : spFX K cm n (defO n Ns.length ms) (defX n Ns.length x) vs H Q E) :
    ts { nx := fun _ H' => Q .non H', rt := Q } (start Ns vs) H := by
  rcases w with w | w
  · exact def_runF h w
  · exact def_runX (ms := noM) (fun s k o hm E q => nomatch hm) hx (.inr w)
theorem df_callP {n : Nat} {F : MFO} {X : XF} {E : XK} (h : DA K cm tr mr) (hl : ∀ e ds e', mr e = some (ds, e') → ds.length = n) : DF K cm (tCall (spFX K cm n F X) [] E tr) (callF F mr) := df_callG (fun _ _ _ _ h => .inl h) h hl
theorem df_callN {n : Nat} {F : MFO} {X : XF} {E : L2.St → XK} (h : DA K cm tr mr) (hl : ∀ e ds e', mr e = some (ds, e') → ds.length = n) : DF K cm (tCallSD (spFX K cm n F X) [] E tr) (callF F mr) := fun s k o e' hm Q q => df_callP (X := X) (E := E s.σ) h hl s k o e' hm Q q
def callFX (X : XF) (ma : ML) : MX := fun e => bnd (ma e) fun ds e1 => match X (ds.map SD.fro) with | some (c, d) => some (c, d, e1) | none => none
theorem xe_callF {n : Nat} {F : MFO} {X : XF} (h : DA K cm tr mr) (hl : ∀ e ds e', mr e = some (ds, e') → ds.length = n) : XE1 K cm W (tCallSD (spFX K cm n F X) [] (WE W) tr) (callFX X mr) := fun s k c d e' hm Q q => by
  obtain ⟨ds, e1, h1, hm⟩ := bnd_some hm
  split at hm
  · rename_i c2 d2 hX
    cases hm
    refine h s k ds _ h1 _ fun vs B1 H1 s1 k1 r1 => ?_
    rw [List.append_nil]
    refine .inr ⟨B1, ds.map SD.fro, c, d, by rw [r1.len, hl _ _ _ h1], okm_fro k1.bh r1, allFro_map ds, hX, fun cls dd B2 H2 gr er => ?_⟩
    exact q cls dd B2 H2 (s1.trans (gr.step (s := ⟨B1, H1, s.σ, e'⟩))) (gr.ok (s := ⟨B1, H1, s.σ, e'⟩) k1) er
  · cases hm
/-- a list built behind what raises, within a statement -/
theorem xe_fr {te : TE} {x : MX} (h : XE1 K cm W te x) : XE1 K cm W te x := h
end
/-- isinstance(e, ValueError) -/
theorem kit_ve {K : PySem.W.Frag} {a : Addr} (h : PySem.W.subIn K (.ref a) (.type "ValueError") = some true) : PySem.W.kitOne K (.ref a) (.type "ValueError") = some true := by
  unfold PySem.W.kitOne
  rw [if_neg (by simp)]
  show (if PySem.W.kitMeta "ValueError" = true then PySem.W.subIn K (.ref a) (.type "ValueError") else none) = some true
  rw [if_pos (by decide +kernel), h]
end Mir

set_option Elab.async false
set_option linter.all false
namespace Mir
open PySem PySem.Spec PyProof.Rows L2 Evl WS
theorem pe_ftK {X : Cx} {K : PySem.W.Frag} {e : Expr} {te : TE} {pos : Pos} {n : Str} (hK : X.K = K) (he : PE X e te) (hb : attributeBase e n X.env (eval e X.env) = eval e X.env := by rfl) : PE X (.Attribute e n pos) (tFT K n te) := by
  subst hK
  exact pe_ft he hb
theorem pe_bmK {X : Cx} {K : PySem.W.Frag} {o e : Expr} {es : List Expr} {to : TE} {t : TA} {name : Str} {apos cpos : Pos} {T id : String} {r : V → List V → Hp → VK → Prop} (hK : X.K = K)
    (pa : PlainAttrs T) (slot : Slot T name id) (hty : typeOf (.builtin id) = pure (.type "method_descriptor")) (hm : MtR X id r) (ho : PE X o to) (ha : PA X (e :: es) t)
    (hbase : attributeBase o name X.env (eval o X.env) = eval o X.env := by rfl)
    (hfew : ((backTo cpos (starEach (e :: es) X.env)).all (fun x => !x.1) && (backToKw cpos (keywordEach [] X.env)).all (fun x => x.1.isSome)
      && decide ((e :: es).length + ([] : List Keyword).length + (if ([] : List Keyword).isEmpty then 0 else 1) < 30)) = true := by rfl)
    (hline : (apos.endLine == cpos.line) = true := by rfl) (hs : starEach (e :: es) X.env = (false, eval e X.env) :: starEach es X.env := by rfl) (hplain : (backTo cpos (starEach es X.env)).any (·.1) = false := by rfl) :
    PE X (.Call (.Attribute o name apos) (e :: es) [] cpos) (tBM K T r to t) := by
  subst hK
  exact pe_bm pa slot hty hm ho ha hbase hfew hline hs hplain
end Mir

set_option Elab.async false
set_option linter.all false
namespace Mir
open PySem PySem.Spec PyProof.Rows L2 Evl WS
/-- d.get(k, x) of an own dict (or of data) -/
def dg2O (i : Nat) (mk mx : M) : M := fun e => match ownAt e i with
  | some (_, .dic _) => bnd (mk e) fun y e1 => bnd (mx e1) fun z e2 => match ownAt e2 i, keyO y with | some (_, .dic ks), some kk => some ((valD ks kk).getD z, e2) | _, _ => none
  | some _ => none
  | none => dg2M (varM i) mk mx e
section
variable {K : PySem.W.Frag} {cm : CM} {tk tx : TE} {mk mx : M}
theorem de_dg2O {i : Nat} (hk : DE K cm tk mk) (hx : DE K cm tx mx) : DE K cm (tDGet2 (tVar i) tk tx) (dg2O i mk mx) := fun s k d e' hm Q q => by
  unfold dg2O at hm
  split at hm
  · rename_i x0 ks0 hx0
    obtain ⟨hx0, ho0⟩ := ownAt_some hx0
    obtain ⟨y, e1, h1, hm⟩ := bnd_some hm
    obtain ⟨z, e2, h2, hm⟩ := bnd_some hm
    split at hm
    · rename_i x3 ks kk hx3 hkk
      obtain ⟨hx3, ho3⟩ := ownAt_some hx3
      cases hm
      obtain ⟨a, a1, a2, kvs0, a3, a4, a5⟩ := k.own i _ _ hx0 ho0
      refine ⟨.ref a, a1, a, rfl, .inl ⟨kvs0, .inl a3⟩, hk s k y e1 h1 _ fun w B2 H2 s2 k2 r2 => hx ⟨B2, H2, s.σ, e1⟩ k2 z _ h2 _ fun u B3 H3 s3 k3 r3 => ?_⟩
      obtain ⟨b, b1, b2, kvs, b3, b4, b5⟩ := k3.own i _ _ hx3 ho3
      have b1 : s.σ[i]? = _ := b1
      rw [a1] at b1
      cases b1
      refine ⟨valV kvs kk, ?_, ?_⟩
      · rw [key_v r2 hkk]
        exact DGet.k b3
      · cases hv : valD ks kk with
        | none =>
          rw [val_none b4 hv]
          rw [hv] at q
          exact q u B3 H3 (s2.trans s3) k3 r3
        | some d2 =>
          obtain ⟨u2, hu, ru⟩ := val_get b4 b5 hv
          rw [hu]
          rw [hv] at q
          exact q u2 B3 H3 (s2.trans s3) k3 ru
    · cases hm
  · cases hm
  · exact de_dg2 de_var hk hx s k d e' hm Q q
end
end Mir

set_option Elab.async false
set_option linter.all false
namespace Mir
open PySem PySem.Spec PyProof.Rows L2 Evl WS
/-! a range kept as a value, and gone over -/
def rRng2 : List V → Hp → VK → Prop := fun vs H Q => ∃ i j, vs = [V.int i, V.int j] ∧ ∀ p, H p = none → Q (.ref p) (upd H p (.rng i j))
theorem cr_rng2 {X : Cx} : CallR X (.type "range") rRng2 := cr_range2
def rngVD : D → D → Option D
  | .int i, .int j => some (.rng i j)
  | _, _ => none
def rngVI (m : M) : ML := fun e => bnd (m e) fun d e1 => match d with
  | .rng lo hi => if -(2 ^ 62) ≤ lo ∧ lo < 2 ^ 62 ∧ -(2 ^ 62) ≤ hi ∧ hi < 2 ^ 62 then some (rngD lo (hi - lo).toNat, e1) else none
  | _ => none
section
variable {K : PySem.W.Frag} {cm : CM} {te : TE} {m : M}
theorem rcd_rngV : RCD K cm rRng2 (two rngVD) := fun B H xs ds d e r h Q q => by
  obtain ⟨x, y, rfl, hh⟩ := two_some h
  replace h := hh
  clear hh
  obtain ⟨v, w, rfl, rv, rw'⟩ := reps2 r
  unfold rngVD at h
  split at h
  · rename_i i j
    cases rv
    cases rw'
    cases h
    refine ⟨i, j, rfl, fun p hn => ?_⟩
    have g := Gro.new (o := .rng i j) e hn
    exact q _ _ _ g (.rng upd_same)
  · cases h
theorem dit_rngV (h : DE K cm te m) : DIt K cm (iRngV te) (rngVI m) := fun s k xs e' hm R q => by
  obtain ⟨d, e1, h1, hm⟩ := bnd_some hm
  split at hm
  · rename_i lo hi
    split at hm
    · rename_i hj
      cases hm
      refine h s k _ _ h1 _ fun v B1 H1 s1 k1 r1 => ?_
      cases r1 with
      | @rng a _ _ ha => exact ⟨a, lo, hi, rfl, k1.bh _ _ ha, hj, q _ B1 H1 s1 k1 walks_rng⟩
    · cases hm
  · cases hm
end
end Mir

set_option Elab.async false
set_option linter.all false
set_option maxRecDepth 100000
set_option maxHeartbeats 4000000
namespace Mir
open PySem PySem.Spec PyProof.Rows L2 Evl WS
/-! ### several names at once, cells among them: the pair is laid and read again -/
section
variable {K : PySem.W.Frag} {cm : CM} {tr : TA}
theorem arr_new {t : MSt} {q : Addr} {u : HO} (k : Okm K cm t) (hq : t.H q = none) : ∀ {vs : List V} {xs : List SD}, Arr K cm t vs xs → Arr K cm ⟨upd t.B q u, upd t.H q u, t.σ, t.e⟩ vs xs
  | _, _, .nil => .nil
  | _, _, .fro r1 r2 => .fro (r1.mono (Ex.new (fresh_back k.bh hq))) (arr_new k hq r2)
  | _, _, .own (p := p) q1 q2 q3 q4 r2 => by
    obtain ⟨w, hw⟩ := q2.there
    have ne : p ≠ q := fun c => by rw [c, hq] at hw; cases hw
    exact .own (by show upd t.B q u p = none; rw [upd_ne ne]; exact q1) (q2.mono (Ex.new (fresh_back k.bh hq)) fun x hx => by show upd t.H q u p = some x; rw [upd_ne ne]; exact hx) q3 q4 (arr_new k hq r2)
theorem ds_parT {i j : Nat} {mx : SDs → Option (List SD × SDs)} (h : DAS K cm tr mx) : DS K cm (tAsg (tTup tr) (gTup K 2 (gCons (gName i) (gCons (gName j) gNil)))) (parM [i, j] mx) := fun s k o hm E q => by
  obtain ⟨xs, e1, h1, hm⟩ := bnd_some hm
  cases h3 : setL [i, j] xs e1 with
  | none => rw [h3] at hm; cases hm
  | some e2 =>
    rw [h3] at hm
    cases hm
    refine h s k xs e1 h1 _ fun vs B' H' st k' ar n => ?_
    have lv : vs.length = 2 := (setL_ok (t := ⟨B', H', s.σ, e1⟩) k' st ar n h3).1
    refine ⟨by rw [lv]; decide, fun p hp => ?_⟩
    have gr := Gro.new (o := .tup vs) k'.bh hp
    have k2 := gr.ok (s := ⟨B', H', s.σ, e1⟩) k'
    have s2 := st.trans (gr.step (s := ⟨B', H', s.σ, e1⟩))
    obtain ⟨l, k3, s3⟩ := setL_ok (t := ⟨upd B' p (.tup vs), upd H' p (.tup vs), s.σ, e1⟩) k2 s2 (arr_new (t := ⟨B', H', s.σ, e1⟩) k' hp ar) n h3
    match vs, l with
    | [v, w], _ => exact ⟨p, [v, w], rfl, SqT.of upd_same, rfl, v, [w], rfl, w, [], rfl, rfl, q _ _ _ s3 k3⟩
end
end Mir
namespace Mir
open PySem PySem.Spec PyProof.Rows L2 Evl WS
/-! ### a maker that raises -/
def tMakeSD (C : Addr) (sp : Sp) (dvs : List V) (E : L2.St → XK) (t : TA) : TE := fun σ H Q => t σ H fun vs H1 => ∀ x dx, H1 x = none → H1 dx = none → dx ≠ x →
  sp (.ref x :: (vs ++ dvs)) (upd (upd H1 dx (.own x)) x (.ins C dx [])) (fun v H2 => v = .non ∧ Q (.ref x) H2) (E σ)
section
variable {X : Cx} {CX : CXT} {k : Nat} {f C : Addr} {fd : FuncData} {ps : List Str} {sp : Sp} {dvs : List V} {ds : List Value} {E : L2.St → XK} {x : Str} {p pos : Pos} {e : Expr} {es : List Expr} {t : TA}
theorem run_makeSD {pins : List (Addr × Obj)} {σ : L2.St} {H : Hp} {s : Shared} {Q : VK} {us : List Value} {vs : List V} (M : Mk X.K C f) (F : FnOk X.prog X.w X.K X.mg X.base CX k f fd ps sp) (hr : Room (k + 1) X.A) (hb : Binds X.K fd ps ds) (hd : Vals dvs ds)
    (hx : PassesAt CX X σ (E σ)) (I : Inv X pins σ H s) (r : Vals vs us)
    (h : ∀ x dx, H x = none → H dx = none → dx ≠ x → sp (.ref x :: (vs ++ dvs)) (upd (upd H dx (.own x)) x (.ins C dx [])) (fun v H2 => v = .non ∧ Q (.ref x) H2) (E σ)) :
    wpAny (model X.prog X.w) X.A (call (.ref C) us) (EP X pins σ Q) X.xe s := by
  have hq := h (s.heap.objs.size + 1) s.heap.objs.size (I.hok.fresh (Nat.le_succ _)) (I.hok.fresh (Nat.le_refl _)) (Nat.ne_of_lt (Nat.lt_succ_self _))
  have I2 := Inv.made (C := C) I
  have r2 : Vals (V.ref (s.heap.objs.size + 1) :: (vs ++ dvs)) (Value.ref (s.heap.objs.size + 1) :: (us ++ ds)) := .cons rfl (r.append hd)
  have hl : (Value.ref (s.heap.objs.size + 1) :: us ++ ds).length = ps.length := by
    have e := r2.length
    rw [F.len _ _ _ _ hq] at e
    exact e.symm
  refine wpAny_call (make_map (f := f) I.kIn M.makes M.init (beq_iff_eq.mp M.fn) (codeAny_mono (F.run _ X.stack _ _ ⟨Value.ref (s.heap.objs.size + 1) :: us, []⟩ (Value.ref (s.heap.objs.size + 1) :: (us ++ ds)) _ _ (E σ) (hr.make C us [])
    (I2.env0.make C us []) (hb _ (Value.ref (s.heap.objs.size + 1) :: us) I2.kIn hl) r2 hq) fun r s' hq' => ?_))
  cases r with
  | error e => exact hx pins _ _ e s' I2 hq'
  | ok fl =>
    cases fl with
    | ret u =>
      obtain ⟨v, H', I3, rv, ev, q3⟩ := I2.after hq'
      subst ev
      exact ⟨rv, ⟨V.ref (s.heap.objs.size + 1), H', I3, rfl, q3⟩⟩
    | next => exact False.elim hq'
    | brk => exact False.elim hq'
    | cont => exact False.elim hq'
theorem pe_makeSD (M : Mk X.K C f) (F : FnOk X.prog X.w X.K X.mg X.base CX k f fd ps sp) (hr : Room (k + 1) X.A) (hg : Gl X x) (hm : X.mg x = some (.ref C)) (hb : Binds X.K fd ps ds) (hd : Vals dvs ds) (hx : ∀ σ, PassesAt CX X σ (E σ))
    (ha : PA X (e :: es) t) (hdb : (x == ("__debug__" : Str)) = false := by decide) (he : starEach (e :: es) X.env = (false, eval e X.env) :: starEach es X.env := by rfl) (hpl : (backTo pos (starEach es X.env)).any (·.1) = false := by rfl) :
    PE X (.Call (.Name x p) (e :: es) [] pos) (tMakeSD C sp dvs E t) := by
  refine ⟨fun pins s σ H Q I h => ?_⟩
  refine wpAny_Call_Name_kw (ld_glob I hg hm ?_ hdb)
  refine PySem.W.callWith_K (h₀ := X.base) I.ok.mod.kin M.kp (thn (ha.run pos pins s σ H _ I h) fun us s1 ⟨vs, H1, I1, r, q⟩ => ⟨I1.kIn, ?_⟩) he hpl
  exact run_makeSD M F hr hb hd (hx σ) I1 r q
end
structure GroX (x : Addr) (B H B' H' : Hp) : Prop where
  ex : ∀ a o, a ≠ x → H a = some o → H' a = some o
  bb : Ex B B'
  bh : Ex B' H'
  fr : ∀ a o, B' a = some o → B a = none → H a = none ∨ a = x
def spXI (K : PySem.W.Frag) (cm : CM) (n : Nat) (F : MF) (X : XF) : Sp := fun vs H Q E => spD K cm n F vs H Q E ∨
  ∃ B es c d x, vs.length = n ∧ Okm K cm ⟨B, H, vs.map some, es⟩ ∧ (∀ a, OwnA ⟨B, H, vs.map some, es⟩ a → a = x) ∧ X es = some (c, d) ∧ ∀ cls dd B' H', GroX x B H B' H' → ErrR K cm B' cls dd c d → E cls dd H'
def makeX (c : Nat) (X : XF) (ma : ML) : MX := fun e => bnd (ma e) fun ds e1 => match X (.bor (.ins c []) :: ds.map SD.fro) with | some (c2, d) => some (c2, d, e1) | none => none
section
variable {K : PySem.W.Frag} {cm : CM} {tr : TA} {W : WX} {mr : ML}
theorem spXI_len {n : Nat} {F : MF} {X : XF} {vs : List V} {H : Hp} {Q : VK} {E : XK} (h : spXI K cm n F X vs H Q E) : vs.length = n := by
  rcases h with ⟨_, _, _, _, h, _⟩ | ⟨_, _, _, _, _, h, _⟩ <;> exact h
theorem start_ok {Ns : List Str} {n : Nat} {B H : Hp} {vs : List V} {es : SDs} (k : Okm K cm ⟨B, H, vs.map some, es⟩) (hn : vs.length = n) : Okm K cm ⟨B, H, start Ns vs, es ++ List.replicate (Ns.length - n) .nn⟩ ∧
    ∀ a, OwnA ⟨B, H, start Ns vs, es ++ List.replicate (Ns.length - n) .nn⟩ a → OwnA ⟨B, H, vs.map some, es⟩ a := by
  have hl : (vs.map some).length = es.length := k.len.symm
  have gl : ∀ {i : Nat} {x : SD}, (es ++ List.replicate (Ns.length - n) SD.nn)[i]? = some x → x ≠ .nn → i < es.length ∧ es[i]? = some x := fun {i x} h1 h2 => by
    by_cases c : i < es.length
    · rw [List.getElem?_append_left c] at h1
      exact ⟨c, h1⟩
    · rw [List.getElem?_append_right (by omega), List.getElem?_replicate] at h1
      split at h1
      · cases h1; exact absurd rfl h2
      · cases h1
  have gs : ∀ {i : Nat}, i < es.length → (start Ns vs)[i]? = (vs.map some)[i]? := fun {i} hi => by
    unfold L2.start
    exact List.getElem?_append_left (by rw [hl]; exact hi)
  have at0 : ∀ {i : Nat} {o : OD} {a : Addr}, AtM ⟨B, H, start Ns vs, es ++ List.replicate (Ns.length - n) .nn⟩ i o a → AtM ⟨B, H, vs.map some, es⟩ i o a := fun {i o a} ⟨⟨x, h1, h2⟩, h3⟩ => by
    obtain ⟨hi, h1⟩ := gl h1 (fun c => by subst c; cases h2)
    exact ⟨⟨x, h1, h2⟩, (gs hi) ▸ h3⟩
  refine ⟨⟨?_, k.bh, fun i d hi => ?_, fun i x o hi hx => ?_, fun i j o p a h1 h2 => k.dis i j o p a (at0 h1) (at0 h2)⟩, fun a ⟨i, o, h1⟩ => ⟨i, o, at0 h1⟩⟩
  · show (es ++ List.replicate (Ns.length - n) SD.nn).length = (start Ns vs).length
    unfold L2.start
    rw [List.length_append, List.length_append, hl, List.length_replicate, List.length_replicate]
    rw [show n = vs.length from hn.symm]
  · obtain ⟨hi', h1⟩ := gl hi (fun c => nomatch c)
    obtain ⟨v, v1, v2⟩ := k.fro i d h1
    exact ⟨v, by rw [show (start Ns vs)[i]? = _ from gs hi']; exact v1, v2⟩
  · obtain ⟨hi', h1⟩ := gl hi (fun c => by subst c; cases hx)
    obtain ⟨a, v1, v2⟩ := k.own i x o h1 hx
    exact ⟨a, by rw [show (start Ns vs)[i]? = _ from gs hi']; exact v1, v2⟩
theorem def_runXI {Ns : List Str} {n : Nat} {ts : TS} {ms : MS} {x : MX} {vs : List V} {H : Hp} {Q : VK} {E : XK} (h : DS K cm ts ms) (hx : XS1 K cm (fun cls d _ H => E cls d H) ts x) (w : spXI K cm n (defF n Ns.length ms) (defX n Ns.length x) vs H Q E) :
    ts { nx := fun _ H' => Q .non H', rt := Q } (start Ns vs) H := by
  rcases w with w | ⟨B, es, c, d, z, hn, k, hz, hX, q⟩
  · exact def_run h w
  · unfold defX at hX
    split at hX
    · split at hX
      · rename_i c2 d2 e2 hx2
        cases hX
        obtain ⟨k0, o0⟩ := start_ok (Ns := Ns) k hn
        refine hx ⟨B, H, start Ns vs, _⟩ k0 _ _ _ hx2 _ fun cls dd σ' B' H' st k' er => q cls dd B' H' ⟨fun a o na ha => st.ex a o ha fun c => na (hz a (o0 a c)), st.bb, k'.bh, fun a o h1 h2 => (st.fr a o h1 h2).imp_right fun c => hz a (o0 a c)⟩ er
      · cases hX
    · cases hX
theorem de_makeN {c n : Nat} {F : MF} {X : XF} {E : L2.St → XK} (h : DA K cm tr mr) (hl : ∀ e ds e', mr e = some (ds, e') → ds.length + 1 = n) : DE K cm (tMakeSD (cm c) (spXI K cm n F X) [] E tr) (makeM c F mr) := fun s k o e' hm Q q => de_makeG (sp := spXI K cm n F X) (E := E s.σ) (fun _ _ _ _ h => .inl h) h hl s k o e' hm Q q
theorem xe_make {c n : Nat} {F : MF} {X : XF} (h : DA K cm tr mr) (hl : ∀ e ds e', mr e = some (ds, e') → ds.length + 1 = n) : XE1 K cm W (tMakeSD (cm c) (spXI K cm n F X) [] (WE W) tr) (makeX c X mr) := fun s k c2 d e' hm Q q => by
  obtain ⟨ds, e1, h1, hm⟩ := bnd_some hm
  split at hm
  · rename_i c3 d3 hX
    cases hm
    refine h s k ds e' h1 _ fun vs B1 H1 s1 k1 r1 x dx hx hdx hne => ?_
    rw [List.append_nil]
    have hxd : upd (upd H1 dx (.own x)) x (.ins (cm c) dx []) x = some (.ins (cm c) dx []) := upd_same
    have nB : B1 x = none := fresh_back k1.bh hx
    have e12 : Ex H1 (upd (upd H1 dx (.own x)) x (.ins (cm c) dx [])) := (Ex.new hdx).trans (Ex.new (by rw [upd_ne (Ne.symm hne)]; exact hx))
    have only : ∀ {i : Nat} {p : OD} {a : Addr}, AtM ⟨B1, upd (upd H1 dx (.own x)) x (.ins (cm c) dx []), (V.ref x :: vs).map some, .bor (.ins c []) :: ds.map SD.fro⟩ i p a → i = 0 ∧ a = x := fun {i p a} ⟨⟨y, h1, h2⟩, h3⟩ => by
      cases i with
      | zero => cases h3; exact ⟨rfl, rfl⟩
      | succ i =>
        have h1 : (ds.map SD.fro)[i]? = some y := by simpa using h1
        obtain ⟨_, _, rfl, _⟩ := frs_get r1 h1
        cases h2
    refine .inr ⟨B1, .bor (.ins c []) :: ds.map SD.fro, c2, d, x, ?_, ⟨?_, k1.bh.trans e12, fun i d2 hi => ?_, fun i y p hi hy => ?_, fun i j p p2 a h1 h2 => (only h1).1.trans (only h2).1.symm⟩, fun a ⟨i, p, h⟩ => (only h).2, hX, fun cls dd B2 H2 g er => ?_⟩
    · rw [List.length_cons, r1.len]
      exact hl _ _ _ h1
    · show (SD.bor (.ins c []) :: ds.map SD.fro).length = ((V.ref x :: vs).map some).length
      rw [List.length_cons, List.length_map, List.length_map, List.length_cons, r1.len]
    · cases i with
      | zero => cases hi
      | succ i =>
        have hi : (ds.map SD.fro)[i]? = some (.fro d2) := by simpa using hi
        obtain ⟨v, d3, e, v1, v2⟩ := frs_get r1 hi
        cases e
        refine ⟨v, ?_, v2⟩
        show ((V.ref x :: vs).map some)[i + 1]? = _
        rw [List.map_cons, List.getElem?_cons_succ, List.getElem?_map, v1]
        rfl
    · cases i with
      | zero =>
        cases hi
        cases hy
        exact ⟨x, rfl, nB, dx, [], hxd, rfl, .nil⟩
      | succ i =>
        have hi : (ds.map SD.fro)[i]? = some y := by simpa using hi
        obtain ⟨_, _, rfl, _⟩ := frs_get r1 hi
        cases hy
    · have gr : Gro B1 H1 B2 H2 := ⟨fun a w ha => g.ex a w (fun c => by rw [c, hx] at ha; cases ha) (e12 a w ha), g.bb, g.bh, fun a w ha hb => by
        rcases g.fr a w ha hb with z | z
        · exact fresh_back e12 z
        · rw [z]; exact hx⟩
      exact q cls dd B2 H2 (s1.trans (gr.step (s := ⟨B1, H1, s.σ, e'⟩))) (gr.ok (s := ⟨B1, H1, s.σ, e'⟩) k1) er
  · cases hm
end
theorem pi_listK {X : Cx} {K : PySem.W.Frag} {tg l : Expr} {tl : TE} (hK : X.K = K) (hl : PE X l tl) : PI X tg l (iList K tl) := hK ▸ pi_list hl
end Mir

set_option Elab.async false
set_option linter.all false
set_option maxRecDepth 100000
set_option maxHeartbeats 4000000
namespace PySem.SeqAt
open AutoSeq1 (wpAny_loadPart')
open MeetsSeq MeetsSeq2 MeetsSeq3
/-! ### a dict and a list are unlike -/
theorem list_ne_declines_dictW (l b : Addr) (items : Array Value) (n : Nat) (dd : Option Addr) (sl : Array (Option Value)) :
    Meets (Builtin.«list.__ne__» ⟨[.ref l, .ref b], []⟩) (fun _ R s => s.heap.get? l = some { cls := .type "list", dict := dd, data := .seq items n, slots := sl } ∧ s.TypeIs (.ref b) "dict" ∧ R (.ok (.ret .notImplemented)) s) :=
  .of_wp fun prog w A R s h => by obtain ⟨hp, g, d, tk, os⟩ := s; obtain ⟨hl, ⟨⟨c2, dd2, data2, sl2⟩, hb, hc⟩, h⟩ := h; simp only at hc; subst hc; have f1 := F.sub_dict_list; wp_walk using wpAny_loadPart' hl, wpAny_load hb; exact ⟨_, rfl, h⟩
section
variable {prog : Program} {w : World} {A : Around} {s : Shared}
theorem neDictList {l b : Addr} {items2 : Array Value} {E : Value → Shared → Prop} {Q : Value → Shared → Prop} (hl : s.TypeIs (.ref l) "dict") (hb : s.heap.IsList b items2) (hu : A.units < cLine) (h : Q (.bool true) s) : wpAny (model prog w) A (richCompare .NotEq (.ref l) (.ref b)) Q E s := by
  obtain ⟨⟨cls, dd, data, sl⟩, ho, hc⟩ := id hl
  obtain ⟨⟨cls2, dd2, data2, sl2⟩, ho2, hc2, n2, hd2⟩ := id hb
  simp only at hc hc2 hd2
  subst hc hc2 hd2
  have hne : l ≠ b := fun e => by
    subst e
    rw [ho] at ho2
    exact absurd (congrArg (fun o => o.map Obj.cls) ho2) (by simp)
  refine (rc_ne_decline_or (k := false) hl ⟨_, ho2, rfl⟩ (by decide) F.sub_list_dict F.slot_dict_ne F.slot_list_ne_refl
    (fun _ hq => wpAny_call_entry F.slot_dict_ne hl F.entry_dict_ne ?_ (F.args_dict_ne_2 _ _))
    (fun _ hq => call_meets F.slot_list_ne_refl ⟨_, ho2, rfl⟩ F.entry_list_ne (F.args_list_ne_2 _ _) (list_ne_declines_dictW b l items2 n2 dd2 sl2) ⟨ho2, hl, hq⟩)
    (fun _ hq => wpAny_isSame_ref_other' hne ho ho2 (by simp) hq) (.inr hu) h)
  show wpAny _ _ (Builtin.Dict.dictSlotArgs "__ne__" ⟨[.ref l, .ref b], []⟩ >>= _) _ _ s
  refine wpAny_bind ?_
  unfold Builtin.Dict.dictSlotArgs
  refine wpAny_bind (wpAny_notOrdered_dict hl ?_)
  show wpAny _ _ (pure (Value.ref l, Value.ref b)) _ _ s
  refine wpAny_pure ?_
  refine wpAny_bind (wpAny_isInstance (T := "list") ⟨_, ho2, rfl⟩ PySem.F.sub_list_dict ?_)
  simp only [Bool.not_false, if_true]
  exact wpAny_bind (wpAny_rule (wpAny_pure ⟨_, rfl, hq⟩))
end
end PySem.SeqAt
namespace Mir
open PySem PySem.Spec PyProof.Rows L2 Evl WS
section
variable {X : Cx} {k : Nat} {f : Addr} {fd : FuncData} {ps : List Str} {sp : Sp} {x : Str} {p pos : Pos}
def rNeDL : R2 := fun x y H Q => ∃ a b kvs xs, x = .ref a ∧ y = .ref b ∧ H a = some (.dK kvs) ∧ H b = some (.lst xs) ∧ Q (.bl true) H
theorem op_neDL (hu : X.A.units + 64 < cLine) : OpR X (compareOp .NotEq) rNeDL := by
  intro pins s σ H x y v u Q I rx ry h
  obtain ⟨a, b, kvs, xs, rfl, rfl, ea, eb, q⟩ := h
  obtain rfl : v = Value.ref a := rx
  obtain rfl : u = Value.ref b := ry
  obtain ⟨_, ya, va, ra, da⟩ := (show ObjOk X.prog X.w H s.heap a (.dK kvs) from I.hok a _ ea)
  obtain ⟨its, rv, ⟨o, n, ho, hc, _, hd⟩, _⟩ := I.list (SqL.of eb)
  exact SeqAt.neDictList da.typeIs ⟨o, ho, hc, n, hd⟩ (by omega) ⟨.bl true, H, I, rfl, q⟩
theorem pe_callQ0 (F : FnQ X.prog X.w X.K X.mg X.base k f fd ps sp) (quiet : Quiet X.A) (room : Room k X.A) (own : Gl X x) (at_ : X.mg x = some (.ref f)) (keep : PySem.W.keepIn X.K (.ref f) = true) (b : Binds X.K fd ps [])
    (plain : (x == ("__debug__" : Str)) = false := by decide) : PE X (.Call (.Name x p) [] [] pos) (tCall sp [] E0 tNil) := ⟨fun pins z σ G Q I q => by
  refine wpAny_Call_Name_kw (ld_glob I own at_ (PySem.W.callWith_K0 I.kIn keep ?_) plain)
  have q' : sp [] G Q E0 := q
  have big : ([] : List Value).length = ps.length := F.many _ _ _ _ q'
  have bb : BindsTo z fd ⟨[], []⟩ (ps.zip []) := by
    have := b z [] I.kIn (by simpa using big)
    simpa using this
  refine wpAny_call (codeAny_mono (F.go X.A X.stack z G ⟨[], []⟩ [] [] Q E0 quiet room I.env0 bb .nil q') fun r z' hq => ?_)
  match r, hq with
  | .ok (.ret u), hq => exact I.after hq⟩
end
section
variable {K : PySem.W.Frag} {cm : CM}
def neDL (x y : D) : Option D := match x, y with
  | .dic _, .lst _ => some (.bl true)
  | x, y => eqD true x y
theorem rd_neDL : RD K cm (orR rNeDL (orR rNe (rNeD K))) neDL := fun B H x y dx dy d e rx ry h Q q => by
  unfold neDL at h
  split at h
  · cases h
    cases rx with
    | dic h1 h2 h3 =>
      cases ry with
      | lst h4 h5 => exact .inl ⟨_, _, _, _, rfl, rfl, e _ _ h1, e _ _ h4, q _ B H (Gro.refl e) (.bl _)⟩
  · exact .inr (rd_ne B H x y _ _ d e rx ry h Q q)
end
end Mir

set_option Elab.async false
set_option linter.all false
set_option maxRecDepth 100000
set_option maxHeartbeats 4000000
namespace Mir
open PySem PySem.Spec PyProof.Rows L2 Evl WS
/-! ### xs[i] += e for a list of one's own -/
section
variable {X : Cx}
theorem get_L : PGet X (rIxL X.K) := by
  intro pins s σ H x y v u Q I rx ry h
  obtain ⟨p, xs, i, z, rfl, rfl, hq, he, q⟩ := h
  cases rx
  obtain ⟨t, rfl⟩ := ry
  obtain ⟨its, r, pl, hz⟩ := I.list hq
  obtain ⟨j, h1, h2, h3, h4, h5⟩ := atI_get he
  obtain ⟨w, ew, rw'⟩ := r.get h2
  have hl := r.length
  have hn := line63
  have fin : EP X pins σ Q w s := ⟨z, H, I, rw', q⟩
  by_cases h0 : 0 ≤ i
  · have hj : i.toNat = j := by
      rw [seqIndex_of h0 h5] at h1
      exact Option.some.inj h1
    exact wpAny_getItem_list pl.isList h0 (by omega) (by rw [hj]; simpa using ew) fin
  · have hj : (i + (its.toArray.size : Int)).toNat = j := by
      rw [seqIndex_neg (by omega) h4] at h1
      rw [List.size_toArray, ← hl]
      exact Option.some.inj h1
    exact wpAny_getItem_list_neg pl.isList (by omega) (by rw [List.size_toArray] <;> omega) (by omega) (by rw [hj]; simpa using ew) fin
end
section
variable {K : PySem.W.Frag} {cm : CM} {ti te : TE} {mi mv : M}
def augS (i : Nat) (f : D → D → Option D) (mi mv : M) : MS := fun e => match ownAt e i with
  | some (_, .lst _) => bnd (mi e) fun j e1 => match ownAt e1 i, j with
    | some (_, .lst xs), .int n => (match atI xs n with
      | some a => bnd (mv e1) fun d e2 => match ownAt e2 i, f a d with
        | some (x, .lst ys), some z => (match ixN ys.length n with | some p => some (.nx (e2.set i (upSD x (.lst (ys.set p z))))) | none => none)
        | _, _ => none
      | none => none)
    | _, _ => none
  | _ => none
theorem ds_augS {i : Nat} {r : R2} {f : D → D → Option D} (hr : RD K cm r f) (hi : DE K cm ti mi) (h : DE K cm te mv) : DS K cm (tAugS (tVar i) ti te (rIxL K) r rSetL) (augS i f mi mv) := fun s k o hm E q => by
  unfold augS at hm
  split at hm
  · rename_i x0 xs0 hx0
    obtain ⟨hx0, ho0⟩ := ownAt_some hx0
    obtain ⟨j, e1, h1, hm⟩ := bnd_some hm
    split at hm
    · rename_i x1 xs n hx1
      obtain ⟨hx1, ho1⟩ := ownAt_some hx1
      split at hm
      · rename_i a hat
        obtain ⟨d, e2, h2, hm⟩ := bnd_some hm
        split at hm
        · rename_i x2 ys z hx2 hz
          obtain ⟨hx2, ho2⟩ := ownAt_some hx2
          split at hm
          · rename_i p hp
            cases hm
            obtain ⟨b, b1, _⟩ := k.own i _ _ hx0 ho0
            refine ⟨.ref b, b1, hi s k _ e1 h1 _ fun v B1 H1 s1 k1 r1 => ?_⟩
            obtain ⟨c, c1, c2, ws, c3, c4⟩ := k1.own i _ _ hx1 ho1
            have c1 : s.σ[i]? = _ := c1
            rw [b1] at c1
            cases c1
            cases r1
            obtain ⟨w, hw, rw'⟩ := atI_reps c4 hat
            refine ⟨b, ws, n, w, rfl, rfl, SqL.of c3, hw, h ⟨B1, H1, s.σ, e1⟩ k1 _ e2 h2 _ fun y B2 H2 s2 k2 r2 => ?_⟩
            refine hr B2 H2 w y a d z k2.bh (rw'.mono s2.bb) r2 hz _ fun u B3 H3 g3 r3 => ?_
            have s3 := g3.step (s := ⟨B2, H2, s.σ, e2⟩)
            have k3 := g3.ok (s := ⟨B2, H2, s.σ, e2⟩) k2
            obtain ⟨c, c1, c2, ws2, c5, c6⟩ := k3.own i _ _ hx2 ho2
            have c1 : s.σ[i]? = _ := c1
            rw [b1] at c1
            cases c1
            obtain ⟨k4, s4⟩ := own_put (s := ⟨B3, H3, s.σ, e2⟩) (w := .lst (ws2.set p u)) k3 hx2 ho2 b1 (o' := .lst (ys.set p z)) ⟨_, upd_same, Reps.set r3 p c6⟩
            exact ⟨b, ws2, n, p, rfl, rfl, c5, by rw [c6.len]; exact hp, q s.σ B3 (upd H3 b (.lst (ws2.set p u))) ((((s1.trans s2).trans s3)).trans s4) k4⟩
          · cases hm
        · cases hm
      · cases hm
    · cases hm
  · cases hm
/-! ### for i in reversed(range(a, b)) -/
def revR2I (ma mb : M) : ML := fun e => bnd (ma e) fun d e1 => bnd (mb e1) fun d2 e2 => match d, d2 with
  | .int i, .int j => if -(2 ^ 62) ≤ i ∧ i < 2 ^ 62 ∧ -(2 ^ 62) ≤ j ∧ j < 2 ^ 62 then some (rng3D (i + ((((j - i).toNat : Nat) : Int)) - 1) (-1) (j - i).toNat, e2) else none
  | _, _ => none
theorem dit_revR2 {ta tb : TE} {ma mb : M} (h : DE K cm ta ma) (h' : DE K cm tb mb) : DIt K cm (iRevR (tRg2 ta tb)) (revR2I ma mb) := fun s k xs e' hm R q => by
  obtain ⟨d, e1, h1, hm⟩ := bnd_some hm
  obtain ⟨d2, e2, h2, hm⟩ := bnd_some hm
  refine h s k d e1 h1 _ fun v B1 H1 s1 k1 r1 => h' ⟨B1, H1, s.σ, e1⟩ k1 d2 e2 h2 _ fun v2 B2 H2 s2 k2 r2 => ?_
  cases r1 with
  | int i =>
    cases r2 with
    | int j =>
      have hm : (if -(2 ^ 62) ≤ i ∧ i < 2 ^ 62 ∧ -(2 ^ 62) ≤ j ∧ j < 2 ^ 62 then some (rng3D (i + ((((j - i).toNat : Nat) : Int)) - 1) (-1) (j - i).toNat, e2) else none) = some (xs, e') := hm
      split at hm
      · rename_i hj
        cases hm
        exact ⟨i, j, rfl, rfl, hj.1, hj.2.1, hj.2.2.1, hj.2.2.2, q _ B2 H2 (s1.trans s2) k2 walks_rngC⟩
      · cases hm
    | _ => cases hm
  | _ => cases hm
/-! ### calls by keywords -/
def permL {α : Type} (σ : List Nat) (xs : List α) (d : α) : List α := σ.map fun j => xs.getD j d
def gK {α : Type} (n m : Nat) (σ : List Nat) (d : α) (xs ys : List α) : List α := if xs.length = n ∧ ys.length = m then permL σ (xs ++ ys) d else []
theorem vals_getD : ∀ {xs : List V} {us : List Value} (j : Nat), Vals xs us → RelV (xs.getD j .non) (us.getD j .none) := fun {xs us} j r => by
  rw [List.getD_eq_getElem?_getD, List.getD_eq_getElem?_getD]
  cases h : xs[j]? with
  | some x =>
    obtain ⟨u, h1, h2⟩ := r.get h
    rw [h1]
    exact h2
  | none =>
    have : us[j]? = none := by
      rw [List.getElem?_eq_none_iff] at h ⊢
      rw [← r.length]
      exact h
    rw [this]
    rfl
theorem vals_perm {xs : List V} {us : List Value} (r : Vals xs us) : ∀ σ : List Nat, Vals (permL σ xs .non) (permL σ us .none)
  | [] => .nil
  | j :: σ => .cons (vals_getD j r) (vals_perm r σ)
theorem Fun.kb {x qual : Str} {st : Stmt} {f : Addr} {fd : FuncData} {ps ks : List Str} {n : Nat} {σ : List Nat} (F : Fun K x qual st f fd) (hp : ps ≠ [])
    (h : ∀ (kV doc pm : Value) (an : Option Addr) (cdv ct : Value) (us ws : List Value), us.length = n → ws.length = ks.length → bindArgs (PySem.W.fnOf x qual (defArgs st) (defBody st) (defScope st) .none kV doc pm an cdv ct) ⟨us, ks.zip ws⟩ = pure (ps.zip (permL σ (us ++ ws) .none))) :
    KBinds K fd ps ks (gK n ks.length σ .none) (gK n ks.length σ .non) := by
  obtain ⟨oc, od, kV, doc, pm, an, cdv, ct, osl, rfl, lk, hcd⟩ := F.ex
  refine ⟨fun s us ws _ hl => ?_, fun {vs us zs ws} r1 r2 => ?_⟩
  · unfold gK at hl ⊢
    split at hl
    · rename_i hc
      rw [if_pos hc]
      exact .of_eq (h kV doc pm an cdv ct us ws hc.1 hc.2)
    · exact absurd (List.eq_nil_of_length_eq_zero hl.symm) hp
  · unfold gK
    rw [← r1.length, ← r2.length]
    split
    · exact vals_perm (r1.append r2) σ
    · exact .nil
theorem rep_getD {B : Hp} {vs : List V} {ds : List D} (j : Nat) (r : Reps K cm B vs ds) : Rep K cm B (vs.getD j .non) (ds.getD j .non) := by
  rw [List.getD_eq_getElem?_getD, List.getD_eq_getElem?_getD]
  cases h : ds[j]? with
  | some x =>
    obtain ⟨u, h1, h2⟩ := r.get h
    rw [h1]
    exact h2
  | none =>
    have : vs[j]? = none := by
      rw [List.getElem?_eq_none_iff] at h ⊢
      rw [r.len]
      exact h
    rw [this]
    exact .non
theorem reps_perm {B : Hp} {vs : List V} {ds : List D} (r : Reps K cm B vs ds) : ∀ σ : List Nat, Reps K cm B (permL σ vs .non) (permL σ ds .non)
  | [] => .nil
  | j :: σ => .cons (rep_getD j r) (reps_perm r σ)
theorem argR_inl {B : Hp} {σ : L2.St} : ∀ {vs : List V} {ds : List D}, Reps K cm B vs ds → ArgR K cm B σ vs (ds.map (Sum.inl : D → Mir.Arg))
  | _, _, .nil => .nil
  | _, _, .cons r1 r2 => .val r1 (argR_inl r2)
def callKM (F : MF) (σ : List Nat) (ma mk : ML) : M := fun e => bnd (ma e) fun ds e1 => bnd (mk e1) fun ks e2 => callE F ((permL σ (ds ++ ks) .non).map Sum.inl) e2
theorem de_callK {n a b : Nat} {F : MF} {E : XK} {sp : Sp} {σ : List Nat} {ta tk : TA} {ma mk : ML} (hsp : ∀ vs H Q E, spD K cm n F vs H Q E → sp vs H Q E) (h : DA K cm ta ma) (hk : DA K cm tk mk) (hs : σ.length = n)
    (ha : ∀ e ds e', ma e = some (ds, e') → ds.length = a) (hb : ∀ e ds e', mk e = some (ds, e') → ds.length = b) : DE K cm (tCallK sp (gK a b σ .non) E ta tk) (callKM F σ ma mk) := fun s k d e' hm Q q => by
  obtain ⟨ds, e1, h1, hm⟩ := bnd_some hm
  obtain ⟨ks, e2, h2, hm⟩ := bnd_some hm
  refine h s k ds e1 h1 _ fun vs B1 H1 s1 k1 r1 => hk ⟨B1, H1, s.σ, e1⟩ k1 ks e2 h2 _ fun zs B2 H2 s2 k2 r2 => hsp _ _ _ _ ?_
  have l1 : vs.length = a := by rw [r1.len]; exact ha _ _ _ h1
  have l2 : zs.length = b := by rw [r2.len]; exact hb _ _ _ h2
  unfold gK
  rw [if_pos ⟨l1, l2⟩]
  have rr := reps_perm ((r1.mono s2.bb).app r2) σ
  exact call_run (s := ⟨B2, H2, s.σ, e2⟩) k2 (argR_inl rr) (by unfold permL; rw [List.length_map]; exact hs) hm Q fun v B3 H3 s3 k3 r3 => q v B3 H3 ((s1.trans s2).trans s3) k3 r3
end
section
variable {X : Cx} {CX : CXT} {k : Nat} {f : Addr} {fd : FuncData} {ps ks : List Str} {sp : Sp} {E : XK} {x : Str} {p pos : Pos} {kws : List Keyword} {tk : TA} {g : List Value → List Value → List Value} {gV : List V → List V → List V}
theorem pe_callK0 (F : FnOk X.prog X.w X.K X.mg X.base CX k f fd ps sp) (hr : Room k X.A) (hg : Gl X x) (hm : X.mg x = some (.ref f)) (hk : PySem.W.keepIn X.K (.ref f) = true) (hb : KBinds X.K fd ps ks g gV) (hx : Passes CX X E)
    (hkw : PK X kws tk) (hall : (backToKw pos (keywordEach kws X.env)).all (·.1.isSome) = true := by rfl) (hks : (backToKw pos (keywordEach kws X.env)).filterMap (·.1) = ks := by rfl) (hdb : (x == ("__debug__" : Str)) = false := by decide)
    (hpl : ((backTo pos (starEach [] X.env)).any (·.1) || (backToKw pos (keywordEach kws X.env)).any (·.1.isNone)) = false := by rfl) :
    PE X (.Call (.Name x p) [] kws pos) (tCallK sp gV E tNil tk) := by
  refine ⟨fun pins s σ H Q I h => ?_⟩
  refine wpAny_Call_Name_kw (ld_glob I hg hm ?_ hdb)
  refine PySem.W.callWith_KW0 (h₀ := X.base) I.ok.mod.kin hk hall ?_ hpl
  refine thn (hkw.run pos pins s σ H _ I h) fun ws s2 ⟨zs, H2, I2, rz, q2⟩ => ⟨I2.kIn, ?_⟩
  rw [hks]
  exact run_fnk F hr hb hx I2 .nil rz q2
end
end Mir

set_option Elab.async false
set_option linter.all false
set_option maxRecDepth 100000
set_option maxHeartbeats 2000000
namespace Mir
open PySem PySem.Spec PyProof.Rows L2 Evl WS
/-! ### an own list read in a test that changes others -/
def okE1 (x y : SD) : Bool := match x with
  | .own _ => (match y with | .own (.lst ys) => ys.all scalar | _ => false)
  | .bor _ => (match y with | .bor (.lst ys) => ys.all scalar | _ => false)
  | _ => true
def mrg1 (x y : SD) : SD := match x with
  | .own _ => y
  | .bor _ => y
  | x => x
def mrgE (i : Nat) (e e1 : SDs) : SDs := (List.range e.length).map fun j => if j = i then e.getD j .nn else mrg1 (e.getD j .nn) (e1.getD j .nn)
def okE (i : Nat) (e e1 : SDs) : Bool := (List.range e.length).all fun j => decide (j = i) || okE1 (e.getD j .nn) (e1.getD j .nn)
def scE (i : Nat) (m : M) : M := fun e => match e[i]? with
  | some (.own o) => (match m (e.set i (.fro o.d)) with | some (d, e1) => if scalar d && okE i e e1 then some (d, mrgE i e e1) else none | none => none)
  | some (.fro _) => m e
  | _ => none
section
variable {K : PySem.W.Frag} {cm : CM} {s : MSt} {te : TE} {m : M}
theorem scalar_reps {B B' : Hp} : ∀ {vs : List V} {ds : List D}, ds.all scalar = true → Reps K cm B vs ds → Reps K cm B' vs ds
  | _, _, _, .nil => .nil
  | _, _, h, .cons r t => by
    rw [List.all_cons, Bool.and_eq_true] at h
    exact .cons (scalar_rep h.1 r) (scalar_reps h.2 t)
theorem mrg_get {i j : Nat} {e e1 : SDs} {x : SD} (h : (mrgE i e e1)[j]? = some x) : ∃ y, e[j]? = some y ∧ x = if j = i then y else mrg1 y (e1.getD j .nn) := by
  unfold mrgE at h
  rw [List.getElem?_map] at h
  by_cases c : j < e.length
  · rw [List.getElem?_range c] at h
    have hg : e[j]? = some (e.getD j .nn) := by rw [List.getD_eq_getElem?_getD, List.getElem?_eq_getElem c]; rfl
    refine ⟨_, hg, ?_⟩
    cases h
    rfl
  · rw [List.getElem?_eq_none (by rw [List.length_range]; omega)] at h
    cases h
theorem mrg_at {i j : Nat} {e e1 : SDs} {y : SD} (h : e[j]? = some y) : (mrgE i e e1)[j]? = some (if j = i then y else mrg1 y (e1.getD j .nn)) := by
  have c : j < e.length := (List.getElem?_eq_some_iff.mp h).1
  unfold mrgE
  rw [List.getElem?_map, List.getElem?_range c]
  have hg : e.getD j .nn = y := by rw [List.getD_eq_getElem?_getD, h]; rfl
  show some (if j = i then e.getD j .nn else mrg1 (e.getD j .nn) (e1.getD j .nn)) = _
  rw [hg]
theorem ok_at {i j : Nat} {e e1 : SDs} {y : SD} (k : okE i e e1 = true) (h : e[j]? = some y) (c : j ≠ i) : okE1 y (e1.getD j .nn) = true := by
  have h1 : j < e.length := (List.getElem?_eq_some_iff.mp h).1
  have := List.all_eq_true.mp k j (List.mem_range.mpr h1)
  rw [Bool.or_eq_true, decide_eq_true_eq] at this
  rcases this with q | q
  · exact absurd q c
  · rw [List.getD_eq_getElem?_getD, h] at q
    exact q
/-- what is owned behind the merge was owned ahead -/
theorem mrg_ow {i j : Nat} {e e1 : SDs} {x : SD} {o : OD} (k : okE i e e1 = true) (h : (mrgE i e e1)[j]? = some x) (ho : x.ow = some o) : ∃ y p, e[j]? = some y ∧ y.ow = some p ∧ (j = i ∧ x = y ∨ j ≠ i ∧ e1[j]? = some x ∧ ∃ ys, o = .lst ys ∧ ys.all scalar = true) := by
  obtain ⟨y, hy, hx⟩ := mrg_get h
  by_cases c : j = i
  · rw [if_pos c] at hx
    subst hx
    exact ⟨x, o, hy, ho, .inl ⟨c, rfl⟩⟩
  · rw [if_neg c] at hx
    have q := ok_at k hy c
    have get : ∀ z : SD, e1.getD j .nn = z → z ≠ .nn → e1[j]? = some z := fun z h1 h2 => by
      rw [List.getD_eq_getElem?_getD] at h1
      cases hq : e1[j]? with
      | none => rw [hq] at h1; exact absurd h1.symm h2
      | some w => rw [hq] at h1; exact congrArg some h1
    cases y with
    | nn => subst hx; cases ho
    | fro d => subst hx; cases ho
    | own p =>
      have hx : x = e1.getD j .nn := hx
      rw [← hx] at q
      cases x with
      | own o2 =>
        cases o2 with
        | lst ys => cases ho; exact ⟨_, _, hy, rfl, .inr ⟨c, get _ hx.symm (by intro z; cases z), ys, rfl, q⟩⟩
        | _ => cases q
      | _ => cases q
    | bor p =>
      have hx : x = e1.getD j .nn := hx
      rw [← hx] at q
      cases x with
      | bor o2 =>
        cases o2 with
        | lst ys => cases ho; exact ⟨_, _, hy, rfl, .inr ⟨c, get _ hx.symm (by intro z; cases z), ys, rfl, q⟩⟩
        | _ => cases q
      | _ => cases q
theorem de_scE {i : Nat} (h : DE K cm te m) : DE K cm te (scE i m) := fun s k d e' hm Q q => by
  unfold scE at hm
  split at hm
  · rename_i w hw
    split at hm
    · rename_i d2 e2 h2
      split at hm
      · rename_i hc
        cases hm
        rw [Bool.and_eq_true] at hc
        obtain ⟨hs, hk⟩ := hc
        obtain ⟨p, h1, hp, h3⟩ := k.own i _ w hw rfl
        obtain ⟨u, hu⟩ := h3.there
        have hi : i < s.e.length := (List.getElem?_eq_some_iff.mp hw).1
        have eb : Ex s.B (upd s.B p u) := Ex.new hp
        have me : ∀ {j : Nat} {y : SD} {o : OD}, (s.e.set i (.fro w.d))[j]? = some y → y.ow = some o → j ≠ i ∧ s.e[j]? = some y := fun {j y o} h h4 => by
          rw [set_get hi] at h
          by_cases c : j = i
          · rw [if_pos c] at h
            cases h
            cases h4
          · rw [if_neg c] at h
            exact ⟨c, h⟩
        have k2 : Okm K cm ⟨upd s.B p u, s.H, s.σ, s.e.set i (.fro w.d)⟩ := by
          refine ⟨by rw [show (s.e.set i (SD.fro w.d)).length = s.e.length from List.length_set]; exact k.len, fun a o ha => ?_, fun j d hj => ?_, fun j y o hj hy => ?_, fun j l o o2 a ha hb => ?_⟩
          · have ha : upd s.B p u a = some o := ha
            by_cases c : a = p
            · subst c
              rw [upd_same] at ha
              cases ha
              exact hu
            · rw [upd_ne c] at ha
              exact k.bh a o ha
          · have hj : (s.e.set i (SD.fro w.d))[j]? = some (.fro d) := hj
            rw [set_get hi] at hj
            by_cases c : j = i
            · rw [if_pos c] at hj
              cases hj
              subst c
              exact ⟨_, h1, h3.rep eb fun v hv => by rw [hu] at hv; cases hv; exact upd_same⟩
            · rw [if_neg c] at hj
              obtain ⟨v, a, b⟩ := k.fro j d hj
              exact ⟨v, a, b.mono eb⟩
          · obtain ⟨c, hj⟩ := me hj hy
            obtain ⟨a, a1, a2, a3⟩ := k.own j y o hj hy
            refine ⟨a, a1, ?_, a3.mono eb fun _ q => q⟩
            have : a ≠ p := fun z => c (k.dis j i o w a ⟨⟨y, hj, hy⟩, a1⟩ ⟨⟨_, hw, rfl⟩, z ▸ h1⟩)
            show upd s.B p u a = none
            rw [upd_ne this]
            exact a2
          · obtain ⟨⟨y, y1, y2⟩, y3⟩ := ha
            obtain ⟨⟨z, z1, z2⟩, z3⟩ := hb
            exact k.dis j l o o2 a ⟨⟨y, (me y1 y2).2, y2⟩, y3⟩ ⟨⟨z, (me z1 z2).2, z2⟩, z3⟩
        have own1 : ∀ a, OwnA ⟨upd s.B p u, s.H, s.σ, s.e.set i (.fro w.d)⟩ a → OwnA s a := fun a h => by
          obtain ⟨j, o, ⟨y, y1, y2⟩, y3⟩ := h
          exact ⟨j, o, ⟨y, (me y1 y2).2, y2⟩, y3⟩
        refine h _ k2 d e2 h2 Q fun v B' H' st k' r => ?_
        have bb' : Ex s.B B' := eb.trans st.bb
        have hp' : H' p = some u := k'.bh p u (st.bb p u upd_same)
        have ow2 : ∀ {j : Nat} {x : SD} {o : OD}, (mrgE i s.e e2)[j]? = some x → x.ow = some o → ∃ y p, s.e[j]? = some y ∧ y.ow = some p := fun h h4 => by
          obtain ⟨y, p, a, b, _⟩ := mrg_ow hk h h4
          exact ⟨y, p, a, b⟩
        have K2 : Okm K cm ⟨s.B, H', s.σ, mrgE i s.e e2⟩ := by
          refine ⟨?_, fun a o ha => k'.bh a o (bb' a o ha), fun j d hj => ?_, fun j x o hj hx => ?_, fun j l o o2 a ha hb => ?_⟩
          · show (mrgE i s.e e2).length = _
            unfold mrgE
            rw [List.length_map, List.length_range, k.len]
          · obtain ⟨y, hy, hx⟩ := mrg_get hj
            by_cases c : j = i
            · rw [if_pos c] at hx
              subst hx
              exact k.fro j d hy
            · rw [if_neg c] at hx
              have q1 := ok_at hk hy c
              cases y with
              | nn => cases hx
              | fro d2 => cases hx; exact k.fro j d hy
              | own o =>
                have hx : SD.fro d = e2.getD j .nn := hx
                rw [← hx] at q1
                cases q1
              | bor o =>
                have hx : SD.fro d = e2.getD j .nn := hx
                rw [← hx] at q1
                cases q1
          · obtain ⟨y, o2, y1, y2, h5⟩ := mrg_ow hk hj hx
            rcases h5 with ⟨c, rfl⟩ | ⟨c, h6, ys, rfl, h7⟩
            · subst c
              rw [hw] at y1
              cases y1
              cases hx
              exact ⟨p, h1, hp, h3.mono (Ex.refl _) fun v hv => by rw [hu] at hv; cases hv; exact hp'⟩
            · obtain ⟨a, a1, a2, xs, a3, a4⟩ := k'.own j x _ h6 hx
              refine ⟨a, a1, ?_, xs, a3, scalar_reps h7 a4⟩
              cases q2 : s.B a with
              | none => rfl
              | some o3 =>
                have a2 : B' a = none := a2
                rw [bb' a o3 q2] at a2
                cases a2
          · obtain ⟨⟨y, y1, y2⟩, y3⟩ := ha
            obtain ⟨⟨z, z1, z2⟩, z3⟩ := hb
            obtain ⟨y', p1, f1, f2⟩ := ow2 y1 y2
            obtain ⟨z', p2, g1, g2⟩ := ow2 z1 z2
            exact k.dis j l p1 p2 a ⟨⟨y', f1, f2⟩, y3⟩ ⟨⟨z', g1, g2⟩, z3⟩
        refine q v s.B H' ⟨fun a o h n => st.ex a o h fun z => n (own1 a z), Ex.refl _, fun a o h n => (by have h : s.B a = some o := h; rw [n] at h; cases h), fun a h => .inl ?_, fun j o a h4 h5 => ?_, fun a h => st.dm a h⟩ K2 (scalar_rep hs r)
        · obtain ⟨j, o, ⟨y, y1, y2⟩, y3⟩ := h
          obtain ⟨y', p1, f1, f2⟩ := ow2 y1 y2
          exact ⟨j, p1, ⟨y', f1, f2⟩, y3⟩
        · refine ⟨?_, h5⟩
          have c : j ≠ i := fun c => by rw [c, hw] at h4; cases h4
          have q1 := ok_at hk h4 c
          show ∃ o', (mrgE i s.e e2)[j]? = some (.bor o')
          rw [mrg_at h4, if_neg c]
          show ∃ o', some (e2.getD j .nn) = some (.bor o')
          generalize e2.getD j .nn = z at q1
          cases z with
          | bor o' => exact ⟨o', rfl⟩
          | _ => cases q1
      · cases hm
    · cases hm
  · exact h s k d e' hm Q q
  · cases hm
/-! ### a slice as a new list -/
def slF (m : M) (ml mh : MI) : MO := fun e => bnd (m e) fun d e1 => bnd (ml e1) fun lo e2 => bnd (mh e2) fun hi e3 => match lsO d with | some ds => some (.lst (cutD ds lo hi), e3) | none => none
theorem df_sl {te : TE} {m : M} {tl th : TO} {ml mh : MI} (h : DE K cm te m) (hl : DI K cm tl ml) (hh : DI K cm th mh) : DF K cm (tSl (rSlM K) te tl th) (slF m ml mh) := fun s k d e' hm Q q => by
  obtain ⟨x, e1, h1, hm⟩ := bnd_some hm
  obtain ⟨lo, e2, h2, hm⟩ := bnd_some hm
  obtain ⟨hi, e3, h3, hm⟩ := bnd_some hm
  refine h s k x e1 h1 _ fun v B1 H1 s1 k1 r1 => hl ⟨B1, H1, s.σ, e1⟩ k1 lo e2 h2 _ fun B2 H2 s2 k2 => hh ⟨B2, H2, s.σ, e2⟩ k2 hi e3 h3 _ fun B3 H3 s3 k3 => ?_
  have r3 := (r1.mono s2.bb).mono s3.bb
  split at hm
  · rename_i ds hds
    cases hm
    obtain ⟨a, ys, rfl, ha, ra⟩ := lsO_sq r3 hds
    exact .inl ⟨a, ys, rfl, ex_l k3.bh ha, fun p hp => new_lst ((s1.trans s2).trans s3) k3 (cut_reps ra) q hp⟩
  · cases hm
end
end Mir

set_option Elab.async false
set_option linter.all false
set_option maxRecDepth 100000
set_option maxHeartbeats 4000000
namespace PySem.SeqAt
open AutoSeq1 (wpAny_loadPart')
open MeetsSeq MeetsSeq2 MeetsSeq3 SeqRoads2 GQ
/-! ### lists whose items are equal by an own ==: != says False -/
section
variable {prog : Program} {w : World} {A : Around} {R : Result → Shared → Prop}
theorem neTurns (p q : Addr) (M : Nat) (J : Nat → Shared → Prop) (hj : ListI prog w A (fun e s2 => R (.error e) s2) p q M J) (stop : ∀ z, J M z → R (.ok (.ret (.bool false))) z) (left : Nat) :
    ∀ at_ : Nat, M - at_ = left → at_ ≤ M → ∀ z, J at_ z → wpAny (model prog w) A.in1 (Builtin.«list.__eq__.loop» ⟨[.ref p, .ref q, rawInt at_, rawInt 3], []⟩) (FinOf prog w A R) (fun e s2 => R (.error e) s2) z := by
  induction left with
  | zero =>
    intro at_ hl hm z hz
    obtain ⟨us, vs, m, m2, p1, q1, zu, zv, _⟩ := hj _ _ hz
    have ea : at_ = M := by omega
    have fine : R (.ok (.ret (.bool false))) z := stop z (ea ▸ hz)
    obtain ⟨hp, g, d, tk, os⟩ := z
    wp_walk using wpAny_loadPart' p1, wpAny_loadPart' q1
    have nu : us[((at_ : Nat) : Int).toNat]? = none := by simp; omega
    have nv : vs[((at_ : Nat) : Int).toNat]? = none := by simp; omega
    rw [nu, nv]
    wp_walk using wpAny_loadPart' p1, wpAny_loadPart' q1
    show R (.ok (.ret (.bool (us.size != vs.size)))) _
    rw [zu, zv]
    simpa using fine
  | succ left ih =>
    intro at_ hl hm z hz
    obtain ⟨us, vs, m, m2, p1, q1, zu, zv, one⟩ := hj _ _ hz
    have lu : at_ < us.size := by omega
    have lv : at_ < vs.size := by omega
    have this_one := one lu lv
    obtain ⟨hp, g, d, tk, os⟩ := z
    wp_walk using wpAny_loadPart' p1, wpAny_loadPart' q1
    have gu : us[((at_ : Nat) : Int).toNat]? = some us[at_] := by simp [lu]
    have gv : vs[((at_ : Nat) : Int).toNat]? = some vs[at_] := by simp [lv]
    have up : ((at_ : Int) + 1) = ((at_ + 1 : Nat) : Int) := by omega
    rw [gu, gv]
    refine wpAny_bind (wpAny_mono this_one (fun r z2 h2 => ?_) fun _ _ x => x)
    obtain ⟨er, h2⟩ := h2
    subst er
    have again_ := ih (at_ + 1) (by omega) (by omega) z2 h2
    obtain ⟨hp2, g2, d2, tk2, os2⟩ := z2
    wp_walk
    rw [up]
    refine ⟨plainId_quiet plain_eq_loop _, codeAny_builtin entry_eq_loop ?_⟩
    rw [Around.under_plainId plain_eq_loop _]
    exact again_
theorem neWhole (p q : Addr) (M : Nat) (J : Nat → Shared → Prop) (hj : ListI prog w A (fun e s2 => R (.error e) s2) p q M J) (stop : ∀ z, J M z → R (.ok (.ret (.bool false))) z) {z : Shared} (h0 : J 0 z) :
    wpAny (model prog w) A.in1 (Builtin.«list.__ne__» ⟨[.ref p, .ref q], []⟩) (FinOf prog w A R) (fun e s2 => R (.error e) s2) z := by
  obtain ⟨us, vs, m, m2, p1, q1, zu, zv, _⟩ := hj _ _ h0
  have all_ := neTurns (A := A) (R := R) p q M J hj stop _ 0 rfl (Nat.zero_le _) z h0
  obtain ⟨hp, g, d, tk, os⟩ := z
  have sub_ := AutoSeq1.sub_list_list
  have same : ¬ (us.size != vs.size) = true := by simp [zu, zv]
  wp_walk using wpAny_loadPart' p1, wpAny_loadPart' q1
  refine ⟨plainId_quiet plain_eq_loop _, codeAny_builtin entry_eq_loop ?_⟩
  rw [Around.under_plainId plain_eq_loop _]
  exact all_
end
section
variable {prog : Program} {w : World} {A : Around} {E : Value → Shared → Prop} {z : Shared}
theorem rcNeItems {p q : Addr} {M : Nat} {Q : Value → Shared → Prop} (room : A.units < cLine) (J : Nat → Shared → Prop) (hj : ListI prog w A E p q M J) (stop : ∀ z, J M z → Q (.bool false) z) (h0 : J 0 z) : wpAny (model prog w) A (richCompare .NotEq (.ref p) (.ref q)) Q E z := by
  obtain ⟨us, vs, m, m2, p1, q1, _, _, _⟩ := hj _ _ h0
  refine wpAny_richCompare_same_room (op := .NotEq) ⟨_, p1, rfl⟩ ⟨_, q1, rfl⟩ F.slot_list_ne (call_here F.slot_list_ne ⟨_, p1, rfl⟩ F.entry_list_ne (F.args_list_ne_2 _ _) ?_) room
  exact neWhole (R := wants (fun v z2 => v ≠ .notImplemented ∧ Q v z2) E) p q M J hj (fun z2 k => ⟨(fun x => nomatch x), stop z2 k⟩) h0
end
end PySem.SeqAt
namespace Mir
open PySem PySem.Spec PyProof.Rows L2 Evl WS
section
variable {X : Cx} {n : Nat} {D0 : Eqv}
def rNeG (D0 : Eqv) : R2 := fun x y H Q => DList D0 x y H ∧ ∀ H', Ext H H' → Q (.bl false) H'
theorem op_neG (mon : Mon D0) (h : EqG X n D0) (room : Room (n + 1) X.A) : OpR X (compareOp .NotEq) (rNeG D0) := by
  intro pins s σ H x y v u Q I rx ry hq
  obtain ⟨⟨a, b, xs, ys, rfl, rfl, ha, hb, pr⟩, q⟩ := hq
  cases rx
  cases ry
  show wpAny (model X.prog X.w) X.A (richCompare .NotEq (.ref a) (.ref b)) (EP X pins σ Q) X.xe s
  have sb : Sub X (n + 1) X.A := ⟨room, rfl⟩
  refine SeqAt.rcNeItems (M := xs.length) room.units0 (fun _ s' => LoopI X pins σ H s') (fun i s' k => ?_) (fun s' k => ?_) ⟨H, I, Ext.rfl'⟩
  · obtain ⟨H1, I1, e1⟩ := id k
    obtain ⟨z, its, k1, r, e⟩ := I1.hok a _ (e1 _ _ ha)
    obtain ⟨z2, its2, k2, r2, e2⟩ := I1.hok b _ (e1 _ _ hb)
    refine ⟨its.toArray, its2.toArray, k1, k2, e, e2, by rw [List.size_toArray, ← r.length], by rw [List.size_toArray, ← r2.length, ← pr.1], fun h1 h2 => ?_⟩
    exact turnG mon h sb pr r r2 i h1 h2 s' k
  · obtain ⟨H', I', e⟩ := k
    exact ⟨.bl false, H', I', rfl, q H' e⟩
end
section
variable {K : PySem.W.Frag} {cm : CM}
/-- flat, or instances that the own == finds equal -/
def eqIt (c : Nat) (F : MF) (x y : D) : Bool := match x, y with
  | .ins c1 fs, .ins c2 gs => c1 == c && c2 == c && (match F [.fro (.ins c1 fs), .fro (.ins c2 gs)] with | some (.bl true, _) => true | _ => false)
  | .bl a, .bl b => a == b
  | .non, .non => true
  | _, _ => false
def eqIts (c : Nat) (F : MF) : List D → List D → Bool
  | [], [] => true
  | x :: xs, y :: ys => eqIt c F x y && eqIts c F xs ys
  | _, _ => false
def neGD (c : Nat) (F : MF) (x y : D) : Option D := match eqD true x y with
  | some d => some d
  | none => match x, y with
    | .lst xs, .lst ys => if eqIts c F xs ys then some (.bl false) else none
    | _, _ => none
/-- what the own == needs of two instances -/
def RIns (K : PySem.W.Frag) (cm : CM) (c : Nat) (F : MF) (a b : Addr) (H : Hp) : Prop := ∃ (B : Hp) (fs gs : List (Str × D)) (es : SDs), Ex B H ∧ Rep K cm B (.ref a) (.ins c fs) ∧ Rep K cm B (.ref b) (.ins c gs) ∧ F [.fro (.ins c fs), .fro (.ins c gs)] = some (.bl true, es)
theorem rins_mono {c : Nat} {F : MF} : ∀ a b H H', Ext H H' → RIns K cm c F a b H → RIns K cm c F a b H' := fun a b H H' e ⟨B, fs, gs, es, x, r1, r2, hF⟩ => ⟨B, fs, gs, es, fun p o h => e p o (x p o h), r1, r2, hF⟩
def DIt_ (K : PySem.W.Frag) (cm : CM) (c : Nat) (F : MF) : Eqv := fun x y H => DFlat x y H ∨ DIns (cm c) (RIns K cm c F) x y H
theorem mon_it {c : Nat} {F : MF} : Mon (DIt_ K cm c F) := mon_flat.or (mon_ins rins_mono)
theorem noOwn2 {B H : Hp} {vs : L2.St} {x y : D} {a : Addr} : ¬ OwnA ⟨B, H, vs, [.fro x, .fro y]⟩ a := fun ⟨i, o, ⟨z, h1, h2⟩, _⟩ => by
  match i, h1 with
  | 0, h1 => cases h1; cases h2
  | 1, h1 => cases h1; cases h2
theorem sp_eq {c : Nat} {F : MF} {vs : List V} {H : Hp} {Q : VK} {E : XK} (w : spEq (RIns K cm c F) vs H Q E) : spD K cm 2 F vs H Q E := by
  obtain ⟨a, b, rfl, ⟨B, fs, gs, es, x, r1, r2, hF⟩, q⟩ := w
  refine ⟨B, [.fro (.ins c fs), .fro (.ins c gs)], .bl true, es, rfl, ⟨rfl, x, fun i d hi => ?_, fun i z o hi ho => ?_, fun i j o p a2 h1 _ => absurd ⟨i, o, h1⟩ noOwn2⟩, hF, fun v B' H' st k' rv => ?_⟩
  · match i, hi with
    | 0, hi => cases hi; exact ⟨_, rfl, r1⟩
    | 1, hi => cases hi; exact ⟨_, rfl, r2⟩
  · match i, hi with
    | 0, hi => cases hi; cases ho
    | 1, hi => cases hi; cases ho
  · cases rv
    exact q H' fun a2 o2 h2 => st.ex a2 o2 h2 noOwn2
section
variable {P : Program} {w : World} {mg : Str → Option Value} {base : Heap}
theorem fn_eq {CX : CXT} {k c : Nat} {f : Addr} {fd : FuncData} {ps : List Str} {F : MF} (h : FnOk P w K mg base CX k f fd ps (spD K cm 2 F)) : FnOk P w K mg base CX k f fd ps (spEq (RIns K cm c F)) :=
  ⟨fun vs H Q E q => h.len vs H Q E (sp_eq q), fun A outer s H args us vs Q E hr he hb hv q => h.run A outer s H args us vs Q E hr he hb hv (sp_eq q)⟩
end
theorem eq_it {B H : Hp} {c : Nat} {F : MF} {x y : V} {dx dy : D} (e : Ex B H) (rx : Rep K cm B x dx) (ry : Rep K cm B y dy) (h : eqIt c F dx dy = true) : DIt_ K cm c F x y H := by
  unfold eqIt at h
  split at h
  · rename_i c1 fs c2 gs
    rw [Bool.and_eq_true, Bool.and_eq_true, beq_iff_eq, beq_iff_eq] at h
    obtain ⟨⟨rfl, rfl⟩, h⟩ := h
    split at h
    · rename_i es hF
      have rx0 := rx
      have ry0 := ry
      cases rx with
      | ins ha _ _ =>
        cases ry with
        | ins hb _ _ => exact .inr ⟨_, _, _, _, _, _, rfl, rfl, e _ _ ha, e _ _ hb, B, fs, gs, es, e, rx0, ry0, hF⟩
    · cases h
  · rename_i a b
    cases rx
    cases ry
    rw [beq_iff_eq] at h
    subst h
    exact .inl ⟨rfl, rfl, by cases a <;> rfl⟩
  · cases rx
    cases ry
    exact .inl ⟨rfl, rfl, rfl⟩
  · cases h
theorem eq_its {B H : Hp} {c : Nat} {F : MF} (e : Ex B H) : ∀ {xs ys : List V} {ds es : List D}, Reps K cm B xs ds → Reps K cm B ys es → eqIts c F ds es = true → Prs (DIt_ K cm c F) xs ys H
  | _, _, _, _, .nil, .nil, _ => Prs.nil
  | _, _, _, _, .nil, .cons _ _, h => by cases h
  | _, _, _, _, .cons _ _, .nil, h => by cases h
  | _, _, _, _, .cons r t, .cons r2 t2, h => by
    have h : (eqIt c F _ _ && eqIts c F _ _) = true := h
    rw [Bool.and_eq_true] at h
    exact Prs.cons (eq_it e r r2 h.1) (eq_its e t t2 h.2)
theorem rd_neG {c : Nat} {F : MF} : RD K cm (orR (rNeG (DIt_ K cm c F)) (orR rNe (rNeD K))) (neGD c F) := fun B H x y dx dy d e rx ry h Q q => by
  unfold neGD at h
  split at h
  · rename_i d2 hd
    cases h
    exact .inr (rd_ne B H x y dx dy d e rx ry hd Q q)
  · split at h
    · rename_i xs ys _
      split at h
      · rename_i hq
        cases h
        cases rx with
        | lst ha ra =>
          cases ry with
          | lst hb rb =>
            refine .inl ⟨⟨_, _, _, _, rfl, rfl, e _ _ ha, e _ _ hb, eq_its e ra rb hq⟩, fun H' ex => ?_⟩
            exact q _ B H' (Gro.lay e fun a o h => ex a o h) (.bl _)
      · cases h
    · cases h
variable {ta tb te : TE} {x : MX} {W : WX} {r : R2}
theorem xe_op1 (h : XE1 K cm W ta x) : XE1 K cm W (tOp r ta tb) x := fun s k c d e' hm Q q => h s k c d e' hm _ q
end
end Mir

set_option Elab.async false
set_option linter.all false
set_option maxRecDepth 100000
set_option maxHeartbeats 4000000
namespace N66
open PySem PySem.Spec PyProof.Rows L2 Evl WS Mir

def errCs : List Nat := [101, 102]
def m_is_number (n : Nat) : MS :=
 (retM (andV (isiM (tyF "int") (varM 0)) (notV (isiM (tyF "bool") (varM 0)))))
def F_is_number (n : Nat) : MF := defF 1 1 (m_is_number n)
def m_bits_of (n : Nat) : MS :=
 (retM (m1M joinD (cM (.str "")) (frM (compF (revR1I (varM 1)) [2] (nameG 2) yesT (ifM (truM (opM andD (opM shrD (varM 0) (varM 2)) (cM (.int 1)))) (cM (.str "1")) (cM (.str "0")))))))
def F_bits_of (n : Nat) : MF := defF 2 3 (m_bits_of n)
def m_Check_width (n : Nat) : MS :=
 (retM (fldM [0] "_width" (varM 0)))
def F_Check_width (n : Nat) : MF := defF 1 1 (m_Check_width n)
def m_Check_low (n : Nat) : MS :=
 (retM (fldM [0] "_low" (varM 0)))
def F_Check_low (n : Nat) : MF := defF 1 1 (m_Check_low n)
def m_Check___eq__ (n : Nat) : MS :=
 (retM (andV (isiM (ownF2 0) (varM 1)) (andV (opM (eqD false) (fldM [0] "_width" (varM 0)) (fldM [0] "_width" (varM 1))) (opM (eqD false) (fldM [0] "_low" (varM 0)) (fldM [0] "_low" (varM 1))))))
def F_Check___eq__ (n : Nat) : MF := defF 2 2 (m_Check___eq__ n)
def m_check_check (n : Nat) : MS :=
 (ifS (notM (truM (isiM (ownF2 0) (varM 0)))) noM nxM)
def F_check_check (n : Nat) : MF := defF 1 1 (m_check_check n)
def m_fraction (n : Nat) : MS :=
 (seqM (asM (nameG 2) (ifM (tstM (opM gtD (varM 1) (cM (.int 0)))) (cbM (two gcdD) (consM (varM 0) (consM (varM 1) nilM))) (unM negD (cbM (two gcdD) (consM (varM 0) (consM (varM 1) nilM))))))
 (retM (tupM (consM (opM fdivD (varM 0) (varM 2)) (consM (opM fdivD (varM 1) (varM 2)) nilM)))))
def F_fraction (n : Nat) : MF := defF 2 3 (m_fraction n)
def m_signed_choices (n : Nat) : MS :=
 (seqM (asM (nameG 3) (cM (.int 0)))
 (seqM (forM (rng1I (consM (opM addD (varM 2) (cM (.int 1))) nilM)) (nameG 4) (seqM (asM (nameG 5) (opM mulD (cbM (two combD) (consM (varM 0) (consM (varM 4) nilM))) (cbM (two combD) (consM (varM 1) (consM (opM subD (varM 2) (varM 4)) nilM)))))
 (asM (nameG 3) (ifM (truM (opM andD (varM 4) (cM (.int 1)))) (opM subD (varM 3) (varM 5)) (opM addD (varM 3) (varM 5))))))
 (retM (varM 3))))
def F_signed_choices (n : Nat) : MF := defF 3 6 (m_signed_choices n)
def m_first_products (n : Nat) : MS :=
 (seqM (owM 2 (lstF (consM (cM (.int 1)) nilM)))
 (seqM (forM (rng1I (consM (varM 1) nilM)) (nameG 3) (appM 2 (opM mulD (ixO 2 (unM negD (cM (.int 1)))) (varM 0))))
 (frzM 2 (retM (varM 2)))))
def F_first_products (n : Nat) : MF := defF 2 4 (m_first_products n)
def m__law_hash (n : Nat) : MS :=
 (seqM (asM (nameG 2) (opM modD (cbM (one intD) (consM (opM addD (opM addD (opM addD (opM mulD (varM 0) (cM (.int 1299709))) (opM mulD (opM mulD (cM (.int 104729)) (varM 1)) (varM 1))) (opM mulD (cM (.int 31)) (varM 1))) (cM (.int 7))) nilM)) (cM (.int 2147483629))))
 (seqM (asM (nameG 2) (opM modD (cbM (one intD) (consM (opM addD (opM addD (opM mulD (varM 2) (varM 2)) (opM mulD (cM (.int 48271)) (varM 1))) (cM (.int 15485863))) nilM)) (cM (.int 2147483587))))
 (retM (opM modD (cbM (one intD) (consM (opM mulD (varM 2) (cM (.int 69621))) nilM)) (cM (.int 2147483647))))))
def F__law_hash (n : Nat) : MF := defF 2 3 (m__law_hash n)
def m__law_cell (n : Nat) : MS :=
 (seqM (ifS (tstM (opM ltD (varM 1) (cbM (one lenD) (consM (varM 0) nilM)))) (retM (opM ixD (varM 0) (varM 1))) nxM)
 (retM (opM modD (cbM (one sumD) (consM (slM (varM 0) noPt (ptM (cM (.int 1)))) nilM)) (cM (.int 1000003)))))
def F__law_cell (n : Nat) : MF := defF 2 2 (m__law_cell n)
def m__law_rest (n : Nat) : MS :=
 (seqM (asM (nameG 2) (varM 1))
 (seqM (whM (tstM (opM geD (unM bitsD (varM 2)) (unM bitsD (varM 0)))) (asM (nameG 2) (opM xorD (varM 2) (opM shlD (varM 0) (opM subD (unM bitsD (varM 2)) (unM bitsD (varM 0)))))) n)
 (retM (varM 2))))
def F__law_rest (n : Nat) : MF := defF 2 3 (m__law_rest n)
def m__law_places (n : Nat) : MS :=
 (retM (frM (compF (rng1I (consM (unM bitsD (varM 0)) nilM)) [1] (nameG 1) (tstM (opM (eqD false) (opM modD (opM shrD (varM 0) (varM 1)) (cM (.int 2))) (cM (.int 1)))) (varM 1))))
def F__law_places (n : Nat) : MF := defF 1 2 (m__law_places n)
def m__law_lowest (n : Nat) : MS :=
 (seqM (parM [2, 3] (froX (cbM (one (i1D fun i => if i < 0 then -i else i)) (consM (varM 0) nilM)) (froX (varM 1) nilX)))
 (seqM (whM (tstM (opM (eqD true) (varM 3) (cM (.int 0)))) (parM [2, 3] (froX (varM 3) (froX (opM modD (varM 2) (varM 3)) nilX))) n)
 (retM (tupM (consM (opM fdivD (varM 0) (varM 2)) (consM (opM fdivD (varM 1) (varM 2)) nilM))))))
def F__law_lowest (n : Nat) : MF := defF 2 4 (m__law_lowest n)
def m__law_raised (n : Nat) : MS :=
 (seqM (asM (nameG 2) (cM (.int 1)))
 (seqM (forM (rng1I (consM (varM 1) nilM)) (nameG 3) (asM (nameG 2) (opM mulD (varM 2) (varM 0))))
 (retM (varM 2))))
def F__law_raised (n : Nat) : MF := defF 2 4 (m__law_raised n)
def m__law_pairs (n : Nat) : MS :=
 (seqM (parM [2, 3] (froX (opM fdivD (varM 0) (varM 1)) (froX (opM modD (varM 0) (varM 1)) nilX)))
 (retM (opM addD (opM fdivD (opM mulD (opM mulD (varM 3) (opM addD (varM 2) (cM (.int 1)))) (varM 2)) (cM (.int 2))) (opM fdivD (opM mulD (opM mulD (opM subD (varM 1) (varM 3)) (varM 2)) (opM subD (varM 2) (cM (.int 1)))) (cM (.int 2))))))
def F__law_pairs (n : Nat) : MF := defF 2 4 (m__law_pairs n)
def m_is_within (n : Nat) : MS :=
 (retM (andV (callM (F_is_number n) (valA (varM 0) nilA)) (chM leD leD (varM 1) (varM 0) (varM 2))))
def F_is_within (n : Nat) : MF := defF 3 3 (m_is_within n)
def m_Check_bits (n : Nat) : MS :=
 (retM (opM addD (cM (.str "1")) (callM (F_bits_of n) (valA (fldM [0] "_low" (varM 0)) (valA (fldM [0] "_width" (varM 0)) nilA)))))
def F_Check_bits (n : Nat) : MF := defF 1 1 (m_Check_bits n)
def m__law_random (n : Nat) : MS :=
 (seqM (ifS (tstM (opM gtD (ixO 0 (cM (.int 0))) (cM (.int 0)))) (seqM (asM (nameG 2) (opM modD (cbM (one intD) (consM (ixO 0 (cM (.int 0))) nilM)) (varM 1)))
 (seqM (putM 0 (cM (.int 0)) (opM fdivD (ixO 0 (cM (.int 0))) (varM 1)))
 (retM (varM 2)))) nxM)
 (seqM (asM (nameG 2) (cM (.int 0)))
 (seqM (forM (rng1I (consM (opM addD (cM (.int 1)) (opM fdivD (unM bitsD (varM 1)) (cM (.int 30)))) nilM)) (nameG 3) (seqM (putM 0 (cM (.int 2)) (opM addD (ixO 0 (cM (.int 2))) (cM (.int 1))))
 (asM (nameG 2) (opM addD (opM mulD (varM 2) (cM (.int 2147483587))) (callM (F__law_hash n) (valA (ixO 0 (cM (.int 1))) (valA (ixO 0 (cM (.int 2))) nilA)))))))
 (retM (opM modD (cbM (one intD) (consM (varM 2) nilM)) (varM 1))))))
def F__law_random (n : Nat) : MF := defF 2 4 (m__law_random n)
def m__law_generator (n : Nat) : MS :=
 (seqM (asM (nameG 2) (callM (F__law_cell n) (valA (varM 0) (valA (varM 1) nilA))))
 (retF (lstF (consM (opM modD (cbM (one intD) (consM (cbM (two (i0D fun i j => if j > i then j else i)) (consM (opM subD (varM 2) (opM powD (cM (.int 10)) (cM (.int 18)))) (consM (cM (.int 0)) nilM))) nilM)) (opM powD (opM powD (cM (.int 10)) (cM (.int 60))) (cM (.int 10)))) (consM (opM modD (cbM (one intD) (consM (varM 2) nilM)) (cM (.int 2147483647))) (consM (opM mulD (cM (.int 1000)) (varM 1)) nilM))))))
def F__law_generator (n : Nat) : MFO := defO 2 3 (m__law_generator n)
def m__law_threes (n : Nat) : MS :=
 (seqM (parM [2, 3, 4] (ownX newF (ownX (lstF nilM) (froX (cM (.int 0)) nilX))))
 (seqM (forM (rng1I (consM (varM 1) nilM)) (nameG 5) (seqM (appM 3 (callM (F__law_rest n) (valA (varM 0) (valA (opM shlD (cM (.int 1)) (varM 5)) nilA))))
 (dputM 2 (ixO 3 (varM 5)) (opM addD (dg2O 2 (ixO 3 (varM 5)) (frM (lstF nilM))) (frM (lstF (consM (varM 5) nilM)))))))
 (seqM (forM (rng1I (consM (varM 1) nilM)) (nameG 6) (forM (rng2I (consM (opM addD (varM 6) (cM (.int 1))) (consM (varM 1) nilM))) (nameG 7) (asM (nameG 4) (opM addD (varM 4) (cbM (one lenD) (consM (frM (compF (lstI (dg2O 2 (opM xorD (ixO 3 (varM 6)) (ixO 3 (varM 7))) (frM (lstF nilM)))) [8] (nameG 8) (tstM (opM gtD (varM 8) (varM 7))) (varM 8))) nilM))))))
 (retM (varM 4)))))
def F__law_threes (n : Nat) : MF := defF 2 9 (m__law_threes n)
def m_check_within (n : Nat) : MS :=
 (ifS (notM (truM (callM (F_is_within n) (valA (varM 0) (valA (varM 1) (valA (varM 2) nilA)))))) noM nxM)
def F_check_within (n : Nat) : MF := defF 3 3 (m_check_within n)
def m_sum_of (n : Nat) : MS :=
 (retM (opM orD (opM shlD (cM (.int 1)) (propM 0 (F_Check_width n) (varM 0))) (propM 0 (F_Check_low n) (varM 0))))
def F_sum_of (n : Nat) : MF := defF 1 1 (m_sum_of n)
def m_all_odd (n : Nat) : MS :=
 (seqM (drM (callM (F_check_check n) (valA (varM 0) nilA)))
 (retM (opM (eqD false) (opM andD (m1M cntD (methM 0 "bits" (F_Check_bits n) (varM 0) nilA) (cM (.str "1"))) (cM (.int 1))) (cM (.int 0)))))
def F_all_odd (n : Nat) : MF := defF 1 1 (m_all_odd n)
def m_check_narrow (n : Nat) : MS :=
 (ifS (orM (notM (truM (isiM (ownF2 0) (varM 0)))) (tstM (opM gtD (propM 0 (F_Check_width n) (varM 0)) (cM (.int 10))))) noM nxM)
def F_check_narrow (n : Nat) : MF := defF 1 1 (m_check_narrow n)
def m__law_drawn (n : Nat) : MS :=
 (retM (opM addD (cM (.int 1)) (opM mulD (cM (.int 2)) (callM (F__law_random n) (sloA 0 (valA (opM shlD (cM (.int 1)) (opM subD (varM 1) (cM (.int 1)))) nilA))))))
def F__law_drawn (n : Nat) : MF := defF 2 2 (m__law_drawn n)
def m_Check___init__ (n : Nat) : MS :=
 (seqM (drM (callM (F_check_within n) (valA (varM 1) (valA (cM (.int 1)) (valA (cM (.int 16)) nilA)))))
 (seqM (ifS (orM (notM (truM (callM (F_is_within n) (valA (varM 2) (valA (cM (.int 1)) (valA (opM subD (opM shlD (cM (.int 1)) (varM 1)) (cM (.int 1))) nilA)))))) (tstM (opM (eqD false) (opM andD (varM 2) (cM (.int 1))) (cM (.int 0))))) noM nxM)
 (seqM (setF [0] 0 "_width" (varM 1))
 (setF [0] 0 "_low" (varM 2)))))
def F_Check___init__ (n : Nat) : MF := defF 3 3 (m_Check___init__ n)
def m_risen (n : Nat) : MS :=
 (seqM (parM [3, 4] (froX (callM (F_sum_of n) (valA (varM 1) nilA)) (froX (propM 0 (F_Check_width n) (varM 1)) nilX)))
 (seqM (forM (rng1I (consM (varM 2) nilM)) (nameG 5) (seqM (augM 0 shlD (cM (.int 1)))
 (ifS (truM (opM shrD (varM 0) (varM 4))) (augM 0 xorD (varM 3)) nxM)))
 (retM (varM 0))))
def F_risen (n : Nat) : MF := defF 3 6 (m_risen n)
def m_first_powers (n : Nat) : MS :=
 (seqM (parM [2, 3] (ownX (lstF nilM) (froX (cM (.int 1)) nilX)))
 (seqM (parM [4, 5] (froX (callM (F_sum_of n) (valA (varM 0) nilA)) (froX (propM 0 (F_Check_width n) (varM 0)) nilX)))
 (seqM (forM (rng1I (consM (varM 1) nilM)) (nameG 6) (seqM (appM 2 (varM 3))
 (seqM (augM 3 shlD (cM (.int 1)))
 (ifS (truM (opM shrD (varM 3) (varM 5))) (augM 3 xorD (varM 4)) nxM))))
 (frzM 2 (retM (varM 2))))))
def F_first_powers (n : Nat) : MF := defF 2 7 (m_first_powers n)
def m_order_of (n : Nat) : MS :=
 (seqM (parM [1, 2] (froX (callM (F_risen n) (valA (cM (.int 1)) (valA (varM 0) (valA (cM (.int 1)) nilA)))) (froX (cM (.int 1)) nilX)))
 (seqM (parM [3, 4] (froX (callM (F_sum_of n) (valA (varM 0) nilA)) (froX (propM 0 (F_Check_width n) (varM 0)) nilX)))
 (seqM (whM (tstM (opM (eqD true) (varM 1) (cM (.int 1)))) (seqM (augM 1 shlD (cM (.int 1)))
 (seqM (ifS (truM (opM shrD (varM 1) (varM 4))) (augM 1 xorD (varM 3)) nxM)
 (extM 2 (cM (.int 1))))) n)
 (retM (varM 2)))))
def F_order_of (n : Nat) : MF := defF 1 5 (m_order_of n)
def m_order (n : Nat) : MS :=
 (seqM (drM (callM (F_check_check n) (valA (varM 0) nilA)))
 (retM (callM (F_order_of n) (valA (varM 0) nilA))))
def F_order (n : Nat) : MF := defF 1 1 (m_order n)
def m_places_by_rest (n : Nat) : MS :=
 (seqM (asM (nameG 2) (callM (F_order_of n) (valA (varM 0) nilA)))
 (seqM (owM 3 (repF (frM (lstF (consM (cM (.int 0)) nilM))) (opM shlD (cM (.int 1)) (propM 0 (F_Check_width n) (varM 0)))))
 (seqM (forM (enumI (consM (callM (F_first_powers n) (valA (varM 0) (valA (varM 2) nilA))) nilM)) (tupG 2 (consG (nameG 4) (consG (nameG 5) nilG))) (putM 3 (varM 5) (ifM (tstM (opM ltD (varM 4) (varM 1))) (opM fdivD (opM subD (opM addD (opM subD (varM 1) (varM 4)) (varM 2)) (cM (.int 1))) (varM 2)) (cM (.int 0)))))
 (frzM 3 (retM (varM 3))))))
def F_places_by_rest (n : Nat) : MF := defF 2 6 (m_places_by_rest n)
def m_odd_places (n : Nat) : MS :=
 (seqM (asM (nameG 2) (callM (F_places_by_rest n) (valA (varM 0) (valA (varM 1) nilA))))
 (seqM (forM (rng1I (consM (propM 0 (F_Check_width n) (varM 0)) nilM)) (nameG 3) (seqM (asM (nameG 4) (opM shlD (cM (.int 1)) (varM 3)))
 (asM (nameG 2) (frM (compF (rng1I (consM (cbM (one lenD) (consM (varM 2) nilM)) nilM)) [5] (nameG 5) yesT (ifM (truM (opM andD (varM 5) (varM 4))) (opM subD (opM ixD (varM 2) (opM xorD (varM 5) (varM 4))) (opM ixD (varM 2) (varM 5))) (opM addD (opM ixD (varM 2) (varM 5)) (opM ixD (varM 2) (opM xorD (varM 5) (varM 4))))))))))
 (retM (frM (compF (lstI (varM 2)) [6] (nameG 6) yesT (opM fdivD (opM subD (varM 1) (varM 6)) (cM (.int 2))))))))
def F_odd_places (n : Nat) : MF := defF 2 7 (m_odd_places n)
def m_how_many_unseen (n : Nat) : MS :=
 (seqM (drM (callM (F_check_narrow n) (valA (varM 0) nilA)))
 (seqM (drM (callM (F_check_within n) (valA (varM 1) (valA (cM (.int 0)) (valA (cM (.int 1000000000000000000)) nilA)))))
 (seqM (drM (callM (F_check_within n) (valA (varM 2) (valA (cM (.int 0)) (valA (cM (.int 8)) nilA)))))
 (retM (opM shrD (cbM (one sumD) (consM (frM (compF (lstI (callM (F_odd_places n) (valA (varM 0) (valA (varM 1) nilA)))) [3] (nameG 3) yesT (callM (F_signed_choices n) (valA (varM 3) (valA (opM subD (varM 1) (varM 3)) (valA (varM 2) nilA)))))) nilM)) (propM 0 (F_Check_width n) (varM 0)))))))
def F_how_many_unseen (n : Nat) : MF := defF 3 4 (m_how_many_unseen n)
def m_chance (n : Nat) : MS :=
 (seqM (drM (callM (F_check_narrow n) (valA (varM 0) nilA)))
 (seqM (drM (callM (F_check_within n) (valA (varM 1) (valA (cM (.int 0)) (valA (cM (.int 60)) nilA)))))
 (seqM (drM (callM (F_check_within n) (valA (varM 2) (valA (cM (.int 0)) (valA (cM (.int 1000)) nilA)))))
 (seqM (drM (callM (F_check_within n) (valA (varM 3) (valA (cbM (one (mmD maxI)) (consM (frM (lstF (consM (cM (.int 1)) (consM (varM 2) nilM)))) nilM)) (valA (cM (.int 1000)) nilA)))))
 (seqM (asM (tupG 2 (consG (nameG 4) (consG (nameG 5) nilG))) (tupM (consM (callM (F_first_products n) (valA (opM subD (varM 3) (opM mulD (cM (.int 2)) (varM 2))) (valA (varM 1) nilA))) (consM (callM (F_first_products n) (valA (varM 3) (valA (varM 1) nilA))) nilM))))
 (seqM (asM (nameG 6) (cbM (one sumD) (consM (frM (compF (lstI (callM (F_odd_places n) (valA (varM 0) (valA (varM 1) nilA)))) [8] (nameG 8) yesT (opM mulD (opM ixD (varM 4) (varM 8)) (opM ixD (varM 5) (opM subD (varM 1) (varM 8)))))) nilM)))
 (seqM (asM (nameG 7) (opM ixD (callM (F_first_products n) (valA (opM subD (varM 3) (varM 2)) (valA (varM 1) nilA))) (varM 1)))
 (retM (callM (F_fraction n) (valA (opM subD (varM 6) (opM shlD (varM 7) (propM 0 (F_Check_width n) (varM 0)))) (valA (opM shlD (opM ixD (varM 5) (varM 1)) (propM 0 (F_Check_width n) (varM 0))) nilA)))))))))))
def F_chance (n : Nat) : MF := defF 4 9 (m_chance n)
def m__law_small_right (n : Nat) : MS :=
 (seqM (owM 4 (repF (frM (lstF (consM (cM (.int 0)) nilM))) (cM (.int 9))))
 (seqM (forM (rng1I (consM (opM shlD (cM (.int 1)) (varM 3)) nilM)) (nameG 5) (ifS (tstM (opM (eqD false) (callM (F__law_rest n) (valA (varM 2) (valA (varM 5) nilA))) (cM (.int 0)))) (seqM (asM (nameG 6) (cbM (one lenD) (consM (callM (F__law_places n) (valA (varM 5) nilA)) nilM)))
 (putM 4 (varM 6) (opM addD (ixO 4 (varM 6)) (cM (.int 1))))) nxM))
 (seqM (ifS (scT (tstM (opM (eqD true) (frM (compF (rng1I (consM (cM (.int 9)) nilM)) [10] (nameG 10) yesT (callM (F_how_many_unseen n) (valA (varM 1) (valA (varM 3) (valA (varM 10) nilA)))))) (varM 4)))) (retM (cM (.bl false))) nxM)
 (seqM (ifS (andM (tstM (opM geD (varM 3) (propM 0 (F_Check_width n) (varM 1)))) (tstM (opM (eqD true) (scM (cbM (one sumD) (consM (varM 4) nilM))) (opM shlD (cM (.int 1)) (opM subD (varM 3) (propM 0 (F_Check_width n) (varM 1))))))) (retM (cM (.bl false))) nxM)
 (seqM (asM (nameG 7) (opM addD (cM (.int 1)) (callM (F__law_random n) (sloA 0 (valA (cM (.int 12)) nilA)))))
 (seqM (forM (lstI (frM (lstF (consM (callM (F__law_random n) (sloA 0 (valA (opM addD (varM 7) (cM (.int 1))) nilA))) (consM (cM (.int 0)) (consM (varM 7) nilM)))))) (nameG 8) (seqM (asM (nameG 9) (cM (.int 0)))
 (seqM (forM (rng2I (consM (cM (.int 1)) (consM (opM addD (varM 3) (cM (.int 1))) nilM))) (nameG 10) (asM (nameG 9) (opM addD (varM 9) (opM mulD (opM mulD (ixO 4 (varM 10)) (callM (F__law_raised n) (valA (varM 8) (valA (varM 10) nilA)))) (callM (F__law_raised n) (valA (opM subD (varM 7) (varM 8)) (valA (opM subD (varM 3) (varM 10)) nilA)))))))
 (ifS (tstM (opM (eqD true) (callM (F_chance n) (valA (varM 1) (valA (varM 3) (valA (varM 8) (valA (varM 7) nilA))))) (callM (F__law_lowest n) (valA (varM 9) (valA (callM (F__law_raised n) (valA (varM 7) (valA (varM 3) nilA))) nilA))))) (retM (cM (.bl false))) nxM))))
 (retM (cM (.bl true)))))))))
def F__law_small_right (n : Nat) : MF := defF 4 11 (m__law_small_right n)
def m__law_great_right (n : Nat) : MS :=
 (seqM (asM (nameG 4) (opM ixD (frM (lstF (consM (opM powD (cM (.int 10)) (cM (.int 18))) (consM (callM (F__law_random n) (sloA 0 (valA (opM powD (cM (.int 10)) (cM (.int 18))) nilA))) (consM (varM 3) nilM))))) (callM (F__law_random n) (sloA 0 (valA (cM (.int 3)) nilA)))))
 (seqM (asM (nameG 5) (frM (compF (rng1I (consM (cM (.int 3)) nilM)) [6] (nameG 6) yesT (callM (F_how_many_unseen n) (valA (varM 1) (valA (varM 4) (valA (varM 6) nilA)))))))
 (seqM (ifS (tstM (opM (eqD true) (varM 5) (frM (lstF (consM (cM (.int 1)) (consM (cM (.int 0)) (consM (callM (F__law_pairs n) (valA (varM 4) (valA (callM (F_order n) (valA (varM 1) nilA)) nilA))) nilM))))))) (retM (cM (.bl false))) nxM)
 (seqM (ifS (tstM (opM (eqD true) (callM (F_how_many_unseen n) (valA (varM 1) (valA (varM 3) (valA (cM (.int 3)) nilA)))) (callM (F__law_threes n) (valA (varM 2) (valA (varM 3) nilA))))) (retM (cM (.bl false))) nxM)
 (seqM (ifS (andM (truM (callM (F_all_odd n) (valA (varM 1) nilA))) (tstM (opM (eqD true) (frM (compF (lstI (frM (lstF (consM (cM (.int 1)) (consM (cM (.int 3)) (consM (cM (.int 5)) (consM (cM (.int 7)) nilM))))))) [6] (nameG 6) (tstM (opM (eqD true) (callM (F_how_many_unseen n) (valA (varM 1) (valA (varM 4) (valA (varM 6) nilA)))) (cM (.int 0)))) (varM 6))) (frM (lstF nilM))))) (retM (cM (.bl false))) nxM)
 (seqM (ifS (tstM (opM ltD (varM 3) (propM 0 (F_Check_width n) (varM 1)))) (retM (opM (eqD false) (callM (F_chance n) (valA (varM 1) (valA (varM 3) (valA (cM (.int 1)) (valA (cM (.int 2)) nilA))))) (tupM (consM (cM (.int 0)) (consM (cM (.int 1)) nilM))))) nxM)
 (retM (opM (eqD false) (callM (F_chance n) (valA (varM 1) (valA (varM 3) (valA (cM (.int 1)) (valA (cM (.int 2)) nilA))))) (callM (F__law_lowest n) (valA (opM subD (opM shlD (cM (.int 1)) (opM subD (varM 3) (propM 0 (F_Check_width n) (varM 1)))) (cM (.int 1))) (valA (opM shlD (cM (.int 1)) (varM 3)) nilA)))))))))))
def F__law_great_right (n : Nat) : MF := defF 4 7 (m__law_great_right n)
def m_law (n : Nat) : MS :=
 (seqM (forM (rng1I (consM (cM (.int 2)) nilM)) (nameG 1) (seqM (owM 2 (callF (F__law_generator n) (consM (varM 0) (consM (varM 1) nilM))))
 (seqM (asM (nameG 3) (opM addD (cM (.int 1)) (callM (F__law_random n) (sloA 2 (valA (cM (.int 4)) nilA)))))
 (seqM (asM (nameG 4) (callM (F__law_drawn n) (sloA 2 (valA (varM 3) nilA))))
 (seqM (ifS (notM (truM (callM (F__law_small_right n) (sloA 2 (valA (makeM 0 (F_Check___init__ n) (consM (varM 3) (consM (varM 4) nilM))) (valA (opM addD (opM shlD (cM (.int 1)) (varM 3)) (varM 4)) (valA (callM (F__law_random n) (sloA 2 (valA (cM (.int 9)) nilA))) nilA))))))) (retM (cM (.bl false))) nxM)
 (seqM (asM (nameG 3) (opM addD (cM (.int 1)) (callM (F__law_random n) (sloA 2 (valA (cM (.int 8)) nilA)))))
 (seqM (asM (nameG 4) (callM (F__law_drawn n) (sloA 2 (valA (varM 3) nilA))))
 (ifS (notM (truM (callM (F__law_great_right n) (sloA 2 (valA (makeM 0 (F_Check___init__ n) (consM (varM 3) (consM (varM 4) nilM))) (valA (opM addD (opM shlD (cM (.int 1)) (varM 3)) (varM 4)) (valA (callM (F__law_random n) (sloA 2 (valA (cM (.int 41)) nilA))) nilA))))))) (retM (cM (.bl false))) nxM))))))))
 (seqM (asM (nameG 5) (makeM 0 (F_Check___init__ n) (consM (cM (.int 3)) (consM (cM (.int 3)) nilM))))
 (seqM (ifS (tstM (opM (eqD true) (frM (compF (rng1I (consM (cM (.int 9)) nilM)) [6] (nameG 6) yesT (callM (F_how_many_unseen n) (valA (varM 5) (valA (cM (.int 7)) (valA (varM 6) nilA)))))) (frM (lstF (consM (cM (.int 1)) (consM (cM (.int 0)) (consM (cM (.int 0)) (consM (cM (.int 7)) (consM (cM (.int 7)) (consM (cM (.int 0)) (consM (cM (.int 0)) (consM (cM (.int 1)) (consM (cM (.int 0)) nilM))))))))))))) (retM (cM (.bl false))) nxM)
 (retM (andV (opM (eqD false) (callM (F_chance n) (valA (varM 5) (valA (cM (.int 7)) (valA (cM (.int 1)) (valA (cM (.int 2)) nilA))))) (tupM (consM (cM (.int 15)) (consM (cM (.int 128)) nilM)))) (andV (opM (eqD false) (callM (F_chance n) (valA (varM 5) (valA (cM (.int 0)) (valA (cM (.int 1)) (valA (cM (.int 2)) nilA))))) (tupM (consM (cM (.int 0)) (consM (cM (.int 1)) nilM)))) (opM (eqD false) (callM (F_chance n) (valA (varM 5) (valA (cM (.int 7)) (valA (cM (.int 3)) (valA (cM (.int 3)) nilA))))) (tupM (consM (cM (.int 1)) (consM (cM (.int 1)) nilM))))))))))
def F_law (n : Nat) : MF := defF 1 7 (m_law n)
end N66
set_option Elab.async false
set_option linter.all false
set_option maxRecDepth 100000
set_option maxHeartbeats 4000000
namespace N66
open PySem PySem.Spec PyProof.Rows L2 Evl WS Mir

def topS (i : Nat) : Stmt := PySem.Challenge.pw_wholesound_k66_whole_counts_of_the_unsee.main.body.getD i (.Pass ⟨0, 0, 0, 0⟩)
abbrev s_is_number : Stmt := topS 6
theorem sc_is_number : FnScope ["value"] ["value"] (defScope s_is_number) := ⟨rfl, rfl, rfl, by decide +kernel, rfl, by decide +kernel, by decide +kernel⟩
abbrev s_is_within : Stmt := topS 7
theorem sc_is_within : FnScope ["value", "low", "high"] ["value", "low", "high"] (defScope s_is_within) := ⟨rfl, rfl, rfl, by decide +kernel, rfl, by decide +kernel, by decide +kernel⟩
abbrev s_check_within : Stmt := topS 8
theorem sc_check_within : FnScope ["number", "low", "high"] ["number", "low", "high"] (defScope s_check_within) := ⟨rfl, rfl, rfl, by decide +kernel, rfl, by decide +kernel, by decide +kernel⟩
abbrev s_bits_of : Stmt := topS 10
theorem sc_bits_of : FnScope ["number", "many", "at"] ["number", "many"] (defScope s_bits_of) := ⟨rfl, rfl, rfl, by decide +kernel, rfl, by decide +kernel, by decide +kernel⟩
abbrev s_Check___init__ : Stmt := inClass (topS 14) 0
theorem sc_Check___init__ : FnScope ["self", "width", "low"] ["self", "width", "low"] (defScope s_Check___init__) := ⟨rfl, rfl, rfl, by decide +kernel, rfl, by decide +kernel, by decide +kernel⟩
abbrev s_Check_width : Stmt := inClass (topS 14) 1
theorem sc_Check_width : FnScope ["self"] ["self"] (defScope s_Check_width) := ⟨rfl, rfl, rfl, by decide +kernel, rfl, by decide +kernel, by decide +kernel⟩
abbrev s_Check_low : Stmt := inClass (topS 14) 2
theorem sc_Check_low : FnScope ["self"] ["self"] (defScope s_Check_low) := ⟨rfl, rfl, rfl, by decide +kernel, rfl, by decide +kernel, by decide +kernel⟩
abbrev s_Check_bits : Stmt := inClass (topS 14) 3
theorem sc_Check_bits : FnScope ["self"] ["self"] (defScope s_Check_bits) := ⟨rfl, rfl, rfl, by decide +kernel, rfl, by decide +kernel, by decide +kernel⟩
abbrev s_Check___eq__ : Stmt := inClass (topS 14) 4
theorem sc_Check___eq__ : FnScope ["self", "other"] ["self", "other"] (defScope s_Check___eq__) := ⟨rfl, rfl, rfl, by decide +kernel, rfl, by decide +kernel, by decide +kernel⟩
abbrev s_check_check : Stmt := topS 15
theorem sc_check_check : FnScope ["check"] ["check"] (defScope s_check_check) := ⟨rfl, rfl, rfl, by decide +kernel, rfl, by decide +kernel, by decide +kernel⟩
abbrev s_sum_of : Stmt := topS 16
theorem sc_sum_of : FnScope ["check"] ["check"] (defScope s_sum_of) := ⟨rfl, rfl, rfl, by decide +kernel, rfl, by decide +kernel, by decide +kernel⟩
abbrev s_risen : Stmt := topS 17
theorem sc_risen : FnScope ["number", "check", "many", "whole", "width", "_"] ["number", "check", "many"] (defScope s_risen) := ⟨rfl, rfl, rfl, by decide +kernel, rfl, by decide +kernel, by decide +kernel⟩
abbrev s_order_of : Stmt := topS 18
theorem sc_order_of : FnScope ["check", "number", "many", "whole", "width"] ["check"] (defScope s_order_of) := ⟨rfl, rfl, rfl, by decide +kernel, rfl, by decide +kernel, by decide +kernel⟩
abbrev s_order : Stmt := topS 19
theorem sc_order : FnScope ["check"] ["check"] (defScope s_order) := ⟨rfl, rfl, rfl, by decide +kernel, rfl, by decide +kernel, by decide +kernel⟩
abbrev s_first_powers : Stmt := topS 20
theorem sc_first_powers : FnScope ["check", "many", "found", "number", "whole", "width", "_"] ["check", "many"] (defScope s_first_powers) := ⟨rfl, rfl, rfl, by decide +kernel, rfl, by decide +kernel, by decide +kernel⟩
abbrev s_all_odd : Stmt := topS 21
theorem sc_all_odd : FnScope ["check"] ["check"] (defScope s_all_odd) := ⟨rfl, rfl, rfl, by decide +kernel, rfl, by decide +kernel, by decide +kernel⟩
abbrev s_fraction : Stmt := topS 23
theorem sc_fraction : FnScope ["top", "under", "shared"] ["top", "under"] (defScope s_fraction) := ⟨rfl, rfl, rfl, by decide +kernel, rfl, by decide +kernel, by decide +kernel⟩
abbrev s_check_narrow : Stmt := topS 29
theorem sc_check_narrow : FnScope ["check"] ["check"] (defScope s_check_narrow) := ⟨rfl, rfl, rfl, by decide +kernel, rfl, by decide +kernel, by decide +kernel⟩
abbrev s_places_by_rest : Stmt := topS 30
theorem sc_places_by_rest : FnScope ["check", "many", "order", "counts", "place", "number"] ["check", "many"] (defScope s_places_by_rest) := ⟨rfl, rfl, rfl, by decide +kernel, rfl, by decide +kernel, by decide +kernel⟩
abbrev s_odd_places : Stmt := topS 31
theorem sc_odd_places : FnScope ["check", "many", "sums", "bit", "worth", "at", "total"] ["check", "many"] (defScope s_odd_places) := ⟨rfl, rfl, rfl, by decide +kernel, rfl, by decide +kernel, by decide +kernel⟩
abbrev s_signed_choices : Stmt := topS 32
theorem sc_signed_choices : FnScope ["odd", "even", "few", "total", "taken", "lists"] ["odd", "even", "few"] (defScope s_signed_choices) := ⟨rfl, rfl, rfl, by decide +kernel, rfl, by decide +kernel, by decide +kernel⟩
abbrev s_how_many_unseen : Stmt := topS 33
theorem sc_how_many_unseen : FnScope ["check", "many", "few", "odd"] ["check", "many", "few"] (defScope s_how_many_unseen) := ⟨rfl, rfl, rfl, by decide +kernel, rfl, by decide +kernel, by decide +kernel⟩
abbrev s_first_products : Stmt := topS 34
theorem sc_first_products : FnScope ["number", "most", "found", "_"] ["number", "most"] (defScope s_first_products) := ⟨rfl, rfl, rfl, by decide +kernel, rfl, by decide +kernel, by decide +kernel⟩
abbrev s_chance : Stmt := topS 35
theorem sc_chance : FnScope ["check", "many", "top", "under", "turned", "kept", "unseen", "none", "odd"] ["check", "many", "top", "under"] (defScope s_chance) := ⟨rfl, rfl, rfl, by decide +kernel, rfl, by decide +kernel, by decide +kernel⟩
abbrev s__law_hash : Stmt := topS 37
theorem sc__law_hash : FnScope ["_law_seed", "_law_index", "_law_mixed"] ["_law_seed", "_law_index"] (defScope s__law_hash) := ⟨rfl, rfl, rfl, by decide +kernel, rfl, by decide +kernel, by decide +kernel⟩
abbrev s__law_random : Stmt := topS 38
theorem sc__law_random : FnScope ["_law_generator_here", "_law_bound", "_law_drawn_here", "_law_turn"] ["_law_generator_here", "_law_bound"] (defScope s__law_random) := ⟨rfl, rfl, rfl, by decide +kernel, rfl, by decide +kernel, by decide +kernel⟩
abbrev s__law_cell : Stmt := topS 39
theorem sc__law_cell : FnScope ["_law_script", "_law_index"] ["_law_script", "_law_index"] (defScope s__law_cell) := ⟨rfl, rfl, rfl, by decide +kernel, rfl, by decide +kernel, by decide +kernel⟩
abbrev s__law_generator : Stmt := topS 40
theorem sc__law_generator : FnScope ["_law_script", "_law_index", "_law_seed"] ["_law_script", "_law_index"] (defScope s__law_generator) := ⟨rfl, rfl, rfl, by decide +kernel, rfl, by decide +kernel, by decide +kernel⟩
abbrev s__law_rest : Stmt := topS 41
theorem sc__law_rest : FnScope ["_law_whole", "_law_number", "_law_left"] ["_law_whole", "_law_number"] (defScope s__law_rest) := ⟨rfl, rfl, rfl, by decide +kernel, rfl, by decide +kernel, by decide +kernel⟩
abbrev s__law_drawn : Stmt := topS 42
theorem sc__law_drawn : FnScope ["_law_generator_here", "_law_width"] ["_law_generator_here", "_law_width"] (defScope s__law_drawn) := ⟨rfl, rfl, rfl, by decide +kernel, rfl, by decide +kernel, by decide +kernel⟩
abbrev s__law_places : Stmt := topS 43
theorem sc__law_places : FnScope ["_law_number", "_law_place"] ["_law_number"] (defScope s__law_places) := ⟨rfl, rfl, rfl, by decide +kernel, rfl, by decide +kernel, by decide +kernel⟩
abbrev s__law_lowest : Stmt := topS 44
theorem sc__law_lowest : FnScope ["_law_top", "_law_under", "_law_one", "_law_other"] ["_law_top", "_law_under"] (defScope s__law_lowest) := ⟨rfl, rfl, rfl, by decide +kernel, rfl, by decide +kernel, by decide +kernel⟩
abbrev s__law_raised : Stmt := topS 45
theorem sc__law_raised : FnScope ["_law_base", "_law_many", "_law_found", "_law_turn"] ["_law_base", "_law_many"] (defScope s__law_raised) := ⟨rfl, rfl, rfl, by decide +kernel, rfl, by decide +kernel, by decide +kernel⟩
abbrev s__law_small_right : Stmt := topS 46
theorem sc__law_small_right : FnScope ["_law_generator_here", "_law_check", "_law_whole", "_law_many", "_law_counts", "_law_number", "_law_size", "_law_under", "_law_top", "_law_total", "_law_few"] ["_law_generator_here", "_law_check", "_law_whole", "_law_many"] (defScope s__law_small_right) := ⟨rfl, rfl, rfl, by decide +kernel, rfl, by decide +kernel, by decide +kernel⟩
abbrev s__law_threes : Stmt := topS 47
theorem sc__law_threes : FnScope ["_law_whole", "_law_many", "_law_spots", "_law_powers", "_law_found", "_law_place", "_law_one", "_law_other", "_law_last"] ["_law_whole", "_law_many"] (defScope s__law_threes) := ⟨rfl, rfl, rfl, by decide +kernel, rfl, by decide +kernel, by decide +kernel⟩
abbrev s__law_pairs : Stmt := topS 48
theorem sc__law_pairs : FnScope ["_law_many", "_law_step", "_law_whole", "_law_more"] ["_law_many", "_law_step"] (defScope s__law_pairs) := ⟨rfl, rfl, rfl, by decide +kernel, rfl, by decide +kernel, by decide +kernel⟩
abbrev s__law_great_right : Stmt := topS 49
theorem sc__law_great_right : FnScope ["_law_generator_here", "_law_check", "_law_whole", "_law_many", "_law_far", "_law_told", "_law_few"] ["_law_generator_here", "_law_check", "_law_whole", "_law_many"] (defScope s__law_great_right) := ⟨rfl, rfl, rfl, by decide +kernel, rfl, by decide +kernel, by decide +kernel⟩
abbrev s_law : Stmt := topS 50
theorem sc_law : FnScope ["_law_script", "_law_index", "_law_generator_here", "_law_width", "_law_low", "_law_three", "_law_few"] ["_law_script"] (defScope s_law) := ⟨rfl, rfl, rfl, by decide +kernel, rfl, by decide +kernel, by decide +kernel⟩
abbrev s_InvalidNumber___init__ : Stmt := inClass (topS 3) 0
theorem sc_InvalidNumber___init__ : FnScope ["self", "value"] ["self", "value"] (defScope s_InvalidNumber___init__) := ⟨rfl, rfl, rfl, by decide +kernel, rfl, by decide +kernel, by decide +kernel⟩
abbrev s_InvalidCheck___init__ : Stmt := inClass (topS 4) 0
theorem sc_InvalidCheck___init__ : FnScope ["self", "value"] ["self", "value"] (defScope s_InvalidCheck___init__) := ⟨rfl, rfl, rfl, by decide +kernel, rfl, by decide +kernel, by decide +kernel⟩
structure Tx (K : PySem.W.Frag) (mg : Str → Option Value) where
  C_Check : Addr
  cl_Check : Cls K C_Check
  gC_Check : mg "Check" = some (.ref C_Check)
  is_Check : PySem.W.findIn K (.ref C_Check) "__class__" = some (some (.builtin "object.__class__")) ∧ PySem.W.specialIn K (.builtin "object.__class__") "__get__" = some (some (.builtin "getset_descriptor.__get__")) ∧ PySem.W.takesIn K (.builtin "object.__class__") = some true ∧ PySem.W.mroIn K C_Check (.type "object") = some true
  n_Check__width : NoAttr K C_Check "_width"
  n_Check__low : NoAttr K C_Check "_low"
  ne_Check : PySem.W.findIn K (.ref C_Check) "__ne__" = some (some (.builtin "object.__ne__"))
  ty_Check : PySem.W.typeIn K (.ref C_Check) = some (.type "type")
  a_is_number : Addr
  d_is_number : FuncData
  f_is_number : Fun K "is_number" "is_number" s_is_number a_is_number d_is_number
  b_is_number : Binds K d_is_number ["value"] []
  g_is_number : mg "is_number" = some (.ref a_is_number)
  a_is_within : Addr
  d_is_within : FuncData
  f_is_within : Fun K "is_within" "is_within" s_is_within a_is_within d_is_within
  b_is_within : Binds K d_is_within ["value", "low", "high"] []
  g_is_within : mg "is_within" = some (.ref a_is_within)
  a_check_within : Addr
  d_check_within : FuncData
  f_check_within : Fun K "check_within" "check_within" s_check_within a_check_within d_check_within
  b_check_within : Binds K d_check_within ["number", "low", "high"] []
  g_check_within : mg "check_within" = some (.ref a_check_within)
  a_bits_of : Addr
  d_bits_of : FuncData
  f_bits_of : Fun K "bits_of" "bits_of" s_bits_of a_bits_of d_bits_of
  b_bits_of : Binds K d_bits_of ["number", "many"] []
  g_bits_of : mg "bits_of" = some (.ref a_bits_of)
  a_Check___init__ : Addr
  d_Check___init__ : FuncData
  f_Check___init__ : Fun K "__init__" "Check.__init__" s_Check___init__ a_Check___init__ d_Check___init__
  b_Check___init__ : Binds K d_Check___init__ ["self", "width", "low"] []
  mk_Check : Mk K C_Check a_Check___init__
  a_Check_width : Addr
  d_Check_width : FuncData
  f_Check_width : Fun K "width" "Check.width" s_Check_width a_Check_width d_Check_width
  b_Check_width : Binds K d_Check_width ["self"] []
  p_Check_width : Addr
  pr_Check_width : PropOf K C_Check "width" p_Check_width a_Check_width
  a_Check_low : Addr
  d_Check_low : FuncData
  f_Check_low : Fun K "low" "Check.low" s_Check_low a_Check_low d_Check_low
  b_Check_low : Binds K d_Check_low ["self"] []
  p_Check_low : Addr
  pr_Check_low : PropOf K C_Check "low" p_Check_low a_Check_low
  a_Check_bits : Addr
  d_Check_bits : FuncData
  f_Check_bits : Fun K "bits" "Check.bits" s_Check_bits a_Check_bits d_Check_bits
  b_Check_bits : Binds K d_Check_bits ["self"] []
  me_Check_bits : Meth K C_Check "bits" a_Check_bits
  a_Check___eq__ : Addr
  d_Check___eq__ : FuncData
  f_Check___eq__ : Fun K "__eq__" "Check.__eq__" s_Check___eq__ a_Check___eq__ d_Check___eq__
  b_Check___eq__ : Binds K d_Check___eq__ ["self", "other"] []
  q_Check : PySem.W.findIn K (.ref C_Check) "__eq__" = some (some (.ref a_Check___eq__)) ∧ PySem.W.isFn K (.ref a_Check___eq__) = true
  a_check_check : Addr
  d_check_check : FuncData
  f_check_check : Fun K "check_check" "check_check" s_check_check a_check_check d_check_check
  b_check_check : Binds K d_check_check ["check"] []
  g_check_check : mg "check_check" = some (.ref a_check_check)
  a_sum_of : Addr
  d_sum_of : FuncData
  f_sum_of : Fun K "sum_of" "sum_of" s_sum_of a_sum_of d_sum_of
  b_sum_of : Binds K d_sum_of ["check"] []
  g_sum_of : mg "sum_of" = some (.ref a_sum_of)
  a_risen : Addr
  d_risen : FuncData
  f_risen : Fun K "risen" "risen" s_risen a_risen d_risen
  b_risen : Binds K d_risen ["number", "check", "many"] []
  g_risen : mg "risen" = some (.ref a_risen)
  a_order_of : Addr
  d_order_of : FuncData
  f_order_of : Fun K "order_of" "order_of" s_order_of a_order_of d_order_of
  b_order_of : Binds K d_order_of ["check"] []
  g_order_of : mg "order_of" = some (.ref a_order_of)
  a_order : Addr
  d_order : FuncData
  f_order : Fun K "order" "order" s_order a_order d_order
  b_order : Binds K d_order ["check"] []
  g_order : mg "order" = some (.ref a_order)
  a_first_powers : Addr
  d_first_powers : FuncData
  f_first_powers : Fun K "first_powers" "first_powers" s_first_powers a_first_powers d_first_powers
  b_first_powers : Binds K d_first_powers ["check", "many"] []
  g_first_powers : mg "first_powers" = some (.ref a_first_powers)
  a_all_odd : Addr
  d_all_odd : FuncData
  f_all_odd : Fun K "all_odd" "all_odd" s_all_odd a_all_odd d_all_odd
  b_all_odd : Binds K d_all_odd ["check"] []
  g_all_odd : mg "all_odd" = some (.ref a_all_odd)
  a_fraction : Addr
  d_fraction : FuncData
  f_fraction : Fun K "fraction" "fraction" s_fraction a_fraction d_fraction
  b_fraction : Binds K d_fraction ["top", "under"] []
  g_fraction : mg "fraction" = some (.ref a_fraction)
  a_check_narrow : Addr
  d_check_narrow : FuncData
  f_check_narrow : Fun K "check_narrow" "check_narrow" s_check_narrow a_check_narrow d_check_narrow
  b_check_narrow : Binds K d_check_narrow ["check"] []
  g_check_narrow : mg "check_narrow" = some (.ref a_check_narrow)
  a_places_by_rest : Addr
  d_places_by_rest : FuncData
  f_places_by_rest : Fun K "places_by_rest" "places_by_rest" s_places_by_rest a_places_by_rest d_places_by_rest
  b_places_by_rest : Binds K d_places_by_rest ["check", "many"] []
  g_places_by_rest : mg "places_by_rest" = some (.ref a_places_by_rest)
  a_odd_places : Addr
  d_odd_places : FuncData
  f_odd_places : Fun K "odd_places" "odd_places" s_odd_places a_odd_places d_odd_places
  b_odd_places : Binds K d_odd_places ["check", "many"] []
  g_odd_places : mg "odd_places" = some (.ref a_odd_places)
  a_signed_choices : Addr
  d_signed_choices : FuncData
  f_signed_choices : Fun K "signed_choices" "signed_choices" s_signed_choices a_signed_choices d_signed_choices
  b_signed_choices : Binds K d_signed_choices ["odd", "even", "few"] []
  g_signed_choices : mg "signed_choices" = some (.ref a_signed_choices)
  a_how_many_unseen : Addr
  d_how_many_unseen : FuncData
  f_how_many_unseen : Fun K "how_many_unseen" "how_many_unseen" s_how_many_unseen a_how_many_unseen d_how_many_unseen
  b_how_many_unseen : Binds K d_how_many_unseen ["check", "many", "few"] []
  g_how_many_unseen : mg "how_many_unseen" = some (.ref a_how_many_unseen)
  a_first_products : Addr
  d_first_products : FuncData
  f_first_products : Fun K "first_products" "first_products" s_first_products a_first_products d_first_products
  b_first_products : Binds K d_first_products ["number", "most"] []
  g_first_products : mg "first_products" = some (.ref a_first_products)
  a_chance : Addr
  d_chance : FuncData
  f_chance : Fun K "chance" "chance" s_chance a_chance d_chance
  b_chance : Binds K d_chance ["check", "many", "top", "under"] []
  g_chance : mg "chance" = some (.ref a_chance)
  a__law_hash : Addr
  d__law_hash : FuncData
  f__law_hash : Fun K "_law_hash" "_law_hash" s__law_hash a__law_hash d__law_hash
  b__law_hash : Binds K d__law_hash ["_law_seed", "_law_index"] []
  g__law_hash : mg "_law_hash" = some (.ref a__law_hash)
  a__law_random : Addr
  d__law_random : FuncData
  f__law_random : Fun K "_law_random" "_law_random" s__law_random a__law_random d__law_random
  b__law_random : Binds K d__law_random ["_law_generator_here", "_law_bound"] []
  g__law_random : mg "_law_random" = some (.ref a__law_random)
  a__law_cell : Addr
  d__law_cell : FuncData
  f__law_cell : Fun K "_law_cell" "_law_cell" s__law_cell a__law_cell d__law_cell
  b__law_cell : Binds K d__law_cell ["_law_script", "_law_index"] []
  g__law_cell : mg "_law_cell" = some (.ref a__law_cell)
  a__law_generator : Addr
  d__law_generator : FuncData
  f__law_generator : Fun K "_law_generator" "_law_generator" s__law_generator a__law_generator d__law_generator
  b__law_generator : Binds K d__law_generator ["_law_script", "_law_index"] []
  g__law_generator : mg "_law_generator" = some (.ref a__law_generator)
  a__law_rest : Addr
  d__law_rest : FuncData
  f__law_rest : Fun K "_law_rest" "_law_rest" s__law_rest a__law_rest d__law_rest
  b__law_rest : Binds K d__law_rest ["_law_whole", "_law_number"] []
  g__law_rest : mg "_law_rest" = some (.ref a__law_rest)
  a__law_drawn : Addr
  d__law_drawn : FuncData
  f__law_drawn : Fun K "_law_drawn" "_law_drawn" s__law_drawn a__law_drawn d__law_drawn
  b__law_drawn : Binds K d__law_drawn ["_law_generator_here", "_law_width"] []
  g__law_drawn : mg "_law_drawn" = some (.ref a__law_drawn)
  a__law_places : Addr
  d__law_places : FuncData
  f__law_places : Fun K "_law_places" "_law_places" s__law_places a__law_places d__law_places
  b__law_places : Binds K d__law_places ["_law_number"] []
  g__law_places : mg "_law_places" = some (.ref a__law_places)
  a__law_lowest : Addr
  d__law_lowest : FuncData
  f__law_lowest : Fun K "_law_lowest" "_law_lowest" s__law_lowest a__law_lowest d__law_lowest
  b__law_lowest : Binds K d__law_lowest ["_law_top", "_law_under"] []
  g__law_lowest : mg "_law_lowest" = some (.ref a__law_lowest)
  a__law_raised : Addr
  d__law_raised : FuncData
  f__law_raised : Fun K "_law_raised" "_law_raised" s__law_raised a__law_raised d__law_raised
  b__law_raised : Binds K d__law_raised ["_law_base", "_law_many"] []
  g__law_raised : mg "_law_raised" = some (.ref a__law_raised)
  a__law_small_right : Addr
  d__law_small_right : FuncData
  f__law_small_right : Fun K "_law_small_right" "_law_small_right" s__law_small_right a__law_small_right d__law_small_right
  b__law_small_right : Binds K d__law_small_right ["_law_generator_here", "_law_check", "_law_whole", "_law_many"] []
  g__law_small_right : mg "_law_small_right" = some (.ref a__law_small_right)
  a__law_threes : Addr
  d__law_threes : FuncData
  f__law_threes : Fun K "_law_threes" "_law_threes" s__law_threes a__law_threes d__law_threes
  b__law_threes : Binds K d__law_threes ["_law_whole", "_law_many"] []
  g__law_threes : mg "_law_threes" = some (.ref a__law_threes)
  a__law_pairs : Addr
  d__law_pairs : FuncData
  f__law_pairs : Fun K "_law_pairs" "_law_pairs" s__law_pairs a__law_pairs d__law_pairs
  b__law_pairs : Binds K d__law_pairs ["_law_many", "_law_step"] []
  g__law_pairs : mg "_law_pairs" = some (.ref a__law_pairs)
  a__law_great_right : Addr
  d__law_great_right : FuncData
  f__law_great_right : Fun K "_law_great_right" "_law_great_right" s__law_great_right a__law_great_right d__law_great_right
  b__law_great_right : Binds K d__law_great_right ["_law_generator_here", "_law_check", "_law_whole", "_law_many"] []
  g__law_great_right : mg "_law_great_right" = some (.ref a__law_great_right)
  a_law : Addr
  d_law : FuncData
  f_law : Fun K "law" "law" s_law a_law d_law
  b_law : Binds K d_law ["_law_script"] []
  g_law : mg "law" = some (.ref a_law)
  t_GREATEST_WIDTH : Tok
  c_GREATEST_WIDTH : mg "GREATEST_WIDTH" = some (.int 16 t_GREATEST_WIDTH)
  t_GREATEST_PLACE : Tok
  c_GREATEST_PLACE : mg "GREATEST_PLACE" = some (.int 1000000000000000000 t_GREATEST_PLACE)
  t_GREATEST_COUNTED : Tok
  c_GREATEST_COUNTED : mg "GREATEST_COUNTED" = some (.int 10 t_GREATEST_COUNTED)
  t_MOST_FEW : Tok
  c_MOST_FEW : mg "MOST_FEW" = some (.int 8 t_MOST_FEW)
  t_MOST_CHANCES : Tok
  c_MOST_CHANCES : mg "MOST_CHANCES" = some (.int 60 t_MOST_CHANCES)
  t_GREATEST_CHANCE : Tok
  c_GREATEST_CHANCE : mg "GREATEST_CHANCE" = some (.int 1000 t_GREATEST_CHANCE)
  m_abs : mg "abs" = none
  m_bool : mg "bool" = none
  m_enumerate : mg "enumerate" = none
  m_int : mg "int" = none
  m_isinstance : mg "isinstance" = none
  m_len : mg "len" = none
  m_max : mg "max" = none
  m_range : mg "range" = none
  m_reversed : mg "reversed" = none
  m_sum : mg "sum" = none
  mt_comb : mg "comb" = some (.builtin "math.comb")
  mt_gcd : mg "gcd" = some (.builtin "math.gcd")
  X_SoundError : Addr
  gX_SoundError : mg "SoundError" = some (.ref X_SoundError)
  hdX_SoundError : PySem.W.hasDictIn K X_SoundError = true
  tyX_SoundError : PySem.W.typeIn K (.ref X_SoundError) = some (.type "type")
  bsX_SoundError : PySem.W.subIn K (.ref X_SoundError) (.type "BaseException") = some true
  X_InvalidNumber : Addr
  gX_InvalidNumber : mg "InvalidNumber" = some (.ref X_InvalidNumber)
  hdX_InvalidNumber : PySem.W.hasDictIn K X_InvalidNumber = true
  tyX_InvalidNumber : PySem.W.typeIn K (.ref X_InvalidNumber) = some (.type "type")
  bsX_InvalidNumber : PySem.W.subIn K (.ref X_InvalidNumber) (.type "BaseException") = some true
  X_InvalidCheck : Addr
  gX_InvalidCheck : mg "InvalidCheck" = some (.ref X_InvalidCheck)
  hdX_InvalidCheck : PySem.W.hasDictIn K X_InvalidCheck = true
  tyX_InvalidCheck : PySem.W.typeIn K (.ref X_InvalidCheck) = some (.type "type")
  bsX_InvalidCheck : PySem.W.subIn K (.ref X_InvalidCheck) (.type "BaseException") = some true
  ai_InvalidNumber : Addr
  di_InvalidNumber : FuncData
  fa_InvalidNumber : FunA K "__init__" "InvalidNumber.__init__" s_InvalidNumber___init__ ai_InvalidNumber di_InvalidNumber
  er_InvalidNumber : ErrT K mg "InvalidNumber" X_InvalidNumber ai_InvalidNumber di_InvalidNumber
  ai_InvalidCheck : Addr
  di_InvalidCheck : FuncData
  fa_InvalidCheck : FunA K "__init__" "InvalidCheck.__init__" s_InvalidCheck___init__ ai_InvalidCheck di_InvalidCheck
  er_InvalidCheck : ErrT K mg "InvalidCheck" X_InvalidCheck ai_InvalidCheck di_InvalidCheck
def cmT {K : PySem.W.Frag} {mg : Str → Option Value} (T : Tx K mg) : CM := fun k => match k with | 0 => T.C_Check | 100 => T.X_SoundError | 101 => T.X_InvalidNumber | 102 => T.X_InvalidCheck  | _ => 0
theorem clok_Check {K : PySem.W.Frag} {mg : Str → Option Value} (T : Tx K mg) : ClsOk K (cmT T 0) := ⟨T.cl_Check, T.is_Check.1, T.is_Check.2.1, T.is_Check.2.2.1, T.is_Check.2.2.2⟩
theorem eok {K : PySem.W.Frag} {mg : Str → Option Value} (T : Tx K mg) : ∀ c, errCs.contains c = true → ErrOk K (cmT T c) := fun c h => by
  have h : c = 101 ∨ c = 102 := by simpa [errCs] using h
  rcases h with rfl | rfl
  · exact T.er_InvalidNumber.ok
  · exact T.er_InvalidCheck.ok

end N66
set_option Elab.async false
set_option linter.all false
set_option maxRecDepth 100000
set_option maxHeartbeats 4000000
namespace N66
open PySem PySem.Spec PyProof.Rows L2 Evl WS Mir

section
variable {P : Program} {w : World} {K : PySem.W.Frag} {mg : Str → Option Value} {base : Heap}
theorem ok_InvalidNumber (T : Tx K mg) : FnOk P w K mg base CX0 1 T.ai_InvalidNumber T.di_InvalidNumber ["self", "value"] (spI K T.X_InvalidNumber) := by
  refine T.fa_InvalidNumber.okE (k := 0) sc_InvalidNumber___init__ (fun vs H Q E h => spI_len h) (fun cdv A outer s H vs Q E hr h => ⟨_, pss_one (ps_ost (pv 0) (pv 1)), ?_⟩)
  exact err_run T.er_InvalidNumber.ok h
theorem ok_InvalidCheck (T : Tx K mg) : FnOk P w K mg base CX0 1 T.ai_InvalidCheck T.di_InvalidCheck ["self", "value"] (spI K T.X_InvalidCheck) := by
  refine T.fa_InvalidCheck.okE (k := 0) sc_InvalidCheck___init__ (fun vs H Q E h => spI_len h) (fun cdv A outer s H vs Q E hr h => ⟨_, pss_one (ps_ost (pv 0) (pv 1)), ?_⟩)
  exact err_run T.er_InvalidCheck.ok h
theorem ok_is_number (T : Tx K mg) (n : Nat) : FnOk P w K mg base CX0 1 T.a_is_number T.d_is_number ["value"] (spD K (cmT T) 1 (F_is_number n)) := by
  refine T.f_is_number.ok (k := 0) sc_is_number (fun vs H Q E h => spD_len h) (fun cdv A outer s H vs Q E hr h => ⟨_, (pss_one (ps_ret (pe_and (pe_callB (id := "isinstance") (r := rIsi K) call_isi (by rfl) T.m_isinstance (by decide +kernel) (pa_cons (pv 0) (pa_cons (pe_bltn (by rfl) T.m_int (v := .ty "int") (by decide +kernel) rfl) pa_nil))) (pe_one (pe_not (pe_callB (id := "isinstance") (r := rIsi K) call_isi (by rfl) T.m_isinstance (by decide +kernel) (pa_cons (pv 0) (pa_cons (pe_bltn (by rfl) T.m_bool (v := .ty "bool") (by decide +kernel) rfl) pa_nil)))))))), ?_⟩)
  exact def_run (Ns := ["value"]) (ms := m_is_number n) (ds_ret (de_andV (de_isiT (n := "int") (de_var (i := 0))) (de_notV (de_isiT (n := "bool") (de_var (i := 0)))))) h
theorem ok_bits_of (T : Tx K mg) (n : Nat) : FnOk P w K mg base CX0 1 T.a_bits_of T.d_bits_of ["number", "many"] (spD K (cmT T) 2 (F_bits_of n)) := by
  refine T.f_bits_of.ok (k := 0) sc_bits_of (fun vs H Q E h => spD_len h) (fun cdv A outer s H vs Q E hr h => ⟨_, (pss_one (ps_ret (pe_m1 (r := rJoin K) F.slot_str_join F.type_str_join mt_join pe_str (pe_lc (own := [("at", 2)]) (g := gName 2) (tt := tYes) rfl sc_bits_of.nd (pi_revR (by rfl) T.m_reversed (prg_1 (by rfl) T.m_range (pv 1))) (blkOk_by (own := [("at", 2)]) (N := ["number", "many", "at"]) (sc := defScope s_bits_of) (by decide +kernel)) (fun _ _ _ _ _ => (pg_name (i := 2) sc_bits_of.nd rfl (by first | exact Or.inl rfl | exact Or.inr rfl))) (fun _ _ _ _ _ => pts_nil) (fun _ _ _ _ _ => (pe_ifExp (pt_truthK (K := K) rfl (pe_op op_and (pe_op (r := rI CNn fun i j => .int (i / 2 ^ j.toNat)) op_shr (pv 0) (pv 2)) pe_int) (by intro _; rfl)) pe_str pe_str)))))), ?_⟩)
  exact def_run (Ns := ["number", "many", "at"]) (ms := m_bits_of n) (ds_ret (de_join (de_c fun _ => .str _) (de_fr (df_comp (vs := [2]) (dit_revR1 (de_var (i := 1))) (dg_name (i := 2)) (by decide) dt_yes (de_if (dt_tru (de_op rd_i0 (de_op rd_iC (de_var (i := 0)) (de_var (i := 2))) (de_c fun _ => .int _))) (de_c fun _ => .str _) (de_c fun _ => .str _)))))) h
theorem ok_Check_width (T : Tx K mg) (n : Nat) : FnOk P w K mg base CX0 1 T.a_Check_width T.d_Check_width ["self"] (spD K (cmT T) 1 (F_Check_width n)) := by
  refine T.f_Check_width.ok (k := 0) sc_Check_width (fun vs H Q E h => spD_len h) (fun cdv A outer s H vs Q E hr h => ⟨_, (pss_one (ps_ret (pe_fld (pv 0) rfl))), ?_⟩)
  exact def_run (Ns := ["self"]) (ms := m_Check_width n) (ds_ret (de_fld (cs := [0]) (mcls_cons (cm := cmT T) ⟨T.cl_Check, T.n_Check__width⟩ (mcls_nil (cm := cmT T))) (de_var (i := 0)))) h
theorem ok_Check_low (T : Tx K mg) (n : Nat) : FnOk P w K mg base CX0 1 T.a_Check_low T.d_Check_low ["self"] (spD K (cmT T) 1 (F_Check_low n)) := by
  refine T.f_Check_low.ok (k := 0) sc_Check_low (fun vs H Q E h => spD_len h) (fun cdv A outer s H vs Q E hr h => ⟨_, (pss_one (ps_ret (pe_fld (pv 0) rfl))), ?_⟩)
  exact def_run (Ns := ["self"]) (ms := m_Check_low n) (ds_ret (de_fld (cs := [0]) (mcls_cons (cm := cmT T) ⟨T.cl_Check, T.n_Check__low⟩ (mcls_nil (cm := cmT T))) (de_var (i := 0)))) h
theorem ok_Check___eq__ (T : Tx K mg) (n : Nat) : FnOk P w K mg base CX0 1 T.a_Check___eq__ T.d_Check___eq__ ["self", "other"] (spD K (cmT T) 2 (F_Check___eq__ n)) := by
  refine T.f_Check___eq__.ok (k := 0) sc_Check___eq__ (fun vs H Q E h => spD_len h) (fun cdv A outer s H vs Q E hr h => ⟨_, (pss_one (ps_ret (pe_and (pe_callB (id := "isinstance") (r := rIsi K) call_isi (by rfl) T.m_isinstance (by decide +kernel) (pa_cons (pv 1) (pa_cons (pe_glob (v := .ref T.C_Check) rfl T.gC_Check rfl) pa_nil))) (pe_and (pe_cmpR (r := orR rEq (rEqD K)) (opOr op_eq (op_eqD hr.units)) (pe_fld (pv 0) rfl) (pe_fld (pv 1) rfl) (nomark _)) (pe_one (pe_cmpR (r := orR rEq (rEqD K)) (opOr op_eq (op_eqD hr.units)) (pe_fld (pv 0) rfl) (pe_fld (pv 1) rfl) (nomark _))))))), ?_⟩)
  exact def_run (Ns := ["self", "other"]) (ms := m_Check___eq__ n) (ds_ret (de_andV (de_isiO2 (c := 0) (clok_Check T) T.ty_Check (cls_some T.cl_Check) (de_var (i := 1))) (de_andV (de_op rd_eq (de_fld (cs := [0]) (mcls_cons (cm := cmT T) ⟨T.cl_Check, T.n_Check__width⟩ (mcls_nil (cm := cmT T))) (de_var (i := 0))) (de_fld (cs := [0]) (mcls_cons (cm := cmT T) ⟨T.cl_Check, T.n_Check__width⟩ (mcls_nil (cm := cmT T))) (de_var (i := 1)))) (de_op rd_eq (de_fld (cs := [0]) (mcls_cons (cm := cmT T) ⟨T.cl_Check, T.n_Check__low⟩ (mcls_nil (cm := cmT T))) (de_var (i := 0))) (de_fld (cs := [0]) (mcls_cons (cm := cmT T) ⟨T.cl_Check, T.n_Check__low⟩ (mcls_nil (cm := cmT T))) (de_var (i := 1))))))) h
theorem ok_check_check (T : Tx K mg) (n : Nat) : FnOk P w K mg base CX0 1 T.a_check_check T.d_check_check ["check"] (spD K (cmT T) 1 (F_check_check n)) := by
  refine T.f_check_check.ok (k := 0) sc_check_check (fun vs H Q E h => spD_len h) (fun cdv A outer s H vs Q E hr h => ⟨_, (pss_one (ps_if (pt_not (pt_truthK (K := K) rfl (pe_callB (id := "isinstance") (r := rIsi K) call_isi (by rfl) T.m_isinstance (by decide +kernel) (pa_cons (pv 0) (pa_cons (pe_glob (v := .ref T.C_Check) rfl T.gC_Check rfl) pa_nil))) (by intro _; rfl))) (pss_one ps_never) pss_nil)), ?_⟩)
  exact def_run (Ns := ["check"]) (ms := m_check_check n) (ds_if (dt_not (dt_tru (de_isiO2 (c := 0) (clok_Check T) T.ty_Check (cls_some T.cl_Check) (de_var (i := 0))))) ds_no ds_nx) h
theorem ok_fraction (T : Tx K mg) (n : Nat) : FnOk P w K mg base CX0 1 T.a_fraction T.d_fraction ["top", "under"] (spD K (cmT T) 2 (F_fraction n)) := by
  refine T.f_fraction.ok (k := 0) sc_fraction (fun vs H Q E h => spD_len h) (fun cdv A outer s H vs Q E hr h => ⟨_, (pss_cons (ps_set (i := 2) sc_fraction.nd rfl (by first | exact Or.inl rfl | exact Or.inr rfl) (pe_ifExp (pt_cmpR op_gt (pv 1) pe_int (nomark _)) (pe_callBfun cr_gcd (by rfl) T.mt_gcd (pa_cons (pv 0) (pa_cons (pv 1) pa_nil))) (pe_un un_neg (pe_callBfun cr_gcd (by rfl) T.mt_gcd (pa_cons (pv 0) (pa_cons (pv 1) pa_nil))))))
 (pss_one (ps_ret (pe_tup (pa_cons (pe_op op_fdivW (pv 0) (pv 2)) (pa_cons (pe_op op_fdivW (pv 1) (pv 2)) pa_nil)))))), ?_⟩)
  exact def_run (Ns := ["top", "under", "shared"]) (ms := m_fraction n) (ds_seq (ds_as (de_if (dt_tst (de_op rd_b (de_var (i := 1)) (de_c fun _ => .int _))) (de_cb rcd_gcd (da_cons (de_var (i := 0)) (da_cons (de_var (i := 1)) da_nil))) (de_un rud_neg (de_cb rcd_gcd (da_cons (de_var (i := 0)) (da_cons (de_var (i := 1)) da_nil))))) (dg_name (i := 2)))
 (ds_ret (de_tup (da_cons (de_op rd_iC (de_var (i := 0)) (de_var (i := 2))) (da_cons (de_op rd_iC (de_var (i := 1)) (de_var (i := 2))) da_nil))))) h
theorem ok_signed_choices (T : Tx K mg) (n : Nat) : FnOk P w K mg base CX0 1 T.a_signed_choices T.d_signed_choices ["odd", "even", "few"] (spD K (cmT T) 3 (F_signed_choices n)) := by
  refine T.f_signed_choices.ok (k := 0) sc_signed_choices (fun vs H Q E h => spD_len h) (fun cdv A outer s H vs Q E hr h => ⟨_, (pss_cons (ps_set (i := 3) sc_signed_choices.nd rfl (by first | exact Or.inl rfl | exact Or.inr rfl) pe_int)
 (pss_cons (ps_for PassesOwn.never rfl (pi_range1 rfl T.m_range (pa_cons (pe_op (r := rAddA K) op_addA (pv 2) pe_int) pa_nil)) (pg_name (i := 4) sc_signed_choices.nd rfl (by first | exact Or.inl rfl | exact Or.inr rfl)) (pss_cons (ps_set (i := 5) sc_signed_choices.nd rfl (by first | exact Or.inl rfl | exact Or.inr rfl) (pe_op (r := rMulA) op_mulA (pe_callBfun cr_comb (by rfl) T.mt_comb (pa_cons (pv 0) (pa_cons (pv 4) pa_nil))) (pe_callBfun cr_comb (by rfl) T.mt_comb (pa_cons (pv 1) (pa_cons (pe_op op_sub (pv 2) (pv 4)) pa_nil)))))
 (pss_one (ps_set (i := 3) sc_signed_choices.nd rfl (by first | exact Or.inl rfl | exact Or.inr rfl) (pe_ifExp (pt_truthK (K := K) rfl (pe_op op_and (pv 4) pe_int) (by intro _; rfl)) (pe_op op_sub (pv 3) (pv 5)) (pe_op (r := rAddA K) op_addA (pv 3) (pv 5)))))))
 (pss_one (ps_ret (pv 3))))), ?_⟩)
  exact def_run (Ns := ["odd", "even", "few", "total", "taken", "lists"]) (ms := m_signed_choices n) (ds_seq (ds_as (de_c fun _ => .int _) (dg_name (i := 3)))
 (ds_seq (ds_for (dit_r1 (da_cons (de_op rd_add (de_var (i := 2)) (de_c fun _ => .int _)) da_nil)) (dg_name (i := 4)) (ds_seq (ds_as (de_op rd_mul (de_cb rcd_comb (da_cons (de_var (i := 0)) (da_cons (de_var (i := 4)) da_nil))) (de_cb rcd_comb (da_cons (de_var (i := 1)) (da_cons (de_op rd_i0 (de_var (i := 2)) (de_var (i := 4))) da_nil)))) (dg_name (i := 5)))
 (ds_as (de_if (dt_tru (de_op rd_i0 (de_var (i := 4)) (de_c fun _ => .int _))) (de_op rd_i0 (de_var (i := 3)) (de_var (i := 5))) (de_op rd_add (de_var (i := 3)) (de_var (i := 5)))) (dg_name (i := 3)))))
 (ds_ret (de_var (i := 3))))) h
theorem ok_first_products (T : Tx K mg) (n : Nat) : FnOk P w K mg base CX0 1 T.a_first_products T.d_first_products ["number", "most"] (spD K (cmT T) 2 (F_first_products n)) := by
  refine T.f_first_products.ok (k := 0) sc_first_products (fun vs H Q E h => spD_len h) (fun cdv A outer s H vs Q E hr h => ⟨_, (pss_cons (ps_set (i := 2) sc_first_products.nd rfl (by first | exact Or.inl rfl | exact Or.inr rfl) (pe_lst (pa_cons pe_int pa_nil)))
 (pss_cons (ps_for PassesOwn.never rfl (pi_range1 rfl T.m_range (pa_cons (pv 1) pa_nil)) (pg_name (i := 3) sc_first_products.nd rfl (by first | exact Or.inl rfl | exact Or.inr rfl)) (pss_one (ps_expr (pe_bm PySem.F.plainAttrs_list PySem.F.slot_list_append PySem.F.type_list_append mt_append (pv 2) (pa_cons (pe_op (r := rMulA) op_mulA (pe_ix (r := rIxA K) ix_A (pv 2) (pe_un un_neg pe_int) (fun _ _ => rfl)) (pv 0)) pa_nil)))))
 (pss_one (ps_ret (pv 2))))), ?_⟩)
  exact def_run (Ns := ["number", "most", "found", "_"]) (ms := m_first_products n) (ds_seq (ds_ow (i := 2) (df_lst (da_cons (de_c fun _ => .int _) da_nil)))
 (ds_seq (ds_for (dit_r1 (da_cons (de_var (i := 1)) da_nil)) (dg_name (i := 3)) (ds_app (i := 2) (de_op rd_mul (de_ixO (i := 2) (de_un rud_neg (de_c fun _ => .int _))) (de_var (i := 0)))))
 (ds_frz (i := 2) (ds_ret (de_var (i := 2)))))) h
theorem ok__law_hash (T : Tx K mg) (n : Nat) : FnOk P w K mg base CX0 1 T.a__law_hash T.d__law_hash ["_law_seed", "_law_index"] (spD K (cmT T) 2 (F__law_hash n)) := by
  refine T.f__law_hash.ok (k := 0) sc__law_hash (fun vs H Q E h => spD_len h) (fun cdv A outer s H vs Q E hr h => ⟨_, (pss_cons (ps_set (i := 2) sc__law_hash.nd rfl (by first | exact Or.inl rfl | exact Or.inr rfl) (pe_op (r := rI CNz fun i j => .int (i.fmod j)) op_modN (pe_callTy (r := rInt1) call_int1 (by rfl) T.m_int (by decide +kernel) (pa_cons (pe_op (r := rAddA K) op_addA (pe_op (r := rAddA K) op_addA (pe_op (r := rAddA K) op_addA (pe_op (r := rMulA) op_mulA (pv 0) pe_int) (pe_op (r := rMulA) op_mulA (pe_op (r := rMulA) op_mulA pe_int (pv 1)) (pv 1))) (pe_op (r := rMulA) op_mulA pe_int (pv 1))) pe_int) pa_nil)) pe_int))
 (pss_cons (ps_set (i := 2) sc__law_hash.nd rfl (by first | exact Or.inl rfl | exact Or.inr rfl) (pe_op (r := rI CNz fun i j => .int (i.fmod j)) op_modN (pe_callTy (r := rInt1) call_int1 (by rfl) T.m_int (by decide +kernel) (pa_cons (pe_op (r := rAddA K) op_addA (pe_op (r := rAddA K) op_addA (pe_op (r := rMulA) op_mulA (pv 2) (pv 2)) (pe_op (r := rMulA) op_mulA pe_int (pv 1))) pe_int) pa_nil)) pe_int))
 (pss_one (ps_ret (pe_op (r := rI CNz fun i j => .int (i.fmod j)) op_modN (pe_callTy (r := rInt1) call_int1 (by rfl) T.m_int (by decide +kernel) (pa_cons (pe_op (r := rMulA) op_mulA (pv 2) pe_int) pa_nil)) pe_int))))), ?_⟩)
  exact def_run (Ns := ["_law_seed", "_law_index", "_law_mixed"]) (ms := m__law_hash n) (ds_seq (ds_as (de_op rd_iC (de_cb rcd_int (da_cons (de_op rd_add (de_op rd_add (de_op rd_add (de_op rd_mul (de_var (i := 0)) (de_c fun _ => .int _)) (de_op rd_mul (de_op rd_mul (de_c fun _ => .int _) (de_var (i := 1))) (de_var (i := 1)))) (de_op rd_mul (de_c fun _ => .int _) (de_var (i := 1)))) (de_c fun _ => .int _)) da_nil)) (de_c fun _ => .int _)) (dg_name (i := 2)))
 (ds_seq (ds_as (de_op rd_iC (de_cb rcd_int (da_cons (de_op rd_add (de_op rd_add (de_op rd_mul (de_var (i := 2)) (de_var (i := 2))) (de_op rd_mul (de_c fun _ => .int _) (de_var (i := 1)))) (de_c fun _ => .int _)) da_nil)) (de_c fun _ => .int _)) (dg_name (i := 2)))
 (ds_ret (de_op rd_iC (de_cb rcd_int (da_cons (de_op rd_mul (de_var (i := 2)) (de_c fun _ => .int _)) da_nil)) (de_c fun _ => .int _))))) h
theorem ok__law_cell (T : Tx K mg) (n : Nat) : FnOk P w K mg base CX0 1 T.a__law_cell T.d__law_cell ["_law_script", "_law_index"] (spD K (cmT T) 2 (F__law_cell n)) := by
  refine T.f__law_cell.ok (k := 0) sc__law_cell (fun vs H Q E h => spD_len h) (fun cdv A outer s H vs Q E hr h => ⟨_, (pss_cons (ps_if (pt_cmpR op_lt (pv 1) (pe_callB (id := "len") (r := rLenA K) cr_lenA (by rfl) T.m_len PySem.boot_len (pa_cons (pv 0) pa_nil)) (nomark _)) (pss_one (ps_ret (pe_ix (r := rIxA K) ix_A (pv 0) (pv 1) (fun _ _ => rfl)))) pss_nil)
 (pss_one (ps_ret (pe_op (r := rI CNz fun i j => .int (i.fmod j)) op_modN (pe_callB (id := "sum") (r := rSum K) (cr_sum rfl) (by rfl) T.m_sum (by decide +kernel) (pa_cons (pe_slice (r := rSlM K) sl_A (pv 0) po_none (po_some pe_int)) pa_nil)) pe_int)))), ?_⟩)
  exact def_run (Ns := ["_law_script", "_law_index"]) (ms := m__law_cell n) (ds_seq (ds_if (dt_tst (de_op rd_b (de_var (i := 1)) (de_cb rcd_len (da_cons (de_var (i := 0)) da_nil)))) (ds_ret (de_op rd_ix (de_var (i := 0)) (de_var (i := 1)))) ds_nx)
 (ds_ret (de_op rd_iC (de_cb rcd_sum (da_cons (de_sl (de_var (i := 0)) di_no (di_pt (de_c fun _ => .int _))) da_nil)) (de_c fun _ => .int _)))) h
theorem ok__law_rest (T : Tx K mg) (n : Nat) : FnOk P w K mg base CX0 1 T.a__law_rest T.d__law_rest ["_law_whole", "_law_number"] (spD K (cmT T) 2 (F__law_rest n)) := by
  refine T.f__law_rest.ok (k := 0) sc__law_rest (fun vs H Q E h => spD_len h) (fun cdv A outer s H vs Q E hr h => ⟨_, (pss_cons (ps_set (i := 2) sc__law_rest.nd rfl (by first | exact Or.inl rfl | exact Or.inr rfl) (pv 1))
 (pss_cons (ps_while PassesOwn.never (pt_cmpR op_ge (pe_bits (pv 2)) (pe_bits (pv 0)) (nomark _)) (pss_one (ps_set (i := 2) sc__law_rest.nd rfl (by first | exact Or.inl rfl | exact Or.inr rfl) (pe_op op_xor (pv 2) (pe_op op_shlW (pv 0) (pe_op op_sub (pe_bits (pv 2)) (pe_bits (pv 0))))))))
 (pss_one (ps_ret (pv 2))))), ?_⟩)
  exact def_run (Ns := ["_law_whole", "_law_number", "_law_left"]) (ms := m__law_rest n) (ds_seq (ds_as (de_var (i := 1)) (dg_name (i := 2)))
 (ds_seq (ds_wh n (dt_tst (de_op rd_b (de_bits (de_var (i := 2))) (de_bits (de_var (i := 0))))) (ds_as (de_op rd_i0 (de_var (i := 2)) (de_op rd_iC (de_var (i := 0)) (de_op rd_i0 (de_bits (de_var (i := 2))) (de_bits (de_var (i := 0)))))) (dg_name (i := 2))))
 (ds_ret (de_var (i := 2))))) h
theorem ok__law_places (T : Tx K mg) (n : Nat) : FnOk P w K mg base CX0 1 T.a__law_places T.d__law_places ["_law_number"] (spD K (cmT T) 1 (F__law_places n)) := by
  refine T.f__law_places.ok (k := 0) sc__law_places (fun vs H Q E h => spD_len h) (fun cdv A outer s H vs Q E hr h => ⟨_, (pss_one (ps_ret (pe_lc (own := [("_law_place", 1)]) (g := gName 1) rfl sc__law_places.nd (pi_range1 rfl T.m_range (pa_cons (pe_bits (pv 0)) pa_nil)) (blkOk_by (own := [("_law_place", 1)]) (N := ["_law_number", "_law_place"]) (sc := defScope s__law_places) (by decide +kernel)) (fun _ _ _ _ _ => (pg_name (i := 1) sc__law_places.nd rfl (by first | exact Or.inl rfl | exact Or.inr rfl))) (fun _ _ _ _ _ => (pts_one (pt_cmpR (r := orR rEq (rEqD K)) (opOr op_eq (op_eqD hr.units)) (pe_op (r := rI CNz fun i j => .int (i.fmod j)) op_modN (pe_op (r := rI CNn fun i j => .int (i / 2 ^ j.toNat)) op_shr (pv 0) (pv 1)) pe_int) pe_int (nomark _)))) (fun _ _ _ _ _ => (pv 1))))), ?_⟩)
  exact def_run (Ns := ["_law_number", "_law_place"]) (ms := m__law_places n) (ds_ret (de_fr (df_comp (vs := [1]) (dit_r1 (da_cons (de_bits (de_var (i := 0))) da_nil)) (dg_name (i := 1)) (by decide) (dt_tst (de_op rd_eq (de_op rd_iC (de_op rd_iC (de_var (i := 0)) (de_var (i := 1))) (de_c fun _ => .int _)) (de_c fun _ => .int _))) (de_var (i := 1))))) h
theorem ok__law_lowest (T : Tx K mg) (n : Nat) : FnOk P w K mg base CX0 1 T.a__law_lowest T.d__law_lowest ["_law_top", "_law_under"] (spD K (cmT T) 2 (F__law_lowest n)) := by
  refine T.f__law_lowest.ok (k := 0) sc__law_lowest (fun vs H Q E h => spD_len h) (fun cdv A outer s H vs Q E hr h => ⟨_, (pss_cons (ps_par (i := 2) (j := 3) (by rfl) sc__law_lowest.nd rfl rfl (by decide) rfl rfl (pa_cons (pe_callB (id := "abs") call_abs (by rfl) T.m_abs (by decide +kernel) (pa_cons (pv 0) pa_nil)) (pa_cons (pv 1) pa_nil)) (by rfl))
 (pss_cons (ps_while PassesOwn.never (pt_cmpR (r := orR rNe (rNeD K)) (opOr op_ne (op_neD hr.units)) (pv 3) pe_int (nomark _)) (pss_one (ps_par (i := 2) (j := 3) (by rfl) sc__law_lowest.nd rfl rfl (by decide) rfl rfl (pa_cons (pv 3) (pa_cons (pe_op (r := rI CNz fun i j => .int (i.fmod j)) op_modN (pv 2) (pv 3)) pa_nil)) (by rfl))))
 (pss_one (ps_ret (pe_tup (pa_cons (pe_op op_fdivW (pv 0) (pv 2)) (pa_cons (pe_op op_fdivW (pv 1) (pv 2)) pa_nil))))))), ?_⟩)
  exact def_run (Ns := ["_law_top", "_law_under", "_law_one", "_law_other"]) (ms := m__law_lowest n) (ds_seq (ds_par (das_fro (de_cb rcd_i1 (da_cons (de_var (i := 0)) da_nil)) (das_fro (de_var (i := 1)) das_nil)))
 (ds_seq (ds_wh n (dt_tst (de_op rd_ne (de_var (i := 3)) (de_c fun _ => .int _))) (ds_par (das_fro (de_var (i := 3)) (das_fro (de_op rd_iC (de_var (i := 2)) (de_var (i := 3))) das_nil))))
 (ds_ret (de_tup (da_cons (de_op rd_iC (de_var (i := 0)) (de_var (i := 2))) (da_cons (de_op rd_iC (de_var (i := 1)) (de_var (i := 2))) da_nil)))))) h
theorem ok__law_raised (T : Tx K mg) (n : Nat) : FnOk P w K mg base CX0 1 T.a__law_raised T.d__law_raised ["_law_base", "_law_many"] (spD K (cmT T) 2 (F__law_raised n)) := by
  refine T.f__law_raised.ok (k := 0) sc__law_raised (fun vs H Q E h => spD_len h) (fun cdv A outer s H vs Q E hr h => ⟨_, (pss_cons (ps_set (i := 2) sc__law_raised.nd rfl (by first | exact Or.inl rfl | exact Or.inr rfl) pe_int)
 (pss_cons (ps_for PassesOwn.never rfl (pi_range1 rfl T.m_range (pa_cons (pv 1) pa_nil)) (pg_name (i := 3) sc__law_raised.nd rfl (by first | exact Or.inl rfl | exact Or.inr rfl)) (pss_one (ps_set (i := 2) sc__law_raised.nd rfl (by first | exact Or.inl rfl | exact Or.inr rfl) (pe_op (r := rMulA) op_mulA (pv 2) (pv 0)))))
 (pss_one (ps_ret (pv 2))))), ?_⟩)
  exact def_run (Ns := ["_law_base", "_law_many", "_law_found", "_law_turn"]) (ms := m__law_raised n) (ds_seq (ds_as (de_c fun _ => .int _) (dg_name (i := 2)))
 (ds_seq (ds_for (dit_r1 (da_cons (de_var (i := 1)) da_nil)) (dg_name (i := 3)) (ds_as (de_op rd_mul (de_var (i := 2)) (de_var (i := 0))) (dg_name (i := 2))))
 (ds_ret (de_var (i := 2))))) h
theorem ok__law_pairs (T : Tx K mg) (n : Nat) : FnOk P w K mg base CX0 1 T.a__law_pairs T.d__law_pairs ["_law_many", "_law_step"] (spD K (cmT T) 2 (F__law_pairs n)) := by
  refine T.f__law_pairs.ok (k := 0) sc__law_pairs (fun vs H Q E h => spD_len h) (fun cdv A outer s H vs Q E hr h => ⟨_, (pss_cons (ps_par (i := 2) (j := 3) (by rfl) sc__law_pairs.nd rfl rfl (by decide) rfl rfl (pa_cons (pe_op op_fdivW (pv 0) (pv 1)) (pa_cons (pe_op (r := rI CNz fun i j => .int (i.fmod j)) op_modN (pv 0) (pv 1)) pa_nil)) (by rfl))
 (pss_one (ps_ret (pe_op (r := rAddA K) op_addA (pe_op op_fdivW (pe_op (r := rMulA) op_mulA (pe_op (r := rMulA) op_mulA (pv 3) (pe_op (r := rAddA K) op_addA (pv 2) pe_int)) (pv 2)) pe_int) (pe_op op_fdivW (pe_op (r := rMulA) op_mulA (pe_op (r := rMulA) op_mulA (pe_op op_sub (pv 1) (pv 3)) (pv 2)) (pe_op op_sub (pv 2) pe_int)) pe_int))))), ?_⟩)
  exact def_run (Ns := ["_law_many", "_law_step", "_law_whole", "_law_more"]) (ms := m__law_pairs n) (ds_seq (ds_par (das_fro (de_op rd_iC (de_var (i := 0)) (de_var (i := 1))) (das_fro (de_op rd_iC (de_var (i := 0)) (de_var (i := 1))) das_nil)))
 (ds_ret (de_op rd_add (de_op rd_iC (de_op rd_mul (de_op rd_mul (de_var (i := 3)) (de_op rd_add (de_var (i := 2)) (de_c fun _ => .int _))) (de_var (i := 2))) (de_c fun _ => .int _)) (de_op rd_iC (de_op rd_mul (de_op rd_mul (de_op rd_i0 (de_var (i := 1)) (de_var (i := 3))) (de_var (i := 2))) (de_op rd_i0 (de_var (i := 2)) (de_c fun _ => .int _))) (de_c fun _ => .int _))))) h
theorem ok_is_within (T : Tx K mg) (n : Nat) : FnOk P w K mg base CX0 2 T.a_is_within T.d_is_within ["value", "low", "high"] (spD K (cmT T) 3 (F_is_within n)) := by
  refine T.f_is_within.ok (k := 1) sc_is_within (fun vs H Q E h => spD_len h) (fun cdv A outer s H vs Q E hr h => ⟨_, (pss_one (ps_ret (pe_and (pe_call (ok_is_number T n) hr (by rfl) T.g_is_number T.f_is_number.kp T.b_is_number .nil pass0 (pa_cons (pv 0) pa_nil)) (pe_one (pe_chain op_le op_le (pv 1) (pv 0) (pv 2)))))), ?_⟩)
  exact def_run (Ns := ["value", "low", "high"]) (ms := m_is_within n) (ds_ret (de_andV (de_call (dc_val (de_var (i := 0)) dc_nil) (len_valA len_nilA)) (de_ch rd_b rd_b (de_var (i := 1)) (de_var (i := 0)) (de_var (i := 2))))) h
theorem ok_Check_bits (T : Tx K mg) (n : Nat) : FnOk P w K mg base CX0 2 T.a_Check_bits T.d_Check_bits ["self"] (spD K (cmT T) 1 (F_Check_bits n)) := by
  refine T.f_Check_bits.ok (k := 1) sc_Check_bits (fun vs H Q E h => spD_len h) (fun cdv A outer s H vs Q E hr h => ⟨_, (pss_one (ps_ret (pe_op (r := rAddA K) op_addA pe_str (pe_call (ok_bits_of T n) hr (by rfl) T.g_bits_of T.f_bits_of.kp T.b_bits_of .nil pass0 (pa_cons (pe_fld (pv 0) rfl) (pa_cons (pe_fld (pv 0) rfl) pa_nil)))))), ?_⟩)
  exact def_run (Ns := ["self"]) (ms := m_Check_bits n) (ds_ret (de_op rd_add (de_c fun _ => .str _) (de_call (dc_val (de_fld (cs := [0]) (mcls_cons (cm := cmT T) ⟨T.cl_Check, T.n_Check__low⟩ (mcls_nil (cm := cmT T))) (de_var (i := 0))) (dc_val (de_fld (cs := [0]) (mcls_cons (cm := cmT T) ⟨T.cl_Check, T.n_Check__width⟩ (mcls_nil (cm := cmT T))) (de_var (i := 0))) dc_nil)) (len_valA (len_valA len_nilA))))) h
theorem ok__law_random (T : Tx K mg) (n : Nat) : FnOk P w K mg base CX0 2 T.a__law_random T.d__law_random ["_law_generator_here", "_law_bound"] (spD K (cmT T) 2 (F__law_random n)) := by
  refine T.f__law_random.ok (k := 1) sc__law_random (fun vs H Q E h => spD_len h) (fun cdv A outer s H vs Q E hr h => ⟨_, (pss_cons (ps_if (pt_cmpR op_gt (pe_ix (r := rIxA K) ix_A (pv 0) pe_int (fun _ _ => rfl)) pe_int (nomark _)) (pss_cons (ps_set (i := 2) sc__law_random.nd rfl (by first | exact Or.inl rfl | exact Or.inr rfl) (pe_op (r := rI CNz fun i j => .int (i.fmod j)) op_modN (pe_callTy (r := rInt1) call_int1 (by rfl) T.m_int (by decide +kernel) (pa_cons (pe_ix (r := rIxA K) ix_A (pv 0) pe_int (fun _ _ => rfl)) pa_nil)) (pv 1)))
 (pss_cons (ps_asg (pe_op op_fdivW (pe_ix (r := rIxA K) ix_A (pv 0) pe_int (fun _ _ => rfl)) (pv 1)) (pg_sub (pv 0) pe_int set_list))
 (pss_one (ps_ret (pv 2))))) pss_nil)
 (pss_cons (ps_set (i := 2) sc__law_random.nd rfl (by first | exact Or.inl rfl | exact Or.inr rfl) pe_int)
 (pss_cons (ps_for PassesOwn.never rfl (pi_range1 rfl T.m_range (pa_cons (pe_op (r := rAddA K) op_addA pe_int (pe_op op_fdivW (pe_bits (pv 1)) pe_int)) pa_nil)) (pg_name (i := 3) sc__law_random.nd rfl (by first | exact Or.inl rfl | exact Or.inr rfl)) (pss_cons (ps_asg (pe_op (r := rAddA K) op_addA (pe_ix (r := rIxA K) ix_A (pv 0) pe_int (fun _ _ => rfl)) pe_int) (pg_sub (pv 0) pe_int set_list))
 (pss_one (ps_set (i := 2) sc__law_random.nd rfl (by first | exact Or.inl rfl | exact Or.inr rfl) (pe_op (r := rAddA K) op_addA (pe_op (r := rMulA) op_mulA (pv 2) pe_int) (pe_call (ok__law_hash T n) hr (by rfl) T.g__law_hash T.f__law_hash.kp T.b__law_hash .nil pass0 (pa_cons (pe_ix (r := rIxA K) ix_A (pv 0) pe_int (fun _ _ => rfl)) (pa_cons (pe_ix (r := rIxA K) ix_A (pv 0) pe_int (fun _ _ => rfl)) pa_nil))))))))
 (pss_one (ps_ret (pe_op (r := rI CNz fun i j => .int (i.fmod j)) op_modN (pe_callTy (r := rInt1) call_int1 (by rfl) T.m_int (by decide +kernel) (pa_cons (pv 2) pa_nil)) (pv 1))))))), ?_⟩)
  exact def_run (Ns := ["_law_generator_here", "_law_bound", "_law_drawn_here", "_law_turn"]) (ms := m__law_random n) (ds_seq (ds_if (dt_tst (de_op rd_b (de_ixO (i := 0) (de_c fun _ => .int _)) (de_c fun _ => .int _))) (ds_seq (ds_as (de_op rd_iC (de_cb rcd_int (da_cons (de_ixO (i := 0) (de_c fun _ => .int _)) da_nil)) (de_var (i := 1))) (dg_name (i := 2)))
 (ds_seq (ds_put (i := 0) (de_c fun _ => .int _) (de_op rd_iC (de_ixO (i := 0) (de_c fun _ => .int _)) (de_var (i := 1))))
 (ds_ret (de_var (i := 2))))) ds_nx)
 (ds_seq (ds_as (de_c fun _ => .int _) (dg_name (i := 2)))
 (ds_seq (ds_for (dit_r1 (da_cons (de_op rd_add (de_c fun _ => .int _) (de_op rd_iC (de_bits (de_var (i := 1))) (de_c fun _ => .int _))) da_nil)) (dg_name (i := 3)) (ds_seq (ds_put (i := 0) (de_c fun _ => .int _) (de_op rd_add (de_ixO (i := 0) (de_c fun _ => .int _)) (de_c fun _ => .int _)))
 (ds_as (de_op rd_add (de_op rd_mul (de_var (i := 2)) (de_c fun _ => .int _)) (de_call (dc_val (de_ixO (i := 0) (de_c fun _ => .int _)) (dc_val (de_ixO (i := 0) (de_c fun _ => .int _)) dc_nil)) (len_valA (len_valA len_nilA)))) (dg_name (i := 2)))))
 (ds_ret (de_op rd_iC (de_cb rcd_int (da_cons (de_var (i := 2)) da_nil)) (de_var (i := 1))))))) h
theorem ok__law_generator (T : Tx K mg) (n : Nat) : FnOk P w K mg base CX0 2 T.a__law_generator T.d__law_generator ["_law_script", "_law_index"] (spF K (cmT T) 2 (F__law_generator n)) := by
  refine T.f__law_generator.ok (k := 1) sc__law_generator (fun vs H Q E h => spF_len h) (fun cdv A outer s H vs Q E hr h => ⟨_, (pss_cons (ps_set (i := 2) sc__law_generator.nd rfl (by first | exact Or.inl rfl | exact Or.inr rfl) (pe_call (ok__law_cell T n) hr (by rfl) T.g__law_cell T.f__law_cell.kp T.b__law_cell .nil pass0 (pa_cons (pv 0) (pa_cons (pv 1) pa_nil))))
 (pss_one (ps_ret (pe_lst (pa_cons (pe_op (r := rI CNz fun i j => .int (i.fmod j)) op_modN (pe_callTy (r := rInt1) call_int1 (by rfl) T.m_int (by decide +kernel) (pa_cons (pe_callB (id := "max") (call_max2 rfl) (by rfl) T.m_max (by decide +kernel) (pa_cons (pe_op op_sub (pv 2) (pe_op op_powW pe_int pe_int)) (pa_cons pe_int pa_nil))) pa_nil)) (pe_op op_powW (pe_op op_powW pe_int pe_int) pe_int)) (pa_cons (pe_op (r := rI CNz fun i j => .int (i.fmod j)) op_modN (pe_callTy (r := rInt1) call_int1 (by rfl) T.m_int (by decide +kernel) (pa_cons (pv 2) pa_nil)) pe_int) (pa_cons (pe_op (r := rMulA) op_mulA pe_int (pv 1)) pa_nil))))))), ?_⟩)
  exact def_runF (Ns := ["_law_script", "_law_index", "_law_seed"]) (ms := m__law_generator n) (ds_seq (ds_as (de_call (dc_val (de_var (i := 0)) (dc_val (de_var (i := 1)) dc_nil)) (len_valA (len_valA len_nilA))) (dg_name (i := 2)))
 (ds_retF (df_lst (da_cons (de_op rd_iC (de_cb rcd_int (da_cons (de_cb rcd_i2 (da_cons (de_op rd_i0 (de_var (i := 2)) (de_op rd_iC (de_c fun _ => .int _) (de_c fun _ => .int _))) (da_cons (de_c fun _ => .int _) da_nil))) da_nil)) (de_op rd_iC (de_op rd_iC (de_c fun _ => .int _) (de_c fun _ => .int _)) (de_c fun _ => .int _))) (da_cons (de_op rd_iC (de_cb rcd_int (da_cons (de_var (i := 2)) da_nil)) (de_c fun _ => .int _)) (da_cons (de_op rd_mul (de_c fun _ => .int _) (de_var (i := 1))) da_nil)))))) h
theorem ok__law_threes (T : Tx K mg) (n : Nat) : FnOk P w K mg base CX0 2 T.a__law_threes T.d__law_threes ["_law_whole", "_law_many"] (spD K (cmT T) 2 (F__law_threes n)) := by
  refine T.f__law_threes.ok (k := 1) sc__law_threes (fun vs H Q E h => spD_len h) (fun cdv A outer s H vs Q E hr h => ⟨_, (pss_cons (ps_par3 (i := 2) (j := 3) (l := 4) (by rfl) sc__law_threes.nd rfl rfl rfl (by decide) (by decide) (by decide) rfl rfl rfl (pa_cons pe_dnewK (pa_cons (pe_lst pa_nil) (pa_cons pe_int pa_nil))) (by rfl))
 (pss_cons (ps_for PassesOwn.never rfl (pi_range1 rfl T.m_range (pa_cons (pv 1) pa_nil)) (pg_name (i := 5) sc__law_threes.nd rfl (by first | exact Or.inl rfl | exact Or.inr rfl)) (pss_cons (ps_expr (pe_bm PySem.F.plainAttrs_list PySem.F.slot_list_append PySem.F.type_list_append mt_append (pv 3) (pa_cons (pe_call (ok__law_rest T n) hr (by rfl) T.g__law_rest T.f__law_rest.kp T.b__law_rest .nil pass0 (pa_cons (pv 0) (pa_cons (pe_op op_shlW pe_int (pv 5)) pa_nil))) pa_nil)))
 (pss_one (ps_dput (mu1 hr) (pv 2) (pe_ix (r := rIxA K) ix_A (pv 3) (pv 5) (fun _ _ => rfl)) (pe_op (r := rAddA K) op_addA (pe_dget2 (mu1 hr) (pv 2) (pe_ix (r := rIxA K) ix_A (pv 3) (pv 5) (fun _ _ => rfl)) (pe_lst pa_nil) ⟨rfl, rfl, rfl, rfl⟩) (pe_lst (pa_cons (pv 5) pa_nil))) rfl))))
 (pss_cons (ps_for PassesOwn.never rfl (pi_range1 rfl T.m_range (pa_cons (pv 1) pa_nil)) (pg_name (i := 6) sc__law_threes.nd rfl (by first | exact Or.inl rfl | exact Or.inr rfl)) (pss_one (ps_for PassesOwn.never rfl (pi_range2 rfl T.m_range (pa_cons (pe_op (r := rAddA K) op_addA (pv 6) pe_int) (pa_cons (pv 1) pa_nil))) (pg_name (i := 7) sc__law_threes.nd rfl (by first | exact Or.inl rfl | exact Or.inr rfl)) (pss_one (ps_set (i := 4) sc__law_threes.nd rfl (by first | exact Or.inl rfl | exact Or.inr rfl) (pe_op (r := rAddA K) op_addA (pv 4) (pe_callB (id := "len") (r := rLenA K) cr_lenA (by rfl) T.m_len PySem.boot_len (pa_cons (pe_lc (own := [("_law_last", 8)]) (g := gName 8) rfl sc__law_threes.nd (pi_listK (K := K) rfl (pe_dget2 (mu1 hr) (pv 2) (pe_op op_xor (pe_ix (r := rIxA K) ix_A (pv 3) (pv 6) (fun _ _ => rfl)) (pe_ix (r := rIxA K) ix_A (pv 3) (pv 7) (fun _ _ => rfl))) (pe_lst pa_nil) ⟨rfl, rfl, rfl, rfl⟩)) (blkOk_by (own := [("_law_last", 8)]) (N := ["_law_whole", "_law_many", "_law_spots", "_law_powers", "_law_found", "_law_place", "_law_one", "_law_other", "_law_last"]) (sc := defScope s__law_threes) (by decide +kernel)) (fun _ _ _ _ _ => (pg_name (i := 8) sc__law_threes.nd rfl (by first | exact Or.inl rfl | exact Or.inr rfl))) (fun _ _ _ _ _ => (pts_one (pt_cmpR op_gt (pv 8) (pv 7) (nomark _)))) (fun _ _ _ _ _ => (pv 8))) pa_nil))))))))
 (pss_one (ps_ret (pv 4)))))), ?_⟩)
  exact def_run (Ns := ["_law_whole", "_law_many", "_law_spots", "_law_powers", "_law_found", "_law_place", "_law_one", "_law_other", "_law_last"]) (ms := m__law_threes n) (ds_seq (ds_par3 (das_own df_new (das_own (df_lst da_nil) (das_fro (de_c fun _ => .int _) das_nil))))
 (ds_seq (ds_for (dit_r1 (da_cons (de_var (i := 1)) da_nil)) (dg_name (i := 5)) (ds_seq (ds_app (i := 3) (de_call (dc_val (de_var (i := 0)) (dc_val (de_op rd_iC (de_c fun _ => .int _) (de_var (i := 5))) dc_nil)) (len_valA (len_valA len_nilA))))
 (ds_dput (i := 2) (de_ixO (i := 3) (de_var (i := 5))) (de_op rd_add (de_dg2O (i := 2) (de_ixO (i := 3) (de_var (i := 5))) (de_fr (df_lst da_nil))) (de_fr (df_lst (da_cons (de_var (i := 5)) da_nil)))))))
 (ds_seq (ds_for (dit_r1 (da_cons (de_var (i := 1)) da_nil)) (dg_name (i := 6)) (ds_for (dit_r2 (da_cons (de_op rd_add (de_var (i := 6)) (de_c fun _ => .int _)) (da_cons (de_var (i := 1)) da_nil))) (dg_name (i := 7)) (ds_as (de_op rd_add (de_var (i := 4)) (de_cb rcd_len (da_cons (de_fr (df_comp (vs := [8]) (dit_list (de_dg2O (i := 2) (de_op rd_i0 (de_ixO (i := 3) (de_var (i := 6))) (de_ixO (i := 3) (de_var (i := 7)))) (de_fr (df_lst da_nil)))) (dg_name (i := 8)) (by decide) (dt_tst (de_op rd_b (de_var (i := 8)) (de_var (i := 7)))) (de_var (i := 8)))) da_nil))) (dg_name (i := 4)))))
 (ds_ret (de_var (i := 4)))))) h
end
end N66
set_option Elab.async false
set_option linter.all false
set_option maxRecDepth 100000
set_option maxHeartbeats 4000000
namespace N66
open PySem PySem.Spec PyProof.Rows L2 Evl WS Mir

section
variable {P : Program} {w : World} {K : PySem.W.Frag} {mg : Str → Option Value} {base : Heap}
theorem ok_check_within (T : Tx K mg) (n : Nat) : FnOk P w K mg base CX0 3 T.a_check_within T.d_check_within ["number", "low", "high"] (spD K (cmT T) 3 (F_check_within n)) := by
  refine T.f_check_within.ok (k := 2) sc_check_within (fun vs H Q E h => spD_len h) (fun cdv A outer s H vs Q E hr h => ⟨_, (pss_one (ps_if (pt_not (pt_truthK (K := K) rfl (pe_call (ok_is_within T n) hr (by rfl) T.g_is_within T.f_is_within.kp T.b_is_within .nil pass0 (pa_cons (pv 0) (pa_cons (pv 1) (pa_cons (pv 2) pa_nil)))) (by intro _; rfl))) (pss_one ps_never) pss_nil)), ?_⟩)
  exact def_run (Ns := ["number", "low", "high"]) (ms := m_check_within n) (ds_if (dt_not (dt_tru (de_call (dc_val (de_var (i := 0)) (dc_val (de_var (i := 1)) (dc_val (de_var (i := 2)) dc_nil))) (len_valA (len_valA (len_valA len_nilA)))))) ds_no ds_nx) h
theorem ok_sum_of (T : Tx K mg) (n : Nat) : FnOk P w K mg base CX0 3 T.a_sum_of T.d_sum_of ["check"] (spD K (cmT T) 1 (F_sum_of n)) := by
  refine T.f_sum_of.ok (k := 2) sc_sum_of (fun vs H Q E h => spD_len h) (fun cdv A outer s H vs Q E hr h => ⟨_, (pss_one (ps_ret (pe_op op_or (pe_op op_shlW pe_int (pe_prop (pv 0) T.cl_Check T.pr_Check_width (ok_Check_width T n) (hr.mono (by decide)) T.b_Check_width .nil pass0 rfl)) (pe_prop (pv 0) T.cl_Check T.pr_Check_low (ok_Check_low T n) (hr.mono (by decide)) T.b_Check_low .nil pass0 rfl)))), ?_⟩)
  exact def_run (Ns := ["check"]) (ms := m_sum_of n) (ds_ret (de_op rd_i0 (de_op rd_iC (de_c fun _ => .int _) (de_prop (c := 0) (de_var (i := 0)))) (de_prop (c := 0) (de_var (i := 0))))) h
theorem ok_all_odd (T : Tx K mg) (n : Nat) : FnOk P w K mg base CX0 3 T.a_all_odd T.d_all_odd ["check"] (spD K (cmT T) 1 (F_all_odd n)) := by
  refine T.f_all_odd.ok (k := 2) sc_all_odd (fun vs H Q E h => spD_len h) (fun cdv A outer s H vs Q E hr h => ⟨_, (pss_cons (ps_expr (pe_call (ok_check_check T n) (hr.mono (by decide)) (by rfl) T.g_check_check T.f_check_check.kp T.b_check_check .nil pass0 (pa_cons (pv 0) pa_nil)))
 (pss_one (ps_ret (pe_cmpR (r := orR rEq (rEqD K)) (opOr op_eq (op_eqD hr.units)) (pe_op op_and (pe_m1 (r := rCount) F.slot_str_count F.type_str_count mt_count (pe_meth0 (pv 0) T.cl_Check T.me_Check_bits (ok_Check_bits T n) hr T.b_Check_bits .nil pass0) pe_str) pe_int) pe_int (nomark _))))), ?_⟩)
  exact def_run (Ns := ["check"]) (ms := m_all_odd n) (ds_seq (ds_dr (de_call (dc_val (de_var (i := 0)) dc_nil) (len_valA len_nilA)))
 (ds_ret (de_op rd_eq (de_op rd_i0 (de_count (de_meth (c := 0) (nm := "bits") (de_var (i := 0)) dc_nil (len_upA len_nilA)) (de_c fun _ => .str _)) (de_c fun _ => .int _)) (de_c fun _ => .int _)))) h
theorem ok_check_narrow (T : Tx K mg) (n : Nat) : FnOk P w K mg base CX0 3 T.a_check_narrow T.d_check_narrow ["check"] (spD K (cmT T) 1 (F_check_narrow n)) := by
  refine T.f_check_narrow.ok (k := 2) sc_check_narrow (fun vs H Q E h => spD_len h) (fun cdv A outer s H vs Q E hr h => ⟨_, (pss_one (ps_if (PW.pt (pw_or (pt_not (pt_truthK (K := K) rfl (pe_callB (id := "isinstance") (r := rIsi K) call_isi (by rfl) T.m_isinstance (by decide +kernel) (pa_cons (pv 0) (pa_cons (pe_glob (v := .ref T.C_Check) rfl T.gC_Check rfl) pa_nil))) (by intro _; rfl))) (pw_or1 (pt_cmpR op_gt (pe_prop (pv 0) T.cl_Check T.pr_Check_width (ok_Check_width T n) (hr.mono (by decide)) T.b_Check_width .nil pass0 rfl) (pe_glob (v := .int 10) rfl T.c_GREATEST_COUNTED ⟨_, rfl⟩) (nomark _))))) (pss_one ps_never) pss_nil)), ?_⟩)
  exact def_run (Ns := ["check"]) (ms := m_check_narrow n) (ds_if (dt_or (dt_not (dt_tru (de_isiO2 (c := 0) (clok_Check T) T.ty_Check (cls_some T.cl_Check) (de_var (i := 0))))) (dt_tst (de_op rd_b (de_prop (c := 0) (de_var (i := 0))) (de_c fun _ => .int _)))) ds_no ds_nx) h
theorem ok__law_drawn (T : Tx K mg) (n : Nat) : FnOk P w K mg base CX0 3 T.a__law_drawn T.d__law_drawn ["_law_generator_here", "_law_width"] (spD K (cmT T) 2 (F__law_drawn n)) := by
  refine T.f__law_drawn.ok (k := 2) sc__law_drawn (fun vs H Q E h => spD_len h) (fun cdv A outer s H vs Q E hr h => ⟨_, (pss_one (ps_ret (pe_op (r := rAddA K) op_addA pe_int (pe_op (r := rMulA) op_mulA pe_int (pe_call (ok__law_random T n) hr (by rfl) T.g__law_random T.f__law_random.kp T.b__law_random .nil pass0 (pa_cons (pv 0) (pa_cons (pe_op op_shlW pe_int (pe_op op_sub (pv 1) pe_int)) pa_nil))))))), ?_⟩)
  exact def_run (Ns := ["_law_generator_here", "_law_width"]) (ms := m__law_drawn n) (ds_ret (de_op rd_add (de_c fun _ => .int _) (de_op rd_mul (de_c fun _ => .int _) (de_call (dc_slo (i := 0) (dc_val (de_op rd_iC (de_c fun _ => .int _) (de_op rd_i0 (de_var (i := 1)) (de_c fun _ => .int _))) dc_nil)) (len_sloA (len_valA len_nilA)))))) h
theorem ok_Check___init__ (T : Tx K mg) (n : Nat) : FnOk P w K mg base CX0 4 T.a_Check___init__ T.d_Check___init__ ["self", "width", "low"] (spD K (cmT T) 3 (F_Check___init__ n)) := by
  refine T.f_Check___init__.ok (k := 3) sc_Check___init__ (fun vs H Q E h => spD_len h) (fun cdv A outer s H vs Q E hr h => ⟨_, (pss_cons (ps_expr (pe_call (ok_check_within T n) hr (by rfl) T.g_check_within T.f_check_within.kp T.b_check_within .nil pass0 (pa_cons (pv 1) (pa_cons pe_int (pa_cons (pe_glob (v := .int 16) rfl T.c_GREATEST_WIDTH ⟨_, rfl⟩) pa_nil)))))
 (pss_cons (ps_if (PW.pt (pw_or (pt_not (pt_truthK (K := K) rfl (pe_call (ok_is_within T n) (hr.mono (by decide)) (by rfl) T.g_is_within T.f_is_within.kp T.b_is_within .nil pass0 (pa_cons (pv 2) (pa_cons pe_int (pa_cons (pe_op op_sub (pe_op op_shlW pe_int (pv 1)) pe_int) pa_nil)))) (by intro _; rfl))) (pw_or1 (pt_cmpR (r := orR rEq (rEqD K)) (opOr op_eq (op_eqD hr.units)) (pe_op op_and (pv 2) pe_int) pe_int (nomark _))))) (pss_one ps_never) pss_nil)
 (pss_cons (ps_fld (pv 0) (pv 1) rfl)
 (pss_one (ps_fld (pv 0) (pv 2) rfl))))), ?_⟩)
  exact def_run (Ns := ["self", "width", "low"]) (ms := m_Check___init__ n) (ds_seq (ds_dr (de_call (dc_val (de_var (i := 1)) (dc_val (de_c fun _ => .int _) (dc_val (de_c fun _ => .int _) dc_nil))) (len_valA (len_valA (len_valA len_nilA)))))
 (ds_seq (ds_if (dt_or (dt_not (dt_tru (de_call (dc_val (de_var (i := 2)) (dc_val (de_c fun _ => .int _) (dc_val (de_op rd_i0 (de_op rd_iC (de_c fun _ => .int _) (de_var (i := 1))) (de_c fun _ => .int _)) dc_nil))) (len_valA (len_valA (len_valA len_nilA)))))) (dt_tst (de_op rd_eq (de_op rd_i0 (de_var (i := 2)) (de_c fun _ => .int _)) (de_c fun _ => .int _)))) ds_no ds_nx)
 (ds_seq (ds_setF (cs := [0]) (i := 0) (mcls_cons (cm := cmT T) ⟨T.cl_Check, T.n_Check__width⟩ (mcls_nil (cm := cmT T))) (de_var (i := 1)))
 (ds_setF (cs := [0]) (i := 0) (mcls_cons (cm := cmT T) ⟨T.cl_Check, T.n_Check__low⟩ (mcls_nil (cm := cmT T))) (de_var (i := 2)))))) h
theorem ok_risen (T : Tx K mg) (n : Nat) : FnOk P w K mg base CX0 4 T.a_risen T.d_risen ["number", "check", "many"] (spD K (cmT T) 3 (F_risen n)) := by
  refine T.f_risen.ok (k := 3) sc_risen (fun vs H Q E h => spD_len h) (fun cdv A outer s H vs Q E hr h => ⟨_, (pss_cons (ps_par (i := 3) (j := 4) (by rfl) sc_risen.nd rfl rfl (by decide) rfl rfl (pa_cons (pe_call (ok_sum_of T n) hr (by rfl) T.g_sum_of T.f_sum_of.kp T.b_sum_of .nil pass0 (pa_cons (pv 1) pa_nil)) (pa_cons (pe_prop (pv 1) T.cl_Check T.pr_Check_width (ok_Check_width T n) (hr.mono (by decide)) T.b_Check_width .nil pass0 rfl) pa_nil)) (by rfl))
 (pss_cons (ps_for PassesOwn.never rfl (pi_range1 rfl T.m_range (pa_cons (pv 2) pa_nil)) (pg_name (i := 5) sc_risen.nd rfl (by first | exact Or.inl rfl | exact Or.inr rfl)) (pss_cons (ps_aug (i := 0) sc_risen.nd rfl (by first | exact Or.inl rfl | exact Or.inr rfl) pe_int (ip_of iop_shlW))
 (pss_one (ps_if (pt_truthK (K := K) rfl (pe_op (r := rI CNn fun i j => .int (i / 2 ^ j.toNat)) op_shr (pv 0) (pv 4)) (by intro _; rfl)) (pss_one (ps_aug (i := 0) sc_risen.nd rfl (by first | exact Or.inl rfl | exact Or.inr rfl) (pv 3) (ip_of iop_xor))) pss_nil))))
 (pss_one (ps_ret (pv 0))))), ?_⟩)
  exact def_run (Ns := ["number", "check", "many", "whole", "width", "_"]) (ms := m_risen n) (ds_seq (ds_par (das_fro (de_call (dc_val (de_var (i := 1)) dc_nil) (len_valA len_nilA)) (das_fro (de_prop (c := 0) (de_var (i := 1))) das_nil)))
 (ds_seq (ds_for (dit_r1 (da_cons (de_var (i := 2)) da_nil)) (dg_name (i := 5)) (ds_seq (ds_aug (i := 0) rd_iC (de_c fun _ => .int _))
 (ds_if (dt_tru (de_op rd_iC (de_var (i := 0)) (de_var (i := 4)))) (ds_aug (i := 0) rd_i0 (de_var (i := 3))) ds_nx)))
 (ds_ret (de_var (i := 0))))) h
theorem ok_first_powers (T : Tx K mg) (n : Nat) : FnOk P w K mg base CX0 4 T.a_first_powers T.d_first_powers ["check", "many"] (spD K (cmT T) 2 (F_first_powers n)) := by
  refine T.f_first_powers.ok (k := 3) sc_first_powers (fun vs H Q E h => spD_len h) (fun cdv A outer s H vs Q E hr h => ⟨_, (pss_cons (ps_par (i := 2) (j := 3) (by rfl) sc_first_powers.nd rfl rfl (by decide) rfl rfl (pa_cons (pe_lst pa_nil) (pa_cons pe_int pa_nil)) (by rfl))
 (pss_cons (ps_par (i := 4) (j := 5) (by rfl) sc_first_powers.nd rfl rfl (by decide) rfl rfl (pa_cons (pe_call (ok_sum_of T n) hr (by rfl) T.g_sum_of T.f_sum_of.kp T.b_sum_of .nil pass0 (pa_cons (pv 0) pa_nil)) (pa_cons (pe_prop (pv 0) T.cl_Check T.pr_Check_width (ok_Check_width T n) (hr.mono (by decide)) T.b_Check_width .nil pass0 rfl) pa_nil)) (by rfl))
 (pss_cons (ps_for PassesOwn.never rfl (pi_range1 rfl T.m_range (pa_cons (pv 1) pa_nil)) (pg_name (i := 6) sc_first_powers.nd rfl (by first | exact Or.inl rfl | exact Or.inr rfl)) (pss_cons (ps_expr (pe_bm PySem.F.plainAttrs_list PySem.F.slot_list_append PySem.F.type_list_append mt_append (pv 2) (pa_cons (pv 3) pa_nil)))
 (pss_cons (ps_aug (i := 3) sc_first_powers.nd rfl (by first | exact Or.inl rfl | exact Or.inr rfl) pe_int (ip_of iop_shlW))
 (pss_one (ps_if (pt_truthK (K := K) rfl (pe_op (r := rI CNn fun i j => .int (i / 2 ^ j.toNat)) op_shr (pv 3) (pv 5)) (by intro _; rfl)) (pss_one (ps_aug (i := 3) sc_first_powers.nd rfl (by first | exact Or.inl rfl | exact Or.inr rfl) (pv 4) (ip_of iop_xor))) pss_nil)))))
 (pss_one (ps_ret (pv 2)))))), ?_⟩)
  exact def_run (Ns := ["check", "many", "found", "number", "whole", "width", "_"]) (ms := m_first_powers n) (ds_seq (ds_par (das_own (df_lst da_nil) (das_fro (de_c fun _ => .int _) das_nil)))
 (ds_seq (ds_par (das_fro (de_call (dc_val (de_var (i := 0)) dc_nil) (len_valA len_nilA)) (das_fro (de_prop (c := 0) (de_var (i := 0))) das_nil)))
 (ds_seq (ds_for (dit_r1 (da_cons (de_var (i := 1)) da_nil)) (dg_name (i := 6)) (ds_seq (ds_app (i := 2) (de_var (i := 3)))
 (ds_seq (ds_aug (i := 3) rd_iC (de_c fun _ => .int _))
 (ds_if (dt_tru (de_op rd_iC (de_var (i := 3)) (de_var (i := 5)))) (ds_aug (i := 3) rd_i0 (de_var (i := 4))) ds_nx))))
 (ds_frz (i := 2) (ds_ret (de_var (i := 2))))))) h
theorem ok_order_of (T : Tx K mg) (n : Nat) : FnOk P w K mg base CX0 5 T.a_order_of T.d_order_of ["check"] (spD K (cmT T) 1 (F_order_of n)) := by
  refine T.f_order_of.ok (k := 4) sc_order_of (fun vs H Q E h => spD_len h) (fun cdv A outer s H vs Q E hr h => ⟨_, (pss_cons (ps_par (i := 1) (j := 2) (by rfl) sc_order_of.nd rfl rfl (by decide) rfl rfl (pa_cons (pe_call (ok_risen T n) hr (by rfl) T.g_risen T.f_risen.kp T.b_risen .nil pass0 (pa_cons pe_int (pa_cons (pv 0) (pa_cons pe_int pa_nil)))) (pa_cons pe_int pa_nil)) (by rfl))
 (pss_cons (ps_par (i := 3) (j := 4) (by rfl) sc_order_of.nd rfl rfl (by decide) rfl rfl (pa_cons (pe_call (ok_sum_of T n) (hr.mono (by decide)) (by rfl) T.g_sum_of T.f_sum_of.kp T.b_sum_of .nil pass0 (pa_cons (pv 0) pa_nil)) (pa_cons (pe_prop (pv 0) T.cl_Check T.pr_Check_width (ok_Check_width T n) (hr.mono (by decide)) T.b_Check_width .nil pass0 rfl) pa_nil)) (by rfl))
 (pss_cons (ps_while PassesOwn.never (pt_cmpR (r := orR rNe (rNeD K)) (opOr op_ne (op_neD hr.units)) (pv 1) pe_int (nomark _)) (pss_cons (ps_aug (i := 1) sc_order_of.nd rfl (by first | exact Or.inl rfl | exact Or.inr rfl) pe_int (ip_of iop_shlW))
 (pss_cons (ps_if (pt_truthK (K := K) rfl (pe_op (r := rI CNn fun i j => .int (i / 2 ^ j.toNat)) op_shr (pv 1) (pv 4)) (by intro _; rfl)) (pss_one (ps_aug (i := 1) sc_order_of.nd rfl (by first | exact Or.inl rfl | exact Or.inr rfl) (pv 3) (ip_of iop_xor))) pss_nil)
 (pss_one (ps_aug (i := 2) sc_order_of.nd rfl (by first | exact Or.inl rfl | exact Or.inr rfl) pe_int (ip_of (r := orR (orR (rI0 fun i j => .int (i + j)) rAddStr) rExt2) (opOr (opOr iop_add iop_add_str) iop_ext)))))))
 (pss_one (ps_ret (pv 2)))))), ?_⟩)
  exact def_run (Ns := ["check", "number", "many", "whole", "width"]) (ms := m_order_of n) (ds_seq (ds_par (das_fro (de_call (dc_val (de_c fun _ => .int _) (dc_val (de_var (i := 0)) (dc_val (de_c fun _ => .int _) dc_nil))) (len_valA (len_valA (len_valA len_nilA)))) (das_fro (de_c fun _ => .int _) das_nil)))
 (ds_seq (ds_par (das_fro (de_call (dc_val (de_var (i := 0)) dc_nil) (len_valA len_nilA)) (das_fro (de_prop (c := 0) (de_var (i := 0))) das_nil)))
 (ds_seq (ds_wh n (dt_tst (de_op rd_ne (de_var (i := 1)) (de_c fun _ => .int _))) (ds_seq (ds_aug (i := 1) rd_iC (de_c fun _ => .int _))
 (ds_seq (ds_if (dt_tru (de_op rd_iC (de_var (i := 1)) (de_var (i := 4)))) (ds_aug (i := 1) rd_i0 (de_var (i := 3))) ds_nx)
 (ds_ext (i := 2) (de_c fun _ => .int _)))))
 (ds_ret (de_var (i := 2)))))) h
theorem ok_order (T : Tx K mg) (n : Nat) : FnOk P w K mg base CX0 6 T.a_order T.d_order ["check"] (spD K (cmT T) 1 (F_order n)) := by
  refine T.f_order.ok (k := 5) sc_order (fun vs H Q E h => spD_len h) (fun cdv A outer s H vs Q E hr h => ⟨_, (pss_cons (ps_expr (pe_call (ok_check_check T n) (hr.mono (by decide)) (by rfl) T.g_check_check T.f_check_check.kp T.b_check_check .nil pass0 (pa_cons (pv 0) pa_nil)))
 (pss_one (ps_ret (pe_call (ok_order_of T n) hr (by rfl) T.g_order_of T.f_order_of.kp T.b_order_of .nil pass0 (pa_cons (pv 0) pa_nil))))), ?_⟩)
  exact def_run (Ns := ["check"]) (ms := m_order n) (ds_seq (ds_dr (de_call (dc_val (de_var (i := 0)) dc_nil) (len_valA len_nilA)))
 (ds_ret (de_call (dc_val (de_var (i := 0)) dc_nil) (len_valA len_nilA)))) h
theorem ok_places_by_rest (T : Tx K mg) (n : Nat) : FnOk P w K mg base CX0 6 T.a_places_by_rest T.d_places_by_rest ["check", "many"] (spD K (cmT T) 2 (F_places_by_rest n)) := by
  refine T.f_places_by_rest.ok (k := 5) sc_places_by_rest (fun vs H Q E h => spD_len h) (fun cdv A outer s H vs Q E hr h => ⟨_, (pss_cons (ps_set (i := 2) sc_places_by_rest.nd rfl (by first | exact Or.inl rfl | exact Or.inr rfl) (pe_call (ok_order_of T n) hr (by rfl) T.g_order_of T.f_order_of.kp T.b_order_of .nil pass0 (pa_cons (pv 0) pa_nil)))
 (pss_cons (ps_set (i := 3) sc_places_by_rest.nd rfl (by first | exact Or.inl rfl | exact Or.inr rfl) (pe_op (r := rMulA) op_mulA (pe_lst (pa_cons pe_int pa_nil)) (pe_op op_shlW pe_int (pe_prop (pv 0) T.cl_Check T.pr_Check_width (ok_Check_width T n) (hr.mono (by decide)) T.b_Check_width .nil pass0 rfl))))
 (pss_cons (ps_for PassesOwn.never rfl (pi_enum (by rfl) T.m_enumerate (pa_cons (pe_call (ok_first_powers T n) (hr.mono (by decide)) (by rfl) T.g_first_powers T.f_first_powers.kp T.b_first_powers .nil pass0 (pa_cons (pv 0) (pa_cons (pv 2) pa_nil))) pa_nil)) (pg_tup rfl (pgs_cons (pg_name (i := 4) sc_places_by_rest.nd rfl (by first | exact Or.inl rfl | exact Or.inr rfl)) (pgs_cons (pg_name (i := 5) sc_places_by_rest.nd rfl (by first | exact Or.inl rfl | exact Or.inr rfl)) pgs_nil))) (pss_one (ps_asg (pe_ifExp (pt_cmpR op_lt (pv 4) (pv 1) (nomark _)) (pe_op op_fdivW (pe_op op_sub (pe_op (r := rAddA K) op_addA (pe_op op_sub (pv 1) (pv 4)) (pv 2)) pe_int) (pv 2)) pe_int) (pg_sub (pv 3) (pv 5) set_list))))
 (pss_one (ps_ret (pv 3)))))), ?_⟩)
  exact def_run (Ns := ["check", "many", "order", "counts", "place", "number"]) (ms := m_places_by_rest n) (ds_seq (ds_as (de_call (dc_val (de_var (i := 0)) dc_nil) (len_valA len_nilA)) (dg_name (i := 2)))
 (ds_seq (ds_ow (i := 3) (df_rep (de_fr (df_lst (da_cons (de_c fun _ => .int _) da_nil))) (de_op rd_iC (de_c fun _ => .int _) (de_prop (c := 0) (de_var (i := 0))))))
 (ds_seq (ds_for (dit_enum (da_cons (de_call (dc_val (de_var (i := 0)) (dc_val (de_var (i := 2)) dc_nil)) (len_valA (len_valA len_nilA))) da_nil)) (dg_tup (dgs_cons (dg_name (i := 4)) (dgs_cons (dg_name (i := 5)) dgs_nil))) (ds_put (i := 3) (de_var (i := 5)) (de_if (dt_tst (de_op rd_b (de_var (i := 4)) (de_var (i := 1)))) (de_op rd_iC (de_op rd_i0 (de_op rd_add (de_op rd_i0 (de_var (i := 1)) (de_var (i := 4))) (de_var (i := 2))) (de_c fun _ => .int _)) (de_var (i := 2))) (de_c fun _ => .int _))))
 (ds_frz (i := 3) (ds_ret (de_var (i := 3))))))) h
theorem ok_odd_places (T : Tx K mg) (n : Nat) : FnOk P w K mg base CX0 7 T.a_odd_places T.d_odd_places ["check", "many"] (spD K (cmT T) 2 (F_odd_places n)) := by
  refine T.f_odd_places.ok (k := 6) sc_odd_places (fun vs H Q E h => spD_len h) (fun cdv A outer s H vs Q E hr h => ⟨_, (pss_cons (ps_set (i := 2) sc_odd_places.nd rfl (by first | exact Or.inl rfl | exact Or.inr rfl) (pe_call (ok_places_by_rest T n) hr (by rfl) T.g_places_by_rest T.f_places_by_rest.kp T.b_places_by_rest .nil pass0 (pa_cons (pv 0) (pa_cons (pv 1) pa_nil))))
 (pss_cons (ps_for PassesOwn.never rfl (pi_range1 rfl T.m_range (pa_cons (pe_prop (pv 0) T.cl_Check T.pr_Check_width (ok_Check_width T n) (hr.mono (by decide)) T.b_Check_width .nil pass0 rfl) pa_nil)) (pg_name (i := 3) sc_odd_places.nd rfl (by first | exact Or.inl rfl | exact Or.inr rfl)) (pss_cons (ps_set (i := 4) sc_odd_places.nd rfl (by first | exact Or.inl rfl | exact Or.inr rfl) (pe_op op_shlW pe_int (pv 3)))
 (pss_one (ps_set (i := 2) sc_odd_places.nd rfl (by first | exact Or.inl rfl | exact Or.inr rfl) (pe_lc (own := [("at", 5)]) (g := gName 5) (tt := tYes) rfl sc_odd_places.nd (pi_range1 rfl T.m_range (pa_cons (pe_callB (id := "len") (r := rLenA K) cr_lenA (by rfl) T.m_len PySem.boot_len (pa_cons (pv 2) pa_nil)) pa_nil)) (blkOk_by (own := [("at", 5)]) (N := ["check", "many", "sums", "bit", "worth", "at", "total"]) (sc := defScope s_odd_places) (by decide +kernel)) (fun _ _ _ _ _ => (pg_name (i := 5) sc_odd_places.nd rfl (by first | exact Or.inl rfl | exact Or.inr rfl))) (fun _ _ _ _ _ => pts_nil) (fun _ _ _ _ _ => (pe_ifExp (pt_truthK (K := K) rfl (pe_op op_and (pv 5) (pv 4)) (by intro _; rfl)) (pe_op op_sub (pe_ix (r := rIxA K) ix_A (pv 2) (pe_op op_xor (pv 5) (pv 4)) (fun _ _ => rfl)) (pe_ix (r := rIxA K) ix_A (pv 2) (pv 5) (fun _ _ => rfl))) (pe_op (r := rAddA K) op_addA (pe_ix (r := rIxA K) ix_A (pv 2) (pv 5) (fun _ _ => rfl)) (pe_ix (r := rIxA K) ix_A (pv 2) (pe_op op_xor (pv 5) (pv 4)) (fun _ _ => rfl))))))))))
 (pss_one (ps_ret (pe_lc (own := [("total", 6)]) (g := gName 6) (tt := tYes) rfl sc_odd_places.nd (pi_listK (K := K) rfl (pv 2)) (blkOk_by (own := [("total", 6)]) (N := ["check", "many", "sums", "bit", "worth", "at", "total"]) (sc := defScope s_odd_places) (by decide +kernel)) (fun _ _ _ _ _ => (pg_name (i := 6) sc_odd_places.nd rfl (by first | exact Or.inl rfl | exact Or.inr rfl))) (fun _ _ _ _ _ => pts_nil) (fun _ _ _ _ _ => (pe_op op_fdivW (pe_op op_sub (pv 1) (pv 6)) pe_int))))))), ?_⟩)
  exact def_run (Ns := ["check", "many", "sums", "bit", "worth", "at", "total"]) (ms := m_odd_places n) (ds_seq (ds_as (de_call (dc_val (de_var (i := 0)) (dc_val (de_var (i := 1)) dc_nil)) (len_valA (len_valA len_nilA))) (dg_name (i := 2)))
 (ds_seq (ds_for (dit_r1 (da_cons (de_prop (c := 0) (de_var (i := 0))) da_nil)) (dg_name (i := 3)) (ds_seq (ds_as (de_op rd_iC (de_c fun _ => .int _) (de_var (i := 3))) (dg_name (i := 4)))
 (ds_as (de_fr (df_comp (vs := [5]) (dit_r1 (da_cons (de_cb rcd_len (da_cons (de_var (i := 2)) da_nil)) da_nil)) (dg_name (i := 5)) (by decide) dt_yes (de_if (dt_tru (de_op rd_i0 (de_var (i := 5)) (de_var (i := 4)))) (de_op rd_i0 (de_op rd_ix (de_var (i := 2)) (de_op rd_i0 (de_var (i := 5)) (de_var (i := 4)))) (de_op rd_ix (de_var (i := 2)) (de_var (i := 5)))) (de_op rd_add (de_op rd_ix (de_var (i := 2)) (de_var (i := 5))) (de_op rd_ix (de_var (i := 2)) (de_op rd_i0 (de_var (i := 5)) (de_var (i := 4)))))))) (dg_name (i := 2)))))
 (ds_ret (de_fr (df_comp (vs := [6]) (dit_list (de_var (i := 2))) (dg_name (i := 6)) (by decide) dt_yes (de_op rd_iC (de_op rd_i0 (de_var (i := 1)) (de_var (i := 6))) (de_c fun _ => .int _))))))) h
theorem ok_how_many_unseen (T : Tx K mg) (n : Nat) : FnOk P w K mg base CX0 8 T.a_how_many_unseen T.d_how_many_unseen ["check", "many", "few"] (spD K (cmT T) 3 (F_how_many_unseen n)) := by
  refine T.f_how_many_unseen.ok (k := 7) sc_how_many_unseen (fun vs H Q E h => spD_len h) (fun cdv A outer s H vs Q E hr h => ⟨_, (pss_cons (ps_expr (pe_call (ok_check_narrow T n) (hr.mono (by decide)) (by rfl) T.g_check_narrow T.f_check_narrow.kp T.b_check_narrow .nil pass0 (pa_cons (pv 0) pa_nil)))
 (pss_cons (ps_expr (pe_call (ok_check_within T n) (hr.mono (by decide)) (by rfl) T.g_check_within T.f_check_within.kp T.b_check_within .nil pass0 (pa_cons (pv 1) (pa_cons pe_int (pa_cons (pe_glob (v := .int 1000000000000000000) rfl T.c_GREATEST_PLACE ⟨_, rfl⟩) pa_nil)))))
 (pss_cons (ps_expr (pe_call (ok_check_within T n) (hr.mono (by decide)) (by rfl) T.g_check_within T.f_check_within.kp T.b_check_within .nil pass0 (pa_cons (pv 2) (pa_cons pe_int (pa_cons (pe_glob (v := .int 8) rfl T.c_MOST_FEW ⟨_, rfl⟩) pa_nil)))))
 (pss_one (ps_ret (pe_op (r := rI CNn fun i j => .int (i / 2 ^ j.toNat)) op_shr (pe_callB (id := "sum") (r := rSum K) (cr_sum rfl) (by rfl) T.m_sum (by decide +kernel) (pa_cons (pe_lc (own := [("odd", 3)]) (g := gName 3) (tt := tYes) rfl sc_how_many_unseen.nd (pi_listK (K := K) rfl (pe_call (ok_odd_places T n) hr (by rfl) T.g_odd_places T.f_odd_places.kp T.b_odd_places .nil pass0 (pa_cons (pv 0) (pa_cons (pv 1) pa_nil)))) (blkOk_by (own := [("odd", 3)]) (N := ["check", "many", "few", "odd"]) (sc := defScope s_how_many_unseen) (by decide +kernel)) (fun _ _ _ _ _ => (pg_name (i := 3) sc_how_many_unseen.nd rfl (by first | exact Or.inl rfl | exact Or.inr rfl))) (fun _ _ _ _ _ => pts_nil) (fun _ _ _ _ _ => (pe_call (ok_signed_choices T n) (hr.mono (by decide)) (by rfl) T.g_signed_choices T.f_signed_choices.kp T.b_signed_choices .nil pass0 (pa_cons (pv 3) (pa_cons (pe_op op_sub (pv 1) (pv 3)) (pa_cons (pv 2) pa_nil)))))) pa_nil)) (pe_prop (pv 0) T.cl_Check T.pr_Check_width (ok_Check_width T n) (hr.mono (by decide)) T.b_Check_width .nil pass0 rfl))))))), ?_⟩)
  exact def_run (Ns := ["check", "many", "few", "odd"]) (ms := m_how_many_unseen n) (ds_seq (ds_dr (de_call (dc_val (de_var (i := 0)) dc_nil) (len_valA len_nilA)))
 (ds_seq (ds_dr (de_call (dc_val (de_var (i := 1)) (dc_val (de_c fun _ => .int _) (dc_val (de_c fun _ => .int _) dc_nil))) (len_valA (len_valA (len_valA len_nilA)))))
 (ds_seq (ds_dr (de_call (dc_val (de_var (i := 2)) (dc_val (de_c fun _ => .int _) (dc_val (de_c fun _ => .int _) dc_nil))) (len_valA (len_valA (len_valA len_nilA)))))
 (ds_ret (de_op rd_iC (de_cb rcd_sum (da_cons (de_fr (df_comp (vs := [3]) (dit_list (de_call (dc_val (de_var (i := 0)) (dc_val (de_var (i := 1)) dc_nil)) (len_valA (len_valA len_nilA)))) (dg_name (i := 3)) (by decide) dt_yes (de_call (dc_val (de_var (i := 3)) (dc_val (de_op rd_i0 (de_var (i := 1)) (de_var (i := 3))) (dc_val (de_var (i := 2)) dc_nil))) (len_valA (len_valA (len_valA len_nilA)))))) da_nil)) (de_prop (c := 0) (de_var (i := 0)))))))) h
theorem ok_chance (T : Tx K mg) (n : Nat) : FnOk P w K mg base CX0 8 T.a_chance T.d_chance ["check", "many", "top", "under"] (spD K (cmT T) 4 (F_chance n)) := by
  refine T.f_chance.ok (k := 7) sc_chance (fun vs H Q E h => spD_len h) (fun cdv A outer s H vs Q E hr h => ⟨_, (pss_cons (ps_expr (pe_call (ok_check_narrow T n) (hr.mono (by decide)) (by rfl) T.g_check_narrow T.f_check_narrow.kp T.b_check_narrow .nil pass0 (pa_cons (pv 0) pa_nil)))
 (pss_cons (ps_expr (pe_call (ok_check_within T n) (hr.mono (by decide)) (by rfl) T.g_check_within T.f_check_within.kp T.b_check_within .nil pass0 (pa_cons (pv 1) (pa_cons pe_int (pa_cons (pe_glob (v := .int 60) rfl T.c_MOST_CHANCES ⟨_, rfl⟩) pa_nil)))))
 (pss_cons (ps_expr (pe_call (ok_check_within T n) (hr.mono (by decide)) (by rfl) T.g_check_within T.f_check_within.kp T.b_check_within .nil pass0 (pa_cons (pv 2) (pa_cons pe_int (pa_cons (pe_glob (v := .int 1000) rfl T.c_GREATEST_CHANCE ⟨_, rfl⟩) pa_nil)))))
 (pss_cons (ps_expr (pe_call (ok_check_within T n) (hr.mono (by decide)) (by rfl) T.g_check_within T.f_check_within.kp T.b_check_within .nil pass0 (pa_cons (pv 3) (pa_cons (pe_callB (id := "max") (r := rMax K) (cr_max rfl) (by rfl) T.m_max (by decide +kernel) (pa_cons (pe_lst (pa_cons pe_int (pa_cons (pv 2) pa_nil))) pa_nil)) (pa_cons (pe_glob (v := .int 1000) rfl T.c_GREATEST_CHANCE ⟨_, rfl⟩) pa_nil)))))
 (pss_cons (ps_asg (pe_tup (pa_cons (pe_call (ok_first_products T n) (hr.mono (by decide)) (by rfl) T.g_first_products T.f_first_products.kp T.b_first_products .nil pass0 (pa_cons (pe_op op_sub (pv 3) (pe_op (r := rMulA) op_mulA pe_int (pv 2))) (pa_cons (pv 1) pa_nil))) (pa_cons (pe_call (ok_first_products T n) (hr.mono (by decide)) (by rfl) T.g_first_products T.f_first_products.kp T.b_first_products .nil pass0 (pa_cons (pv 3) (pa_cons (pv 1) pa_nil))) pa_nil))) (pg_tup rfl (pgs_cons (pg_name (i := 4) sc_chance.nd rfl (by first | exact Or.inl rfl | exact Or.inr rfl)) (pgs_cons (pg_name (i := 5) sc_chance.nd rfl (by first | exact Or.inl rfl | exact Or.inr rfl)) pgs_nil))))
 (pss_cons (ps_set (i := 6) sc_chance.nd rfl (by first | exact Or.inl rfl | exact Or.inr rfl) (pe_callB (id := "sum") (r := rSum K) (cr_sum rfl) (by rfl) T.m_sum (by decide +kernel) (pa_cons (pe_lc (own := [("odd", 8)]) (g := gName 8) (tt := tYes) rfl sc_chance.nd (pi_listK (K := K) rfl (pe_call (ok_odd_places T n) hr (by rfl) T.g_odd_places T.f_odd_places.kp T.b_odd_places .nil pass0 (pa_cons (pv 0) (pa_cons (pv 1) pa_nil)))) (blkOk_by (own := [("odd", 8)]) (N := ["check", "many", "top", "under", "turned", "kept", "unseen", "none", "odd"]) (sc := defScope s_chance) (by decide +kernel)) (fun _ _ _ _ _ => (pg_name (i := 8) sc_chance.nd rfl (by first | exact Or.inl rfl | exact Or.inr rfl))) (fun _ _ _ _ _ => pts_nil) (fun _ _ _ _ _ => (pe_op (r := rMulA) op_mulA (pe_ix (r := rIxA K) ix_A (pv 4) (pv 8) (fun _ _ => rfl)) (pe_ix (r := rIxA K) ix_A (pv 5) (pe_op op_sub (pv 1) (pv 8)) (fun _ _ => rfl))))) pa_nil)))
 (pss_cons (ps_set (i := 7) sc_chance.nd rfl (by first | exact Or.inl rfl | exact Or.inr rfl) (pe_ix (r := rIxA K) ix_A (pe_call (ok_first_products T n) (hr.mono (by decide)) (by rfl) T.g_first_products T.f_first_products.kp T.b_first_products .nil pass0 (pa_cons (pe_op op_sub (pv 3) (pv 2)) (pa_cons (pv 1) pa_nil))) (pv 1) (fun _ _ => rfl)))
 (pss_one (ps_ret (pe_call (ok_fraction T n) (hr.mono (by decide)) (by rfl) T.g_fraction T.f_fraction.kp T.b_fraction .nil pass0 (pa_cons (pe_op op_sub (pv 6) (pe_op op_shlW (pv 7) (pe_prop (pv 0) T.cl_Check T.pr_Check_width (ok_Check_width T n) (hr.mono (by decide)) T.b_Check_width .nil pass0 rfl))) (pa_cons (pe_op op_shlW (pe_ix (r := rIxA K) ix_A (pv 5) (pv 1) (fun _ _ => rfl)) (pe_prop (pv 0) T.cl_Check T.pr_Check_width (ok_Check_width T n) (hr.mono (by decide)) T.b_Check_width .nil pass0 rfl)) pa_nil)))))))))))), ?_⟩)
  exact def_run (Ns := ["check", "many", "top", "under", "turned", "kept", "unseen", "none", "odd"]) (ms := m_chance n) (ds_seq (ds_dr (de_call (dc_val (de_var (i := 0)) dc_nil) (len_valA len_nilA)))
 (ds_seq (ds_dr (de_call (dc_val (de_var (i := 1)) (dc_val (de_c fun _ => .int _) (dc_val (de_c fun _ => .int _) dc_nil))) (len_valA (len_valA (len_valA len_nilA)))))
 (ds_seq (ds_dr (de_call (dc_val (de_var (i := 2)) (dc_val (de_c fun _ => .int _) (dc_val (de_c fun _ => .int _) dc_nil))) (len_valA (len_valA (len_valA len_nilA)))))
 (ds_seq (ds_dr (de_call (dc_val (de_var (i := 3)) (dc_val (de_cb rcd_max (da_cons (de_fr (df_lst (da_cons (de_c fun _ => .int _) (da_cons (de_var (i := 2)) da_nil)))) da_nil)) (dc_val (de_c fun _ => .int _) dc_nil))) (len_valA (len_valA (len_valA len_nilA)))))
 (ds_seq (ds_as (de_tup (da_cons (de_call (dc_val (de_op rd_i0 (de_var (i := 3)) (de_op rd_mul (de_c fun _ => .int _) (de_var (i := 2)))) (dc_val (de_var (i := 1)) dc_nil)) (len_valA (len_valA len_nilA))) (da_cons (de_call (dc_val (de_var (i := 3)) (dc_val (de_var (i := 1)) dc_nil)) (len_valA (len_valA len_nilA))) da_nil))) (dg_tup (dgs_cons (dg_name (i := 4)) (dgs_cons (dg_name (i := 5)) dgs_nil))))
 (ds_seq (ds_as (de_cb rcd_sum (da_cons (de_fr (df_comp (vs := [8]) (dit_list (de_call (dc_val (de_var (i := 0)) (dc_val (de_var (i := 1)) dc_nil)) (len_valA (len_valA len_nilA)))) (dg_name (i := 8)) (by decide) dt_yes (de_op rd_mul (de_op rd_ix (de_var (i := 4)) (de_var (i := 8))) (de_op rd_ix (de_var (i := 5)) (de_op rd_i0 (de_var (i := 1)) (de_var (i := 8))))))) da_nil)) (dg_name (i := 6)))
 (ds_seq (ds_as (de_op rd_ix (de_call (dc_val (de_op rd_i0 (de_var (i := 3)) (de_var (i := 2))) (dc_val (de_var (i := 1)) dc_nil)) (len_valA (len_valA len_nilA))) (de_var (i := 1))) (dg_name (i := 7)))
 (ds_ret (de_call (dc_val (de_op rd_i0 (de_var (i := 6)) (de_op rd_iC (de_var (i := 7)) (de_prop (c := 0) (de_var (i := 0))))) (dc_val (de_op rd_iC (de_op rd_ix (de_var (i := 5)) (de_var (i := 1))) (de_prop (c := 0) (de_var (i := 0)))) dc_nil)) (len_valA (len_valA len_nilA))))))))))) h
theorem ok__law_small_right (T : Tx K mg) (n : Nat) : FnOk P w K mg base CX0 9 T.a__law_small_right T.d__law_small_right ["_law_generator_here", "_law_check", "_law_whole", "_law_many"] (spD K (cmT T) 4 (F__law_small_right n)) := by
  refine T.f__law_small_right.ok (k := 8) sc__law_small_right (fun vs H Q E h => spD_len h) (fun cdv A outer s H vs Q E hr h => ⟨_, (pss_cons (ps_set (i := 4) sc__law_small_right.nd rfl (by first | exact Or.inl rfl | exact Or.inr rfl) (pe_op (r := rMulA) op_mulA (pe_lst (pa_cons pe_int pa_nil)) pe_int))
 (pss_cons (ps_for PassesOwn.never rfl (pi_range1 rfl T.m_range (pa_cons (pe_op op_shlW pe_int (pv 3)) pa_nil)) (pg_name (i := 5) sc__law_small_right.nd rfl (by first | exact Or.inl rfl | exact Or.inr rfl)) (pss_one (ps_if (pt_cmpR (r := orR rEq (rEqD K)) (opOr op_eq (op_eqD hr.units)) (pe_call (ok__law_rest T n) (hr.mono (by decide)) (by rfl) T.g__law_rest T.f__law_rest.kp T.b__law_rest .nil pass0 (pa_cons (pv 2) (pa_cons (pv 5) pa_nil))) pe_int (nomark _)) (pss_cons (ps_set (i := 6) sc__law_small_right.nd rfl (by first | exact Or.inl rfl | exact Or.inr rfl) (pe_callB (id := "len") (r := rLenA K) cr_lenA (by rfl) T.m_len PySem.boot_len (pa_cons (pe_call (ok__law_places T n) (hr.mono (by decide)) (by rfl) T.g__law_places T.f__law_places.kp T.b__law_places .nil pass0 (pa_cons (pv 5) pa_nil)) pa_nil)))
 (pss_one (ps_asg (pe_op (r := rAddA K) op_addA (pe_ix (r := rIxA K) ix_A (pv 4) (pv 6) (fun _ _ => rfl)) pe_int) (pg_sub (pv 4) (pv 6) set_list)))) pss_nil)))
 (pss_cons (ps_if (pt_cmpR (r := orR rNe (rNeD K)) (opOr op_ne (op_neD hr.units)) (pe_lc (own := [("_law_few", 10)]) (g := gName 10) (tt := tYes) rfl sc__law_small_right.nd (pi_range1 rfl T.m_range (pa_cons pe_int pa_nil)) (blkOk_by (own := [("_law_few", 10)]) (N := ["_law_generator_here", "_law_check", "_law_whole", "_law_many", "_law_counts", "_law_number", "_law_size", "_law_under", "_law_top", "_law_total", "_law_few"]) (sc := defScope s__law_small_right) (by decide +kernel)) (fun _ _ _ _ _ => (pg_name (i := 10) sc__law_small_right.nd rfl (by first | exact Or.inl rfl | exact Or.inr rfl))) (fun _ _ _ _ _ => pts_nil) (fun _ _ _ _ _ => (pe_call (ok_how_many_unseen T n) hr (by rfl) T.g_how_many_unseen T.f_how_many_unseen.kp T.b_how_many_unseen .nil pass0 (pa_cons (pv 1) (pa_cons (pv 3) (pa_cons (pv 10) pa_nil)))))) (pv 4) (nomark _)) (pss_one (ps_ret pe_bl)) pss_nil)
 (pss_cons (ps_if (PW.pt (pw_and (pt_cmpR op_ge (pv 3) (pe_prop (pv 1) T.cl_Check T.pr_Check_width (ok_Check_width T n) (hr.mono (by decide)) T.b_Check_width .nil pass0 rfl) (nomark _)) (pw_and1 (pt_cmpR (r := orR rNe (rNeD K)) (opOr op_ne (op_neD hr.units)) (pe_callB (id := "sum") (r := rSum K) (cr_sum rfl) (by rfl) T.m_sum (by decide +kernel) (pa_cons (pv 4) pa_nil)) (pe_op op_shlW pe_int (pe_op op_sub (pv 3) (pe_prop (pv 1) T.cl_Check T.pr_Check_width (ok_Check_width T n) (hr.mono (by decide)) T.b_Check_width .nil pass0 rfl))) (nomark _))))) (pss_one (ps_ret pe_bl)) pss_nil)
 (pss_cons (ps_set (i := 7) sc__law_small_right.nd rfl (by first | exact Or.inl rfl | exact Or.inr rfl) (pe_op (r := rAddA K) op_addA pe_int (pe_call (ok__law_random T n) (hr.mono (by decide)) (by rfl) T.g__law_random T.f__law_random.kp T.b__law_random .nil pass0 (pa_cons (pv 0) (pa_cons pe_int pa_nil)))))
 (pss_cons (ps_for PassesOwn.never rfl (pi_listK (K := K) rfl (pe_lst (pa_cons (pe_call (ok__law_random T n) (hr.mono (by decide)) (by rfl) T.g__law_random T.f__law_random.kp T.b__law_random .nil pass0 (pa_cons (pv 0) (pa_cons (pe_op (r := rAddA K) op_addA (pv 7) pe_int) pa_nil))) (pa_cons pe_int (pa_cons (pv 7) pa_nil))))) (pg_name (i := 8) sc__law_small_right.nd rfl (by first | exact Or.inl rfl | exact Or.inr rfl)) (pss_cons (ps_set (i := 9) sc__law_small_right.nd rfl (by first | exact Or.inl rfl | exact Or.inr rfl) pe_int)
 (pss_cons (ps_for PassesOwn.never rfl (pi_range2 rfl T.m_range (pa_cons pe_int (pa_cons (pe_op (r := rAddA K) op_addA (pv 3) pe_int) pa_nil))) (pg_name (i := 10) sc__law_small_right.nd rfl (by first | exact Or.inl rfl | exact Or.inr rfl)) (pss_one (ps_set (i := 9) sc__law_small_right.nd rfl (by first | exact Or.inl rfl | exact Or.inr rfl) (pe_op (r := rAddA K) op_addA (pv 9) (pe_op (r := rMulA) op_mulA (pe_op (r := rMulA) op_mulA (pe_ix (r := rIxA K) ix_A (pv 4) (pv 10) (fun _ _ => rfl)) (pe_call (ok__law_raised T n) (hr.mono (by decide)) (by rfl) T.g__law_raised T.f__law_raised.kp T.b__law_raised .nil pass0 (pa_cons (pv 8) (pa_cons (pv 10) pa_nil)))) (pe_call (ok__law_raised T n) (hr.mono (by decide)) (by rfl) T.g__law_raised T.f__law_raised.kp T.b__law_raised .nil pass0 (pa_cons (pe_op op_sub (pv 7) (pv 8)) (pa_cons (pe_op op_sub (pv 3) (pv 10)) pa_nil))))))))
 (pss_one (ps_if (pt_cmpR (r := orR rNe (rNeD K)) (opOr op_ne (op_neD hr.units)) (pe_call (ok_chance T n) hr (by rfl) T.g_chance T.f_chance.kp T.b_chance .nil pass0 (pa_cons (pv 1) (pa_cons (pv 3) (pa_cons (pv 8) (pa_cons (pv 7) pa_nil))))) (pe_call (ok__law_lowest T n) (hr.mono (by decide)) (by rfl) T.g__law_lowest T.f__law_lowest.kp T.b__law_lowest .nil pass0 (pa_cons (pv 9) (pa_cons (pe_call (ok__law_raised T n) (hr.mono (by decide)) (by rfl) T.g__law_raised T.f__law_raised.kp T.b__law_raised .nil pass0 (pa_cons (pv 7) (pa_cons (pv 3) pa_nil))) pa_nil))) (nomark _)) (pss_one (ps_ret pe_bl)) pss_nil)))))
 (pss_one (ps_ret pe_bl)))))))), ?_⟩)
  exact def_run (Ns := ["_law_generator_here", "_law_check", "_law_whole", "_law_many", "_law_counts", "_law_number", "_law_size", "_law_under", "_law_top", "_law_total", "_law_few"]) (ms := m__law_small_right n) (ds_seq (ds_ow (i := 4) (df_rep (de_fr (df_lst (da_cons (de_c fun _ => .int _) da_nil))) (de_c fun _ => .int _)))
 (ds_seq (ds_for (dit_r1 (da_cons (de_op rd_iC (de_c fun _ => .int _) (de_var (i := 3))) da_nil)) (dg_name (i := 5)) (ds_if (dt_tst (de_op rd_eq (de_call (dc_val (de_var (i := 2)) (dc_val (de_var (i := 5)) dc_nil)) (len_valA (len_valA len_nilA))) (de_c fun _ => .int _))) (ds_seq (ds_as (de_cb rcd_len (da_cons (de_call (dc_val (de_var (i := 5)) dc_nil) (len_valA len_nilA)) da_nil)) (dg_name (i := 6)))
 (ds_put (i := 4) (de_var (i := 6)) (de_op rd_add (de_ixO (i := 4) (de_var (i := 6))) (de_c fun _ => .int _)))) ds_nx))
 (ds_seq (ds_if (dt_sc (dt_tst (de_op rd_ne (de_fr (df_comp (vs := [10]) (dit_r1 (da_cons (de_c fun _ => .int _) da_nil)) (dg_name (i := 10)) (by decide) dt_yes (de_call (dc_val (de_var (i := 1)) (dc_val (de_var (i := 3)) (dc_val (de_var (i := 10)) dc_nil))) (len_valA (len_valA (len_valA len_nilA)))))) (de_var (i := 4))))) (ds_ret (de_c fun _ => .bl _)) ds_nx)
 (ds_seq (ds_if (dt_and (dt_tst (de_op rd_b (de_var (i := 3)) (de_prop (c := 0) (de_var (i := 1))))) (dt_tst (de_op rd_ne (de_sc (de_cb rcd_sum (da_cons (de_var (i := 4)) da_nil))) (de_op rd_iC (de_c fun _ => .int _) (de_op rd_i0 (de_var (i := 3)) (de_prop (c := 0) (de_var (i := 1)))))))) (ds_ret (de_c fun _ => .bl _)) ds_nx)
 (ds_seq (ds_as (de_op rd_add (de_c fun _ => .int _) (de_call (dc_slo (i := 0) (dc_val (de_c fun _ => .int _) dc_nil)) (len_sloA (len_valA len_nilA)))) (dg_name (i := 7)))
 (ds_seq (ds_for (dit_list (de_fr (df_lst (da_cons (de_call (dc_slo (i := 0) (dc_val (de_op rd_add (de_var (i := 7)) (de_c fun _ => .int _)) dc_nil)) (len_sloA (len_valA len_nilA))) (da_cons (de_c fun _ => .int _) (da_cons (de_var (i := 7)) da_nil)))))) (dg_name (i := 8)) (ds_seq (ds_as (de_c fun _ => .int _) (dg_name (i := 9)))
 (ds_seq (ds_for (dit_r2 (da_cons (de_c fun _ => .int _) (da_cons (de_op rd_add (de_var (i := 3)) (de_c fun _ => .int _)) da_nil))) (dg_name (i := 10)) (ds_as (de_op rd_add (de_var (i := 9)) (de_op rd_mul (de_op rd_mul (de_ixO (i := 4) (de_var (i := 10))) (de_call (dc_val (de_var (i := 8)) (dc_val (de_var (i := 10)) dc_nil)) (len_valA (len_valA len_nilA)))) (de_call (dc_val (de_op rd_i0 (de_var (i := 7)) (de_var (i := 8))) (dc_val (de_op rd_i0 (de_var (i := 3)) (de_var (i := 10))) dc_nil)) (len_valA (len_valA len_nilA))))) (dg_name (i := 9))))
 (ds_if (dt_tst (de_op rd_ne (de_call (dc_val (de_var (i := 1)) (dc_val (de_var (i := 3)) (dc_val (de_var (i := 8)) (dc_val (de_var (i := 7)) dc_nil)))) (len_valA (len_valA (len_valA (len_valA len_nilA))))) (de_call (dc_val (de_var (i := 9)) (dc_val (de_call (dc_val (de_var (i := 7)) (dc_val (de_var (i := 3)) dc_nil)) (len_valA (len_valA len_nilA))) dc_nil)) (len_valA (len_valA len_nilA))))) (ds_ret (de_c fun _ => .bl _)) ds_nx))))
 (ds_ret (de_c fun _ => .bl _)))))))) h
end
end N66
set_option Elab.async false
set_option linter.all false
set_option maxRecDepth 100000
set_option maxHeartbeats 4000000
namespace N66
open PySem PySem.Spec PyProof.Rows L2 Evl WS Mir

section
variable {P : Program} {w : World} {K : PySem.W.Frag} {mg : Str → Option Value} {base : Heap}
theorem ok__law_great_right (T : Tx K mg) (n : Nat) : FnOk P w K mg base CX0 9 T.a__law_great_right T.d__law_great_right ["_law_generator_here", "_law_check", "_law_whole", "_law_many"] (spD K (cmT T) 4 (F__law_great_right n)) := by
  refine T.f__law_great_right.ok (k := 8) sc__law_great_right (fun vs H Q E h => spD_len h) (fun cdv A outer s H vs Q E hr h => ⟨_, (pss_cons (ps_set (i := 4) sc__law_great_right.nd rfl (by first | exact Or.inl rfl | exact Or.inr rfl) (pe_ix (r := rIxA K) ix_A (pe_lst (pa_cons (pe_op op_powW pe_int pe_int) (pa_cons (pe_call (ok__law_random T n) (hr.mono (by decide)) (by rfl) T.g__law_random T.f__law_random.kp T.b__law_random .nil pass0 (pa_cons (pv 0) (pa_cons (pe_op op_powW pe_int pe_int) pa_nil))) (pa_cons (pv 3) pa_nil)))) (pe_call (ok__law_random T n) (hr.mono (by decide)) (by rfl) T.g__law_random T.f__law_random.kp T.b__law_random .nil pass0 (pa_cons (pv 0) (pa_cons pe_int pa_nil))) (fun _ _ => rfl)))
 (pss_cons (ps_setLc (i := 5) (own := [("_law_few", 6)]) (g := gName 6) (tt := tYes) rfl sc__law_great_right.nd rfl rfl (sw_true rfl rfl rfl (by decide +kernel)) (pi_range1 rfl T.m_range (pa_cons pe_int pa_nil)) (blkOk_by (own := [("_law_few", 6)]) (N := ["_law_generator_here", "_law_check", "_law_whole", "_law_many", "_law_far", "_law_told", "_law_few"]) (sc := defScope s__law_great_right) (by decide +kernel)) (fun _ _ _ _ _ => (pg_name (i := 6) sc__law_great_right.nd rfl (by first | exact Or.inl rfl | exact Or.inr rfl))) (fun _ _ _ _ _ => pts_nil) (fun _ _ _ _ _ => (pe_call (ok_how_many_unseen T n) hr (by rfl) T.g_how_many_unseen T.f_how_many_unseen.kp T.b_how_many_unseen .nil pass0 (pa_cons (pv 1) (pa_cons (pv 4) (pa_cons (pv 6) pa_nil))))))
 (pss_cons (ps_if (pt_cmpR (r := orR rNe (rNeD K)) (opOr op_ne (op_neD hr.units)) (pv 5) (pe_lst (pa_cons pe_int (pa_cons pe_int (pa_cons (pe_call (ok__law_pairs T n) (hr.mono (by decide)) (by rfl) T.g__law_pairs T.f__law_pairs.kp T.b__law_pairs .nil pass0 (pa_cons (pv 4) (pa_cons (pe_call (ok_order T n) (hr.mono (by decide)) (by rfl) T.g_order T.f_order.kp T.b_order .nil pass0 (pa_cons (pv 1) pa_nil)) pa_nil))) pa_nil)))) (nomark _)) (pss_one (ps_ret pe_bl)) pss_nil)
 (pss_cons (ps_if (pt_cmpR (r := orR rNe (rNeD K)) (opOr op_ne (op_neD hr.units)) (pe_call (ok_how_many_unseen T n) hr (by rfl) T.g_how_many_unseen T.f_how_many_unseen.kp T.b_how_many_unseen .nil pass0 (pa_cons (pv 1) (pa_cons (pv 3) (pa_cons pe_int pa_nil)))) (pe_call (ok__law_threes T n) (hr.mono (by decide)) (by rfl) T.g__law_threes T.f__law_threes.kp T.b__law_threes .nil pass0 (pa_cons (pv 2) (pa_cons (pv 3) pa_nil))) (nomark _)) (pss_one (ps_ret pe_bl)) pss_nil)
 (pss_cons (ps_if (PW.pt (pw_and (pt_truthK (K := K) rfl (pe_call (ok_all_odd T n) (hr.mono (by decide)) (by rfl) T.g_all_odd T.f_all_odd.kp T.b_all_odd .nil pass0 (pa_cons (pv 1) pa_nil)) (by intro _; rfl)) (pw_and1 (pt_cmpR (r := orR rNe (rNeD K)) (opOr op_ne (op_neD hr.units)) (pe_lc (own := [("_law_few", 6)]) (g := gName 6) rfl sc__law_great_right.nd (pi_listK (K := K) rfl (pe_lst (pa_cons pe_int (pa_cons pe_int (pa_cons pe_int (pa_cons pe_int pa_nil)))))) (blkOk_by (own := [("_law_few", 6)]) (N := ["_law_generator_here", "_law_check", "_law_whole", "_law_many", "_law_far", "_law_told", "_law_few"]) (sc := defScope s__law_great_right) (by decide +kernel)) (fun _ _ _ _ _ => (pg_name (i := 6) sc__law_great_right.nd rfl (by first | exact Or.inl rfl | exact Or.inr rfl))) (fun _ _ _ _ _ => (pts_one (pt_cmpR (r := orR rNe (rNeD K)) (opOr op_ne (op_neD hr.units)) (pe_call (ok_how_many_unseen T n) hr (by rfl) T.g_how_many_unseen T.f_how_many_unseen.kp T.b_how_many_unseen .nil pass0 (pa_cons (pv 1) (pa_cons (pv 4) (pa_cons (pv 6) pa_nil)))) pe_int (nomark _)))) (fun _ _ _ _ _ => (pv 6))) (pe_lst pa_nil) (nomark _))))) (pss_one (ps_ret pe_bl)) pss_nil)
 (pss_cons (ps_if (pt_cmpR op_lt (pv 3) (pe_prop (pv 1) T.cl_Check T.pr_Check_width (ok_Check_width T n) (hr.mono (by decide)) T.b_Check_width .nil pass0 rfl) (nomark _)) (pss_one (ps_ret (pe_cmpR (r := orR rEq (rEqD K)) (opOr op_eq (op_eqD hr.units)) (pe_call (ok_chance T n) hr (by rfl) T.g_chance T.f_chance.kp T.b_chance .nil pass0 (pa_cons (pv 1) (pa_cons (pv 3) (pa_cons pe_int (pa_cons pe_int pa_nil))))) (pe_tup (pa_cons pe_int (pa_cons pe_int pa_nil))) (nomark _)))) pss_nil)
 (pss_one (ps_ret (pe_cmpR (r := orR rEq (rEqD K)) (opOr op_eq (op_eqD hr.units)) (pe_call (ok_chance T n) hr (by rfl) T.g_chance T.f_chance.kp T.b_chance .nil pass0 (pa_cons (pv 1) (pa_cons (pv 3) (pa_cons pe_int (pa_cons pe_int pa_nil))))) (pe_call (ok__law_lowest T n) (hr.mono (by decide)) (by rfl) T.g__law_lowest T.f__law_lowest.kp T.b__law_lowest .nil pass0 (pa_cons (pe_op op_sub (pe_op op_shlW pe_int (pe_op op_sub (pv 3) (pe_prop (pv 1) T.cl_Check T.pr_Check_width (ok_Check_width T n) (hr.mono (by decide)) T.b_Check_width .nil pass0 rfl))) pe_int) (pa_cons (pe_op op_shlW pe_int (pv 3)) pa_nil))) (nomark _)))))))))), ?_⟩)
  exact def_run (Ns := ["_law_generator_here", "_law_check", "_law_whole", "_law_many", "_law_far", "_law_told", "_law_few"]) (ms := m__law_great_right n) (ds_seq (ds_as (de_op rd_ix (de_fr (df_lst (da_cons (de_op rd_iC (de_c fun _ => .int _) (de_c fun _ => .int _)) (da_cons (de_call (dc_slo (i := 0) (dc_val (de_op rd_iC (de_c fun _ => .int _) (de_c fun _ => .int _)) dc_nil)) (len_sloA (len_valA len_nilA))) (da_cons (de_var (i := 3)) da_nil))))) (de_call (dc_slo (i := 0) (dc_val (de_c fun _ => .int _) dc_nil)) (len_sloA (len_valA len_nilA)))) (dg_name (i := 4)))
 (ds_seq (ds_as (de_fr (df_comp (vs := [6]) (dit_r1 (da_cons (de_c fun _ => .int _) da_nil)) (dg_name (i := 6)) (by decide) dt_yes (de_call (dc_val (de_var (i := 1)) (dc_val (de_var (i := 4)) (dc_val (de_var (i := 6)) dc_nil))) (len_valA (len_valA (len_valA len_nilA)))))) (dg_name (i := 5)))
 (ds_seq (ds_if (dt_tst (de_op rd_ne (de_var (i := 5)) (de_fr (df_lst (da_cons (de_c fun _ => .int _) (da_cons (de_c fun _ => .int _) (da_cons (de_call (dc_val (de_var (i := 4)) (dc_val (de_call (dc_val (de_var (i := 1)) dc_nil) (len_valA len_nilA)) dc_nil)) (len_valA (len_valA len_nilA))) da_nil))))))) (ds_ret (de_c fun _ => .bl _)) ds_nx)
 (ds_seq (ds_if (dt_tst (de_op rd_ne (de_call (dc_val (de_var (i := 1)) (dc_val (de_var (i := 3)) (dc_val (de_c fun _ => .int _) dc_nil))) (len_valA (len_valA (len_valA len_nilA)))) (de_call (dc_val (de_var (i := 2)) (dc_val (de_var (i := 3)) dc_nil)) (len_valA (len_valA len_nilA))))) (ds_ret (de_c fun _ => .bl _)) ds_nx)
 (ds_seq (ds_if (dt_and (dt_tru (de_call (dc_val (de_var (i := 1)) dc_nil) (len_valA len_nilA))) (dt_tst (de_op rd_ne (de_fr (df_comp (vs := [6]) (dit_list (de_fr (df_lst (da_cons (de_c fun _ => .int _) (da_cons (de_c fun _ => .int _) (da_cons (de_c fun _ => .int _) (da_cons (de_c fun _ => .int _) da_nil))))))) (dg_name (i := 6)) (by decide) (dt_tst (de_op rd_ne (de_call (dc_val (de_var (i := 1)) (dc_val (de_var (i := 4)) (dc_val (de_var (i := 6)) dc_nil))) (len_valA (len_valA (len_valA len_nilA)))) (de_c fun _ => .int _))) (de_var (i := 6)))) (de_fr (df_lst da_nil))))) (ds_ret (de_c fun _ => .bl _)) ds_nx)
 (ds_seq (ds_if (dt_tst (de_op rd_b (de_var (i := 3)) (de_prop (c := 0) (de_var (i := 1))))) (ds_ret (de_op rd_eq (de_call (dc_val (de_var (i := 1)) (dc_val (de_var (i := 3)) (dc_val (de_c fun _ => .int _) (dc_val (de_c fun _ => .int _) dc_nil)))) (len_valA (len_valA (len_valA (len_valA len_nilA))))) (de_tup (da_cons (de_c fun _ => .int _) (da_cons (de_c fun _ => .int _) da_nil))))) ds_nx)
 (ds_ret (de_op rd_eq (de_call (dc_val (de_var (i := 1)) (dc_val (de_var (i := 3)) (dc_val (de_c fun _ => .int _) (dc_val (de_c fun _ => .int _) dc_nil)))) (len_valA (len_valA (len_valA (len_valA len_nilA))))) (de_call (dc_val (de_op rd_i0 (de_op rd_iC (de_c fun _ => .int _) (de_op rd_i0 (de_var (i := 3)) (de_prop (c := 0) (de_var (i := 1))))) (de_c fun _ => .int _)) (dc_val (de_op rd_iC (de_c fun _ => .int _) (de_var (i := 3))) dc_nil)) (len_valA (len_valA len_nilA))))))))))) h
theorem ok_law (T : Tx K mg) (n : Nat) : FnOk P w K mg base CX0 10 T.a_law T.d_law ["_law_script"] (spD K (cmT T) 1 (F_law n)) := by
  refine T.f_law.ok (k := 9) sc_law (fun vs H Q E h => spD_len h) (fun cdv A outer s H vs Q E hr h => ⟨_, (pss_cons (ps_for PassesOwn.never rfl (pi_range1 rfl T.m_range (pa_cons pe_int pa_nil)) (pg_name (i := 1) sc_law.nd rfl (by first | exact Or.inl rfl | exact Or.inr rfl)) (pss_cons (ps_set (i := 2) sc_law.nd rfl (by first | exact Or.inl rfl | exact Or.inr rfl) (pe_call (ok__law_generator T n) (hr.mono (by decide)) (by rfl) T.g__law_generator T.f__law_generator.kp T.b__law_generator .nil pass0 (pa_cons (pv 0) (pa_cons (pv 1) pa_nil))))
 (pss_cons (ps_set (i := 3) sc_law.nd rfl (by first | exact Or.inl rfl | exact Or.inr rfl) (pe_op (r := rAddA K) op_addA pe_int (pe_call (ok__law_random T n) (hr.mono (by decide)) (by rfl) T.g__law_random T.f__law_random.kp T.b__law_random .nil pass0 (pa_cons (pv 2) (pa_cons pe_int pa_nil)))))
 (pss_cons (ps_set (i := 4) sc_law.nd rfl (by first | exact Or.inl rfl | exact Or.inr rfl) (pe_call (ok__law_drawn T n) (hr.mono (by decide)) (by rfl) T.g__law_drawn T.f__law_drawn.kp T.b__law_drawn .nil pass0 (pa_cons (pv 2) (pa_cons (pv 3) pa_nil))))
 (pss_cons (ps_if (pt_not (pt_truthK (K := K) rfl (pe_call (ok__law_small_right T n) hr (by rfl) T.g__law_small_right T.f__law_small_right.kp T.b__law_small_right .nil pass0 (pa_cons (pv 2) (pa_cons (pe_make T.mk_Check (ok_Check___init__ T n) (hr.mono (by decide)) (by rfl) T.gC_Check T.b_Check___init__ .nil pass0 (pa_cons (pv 3) (pa_cons (pv 4) pa_nil))) (pa_cons (pe_op (r := rAddA K) op_addA (pe_op op_shlW pe_int (pv 3)) (pv 4)) (pa_cons (pe_call (ok__law_random T n) (hr.mono (by decide)) (by rfl) T.g__law_random T.f__law_random.kp T.b__law_random .nil pass0 (pa_cons (pv 2) (pa_cons pe_int pa_nil))) pa_nil))))) (by intro _; rfl))) (pss_one (ps_ret pe_bl)) pss_nil)
 (pss_cons (ps_set (i := 3) sc_law.nd rfl (by first | exact Or.inl rfl | exact Or.inr rfl) (pe_op (r := rAddA K) op_addA pe_int (pe_call (ok__law_random T n) (hr.mono (by decide)) (by rfl) T.g__law_random T.f__law_random.kp T.b__law_random .nil pass0 (pa_cons (pv 2) (pa_cons pe_int pa_nil)))))
 (pss_cons (ps_set (i := 4) sc_law.nd rfl (by first | exact Or.inl rfl | exact Or.inr rfl) (pe_call (ok__law_drawn T n) (hr.mono (by decide)) (by rfl) T.g__law_drawn T.f__law_drawn.kp T.b__law_drawn .nil pass0 (pa_cons (pv 2) (pa_cons (pv 3) pa_nil))))
 (pss_one (ps_if (pt_not (pt_truthK (K := K) rfl (pe_call (ok__law_great_right T n) hr (by rfl) T.g__law_great_right T.f__law_great_right.kp T.b__law_great_right .nil pass0 (pa_cons (pv 2) (pa_cons (pe_make T.mk_Check (ok_Check___init__ T n) (hr.mono (by decide)) (by rfl) T.gC_Check T.b_Check___init__ .nil pass0 (pa_cons (pv 3) (pa_cons (pv 4) pa_nil))) (pa_cons (pe_op (r := rAddA K) op_addA (pe_op op_shlW pe_int (pv 3)) (pv 4)) (pa_cons (pe_call (ok__law_random T n) (hr.mono (by decide)) (by rfl) T.g__law_random T.f__law_random.kp T.b__law_random .nil pass0 (pa_cons (pv 2) (pa_cons pe_int pa_nil))) pa_nil))))) (by intro _; rfl))) (pss_one (ps_ret pe_bl)) pss_nil)))))))))
 (pss_cons (ps_set (i := 5) sc_law.nd rfl (by first | exact Or.inl rfl | exact Or.inr rfl) (pe_make T.mk_Check (ok_Check___init__ T n) (hr.mono (by decide)) (by rfl) T.gC_Check T.b_Check___init__ .nil pass0 (pa_cons pe_int (pa_cons pe_int pa_nil))))
 (pss_cons (ps_if (pt_cmpR (r := orR rNe (rNeD K)) (opOr op_ne (op_neD hr.units)) (pe_lc (own := [("_law_few", 6)]) (g := gName 6) (tt := tYes) rfl sc_law.nd (pi_range1 rfl T.m_range (pa_cons pe_int pa_nil)) (blkOk_by (own := [("_law_few", 6)]) (N := ["_law_script", "_law_index", "_law_generator_here", "_law_width", "_law_low", "_law_three", "_law_few"]) (sc := defScope s_law) (by decide +kernel)) (fun _ _ _ _ _ => (pg_name (i := 6) sc_law.nd rfl (by first | exact Or.inl rfl | exact Or.inr rfl))) (fun _ _ _ _ _ => pts_nil) (fun _ _ _ _ _ => (pe_call (ok_how_many_unseen T n) (hr.mono (by decide)) (by rfl) T.g_how_many_unseen T.f_how_many_unseen.kp T.b_how_many_unseen .nil pass0 (pa_cons (pv 5) (pa_cons pe_int (pa_cons (pv 6) pa_nil)))))) (pe_lst (pa_cons pe_int (pa_cons pe_int (pa_cons pe_int (pa_cons pe_int (pa_cons pe_int (pa_cons pe_int (pa_cons pe_int (pa_cons pe_int (pa_cons pe_int pa_nil)))))))))) (nomark _)) (pss_one (ps_ret pe_bl)) pss_nil)
 (pss_one (ps_ret (pe_and (pe_cmpR (r := orR rEq (rEqD K)) (opOr op_eq (op_eqD hr.units)) (pe_call (ok_chance T n) (hr.mono (by decide)) (by rfl) T.g_chance T.f_chance.kp T.b_chance .nil pass0 (pa_cons (pv 5) (pa_cons pe_int (pa_cons pe_int (pa_cons pe_int pa_nil))))) (pe_tup (pa_cons pe_int (pa_cons pe_int pa_nil))) (nomark _)) (pe_and (pe_cmpR (r := orR rEq (rEqD K)) (opOr op_eq (op_eqD hr.units)) (pe_call (ok_chance T n) (hr.mono (by decide)) (by rfl) T.g_chance T.f_chance.kp T.b_chance .nil pass0 (pa_cons (pv 5) (pa_cons pe_int (pa_cons pe_int (pa_cons pe_int pa_nil))))) (pe_tup (pa_cons pe_int (pa_cons pe_int pa_nil))) (nomark _)) (pe_one (pe_cmpR (r := orR rEq (rEqD K)) (opOr op_eq (op_eqD hr.units)) (pe_call (ok_chance T n) (hr.mono (by decide)) (by rfl) T.g_chance T.f_chance.kp T.b_chance .nil pass0 (pa_cons (pv 5) (pa_cons pe_int (pa_cons pe_int (pa_cons pe_int pa_nil))))) (pe_tup (pa_cons pe_int (pa_cons pe_int pa_nil))) (nomark _)))))))))), ?_⟩)
  exact def_run (Ns := ["_law_script", "_law_index", "_law_generator_here", "_law_width", "_law_low", "_law_three", "_law_few"]) (ms := m_law n) (ds_seq (ds_for (dit_r1 (da_cons (de_c fun _ => .int _) da_nil)) (dg_name (i := 1)) (ds_seq (ds_ow (i := 2) (df_call (da_cons (de_var (i := 0)) (da_cons (de_var (i := 1)) da_nil)) (len_consM (len_consM len_nilM))))
 (ds_seq (ds_as (de_op rd_add (de_c fun _ => .int _) (de_call (dc_slo (i := 2) (dc_val (de_c fun _ => .int _) dc_nil)) (len_sloA (len_valA len_nilA)))) (dg_name (i := 3)))
 (ds_seq (ds_as (de_call (dc_slo (i := 2) (dc_val (de_var (i := 3)) dc_nil)) (len_sloA (len_valA len_nilA))) (dg_name (i := 4)))
 (ds_seq (ds_if (dt_not (dt_tru (de_call (dc_slo (i := 2) (dc_val (de_make (c := 0) (da_cons (de_var (i := 3)) (da_cons (de_var (i := 4)) da_nil)) (len_up (len_consM (len_consM len_nilM)))) (dc_val (de_op rd_add (de_op rd_iC (de_c fun _ => .int _) (de_var (i := 3))) (de_var (i := 4))) (dc_val (de_call (dc_slo (i := 2) (dc_val (de_c fun _ => .int _) dc_nil)) (len_sloA (len_valA len_nilA))) dc_nil)))) (len_sloA (len_valA (len_valA (len_valA len_nilA))))))) (ds_ret (de_c fun _ => .bl _)) ds_nx)
 (ds_seq (ds_as (de_op rd_add (de_c fun _ => .int _) (de_call (dc_slo (i := 2) (dc_val (de_c fun _ => .int _) dc_nil)) (len_sloA (len_valA len_nilA)))) (dg_name (i := 3)))
 (ds_seq (ds_as (de_call (dc_slo (i := 2) (dc_val (de_var (i := 3)) dc_nil)) (len_sloA (len_valA len_nilA))) (dg_name (i := 4)))
 (ds_if (dt_not (dt_tru (de_call (dc_slo (i := 2) (dc_val (de_make (c := 0) (da_cons (de_var (i := 3)) (da_cons (de_var (i := 4)) da_nil)) (len_up (len_consM (len_consM len_nilM)))) (dc_val (de_op rd_add (de_op rd_iC (de_c fun _ => .int _) (de_var (i := 3))) (de_var (i := 4))) (dc_val (de_call (dc_slo (i := 2) (dc_val (de_c fun _ => .int _) dc_nil)) (len_sloA (len_valA len_nilA))) dc_nil)))) (len_sloA (len_valA (len_valA (len_valA len_nilA))))))) (ds_ret (de_c fun _ => .bl _)) ds_nx))))))))
 (ds_seq (ds_as (de_make (c := 0) (da_cons (de_c fun _ => .int _) (da_cons (de_c fun _ => .int _) da_nil)) (len_up (len_consM (len_consM len_nilM)))) (dg_name (i := 5)))
 (ds_seq (ds_if (dt_tst (de_op rd_ne (de_fr (df_comp (vs := [6]) (dit_r1 (da_cons (de_c fun _ => .int _) da_nil)) (dg_name (i := 6)) (by decide) dt_yes (de_call (dc_val (de_var (i := 5)) (dc_val (de_c fun _ => .int _) (dc_val (de_var (i := 6)) dc_nil))) (len_valA (len_valA (len_valA len_nilA)))))) (de_fr (df_lst (da_cons (de_c fun _ => .int _) (da_cons (de_c fun _ => .int _) (da_cons (de_c fun _ => .int _) (da_cons (de_c fun _ => .int _) (da_cons (de_c fun _ => .int _) (da_cons (de_c fun _ => .int _) (da_cons (de_c fun _ => .int _) (da_cons (de_c fun _ => .int _) (da_cons (de_c fun _ => .int _) da_nil))))))))))))) (ds_ret (de_c fun _ => .bl _)) ds_nx)
 (ds_ret (de_andV (de_op rd_eq (de_call (dc_val (de_var (i := 5)) (dc_val (de_c fun _ => .int _) (dc_val (de_c fun _ => .int _) (dc_val (de_c fun _ => .int _) dc_nil)))) (len_valA (len_valA (len_valA (len_valA len_nilA))))) (de_tup (da_cons (de_c fun _ => .int _) (da_cons (de_c fun _ => .int _) da_nil)))) (de_andV (de_op rd_eq (de_call (dc_val (de_var (i := 5)) (dc_val (de_c fun _ => .int _) (dc_val (de_c fun _ => .int _) (dc_val (de_c fun _ => .int _) dc_nil)))) (len_valA (len_valA (len_valA (len_valA len_nilA))))) (de_tup (da_cons (de_c fun _ => .int _) (da_cons (de_c fun _ => .int _) da_nil)))) (de_op rd_eq (de_call (dc_val (de_var (i := 5)) (dc_val (de_c fun _ => .int _) (dc_val (de_c fun _ => .int _) (dc_val (de_c fun _ => .int _) dc_nil)))) (len_valA (len_valA (len_valA (len_valA len_nilA))))) (de_tup (da_cons (de_c fun _ => .int _) (da_cons (de_c fun _ => .int _) da_nil)))))))))) h
end
end N66
set_option Elab.async false
set_option linter.all false
set_option maxRecDepth 100000
set_option maxHeartbeats 2000000
namespace Mir
open PySem PySem.Spec PyProof.Rows L2 Evl WS
/-! ### mirrors told step by step -/
section
variable {e : SDs} {ma mb m : M} {mt mu : MT} {a b : MS} {f : D → D → Option D}
@[simp] theorem bnd_s {α β : Type} {x : α} {g : α → SDs → Option β} : bnd (some (x, e)) g = g x e := Eq.trans rfl rfl
@[simp] theorem bnd_n {α β : Type} {g : α → SDs → Option β} : bnd none g = none := Eq.trans rfl rfl
@[simp] theorem rsl_s {α : Type} {x : α} : rsl (some x) e = some (x, e) := Eq.trans rfl rfl
theorem e_seqN {e1 : SDs} (h : a e = some (.nx e1)) : seqM a b e = b e1 := by unfold seqM; rw [h]
theorem e_seqR {d : D} {e1 : SDs} (h : a e = some (.rt d e1)) : seqM a b e = some (.rt d e1) := by unfold seqM; rw [h]
@[simp] theorem e_seq : seqM a b e = (match a e with | some (.nx e1) => b e1 | o => o) := Eq.trans rfl rfl
@[simp] theorem e_varM {i : Nat} : varM i e = match e[i]? with | some (SD.fro d) => some (d, e) | _ => none := Eq.trans rfl rfl
@[simp] theorem e_cM {d : D} : cM d e = some (d, e) := Eq.trans rfl rfl
@[simp] theorem e_opM : opM f ma mb e = bnd (ma e) fun x e1 => bnd (mb e1) fun y e2 => rsl (f x y) e2 := Eq.trans rfl rfl
@[simp] theorem e_unM {f : D → Option D} : unM f ma e = bnd (ma e) fun x e1 => rsl (f x) e1 := Eq.trans rfl rfl
@[simp] theorem e_nilM : nilM e = some ([], e) := Eq.trans rfl rfl
@[simp] theorem e_consM {mr : ML} : consM ma mr e = bnd (ma e) fun x e1 => bnd (mr e1) fun xs e2 => some (x :: xs, e2) := Eq.trans rfl rfl
@[simp] theorem e_nilA : nilA e = some ([], e) := Eq.trans rfl rfl
@[simp] theorem e_valA {mr : MA} : valA ma mr e = bnd (ma e) fun x e1 => bnd (mr e1) fun xs e2 => some (.inl x :: xs, e2) := Eq.trans rfl rfl
@[simp] theorem e_cbM {f : List D → Option D} {mr : ML} : cbM f mr e = bnd (mr e) fun xs e1 => rsl (f xs) e1 := Eq.trans rfl rfl
@[simp] theorem e_one {f : D → Option D} {d : D} : one f [d] = f d := Eq.trans rfl rfl
@[simp] theorem e_two {d c : D} : two f [d, c] = f d c := Eq.trans rfl rfl
@[simp] theorem e_tstM : tstM m e = bnd (m e) fun d e1 => rsl (isB d) e1 := Eq.trans rfl rfl
@[simp] theorem e_isB {c : Bool} : isB (.bl c) = some c := Eq.trans rfl rfl
@[simp] theorem e_truM : truM m e = bnd (m e) fun d e1 => rsl (truth d) e1 := Eq.trans rfl rfl
@[simp] theorem e_trI {i : Int} : truth (.int i) = some (i != 0) := Eq.trans rfl rfl
@[simp] theorem e_trB {c : Bool} : truth (.bl c) = some c := Eq.trans rfl rfl
@[simp] theorem e_andM : andM mt mu e = bnd (mt e) fun x e1 => if x then mu e1 else some (false, e1) := Eq.trans rfl rfl
@[simp] theorem e_orM : orM mt mu e = bnd (mt e) fun x e1 => if x then some (true, e1) else mu e1 := Eq.trans rfl rfl
@[simp] theorem e_notM : notM mt e = bnd (mt e) fun x e1 => some (!x, e1) := Eq.trans rfl rfl
@[simp] theorem e_andVt {e1 : SDs} (h : ma e = some (.bl true, e1)) : andV ma mb e = mb e1 := by unfold andV; rw [h]; rfl
@[simp] theorem e_andVf {e1 : SDs} (h : ma e = some (.bl false, e1)) : andV ma mb e = some (.bl false, e1) := by unfold andV; rw [h]; rfl
@[simp] theorem e_orVt {e1 : SDs} (h : ma e = some (.bl true, e1)) : orV ma mb e = some (.bl true, e1) := by unfold orV; rw [h]; rfl
@[simp] theorem e_orVf {e1 : SDs} (h : ma e = some (.bl false, e1)) : orV ma mb e = mb e1 := by unfold orV; rw [h]; rfl
@[simp] theorem e_notV {e1 : SDs} {c : Bool} (h : ma e = some (.bl c, e1)) : notV ma e = some (.bl (!c), e1) := by unfold notV; rw [h]; rfl
@[simp] theorem e_ifM : ifM mt ma mb e = bnd (mt e) fun c e1 => if c then ma e1 else mb e1 := Eq.trans rfl rfl
@[simp] theorem e_ifS : ifS mt a b e = bnd (mt e) fun c e1 => if c then a e1 else b e1 := Eq.trans rfl rfl
@[simp] theorem e_retM : retM m e = bnd (m e) fun d e1 => some (.rt d e1) := Eq.trans rfl rfl
@[simp] theorem e_drM : drM m e = bnd (m e) fun _ e1 => some (.nx e1) := Eq.trans rfl rfl
@[simp] theorem e_nxM : nxM e = some (.nx e) := Eq.trans rfl rfl
@[simp] theorem e_asM {g : D → SDs → Option SDs} : asM g m e = bnd (m e) fun d e1 => (g d e1).map Out.nx := Eq.trans rfl rfl
@[simp] theorem e_nameG {i : Nat} {d : D} : nameG i d e = setS i (SD.fro d) e := Eq.trans rfl rfl
@[simp] theorem e_setS {i : Nat} {x : SD} : setS i x e = match e[i]? with | some (SD.bor _) => none | some _ => some (e.set i x) | none => none := Eq.trans rfl rfl
def froO : Option SD → Option D
  | some (.fro d) => some d
  | _ => none
@[simp] theorem e_froO {d : D} : froO (some (.fro d)) = some d := rfl
@[simp] theorem e_augM {i : Nat} : augM i f m e = (froO e[i]?).bind fun x => (m e).bind fun p => (f x p.1).bind fun z => (setS i (SD.fro z) p.2).map Out.nx := by
  unfold augM froO
  cases h : e[i]? with
  | none => rfl
  | some q =>
    cases q with
    | fro x =>
      show (bnd (m e) fun y e1 => (match f x y with | some z => (setS i (SD.fro z) e1).map Out.nx | none => none)) = (m e).bind fun p => (f x p.1).bind fun z => (setS i (SD.fro z) p.2).map Out.nx
      cases h2 : m e with
      | none => rfl
      | some p =>
        obtain ⟨y, e1⟩ := p
        show (match f x y with | some z => (setS i (SD.fro z) e1).map Out.nx | none => none) = (f x y).bind fun z => (setS i (SD.fro z) e1).map Out.nx
        generalize f x y = w
        cases w <;> rfl
    | _ => rfl
@[simp] theorem e_callM {F : MF} {mr : MA} : callM F mr e = bnd (mr e) fun as e1 => callE F as e1 := Eq.trans rfl rfl
@[simp] theorem e_call0 {F : MF} {d : D} {es : SDs} (h : F [] = some (d, es)) : callE F [] e = (putB [] es e).map (fun e2 => (d, e2)) := by unfold callE; simp [slotsA, nodupB, argsE, h]
theorem callE_val {F : MF} {ds : List D} {d : D} {es : SDs} (h : F (ds.map SD.fro) = some (d, es)) (hl : es.length = ds.length) : callE F (ds.map Sum.inl) e = some (d, e) := by
  have h1 : slotsA (ds.map (Sum.inl : D → Arg)) = [] := by
    clear h hl
    induction ds with
    | nil => rfl
    | cons a r ih => exact ih
  have h2 : argsE (ds.map (Sum.inl : D → Arg)) e = some (ds.map SD.fro) := by
    clear h hl h1
    induction ds with
    | nil => rfl
    | cons a r ih =>
      show (match argsE (r.map Sum.inl) e with | some xs => some (SD.fro a :: xs) | none => none) = _
      rw [ih]
      rfl
  have h3 : ∀ (ds : List D) (es : SDs), es.length = ds.length → putB (ds.map (Sum.inl : D → Arg)) es e = some e := by
    intro ds
    induction ds with
    | nil => intro es hl; cases es with
      | nil => rfl
      | cons _ _ => cases hl
    | cons a r ih => intro es hl; cases es with
      | nil => cases hl
      | cons _ t => exact ih t (by simpa using hl)
  unfold callE
  rw [h1, h2]
  show (match F (ds.map SD.fro) with | none => none | some (d, es') => (putB (ds.map Sum.inl) es' e).map (fun e2 => (d, e2))) = _
  rw [h]
  show (putB (ds.map Sum.inl) es e).map _ = _
  rw [h3 ds es hl]
  rfl
/-- what is told of a def whose arguments are data: its answer -/
def Ret (F : MF) (ds : List D) (d : D) : Prop := ∃ es, F (ds.map SD.fro) = some (d, es) ∧ es.length = ds.length
theorem Ret.c0 {F : MF} {d : D} (h : Ret F [] d) : callE F [] e = some (d, e) := by obtain ⟨es, h1, h2⟩ := h; exact callE_val (ds := []) h1 h2
theorem Ret.c1 {F : MF} {x d : D} (h : Ret F [x] d) : callE F [.inl x] e = some (d, e) := by obtain ⟨es, h1, h2⟩ := h; exact callE_val (ds := [x]) h1 h2
theorem Ret.c2 {F : MF} {x y d : D} (h : Ret F [x, y] d) : callE F [.inl x, .inl y] e = some (d, e) := by obtain ⟨es, h1, h2⟩ := h; exact callE_val (ds := [x, y]) h1 h2
theorem Ret.c3 {F : MF} {x y z d : D} (h : Ret F [x, y, z] d) : callE F [.inl x, .inl y, .inl z] e = some (d, e) := by obtain ⟨es, h1, h2⟩ := h; exact callE_val (ds := [x, y, z]) h1 h2
theorem Ret.c4 {F : MF} {x y z u d : D} (h : Ret F [x, y, z, u] d) : callE F [.inl x, .inl y, .inl z, .inl u] e = some (d, e) := by obtain ⟨es, h1, h2⟩ := h; exact callE_val (ds := [x, y, z, u]) h1 h2
theorem Ret.of {n N : Nat} {ms : MS} {ds : List D} {d : D} {e' : SDs} (hn : ds.length = n) (h : ms (ds.map SD.fro ++ List.replicate (N - n) .nn) = some (.rt d e')) : Ret (defF n N ms) ds d := by
  refine ⟨finE (ds.map SD.fro) e', ?_, by rw [finE_len, List.length_map]⟩
  unfold defF
  have h1 : noOwn (ds.map SD.fro) = true := by
    unfold noOwn
    rw [List.all_map]
    exact List.all_eq_true.mpr fun _ _ => rfl
  rw [if_pos ⟨by rw [List.length_map, hn], h1⟩, h]
theorem Ret.ofN {n N : Nat} {ms : MS} {ds : List D} {e' : SDs} (hn : ds.length = n) (h : ms (ds.map SD.fro ++ List.replicate (N - n) .nn) = some (.nx e')) : Ret (defF n N ms) ds .non := by
  refine ⟨finE (ds.map SD.fro) e', ?_, by rw [finE_len, List.length_map]⟩
  unfold defF
  have h1 : noOwn (ds.map SD.fro) = true := by
    unfold noOwn
    rw [List.all_map]
    exact List.all_eq_true.mpr fun _ _ => rfl
  rw [if_pos ⟨by rw [List.length_map, hn], h1⟩, h]
@[simp] theorem e_add {i j : Int} : addD (.int i) (.int j) = some (.int (i + j)) := Eq.trans rfl rfl
theorem e_sub {i j : Int} : subD (.int i) (.int j) = some (.int (i - j)) := rfl
theorem e_i0 {g : Int → Int → Int} {i j : Int} : i0D g (.int i) (.int j) = some (.int (g i j)) := rfl
theorem e_iC {C : Int → Int → Prop} [∀ i j, Decidable (C i j)] {g : Int → Int → Int} {i j : Int} (h : C i j) : iCD C g (.int i) (.int j) = some (.int (g i j)) := if_pos h
@[simp] theorem e_bD {g : Int → Int → Bool} {i j : Int} : bD g (.int i) (.int j) = some (.bl (g i j)) := Eq.trans rfl rfl
theorem e_mul {i j : Int} (h : CMulX i j) : mulD (.int i) (.int j) = some (.int (i * j)) := if_pos h
@[simp] theorem e_eqI {neg : Bool} {i j : Int} : eqD neg (.int i) (.int j) = some (.bl (if neg then !(i == j) else i == j)) := by
  unfold eqD
  show (if SeqAt.shaped (.int i) = true ∧ SeqAt.shaped (.int j) = true then _ else _) = _
  rw [if_pos ⟨rfl, rfl⟩]
  rfl
theorem e_bits {i : Int} : bitsD (.int i) = some (.int (Builtin.Int.intBits i : Nat)) := rfl
@[simp] theorem e_neg {i : Int} : negD (.int i) = some (.int (-i)) := Eq.trans rfl rfl
@[simp] theorem e_int {i : Int} : intD (.int i) = some (.int i) := Eq.trans rfl rfl
@[simp] theorem e_intb {k : Bool} : intD (.bl k) = some (.int (if k then 1 else 0)) := Eq.trans rfl rfl
@[simp] theorem e_tupM {mr : ML} {xs : List D} {e1 : SDs} (h : mr e = some (xs, e1)) (hl : xs.length ≤ 100) : tupM mr e = some (.tup xs, e1) := by
  unfold tupM
  rw [h]
  show (if xs.length ≤ sizeLine then _ else _) = _
  rw [if_pos (Nat.le_trans hl (by decide))]
end
theorem wh_step {t : MT} {b : MS} {n : Nat} {e e1 e2 : SDs} (h : t e = some (true, e1)) (hb : b e1 = some (.nx e2)) : whM t b (n + 1) e = whM t b n e2 := by
  rw [whM, h]
  simp [hb]
theorem wh_end {t : MT} {b : MS} {n : Nat} {e e1 : SDs} (h : t e = some (false, e1)) : whM t b (n + 1) e = some (.nx e1) := by
  rw [whM, h]
  simp
/-- a while by a state: while c holds it goes to the next one, in at most so many turns -/
theorem wh_run {α : Type} {t : MT} {b : MS} (E : α → SDs) (c : α → Bool) (nx : α → α) (Inv : α → Prop) (μ : α → Nat)
    (ht : ∀ s, Inv s → t (E s) = some (c s, E s)) (hb : ∀ s, Inv s → c s = true → b (E s) = some (.nx (E (nx s))) ∧ Inv (nx s) ∧ μ (nx s) < μ s) :
    ∀ (n : Nat) (s : α), Inv s → μ s < n → ∃ s', Inv s' ∧ c s' = false ∧ whM t b n (E s) = some (.nx (E s'))
  | 0, s, _, h => absurd h (Nat.not_lt_zero _)
  | n + 1, s, hI, h => by
    cases hc : c s with
    | true =>
      obtain ⟨h1, h2, h3⟩ := hb s hI hc
      rw [wh_step (by rw [ht s hI, hc]) h1]
      exact wh_run E c nx Inv μ ht hb n _ h2 (by omega)
    | false =>
      exact ⟨s, hI, hc, wh_end (by rw [ht s hI, hc])⟩
theorem for_nil {g : D → SDs → Option SDs} {b : MS} {e : SDs} : forL g b [] e = some (.nx e) := rfl
theorem for_step {g : D → SDs → Option SDs} {b : MS} {x : D} {r : List D} {e e1 e2 : SDs} (hg : g x e = some e1) (hb : b e1 = some (.nx e2)) : forL g b (x :: r) e = forL g b r e2 := by
  show (match g x e with | none => none | some e1 => match b e1 with | some (.nx e2) => forL g b r e2 | some (.ct e2) => forL g b r e2 | some (.bk e2) => some (.nx e2) | o => o) = _
  rw [hg]
  show (match b e1 with | some (.nx e2) => forL g b r e2 | some (.ct e2) => forL g b r e2 | some (.bk e2) => some (.nx e2) | o => o) = _
  rw [hb]
/-- a for by a state that each item moves on -/
theorem for_run {α : Type} {g : D → SDs → Option SDs} {b : MS} (E : α → SDs) (Inv : α → Prop) (nx : α → D → α) (Ok : D → Prop)
    (hs : ∀ s x, Inv s → Ok x → ∃ e1, g x (E s) = some e1 ∧ b e1 = some (.nx (E (nx s x))) ∧ Inv (nx s x)) :
    ∀ (xs : List D) (s : α), Inv s → (∀ x ∈ xs, Ok x) → forL g b xs (E s) = some (.nx (E (xs.foldl nx s))) ∧ Inv (xs.foldl nx s)
  | [], s, hI, _ => ⟨rfl, hI⟩
  | x :: r, s, hI, ho => by
    obtain ⟨e1, h1, h2, h3⟩ := hs s x hI (ho x List.mem_cons_self)
    rw [for_step h1 h2]
    exact for_run E Inv nx Ok hs r _ h3 fun y hy => ho y (List.mem_cons_of_mem _ hy)
end Mir

set_option maxRecDepth 100000
set_option maxHeartbeats 1000000
namespace N66
open PySem PySem.Spec PyProof.Rows L2 Evl WS Mir
abbrev I (i : Int) : SD := .fro (.int i)
theorem is_number_int (n : Nat) (i : Int) : Ret (F_is_number n) [.int i] (.bl true) := ⟨_, rfl, rfl⟩
theorem is_within_int (n : Nat) (i j k : Int) : Ret (F_is_within n) [.int i, .int j, .int k] (.bl (decide (j ≤ i) && decide (i ≤ k))) := by
  refine Ret.of rfl (e' := [I i, I j, I k]) ?_
  simp [m_is_within, chM, (is_number_int n i).c1]
  cases decide (j ≤ i) <;> simp
end N66

set_option Elab.async false
set_option linter.all false
set_option maxRecDepth 100000
set_option maxHeartbeats 2000000
namespace Mir
open PySem PySem.Spec PyProof.Rows L2 Evl WS
/-! ### natural numbers in mirrors -/
def nat (k : Nat) : D := .int (k : Int)
def nb (a : Nat) : Nat := if a = 0 then 0 else a.log2 + 1
theorem nb_bits (a : Nat) : Builtin.Int.intBits (a : Int) = nb a := by
  unfold Builtin.Int.intBits nb
  by_cases h : a = 0
  · subst h; rfl
  · rw [if_neg h, if_neg (by simpa using h)]; rfl
theorem nb_le {a m : Nat} : nb a ≤ m ↔ a < 2 ^ m := by
  rw [← nb_bits]
  unfold Builtin.Int.intBits
  by_cases h0 : a = 0
  · subst h0
    have hp : 0 < 2 ^ m := Nat.two_pow_pos m
    simp [hp]
  · have hb : ((a : Int) == 0) = false := by simpa using h0
    rw [hb, show ((a : Int)).natAbs = a from Int.natAbs_natCast a]
    show a.log2 + 1 ≤ m ↔ _
    rw [← Nat.log2_lt h0]
    exact Nat.succ_le_iff
theorem nb_lt {a m : Nat} : m < nb a ↔ 2 ^ m ≤ a := by
  have := @nb_le a m
  omega
theorem nb_mono {a b : Nat} (h : a ≤ b) : nb a ≤ nb b := nb_le.mpr (Nat.lt_of_le_of_lt h (nb_le.mp (Nat.le_refl _)))
theorem nb_mul {a b : Nat} : nb (a * b) ≤ nb a + nb b := by
  refine nb_le.mpr ?_
  rw [Nat.pow_add]
  exact Nat.mul_lt_mul'' (nb_le.mp (Nat.le_refl _)) (nb_le.mp (Nat.le_refl _))
theorem nb_pow (j : Nat) : nb (2 ^ j) ≤ j + 1 := nb_le.mpr (Nat.pow_lt_pow_right (by decide) (by omega))
theorem nb_xor {a b m : Nat} (ha : nb a ≤ m) (hb : nb b ≤ m) : nb (a ^^^ b) ≤ m := nb_le.mpr (Nat.xor_lt_two_pow (nb_le.mp ha) (nb_le.mp hb))
@[simp high] theorem e_trN {k : Nat} : truth (nat k) = some (k != 0) := by
  show some ((k : Int) != 0) = some (k != 0)
  have h : ((k : Int) != 0) = (k != 0) := by
    rw [Bool.eq_iff_iff, bne_iff_ne, bne_iff_ne]
    omega
  rw [h]
@[simp] theorem e_xorN {a b : Nat} : xorD (nat a) (nat b) = some (nat (a ^^^ b)) := by
  show some (D.int (Builtin.bitXor (a : Int) (b : Int))) = _
  rw [Bits.bitXor_pp (Int.natCast_nonneg a) (Int.natCast_nonneg b)]
  rfl
@[simp] theorem e_andN {a b : Nat} : andD (nat a) (nat b) = some (nat (a &&& b)) := by
  show some (D.int (Builtin.bitAnd (a : Int) (b : Int))) = _
  rw [PyProof.Rows.bitAnd_pp (Int.natCast_nonneg a) (Int.natCast_nonneg b)]
  rfl
@[simp] theorem e_orN {a b : Nat} : orD (nat a) (nat b) = some (nat (a ||| b)) := by
  show some (D.int (Builtin.bitOr (a : Int) (b : Int))) = _
  rw [Bits.bitOr_pp (Int.natCast_nonneg a) (Int.natCast_nonneg b)]
  rfl
@[simp] theorem e_and1 {a : Nat} : andD (nat a) (.int 1) = some (nat (a % 2)) := by
  have := @e_andN a 1
  rw [Nat.and_one_is_mod] at this
  exact this
@[simp] theorem e_bitsN {a : Nat} : bitsD (nat a) = some (nat (nb a)) := by
  show some (D.int (Builtin.Int.intBits (a : Int) : Nat)) = _
  rw [nb_bits]
  rfl
@[simp] theorem e_shlN {a j : Nat} (ha : nb a ≤ 5000) (hj : j ≤ 5000) : shlD (nat a) (nat j) = some (nat (a * 2 ^ j)) := by
  have h : CShl (a : Int) (j : Int) := ⟨by omega, by rw [nb_bits]; omega⟩
  show (if CShl (a : Int) (j : Int) then some (D.int ((a : Int) * 2 ^ ((j : Int).toNat))) else none) = _
  rw [if_pos h, Int.toNat_natCast]
  congr 2
@[simp] theorem e_shl1 {a : Nat} (ha : nb a ≤ 5000) : shlD (nat a) (.int 1) = some (nat (2 * a)) := by
  have := @e_shlN a 1 ha (by omega)
  rw [Nat.mul_comm] at this
  exact this
@[simp] theorem e_1shl {j : Nat} (hj : j ≤ 5000) : shlD (.int 1) (nat j) = some (nat (2 ^ j)) := by
  have := @e_shlN 1 j (by decide) hj
  rw [Nat.one_mul] at this
  exact this
@[simp] theorem e_shrN {a j : Nat} : shrD (nat a) (nat j) = some (nat (a / 2 ^ j)) := by
  have h : CNn (a : Int) (j : Int) := Int.natCast_nonneg j
  show (if CNn (a : Int) (j : Int) then some (D.int ((a : Int) / 2 ^ ((j : Int).toNat))) else none) = _
  rw [if_pos h, Int.toNat_natCast]
  congr 2
@[simp] theorem e_shr1 {a : Nat} : shrD (nat a) (.int 1) = some (nat (a / 2)) := by
  have := @e_shrN a 1
  exact this
@[simp] theorem e_mod2 {a : Nat} : modD (nat a) (.int 2) = some (nat (a % 2)) := by
  show (if CNz (a : Int) 2 then some (D.int ((a : Int).fmod 2)) else none) = _
  rw [if_pos (show CNz (a : Int) 2 from (by decide : (2 : Int) ≠ 0)), Int.fmod_eq_emod_of_nonneg _ (by decide)]
  congr 2
@[simp] theorem e_subN {a b : Nat} (h : b ≤ a) : subD (nat a) (nat b) = some (nat (a - b)) := by
  show some (D.int ((a : Int) - _)) = _
  congr 2
  omega
@[simp] theorem e_sub1 {a : Nat} (h : 1 ≤ a) : subD (nat a) (.int 1) = some (nat (a - 1)) := by
  show some (D.int ((a : Int) - _)) = _
  congr 2
  omega
@[simp] theorem e_fdiv2 {a : Nat} : fdivD (nat a) (.int 2) = some (nat (a / 2)) := by
  show (if CDivW (a : Int) 2 then some (D.int ((a : Int) / 2)) else none) = _
  rw [if_pos ⟨by decide, by decide⟩]
  congr 2
@[simp] theorem e_geN {a b : Nat} : geD (nat a) (nat b) = some (.bl (decide (b ≤ a))) := by
  show some (D.bl (decide ((b : Int) ≤ (a : Int)))) = _
  congr 2
  simp
@[simp] theorem e_leN {a b : Nat} : leD (nat a) (nat b) = some (.bl (decide (a ≤ b))) := by
  show some (D.bl (decide ((a : Int) ≤ (b : Int)))) = _
  congr 2
  simp
@[simp] theorem e_ltN {a b : Nat} : ltD (nat a) (nat b) = some (.bl (decide (a < b))) := by
  show some (D.bl (decide ((a : Int) < (b : Int)))) = _
  congr 2
  simp
@[simp] theorem e_gt0 {a : Nat} : gtD (nat a) (.int 0) = some (.bl (a != 0)) := by
  show some (D.bl (decide ((0 : Int) < (a : Int)))) = _
  congr 2
  rw [Bool.eq_iff_iff, bne_iff_ne, decide_eq_true_iff]
  omega
@[simp] theorem e_eqN {neg : Bool} {a b : Nat} : eqD neg (nat a) (nat b) = some (.bl (if neg then !(a == b) else a == b)) := by
  have := @e_eqI neg (a : Int) (b : Int)
  have h : ((a : Int) == (b : Int)) = (a == b) := by rw [Bool.eq_iff_iff, beq_iff_eq, beq_iff_eq]; omega
  rw [h] at this
  exact this
@[simp] theorem e_eqL {neg : Bool} {a : Nat} {j : Int} : eqD neg (nat a) (.int j) = some (.bl (if neg then !((a : Int) == j) else (a : Int) == j)) := @e_eqI neg (a : Int) j
@[simp] theorem e_eqN1 {neg : Bool} {a : Nat} : eqD neg (nat a) (.int 1) = some (.bl (if neg then !(a == 1) else a == 1)) := @e_eqN neg a 1
@[simp] theorem e_eqN0 {neg : Bool} {a : Nat} : eqD neg (nat a) (.int 0) = some (.bl (if neg then !(a == 0) else a == 0)) := @e_eqN neg a 0
@[simp] theorem e_addN {a b : Nat} : addD (nat a) (nat b) = some (nat (a + b)) := by
  show some (D.int ((a : Int) + (b : Int))) = _
  rw [← Int.natCast_add]
  rfl
@[simp] theorem e_addN1 {a : Nat} : addD (nat a) (.int 1) = some (nat (a + 1)) := @e_addN a 1
@[simp] theorem e_add1N {a : Nat} : addD (.int 1) (nat a) = some (nat (1 + a)) := @e_addN 1 a
@[simp] theorem e_mul2 {a : Nat} (h : nb a ≤ 5000) : mulD (nat a) (.int 2) = some (nat (2 * a)) := by
  have hc : CMulX (a : Int) 2 := by
    show (Builtin.Int.intBits (a : Int) : Int) + (Builtin.Int.intBits (2 : Int) : Int) ≤ 134217728
    rw [nb_bits, show Builtin.Int.intBits (2 : Int) = 2 by decide]
    omega
  refine (e_mul hc).trans ?_
  rw [Int.mul_comm]
  rfl
@[simp] theorem e_intN {a : Nat} : intD (nat a) = some (nat a) := rfl
theorem nat0 : nat 0 = .int 0 := rfl
theorem nat1 : nat 1 = .int 1 := rfl
end Mir

/-! sums of powers of x over two, told by numbers -/
set_option maxRecDepth 10000
set_option linter.all false
namespace Poly
theorem xlc (a b c : Nat) : a ^^^ (b ^^^ c) = b ^^^ (a ^^^ c) := by rw [← Nat.xor_assoc, Nat.xor_comm a b, Nat.xor_assoc]
theorem xcc (a b : Nat) : a ^^^ (a ^^^ b) = b := by rw [← Nat.xor_assoc, Nat.xor_self, Nat.zero_xor]
def red (w g x : Nat) : Nat := if x < 2 ^ w then x else x ^^^ g
def R (w g n : Nat) : Nat := if n = 0 then 0 else red w g (2 * R w g (n / 2) + n % 2)
termination_by n
decreasing_by omega
def P (a b : Nat) : Nat := if b = 0 then 0 else (if b % 2 = 1 then a else 0) ^^^ P (2 * a) (b / 2)
termination_by b
decreasing_by omega
structure Ok (w g : Nat) : Prop where
  w1 : 1 ≤ w
  lo : 2 ^ w ≤ g
  hi : g < 2 ^ (w + 1)
theorem R0 {w g : Nat} : R w g 0 = 0 := by rw [R, if_pos rfl]
theorem tb {x w : Nat} (h : x < 2 ^ (w + 1)) : x < 2 ^ w ↔ x.testBit w = false := by
  constructor
  · intro h1
    exact Nat.testBit_lt_two_pow h1
  · intro h1
    refine Nat.lt_pow_two_of_testBit x fun i hi => ?_
    by_cases c : i = w
    · rw [c]; exact h1
    · exact Nat.testBit_lt_two_pow (Nat.lt_of_lt_of_le h (Nat.pow_le_pow_right (by decide) (by omega)))
theorem red_lt {w g x : Nat} (k : Ok w g) (h : x < 2 ^ (w + 1)) : red w g x < 2 ^ w := by
  unfold red
  split
  · assumption
  · rename_i c
    have h2 : x ^^^ g < 2 ^ (w + 1) := Nat.xor_lt_two_pow h k.hi
    rw [tb h2, Nat.testBit_xor]
    have h3 : x.testBit w = true := by
      cases q : x.testBit w with
      | true => rfl
      | false => exact absurd ((tb h).mpr q) c
    have h4 : g.testBit w = true := by
      cases q : g.testBit w with
      | true => rfl
      | false => exact absurd ((tb k.hi).mpr q) (by have := k.lo; omega)
    rw [h3, h4]
    rfl
theorem red_xor {w g x y : Nat} (k : Ok w g) (hx : x < 2 ^ (w + 1)) (hy : y < 2 ^ (w + 1)) : red w g (x ^^^ y) = red w g x ^^^ red w g y := by
  have hxy : x ^^^ y < 2 ^ (w + 1) := Nat.xor_lt_two_pow hx hy
  have e1 : ∀ z, z < 2 ^ (w + 1) → red w g z = z ^^^ (if z.testBit w then g else 0) := fun z hz => by
    unfold red
    cases q : z.testBit w with
    | true =>
      rw [if_neg (by rw [tb hz, q]; decide)]
      rfl
    | false =>
      rw [if_pos ((tb hz).mpr q)]
      simp
  rw [e1 _ hxy, e1 _ hx, e1 _ hy, Nat.testBit_xor]
  cases x.testBit w <;> cases y.testBit w
  · simp
  · simp [Nat.xor_assoc]
  · simp only [Bool.xor_false, if_true, if_false, Bool.false_eq_true, Nat.xor_zero]
    rw [Nat.xor_assoc, Nat.xor_assoc, Nat.xor_comm y g]
  · simp only [Bool.xor_self, if_true, if_false, Bool.false_eq_true, Nat.xor_zero]
    rw [Nat.xor_assoc, xlc g y g, Nat.xor_self, Nat.xor_zero]
theorem two_lt {x w b : Nat} (h : x < 2 ^ w) (hb : b < 2) : 2 * x + b < 2 ^ (w + 1) := by rw [Nat.pow_succ]; omega
theorem R_lt {w g : Nat} (k : Ok w g) (n : Nat) : R w g n < 2 ^ w := by
  induction n using Nat.strongRecOn with
  | ind n ih =>
    rw [R]
    split
    · exact Nat.two_pow_pos w
    · exact red_lt k (two_lt (ih (n / 2) (by omega)) (by omega))
theorem one_lt {w g : Nat} (k : Ok w g) : 1 < 2 ^ w := Nat.one_lt_two_pow (by have := k.w1; omega)
theorem R_bit {w g n b : Nat} (k : Ok w g) (hb : b < 2) : R w g (2 * n + b) = red w g (2 * R w g n + b) := by
  by_cases h : 2 * n + b = 0
  · obtain rfl : n = 0 := by omega
    obtain rfl : b = 0 := by omega
    rw [R0]
    unfold red
    rw [if_pos (Nat.two_pow_pos w)]
  · rw [R, if_neg h, show (2 * n + b) / 2 = n by omega, show (2 * n + b) % 2 = b by omega]
theorem dbl_xor (a b c d : Nat) (hc : c < 2) (hd : d < 2) : 2 * (a ^^^ b) + (c ^^^ d) = (2 * a + c) ^^^ (2 * b + d) := by
  have hcd : c ^^^ d < 2 := Nat.xor_lt_two_pow (n := 1) hc hd
  apply Nat.eq_of_testBit_eq
  intro i
  rw [Nat.testBit_xor]
  cases i with
  | zero =>
    simp only [Nat.testBit_zero]
    have h : decide ((c ^^^ d) % 2 = 1) = (decide (c % 2 = 1) ^^ decide (d % 2 = 1)) := by
      have h1 : c = 0 ∨ c = 1 := by omega
      have h2 : d = 0 ∨ d = 1 := by omega
      rcases h1 with rfl | rfl <;> rcases h2 with rfl | rfl <;> rfl
    rw [show (2 * (a ^^^ b) + (c ^^^ d)) % 2 = (c ^^^ d) % 2 by omega, show (2 * a + c) % 2 = c % 2 by omega, show (2 * b + d) % 2 = d % 2 by omega]
    exact h
  | succ i =>
    rw [Nat.testBit_succ, Nat.testBit_succ, Nat.testBit_succ, show (2 * (a ^^^ b) + (c ^^^ d)) / 2 = a ^^^ b by omega, show (2 * a + c) / 2 = a by omega, show (2 * b + d) / 2 = b by omega, Nat.testBit_xor]
theorem split2 (n : Nat) : n = 2 * (n / 2) + n % 2 := by omega
theorem xor_div2 (a b : Nat) : (a ^^^ b) / 2 = a / 2 ^^^ b / 2 ∧ (a ^^^ b) % 2 = a % 2 ^^^ b % 2 := by
  have h := dbl_xor (a / 2) (b / 2) (a % 2) (b % 2) (by omega) (by omega)
  rw [← split2 a, ← split2 b] at h
  have : a % 2 ^^^ b % 2 < 2 := Nat.xor_lt_two_pow (n := 1) (by omega) (by omega)
  omega
theorem R_xor {w g : Nat} (k : Ok w g) : ∀ a b : Nat, R w g (a ^^^ b) = R w g a ^^^ R w g b := by
  intro a
  induction a using Nat.strongRecOn with
  | ind a ih =>
    intro b
    by_cases h : a = 0
    · subst h
      rw [Nat.zero_xor, R0, Nat.zero_xor]
    · have e := split2 (a ^^^ b)
      obtain ⟨e1, e2⟩ := xor_div2 a b
      have l2 : a % 2 ^^^ b % 2 < 2 := Nat.xor_lt_two_pow (n := 1) (by omega) (by omega)
      rw [e1, e2] at e
      rw [e, R_bit k l2, ih (a / 2) (by omega), dbl_xor _ _ _ _ (by omega) (by omega), red_xor k (two_lt (R_lt k _) (by omega)) (two_lt (R_lt k _) (by omega)), ← R_bit k (by omega), ← R_bit k (by omega), ← split2 a, ← split2 b]
theorem R_small {w g : Nat} (k : Ok w g) : ∀ n : Nat, n < 2 ^ w → R w g n = n := by
  intro n
  induction n using Nat.strongRecOn with
  | ind n ih =>
    intro h
    by_cases h0 : n = 0
    · subst h0; exact R0
    · rw [R, if_neg h0, ih (n / 2) (by omega) (by omega), ← split2 n]
      unfold red
      rw [if_pos h]
theorem R_R {w g : Nat} (k : Ok w g) (n : Nat) : R w g (R w g n) = R w g n := R_small k _ (R_lt k n)
theorem R_dbl {w g : Nat} (k : Ok w g) (n : Nat) : R w g (2 * n) = red w g (2 * R w g n) := R_bit (b := 0) k (by decide)
theorem R_g {w g : Nat} (k : Ok w g) : R w g g = 0 := by
  have h0 : g ≠ 0 := by have := k.lo; have := Nat.two_pow_pos w; omega
  have h1 : g / 2 < 2 ^ w := by have := k.hi; rw [Nat.pow_succ] at this; omega
  rw [R, if_neg h0, R_small k _ h1, ← split2 g]
  unfold red
  rw [if_neg (by have := k.lo; omega), Nat.xor_self]
theorem R_gs {w g : Nat} (k : Ok w g) : ∀ j : Nat, R w g (g * 2 ^ j) = 0
  | 0 => by rw [Nat.pow_zero, Nat.mul_one, R_g k]
  | j + 1 => by
    rw [Nat.pow_succ, show g * (2 ^ j * 2) = 2 * (g * 2 ^ j) by rw [← Nat.mul_assoc, Nat.mul_comm], R_dbl k, R_gs k j]
    unfold red
    rw [if_pos (Nat.two_pow_pos w)]
theorem R_sh {w g a b : Nat} (k : Ok w g) (h : R w g a = R w g b) : ∀ j : Nat, R w g (a * 2 ^ j) = R w g (b * 2 ^ j)
  | 0 => by rw [Nat.pow_zero, Nat.mul_one, Nat.mul_one, h]
  | j + 1 => by
    rw [Nat.pow_succ, show a * (2 ^ j * 2) = 2 * (a * 2 ^ j) by rw [← Nat.mul_assoc, Nat.mul_comm], show b * (2 ^ j * 2) = 2 * (b * 2 ^ j) by rw [← Nat.mul_assoc, Nat.mul_comm], R_dbl k, R_dbl k, R_sh k h j]
/-! products -/
theorem P0 (a : Nat) : P a 0 = 0 := by rw [P, if_pos rfl]
theorem P_bit (a n b : Nat) (hb : b < 2) : P a (2 * n + b) = (if b = 1 then a else 0) ^^^ P (2 * a) n := by
  by_cases h : 2 * n + b = 0
  · obtain rfl : n = 0 := by omega
    obtain rfl : b = 0 := by omega
    rw [P0, P0]
    simp
  · rw [P, if_neg h, show (2 * n + b) / 2 = n by omega, show (2 * n + b) % 2 = b by omega]
theorem dbl2 (a b : Nat) : 2 * (a ^^^ b) = (2 * a) ^^^ (2 * b) := by simpa using dbl_xor a b 0 0 (by decide) (by decide)
theorem P_dbl : ∀ (b a : Nat), P (2 * a) b = 2 * P a b := by
  intro b
  induction b using Nat.strongRecOn with
  | ind b ih =>
    intro a
    by_cases h : b = 0
    · subst h; rw [P0, P0]
    · rw [P, if_neg h, P.eq_1 a b, if_neg h, ih (b / 2) (by omega) (2 * a), dbl2]
      split <;> rfl
theorem P_xor : ∀ (b a c : Nat), P (a ^^^ c) b = P a b ^^^ P c b := by
  intro b
  induction b using Nat.strongRecOn with
  | ind b ih =>
    intro a c
    by_cases h : b = 0
    · subst h; rw [P0, P0, P0]; rfl
    · rw [P, if_neg h, P.eq_1 a b, if_neg h, P.eq_1 c b, if_neg h, dbl2, ih (b / 2) (by omega)]
      split
      · rw [Nat.xor_assoc, Nat.xor_assoc, xlc c]
      · simp
theorem P_one : ∀ b : Nat, P 1 b = b := by
  intro b
  induction b using Nat.strongRecOn with
  | ind b ih =>
    by_cases h : b = 0
    · subst h; exact P0 1
    · rw [P, if_neg h, P_dbl, ih (b / 2) (by omega)]
      have e := dbl_xor 0 (b / 2) (b % 2) 0 (by omega) (by decide)
      rw [Nat.zero_xor, Nat.xor_zero, ← split2 b] at e
      conv => rhs; rw [e]
      rcases Nat.mod_two_eq_zero_or_one b with z | z <;> rw [z] <;> simp
theorem P_zero : ∀ b : Nat, P 0 b = 0 := by
  intro b
  induction b using Nat.strongRecOn with
  | ind b ih =>
    by_cases h : b = 0
    · subst h; exact P0 0
    · rw [P, if_neg h, Nat.mul_zero, ih (b / 2) (by omega)]
      split <;> rfl
theorem P_comm : ∀ (b a : Nat), P a b = P b a := by
  intro b
  induction b using Nat.strongRecOn with
  | ind b ih =>
    intro a
    by_cases h : b = 0
    · subst h; rw [P0, P_zero]
    · rw [P, if_neg h, P_dbl, ih (b / 2) (by omega) a]
      have e := dbl_xor 0 (b / 2) (b % 2) 0 (by omega) (by decide)
      rw [Nat.zero_xor, Nat.xor_zero, ← split2 b] at e
      conv => rhs; rw [e, P_xor]
      rw [Nat.mul_zero, Nat.zero_add, Nat.add_zero, P_dbl]
      rcases Nat.mod_two_eq_zero_or_one b with z | z
      · rw [z, P_zero]; rfl
      · rw [z, P_one]; rfl
theorem P_pow (a : Nat) : ∀ j : Nat, P a (2 ^ j) = a * 2 ^ j
  | 0 => by rw [P_comm, Nat.pow_zero, P_one, Nat.mul_one]
  | j + 1 => by
    have := P_bit a (2 ^ j) 0 (by decide)
    rw [Nat.add_zero, P_dbl, P_pow a j] at this
    rw [Nat.pow_succ, Nat.mul_comm (2 ^ j) 2, this]
    simp only [Nat.zero_ne_one, if_false, Nat.zero_xor]
    rw [← Nat.mul_assoc, ← Nat.mul_assoc, Nat.mul_comm 2 a]
theorem R_Pl {w g : Nat} (k : Ok w g) : ∀ (b : Nat) {a c : Nat}, R w g a = R w g c → R w g (P a b) = R w g (P c b) := by
  intro b
  induction b using Nat.strongRecOn with
  | ind b ih =>
    intro a c h
    by_cases h0 : b = 0
    · subst h0; rw [P0, P0]
    · rw [P, if_neg h0, P.eq_1 c b, if_neg h0, R_xor k, R_xor k, ih (b / 2) (by omega) (a := 2 * a) (c := 2 * c) (by rw [R_dbl k, R_dbl k, h])]
      split
      · rw [h]
      · rfl
theorem R_Pr {w g a b c : Nat} (k : Ok w g) (h : R w g b = R w g c) : R w g (P a b) = R w g (P a c) := by rw [P_comm b a, P_comm c a]; exact R_Pl k a h
theorem R_P2 {w g a b c d : Nat} (k : Ok w g) (h : R w g a = R w g c) (h' : R w g b = R w g d) : R w g (P a b) = R w g (P c d) := (R_Pl k b h).trans (R_Pr k h')
/-! powers -/
def pw (w g : Nat) (n f b : Nat) : Nat := if n = 0 then f else pw w g (n / 2) (if n % 2 = 1 then R w g (P f b) else f) (R w g (P b b))
termination_by n
decreasing_by omega
theorem pw_eq {w g : Nat} (k : Ok w g) : ∀ (n f b j m : Nat), f = R w g (2 ^ j) → R w g b = R w g (2 ^ m) → pw w g n f b = R w g (2 ^ (j + m * n)) := by
  intro n
  induction n using Nat.strongRecOn with
  | ind n ih =>
    intro f b j m hf hb
    by_cases h : n = 0
    · subst h; rw [pw, if_pos rfl, Nat.mul_zero, Nat.add_zero]; exact hf
    · have hbb : R w g (R w g (P b b)) = R w g (2 ^ (2 * m)) := by
        rw [R_R k, R_P2 k hb hb, P_pow, ← Nat.pow_add]
        congr 2
        omega
      have hfb : R w g (P f b) = R w g (2 ^ (j + m)) := by
        rw [R_P2 k (c := 2 ^ j) (d := 2 ^ m) (by rw [hf, R_R k]) hb, P_pow, ← Nat.pow_add]
      rw [pw, if_neg h]
      have e := split2 n
      rcases Nat.mod_two_eq_zero_or_one n with z | z
      · rw [z, if_neg (by decide), ih (n / 2) (by omega) f _ j (2 * m) hf hbb]
        congr 3
        rw [z, Nat.add_zero] at e
        conv => rhs; rw [e]
        rw [← Nat.mul_assoc, Nat.mul_comm m 2]
      · rw [z, if_pos rfl, hfb, ih (n / 2) (by omega) _ _ (j + m) (2 * m) rfl hbb]
        congr 2
        rw [z] at e
        conv => rhs; rw [e]
        rw [Nat.mul_add, Nat.mul_one, ← Nat.mul_assoc, Nat.mul_comm m 2]
        omega
end Poly

set_option Elab.async false
set_option linter.all false
set_option maxRecDepth 100000
set_option maxHeartbeats 2000000
namespace N66
open PySem PySem.Spec PyProof.Rows L2 Evl WS Mir Poly
end N66

set_option Elab.async false
set_option linter.all false
set_option maxRecDepth 100000
set_option maxHeartbeats 2000000
namespace Mir
open PySem PySem.Spec PyProof.Rows L2 Evl WS
/-! ### loops by index, ranges -/
theorem for_ix {g : D → SDs → Option SDs} {b : MS} (E : Nat → SDs) : ∀ (xs : List D) (k : Nat) (h : ∀ i x, xs[i]? = some x → ∃ e1, g x (E (k + i)) = some e1 ∧ b e1 = some (.nx (E (k + i + 1)))), forL g b xs (E k) = some (.nx (E (k + xs.length)))
  | [], _, _ => rfl
  | x :: r, k, h => by
    obtain ⟨e1, h1, h2⟩ := h 0 x rfl
    rw [show E k = E (k + 0) from rfl, for_step h1 h2]
    have := for_ix E r (k + 1) fun i y hy => by
      have := h (i + 1) y hy
      rw [show k + 1 + i = k + (i + 1) by omega]
      exact this
    rw [show k + (x :: r).length = k + 1 + r.length by rw [List.length_cons]; omega]
    exact this
theorem rng0_get {k i : Nat} {x : D} (h : (rngD 0 k)[i]? = some x) : x = nat i ∧ i < k := by
  unfold rngD at h
  rw [List.getElem?_map] at h
  by_cases c : i < k
  · rw [List.getElem?_range c] at h
    cases h
    exact ⟨by show D.int (0 + (i : Int)) = D.int (i : Int); rw [Int.zero_add], c⟩
  · rw [List.getElem?_eq_none (by simpa using Nat.le_of_not_lt c)] at h
    cases h
theorem rng0_len {k : Nat} : (rngD 0 k).length = k := by unfold rngD; rw [List.length_map, List.length_range]
theorem for_rng {g : D → SDs → Option SDs} {b : MS} (E : Nat → SDs) (k : Nat) (h : ∀ i, i < k → ∃ e1, g (nat i) (E i) = some e1 ∧ b e1 = some (.nx (E (i + 1)))) : forL g b (rngD 0 k) (E 0) = some (.nx (E k)) := by
  have := for_ix (g := g) (b := b) E (rngD 0 k) 0 fun i x hx => by
    obtain ⟨rfl, hi⟩ := rng0_get hx
    rw [Nat.zero_add]
    exact h i hi
  rw [rng0_len, Nat.zero_add] at this
  exact this
variable {e : SDs} {ma m : M} {mr : ML}
@[simp] theorem e_forM {mi : ML} {g : D → SDs → Option SDs} {b : MS} : forM mi g b e = bnd (mi e) fun xs e1 => forL g b xs e1 := Eq.trans rfl rfl
theorem e_rngI {j : Int} {e1 : SDs} (h : mr e = some ([.int j], e1)) (hc : -(2 ^ 62) ≤ j ∧ j < 2 ^ 62) : rng1I mr e = some (rngD 0 j.toNat, e1) := by
  unfold rng1I
  rw [h]
  show (if -(2 ^ 62) ≤ j ∧ j < 2 ^ 62 then some (rngD 0 j.toNat, e1) else none) = _
  rw [if_pos hc]
theorem e_rng1 {k : Nat} {e1 : SDs} (h : mr e = some ([nat k], e1)) (hk : k ≤ 1000000) : rng1I mr e = some (rngD 0 k, e1) := by
  have hc : -(2 ^ 62) ≤ (k : Int) ∧ (k : Int) < 2 ^ 62 := ⟨by omega, by omega⟩
  have := e_rngI h hc
  rw [Int.toNat_natCast] at this
  exact this
@[simp] theorem e_frM {mo : MO} : frM mo e = bnd (mo e) fun o e1 => some (o.d, e1) := Eq.trans rfl rfl
theorem e_lstF {xs : List D} {e1 : SDs} (h : mr e = some (xs, e1)) (hl : xs.length ≤ 1000) : lstF mr e = some (.lst xs, e1) := by
  unfold lstF
  rw [h]
  show (if xs.length ≤ sizeLine then some (OD.lst xs, e1) else none) = _
  rw [if_pos (Nat.le_trans hl (by decide))]
@[simp] theorem e_oD {xs : List D} : (OD.lst xs).d = .lst xs := rfl
/-! ### texts of signs -/
def sgn (b : Bool) : Nat := if b then 49 else 48
def tx (bs : List Bool) : Str := ⟨(bs.map sgn).toArray⟩
theorem tx_nil : (Str.ofString "") = tx [] := by decide +kernel
theorem tx_1 : (Str.ofString "1") = tx [true] := by decide +kernel
theorem tx_0 : (Str.ofString "0") = tx [false] := by decide +kernel
theorem tx_000 : (Str.ofString "000") = tx [false, false, false] := by decide +kernel
theorem tx_app (a b : List Bool) : tx a ++ tx b = tx (a ++ b) := by
  show Str.mk ((a.map sgn).toArray ++ (b.map sgn).toArray) = Str.mk _
  rw [List.map_append, ← List.append_toArray]
@[simp] theorem tx_len (a : List Bool) : (tx a).length = a.length := by
  show (a.map sgn).toArray.size = _
  simp
theorem sgn_inj {a b : Bool} (h : sgn a = sgn b) : a = b := by revert h; revert a b; decide
theorem tx_inj {a b : List Bool} (h : tx a = tx b) : a = b := by
  have h1 : (a.map sgn).toArray = (b.map sgn).toArray := congrArg Str.cps h
  have h2 : a.map sgn = b.map sgn := by simpa using h1
  exact (List.map_inj_right fun x y => sgn_inj).mp h2
theorem e_strI {bs : List Bool} {e1 : SDs} (h : m e = some (.str (tx bs), e1)) : strI m e = some (bs.map fun b => D.str (tx [b]), e1) := by
  unfold strI
  rw [h]
  show some ((tx bs).cps.toList.map fun c => D.str ⟨#[c]⟩, e1) = _
  have : (tx bs).cps.toList = bs.map sgn := by show (bs.map sgn).toArray.toList = _; simp
  rw [this, List.map_map]
  rfl
theorem tx_ok (bs : List Bool) : SeqAt.shaped (.str (tx bs)) = true := by
  have h : PyData.strOk (tx bs) = true := by
    show ((bs.map sgn).toArray).all (· < 0x110000) = true
    rw [List.all_toArray, List.all_map]
    refine List.all_eq_true.mpr fun b _ => ?_
    cases b <;> rfl
  show (PyData.canLay0 (.str (tx bs)) && decide (PyData.depth (.str (tx bs)) ≤ 64)) = true
  rw [show PyData.canLay0 (.str (tx bs)) = PyData.strOk (tx bs) by simp [PyData.canLay0], h]
  simp [PyData.depth]
theorem tx_beq (a b : List Bool) : (tx a == tx b) = (a == b) := by
  rw [Bool.eq_iff_iff, beq_iff_eq, beq_iff_eq]
  exact ⟨tx_inj, fun h => h ▸ rfl⟩
theorem e_eqT' {neg : Bool} {a b : List Bool} : eqD neg (.str (tx a)) (.str (tx b)) = some (.bl (if neg then !(tx a == tx b) else tx a == tx b)) := by
  rfl
theorem e_eqT {neg : Bool} {a b : List Bool} : eqD neg (.str (tx a)) (.str (tx b)) = some (.bl (if neg then !(a == b) else a == b)) := by
  rw [e_eqT', tx_beq]
@[simp] theorem e_eq1 {b : Bool} : eqD false (.str (tx [b])) (.str (Str.ofString "1")) = some (.bl b) := by
  rw [tx_1, e_eqT]
  cases b <;> rfl
@[simp] theorem e_ne1 {b : Bool} : eqD true (.str (tx [b])) (.str (Str.ofString "1")) = some (.bl (!b)) := by
  rw [tx_1, e_eqT]
  cases b <;> rfl
theorem e_addT {a b : List Bool} (h : a.length + b.length ≤ 1000) : addD (.str (tx a)) (.str (tx b)) = some (.str (tx (a ++ b))) := by
  have h1 : (tx a).length + (tx b).length ≤ sizeLine := Nat.le_trans (by rw [tx_len, tx_len]; exact h) (by decide)
  show (if (tx a).length + (tx b).length ≤ sizeLine then some (D.str (tx a ++ tx b)) else none) = _
  rw [if_pos h1, tx_app]
theorem e_lenT {a : List Bool} (h : a.length ≤ 1000) : lenD (.str (tx a)) = some (nat a.length) := by
  have h1 : (tx a).length ≤ sizeLine := Nat.le_trans (by rw [tx_len]; exact h) (by decide)
  show (if (tx a).length ≤ sizeLine then some (D.int ((tx a).length : Nat)) else none) = _
  rw [if_pos h1, tx_len]
  rfl
theorem e_ixT {a : List Bool} {i : Nat} {b : Bool} (h : a[i]? = some b) (hl : a.length ≤ 1000) : ixD (.str (tx a)) (nat i) = some (.str (tx [b])) := by
  have h1 : (tx a).length ≤ sizeLine := Nat.le_trans (by rw [tx_len]; exact hl) (by decide)
  have h2 : (tx a).cps.toList = a.map sgn := by show (a.map sgn).toArray.toList = _; simp
  have h3 : atI (tx a).cps.toList (i : Int) = some (sgn b) := by
    rw [h2]
    unfold atI
    have hi : i < a.length := (List.getElem?_eq_some_iff.mp h).1
    unfold ixN
    rw [if_pos (Int.natCast_nonneg i), if_pos (by rw [List.length_map]; omega)]
    show (a.map sgn)[(i : Int).toNat]? = _
    rw [Int.toNat_natCast, List.getElem?_map, h]
    rfl
  show (if (tx a).length ≤ sizeLine then (match atI (tx a).cps.toList (i : Int) with | some c => some (D.str ⟨#[c]⟩) | none => none) else none) = _
  rw [if_pos h1, h3]
  rfl
/-- a text read as a number -/
def vl (bs : List Bool) : Nat := bs.foldl (fun v b => 2 * v + b.toNat) 0
theorem vl_snoc (bs : List Bool) (b : Bool) : vl (bs ++ [b]) = 2 * vl bs + b.toNat := by unfold vl; rw [List.foldl_append]; rfl
theorem take_snoc {α : Type} {bs : List α} {i : Nat} {b : α} (h : bs[i]? = some b) : bs.take (i + 1) = bs.take i ++ [b] := by rw [List.take_succ, h]; rfl
theorem vl_fold : ∀ (b : List Bool) (v : Nat), b.foldl (fun v b => 2 * v + b.toNat) v = v * 2 ^ b.length + vl b
  | [], v => by simp [vl]
  | c :: r, v => by
    unfold vl
    rw [List.foldl_cons, List.foldl_cons, vl_fold r, vl_fold r (2 * 0 + c.toNat), List.length_cons, Nat.pow_succ, Nat.mul_zero, Nat.zero_add, Nat.add_mul]
    rw [Nat.mul_comm 2 v, Nat.mul_assoc, Nat.mul_comm 2 (2 ^ r.length)]
    omega
theorem vl_app (a b : List Bool) : vl (a ++ b) = vl a * 2 ^ b.length + vl b := by
  show (a ++ b).foldl _ 0 = _
  rw [List.foldl_append]
  exact vl_fold b _
theorem vl_lt : ∀ bs : List Bool, vl bs < 2 ^ bs.length
  | [] => by decide
  | c :: r => by
    have := vl_app [c] r
    rw [List.singleton_append] at this
    rw [this, List.length_cons, Nat.pow_succ]
    have := vl_lt r
    cases c <;> simp [vl] at * <;> omega
/-- the w lowest bits of a number, from the highest -/
def bt (x : Nat) : Nat → List Bool
  | 0 => []
  | w + 1 => (x / 2 ^ w % 2 == 1) :: bt x w
theorem bt_len (x : Nat) : ∀ w, (bt x w).length = w
  | 0 => rfl
  | w + 1 => by rw [bt, List.length_cons, bt_len x w]
theorem vl_cons (b : Bool) (bs : List Bool) : vl (b :: bs) = b.toNat * 2 ^ bs.length + vl bs := by
  have := vl_app [b] bs
  rw [List.singleton_append] at this
  rw [this]
  cases b <;> simp [vl]
theorem vl_bt (x : Nat) : ∀ w, vl (bt x w) = x % 2 ^ w
  | 0 => by rw [bt, Nat.pow_zero, Nat.mod_one]; rfl
  | w + 1 => by
    rw [bt, vl_cons, vl_bt x w, bt_len, Nat.pow_succ, Nat.mod_mul]
    rcases (show x / 2 ^ w % 2 = 0 ∨ x / 2 ^ w % 2 = 1 by omega) with h | h <;> simp [h, Nat.add_comm]
end Mir

set_option Elab.async false
set_option linter.all false
set_option maxRecDepth 100000
set_option maxHeartbeats 2000000
namespace Mir
open PySem PySem.Spec PyProof.Rows L2 Evl WS
section
variable {e e1 : SDs} {ma m me : M} {mr : ML} {mi : ML} {v : Nat}
@[simp] theorem e_nilX : nilX e = some ([], e) := Eq.trans rfl rfl
@[simp] theorem e_froX {r : SDs → Option (List SD × SDs)} : froX m r e = bnd (m e) fun d e1 => bnd (r e1) fun xs e2 => some (.fro d :: xs, e2) := Eq.trans rfl rfl
@[simp] theorem e_parM {is : List Nat} {r : SDs → Option (List SD × SDs)} : parM is r e = bnd (r e) fun xs e1 => (setL is xs e1).map Out.nx := Eq.trans rfl rfl
@[simp] theorem e_augX {i : Nat} : froO (some (SD.bor i')) = none := rfl
theorem set_get0 {x : SD} (h : e[v]? = some x) : e.getD v .nn = x := by rw [List.getD_eq_getElem?_getD, h]; rfl
theorem comp_go {g : D → D} {x0 : SD} (hv : e[v]? = some x0) (hf : x0 = .nn ∨ ∃ d, x0 = .fro d) : ∀ (xs : List D), (∀ x ∈ xs, me (e.set v (.fro x)) = some (g x, e.set v (.fro x))) → compL [v] (nameG v) yesT me xs (e.set v .nn) = some (xs.map g, e.set v .nn)
  | [], _ => rfl
  | x :: r, h => by
    have hl : v < e.length := (List.getElem?_eq_some_iff.mp hv).1
    have h1 : nameG v x (e.set v .nn) = some (e.set v (.fro x)) := by
      show setS v (.fro x) (e.set v .nn) = _
      unfold setS
      rw [List.getElem?_set_self hl]
      show some ((e.set v .nn).set v (.fro x)) = _
      rw [List.set_set]
    have h2 : wipeE [v] (e.set v (.fro x)) = some (e.set v .nn) := by
      show (match (e.set v (.fro x))[v]? with | some (.own _) => none | some (.bor _) => none | _ => some ((e.set v (.fro x)).set v .nn)) = _
      rw [List.getElem?_set_self hl]
      show some _ = _
      rw [List.set_set]
    have ih := comp_go (g := g) hv hf r fun y hy => h y (List.mem_cons_of_mem _ hy)
    show (match nameG v x (e.set v .nn) with | none => none | some e1 => bnd (yesT e1) fun b e2 => if b then (bnd (me e2) fun d e3 => match wipeE [v] e3 with | none => none | some e4 => (match compL [v] (nameG v) yesT me r e4 with | none => none | some (ds, e5) => some (d :: ds, e5))) else (match wipeE [v] e2 with | none => none | some e4 => compL [v] (nameG v) yesT me r e4)) = _
    rw [h1]
    show (bnd (me (e.set v (.fro x))) fun d e3 => match wipeE [v] e3 with | none => none | some e4 => (match compL [v] (nameG v) yesT me r e4 with | none => none | some (ds, e5) => some (d :: ds, e5))) = _
    rw [h x List.mem_cons_self]
    show (match wipeE [v] (e.set v (.fro x)) with | none => none | some e4 => (match compL [v] (nameG v) yesT me r e4 with | none => none | some (ds, e5) => some (g x :: ds, e5))) = _
    rw [h2]
    show (match compL [v] (nameG v) yesT me r (e.set v .nn) with | none => none | some (ds, e5) => some (g x :: ds, e5)) = _
    rw [ih]
    rfl
/-- [.. for v in xs] -/
theorem comp_map {xs : List D} {x0 : SD} (g : D → D) (hi : mi e = some (xs, e)) (hv : e[v]? = some x0) (hf : x0 = .nn ∨ ∃ d, x0 = .fro d) (hl : xs.length ≤ 1000) (h : ∀ x ∈ xs, me (e.set v (.fro x)) = some (g x, e.set v (.fro x))) : compF mi [v] (nameG v) yesT me e = some (.lst (xs.map g), e) := by
  have hl2 : v < e.length := (List.getElem?_eq_some_iff.mp hv).1
  have h1 : wipeE [v] e = some (e.set v .nn) := by
    show (match e[v]? with | some (.own _) => none | some (.bor _) => none | _ => some (e.set v .nn)) = _
    rw [hv]
    rcases hf with rfl | ⟨d, rfl⟩ <;> rfl
  unfold compF
  rw [hi]
  show (if xs.length ≤ sizeLine then (match wipeE [v] e with | none => none | some e2 => match compL [v] (nameG v) yesT me xs e2 with | none => none | some (ds, e3) => some (OD.lst ds, restE e [v] e3)) else none) = _
  rw [if_pos (Nat.le_trans hl (by decide)), h1]
  show (match compL [v] (nameG v) yesT me xs (e.set v .nn) with | none => none | some (ds, e3) => some (OD.lst ds, restE e [v] e3)) = _
  rw [comp_go hv hf xs h]
  show some (OD.lst (xs.map g), (e.set v .nn).set v (e.getD v .nn)) = _
  rw [set_get0 hv, List.set_set]
  congr 2
  rw [← (List.getElem?_eq_some_iff.mp hv).2, List.set_getElem_self]
/-- [v for v in xs if t(v)], the test without effect -/
theorem comp_fgo {mt : MT} {g : D → D} {t : D → Bool} {x0 : SD} (hv : e[v]? = some x0) (hf : x0 = .nn ∨ ∃ d, x0 = .fro d) : ∀ (xs : List D), (∀ x ∈ xs, mt (e.set v (.fro x)) = some (t x, e.set v (.fro x))) → (∀ x ∈ xs, t x = true → me (e.set v (.fro x)) = some (g x, e.set v (.fro x))) → compL [v] (nameG v) mt me xs (e.set v .nn) = some ((xs.filter t).map g, e.set v .nn)
  | [], _, _ => rfl
  | x :: r, ht, h => by
    have hl : v < e.length := (List.getElem?_eq_some_iff.mp hv).1
    have h1 : nameG v x (e.set v .nn) = some (e.set v (.fro x)) := by
      show setS v (.fro x) (e.set v .nn) = _
      unfold setS
      rw [List.getElem?_set_self hl]
      show some ((e.set v .nn).set v (.fro x)) = _
      rw [List.set_set]
    have h2 : wipeE [v] (e.set v (.fro x)) = some (e.set v .nn) := by
      show (match (e.set v (.fro x))[v]? with | some (.own _) => none | some (.bor _) => none | _ => some ((e.set v (.fro x)).set v .nn)) = _
      rw [List.getElem?_set_self hl]
      show some _ = _
      rw [List.set_set]
    have ih := comp_fgo (g := g) hv hf r (fun y hy => ht y (List.mem_cons_of_mem _ hy)) fun y hy => h y (List.mem_cons_of_mem _ hy)
    show (match nameG v x (e.set v .nn) with | none => none | some e1 => bnd (mt e1) fun b e2 => if b then (bnd (me e2) fun d e3 => match wipeE [v] e3 with | none => none | some e4 => (match compL [v] (nameG v) mt me r e4 with | none => none | some (ds, e5) => some (d :: ds, e5))) else (match wipeE [v] e2 with | none => none | some e4 => compL [v] (nameG v) mt me r e4)) = _
    rw [h1]
    show (bnd (mt (e.set v (.fro x))) fun b e2 => if b then (bnd (me e2) fun d e3 => match wipeE [v] e3 with | none => none | some e4 => (match compL [v] (nameG v) mt me r e4 with | none => none | some (ds, e5) => some (d :: ds, e5))) else (match wipeE [v] e2 with | none => none | some e4 => compL [v] (nameG v) mt me r e4)) = _
    rw [ht x List.mem_cons_self]
    cases hx : t x with
    | true =>
      show (bnd (me (e.set v (.fro x))) fun d e3 => match wipeE [v] e3 with | none => none | some e4 => (match compL [v] (nameG v) mt me r e4 with | none => none | some (ds, e5) => some (d :: ds, e5))) = _
      rw [h x List.mem_cons_self hx]
      show (match wipeE [v] (e.set v (.fro x)) with | none => none | some e4 => (match compL [v] (nameG v) mt me r e4 with | none => none | some (ds, e5) => some (g x :: ds, e5))) = _
      rw [h2]
      show (match compL [v] (nameG v) mt me r (e.set v .nn) with | none => none | some (ds, e5) => some (g x :: ds, e5)) = _
      rw [ih, List.filter_cons, if_pos hx]
      rfl
    | false =>
      show (match wipeE [v] (e.set v (.fro x)) with | none => none | some e4 => compL [v] (nameG v) mt me r e4) = _
      rw [h2]
      show compL [v] (nameG v) mt me r (e.set v .nn) = _
      rw [ih, List.filter_cons, if_neg (by rw [hx]; decide)]
theorem comp_fil {mt : MT} {xs : List D} {x0 : SD} (g : D → D) (t : D → Bool) (hi : mi e = some (xs, e)) (hv : e[v]? = some x0) (hf : x0 = .nn ∨ ∃ d, x0 = .fro d) (hl : xs.length ≤ 1000) (ht : ∀ x ∈ xs, mt (e.set v (.fro x)) = some (t x, e.set v (.fro x))) (h : ∀ x ∈ xs, t x = true → me (e.set v (.fro x)) = some (g x, e.set v (.fro x))) : compF mi [v] (nameG v) mt me e = some (.lst ((xs.filter t).map g), e) := by
  have hl2 : v < e.length := (List.getElem?_eq_some_iff.mp hv).1
  have h1 : wipeE [v] e = some (e.set v .nn) := by
    show (match e[v]? with | some (.own _) => none | some (.bor _) => none | _ => some (e.set v .nn)) = _
    rw [hv]
    rcases hf with rfl | ⟨d, rfl⟩ <;> rfl
  unfold compF
  rw [hi]
  show (if xs.length ≤ sizeLine then (match wipeE [v] e with | none => none | some e2 => match compL [v] (nameG v) mt me xs e2 with | none => none | some (ds, e3) => some (OD.lst ds, restE e [v] e3)) else none) = _
  rw [if_pos (Nat.le_trans hl (by decide)), h1]
  show (match compL [v] (nameG v) mt me xs (e.set v .nn) with | none => none | some (ds, e3) => some (OD.lst ds, restE e [v] e3)) = _
  rw [comp_fgo hv hf xs ht h]
  show some (OD.lst ((xs.filter t).map g), (e.set v .nn).set v (e.getD v .nn)) = _
  rw [set_get0 hv, List.set_set]
  congr 2
  rw [← (List.getElem?_eq_some_iff.mp hv).2, List.set_getElem_self]
/-! joins of signs -/
theorem strs_sg : ∀ bs : List Bool, strsO (bs.map fun b => D.str (tx [b])) = some (bs.map fun b => tx [b])
  | [] => rfl
  | b :: r => by
    show (match strsO (r.map fun b => D.str (tx [b])) with | some ns => some (tx [b] :: ns) | none => none) = _
    rw [strs_sg r]
    rfl
theorem join_sg : ∀ bs : List Bool, Txt.join (tx []) (bs.map fun b => tx [b]) = tx bs := by
  intro bs
  rw [show Txt.join (tx []) (bs.map fun b => tx [b]) = Str.join (tx []) (bs.map fun b => tx [b]) from TL.join_eq _ _]
  induction bs with
  | nil => rfl
  | cons b r ih =>
    cases r with
    | nil => rfl
    | cons c t =>
      show tx [b] ++ tx [] ++ Str.join (tx []) ((c :: t).map fun b => tx [b]) = _
      rw [ih, tx_app, tx_app]
      rfl
theorem e_joinT {bs : List Bool} (h : bs.length ≤ 1000) : joinD (.str (tx [])) (.lst (bs.map fun b => D.str (tx [b]))) = some (.str (tx bs)) := by
  have h1 : ((bs.map fun b => tx [b]).map Str.length).sum = bs.length := by
    rw [List.map_map]
    clear h
    induction bs with
    | nil => rfl
    | cons b r ih => rw [List.map_cons, List.sum_cons, ih, List.length_cons]; show 1 + r.length = _; omega
  have h2 : ((bs.map fun b => tx [b]).map Str.length).sum + (bs.map fun b => tx [b]).length * (tx []).length ≤ 16777216 := by
    rw [h1, show (tx []).length = 0 from rfl]
    omega
  show (match strsO (bs.map fun b => D.str (tx [b])) with | some ys => if (ys.map Str.length).sum + ys.length * (tx []).length ≤ 16777216 then some (D.str (Txt.join (tx []) ys)) else none | none => none) = _
  rw [strs_sg]
  show (if ((bs.map fun b => tx [b]).map Str.length).sum + (bs.map fun b => tx [b]).length * (tx []).length ≤ 16777216 then some (D.str (Txt.join (tx []) (bs.map fun b => tx [b]))) else none) = _
  rw [if_pos h2, join_sg]
theorem bls_true : ∀ xs : List D, blsO (xs.map fun _ => D.bl true) = some (xs.map fun _ => true)
  | [] => rfl
  | _ :: r => by
    show (match blsO (r.map fun _ => D.bl true) with | some ns => some (true :: ns) | none => none) = _
    rw [bls_true r]
    rfl
theorem e_allT {xs : List D} : alD (fun bs => bs.all id) (.lst (xs.map fun _ => D.bl true)) = some (.bl true) := by
  show (match blsO (xs.map fun _ => D.bl true) with | some ns => some (D.bl (ns.all id)) | none => none) = _
  rw [bls_true]
  show some (D.bl _) = _
  congr 2
  rw [List.all_map]
  exact List.all_eq_true.mpr fun _ _ => rfl
theorem e_inSg {b : Bool} : inD false (.str (tx [b])) (.tup [.str (Str.ofString "0"), .str (Str.ofString "1")]) = some (.bl true) := by
  rw [tx_0, tx_1]
  show some (D.bl ((tx [false] == tx [b]) || ((tx [true] == tx [b]) || false))) = _
  rw [tx_beq, tx_beq]
  cases b <;> rfl
theorem e_revR1 {k : Nat} {e1 : SDs} (h : m e = some (nat k, e1)) (hk : k ≤ 1000000) : revR1I m e = some ((List.range k).map fun i : Nat => nat (k - 1 - i), e1) := by
  have hj : ∀ (j : Int), -(2 ^ 62) ≤ j ∧ j < 2 ^ 62 → m e = some (.int j, e1) → revR1I m e = some (rng3D (0 + ((((j - 0).toNat : Nat) : Int)) - 1) (-1) (j - 0).toNat, e1) := fun j hc h => by
    unfold revR1I
    rw [h]
    show (if -(2 ^ 62) ≤ j ∧ j < 2 ^ 62 then some (rng3D (0 + ((((j - 0).toNat : Nat) : Int)) - 1) (-1) (j - 0).toNat, e1) else none) = _
    rw [if_pos hc]
  rw [hj (k : Int) ⟨by omega, by omega⟩ h]
  rw [show ((k : Int) - 0).toNat = k by omega]
  congr 2
  unfold rng3D
  refine List.map_congr_left fun i hi => ?_
  have hi : i < k := List.mem_range.mp hi
  show D.int _ = D.int ((k - 1 - i : Nat) : Int)
  congr 1
  omega
theorem bt_rev (x : Nat) : ∀ w, ((List.range w).map fun i : Nat => (x / 2 ^ (w - 1 - i) % 2 == 1)) = bt x w
  | 0 => rfl
  | w + 1 => by
    rw [List.range_succ_eq_map, List.map_cons, List.map_map, bt, ← bt_rev x w]
    congr 1
    refine List.map_congr_left fun i _ => ?_
    show (x / 2 ^ (w + 1 - 1 - (i + 1)) % 2 == 1) = _
    rw [show w + 1 - 1 - (i + 1) = w - 1 - i by omega]
end
end Mir

set_option Elab.async false
set_option linter.all false
set_option maxRecDepth 100000
set_option maxHeartbeats 2000000
namespace N66
open PySem PySem.Spec PyProof.Rows L2 Evl WS Mir Poly
theorem xtop {a c m : Nat} (ha : nb a = m + 1) (hc : nb c = m + 1) : nb (a ^^^ c) ≤ m := by
  have a1 : a < 2 ^ (m + 1) := nb_le.mp (by omega)
  have c1 : c < 2 ^ (m + 1) := nb_le.mp (by omega)
  have a2 : 2 ^ m ≤ a := nb_lt.mp (by omega)
  have c2 : 2 ^ m ≤ c := nb_lt.mp (by omega)
  refine nb_le.mpr ((tb (Nat.xor_lt_two_pow a1 c1)).mpr ?_)
  have a3 : a.testBit m = true := by
    cases h : a.testBit m with
    | true => rfl
    | false => have := (tb a1).mpr h; omega
  have c3 : c.testBit m = true := by
    cases h : c.testBit m with
    | true => rfl
    | false => have := (tb c1).mpr h; omega
  rw [Nat.testBit_xor, a3, c3]
  rfl
theorem nb_eq {a m : Nat} (h1 : 2 ^ m ≤ a) (h2 : a < 2 ^ (m + 1)) : nb a = m + 1 := by
  have := nb_le.mpr h2
  have := nb_lt.mpr h1
  omega
theorem nb_shl {g j : Nat} (h : nb g ≠ 0) : nb (g * 2 ^ j) = nb g + j := by
  obtain ⟨m, hm⟩ := Nat.exists_eq_succ_of_ne_zero h
  have h1 : 2 ^ m ≤ g := nb_lt.mp (by omega)
  have h2 : g < 2 ^ (m + 1) := nb_le.mp (by omega)
  have h3 : nb (g * 2 ^ j) = m + j + 1 := nb_eq (by rw [Nat.pow_add]; exact Nat.mul_le_mul_right _ h1) (by
    rw [show m + j + 1 = m + 1 + j by omega, Nat.pow_add]
    exact Nat.mul_lt_mul_of_pos_right h2 (Nat.two_pow_pos j))
  omega
theorem ok_nb {w g : Nat} (k : Ok w g) : nb g = w + 1 := nb_eq k.lo k.hi
theorem nb_small {w n : Nat} : nb n < w + 1 ↔ n < 2 ^ w := by rw [← nb_le]; omega
theorem R_nb {w g n : Nat} (k : Ok w g) (h : nb n ≤ w) : R w g n = n := R_small k n (nb_le.mp h)
/-- a step of a division -/
theorem div_step {w g a : Nat} (k : Ok w g) (h : w + 1 ≤ nb a) : R w g (a ^^^ g * 2 ^ (nb a - (w + 1))) = R w g a ∧ nb (a ^^^ g * 2 ^ (nb a - (w + 1))) < nb a := by
  refine ⟨by rw [R_xor k, R_gs k, Nat.xor_zero], ?_⟩
  have h1 := nb_shl (g := g) (j := nb a - (w + 1)) (by rw [ok_nb k]; omega)
  rw [ok_nb k] at h1
  have := xtop (a := a) (c := g * 2 ^ (nb a - (w + 1))) (m := nb a - 1) (by omega) (by omega)
  omega
@[simp] theorem e_setL0 {e : SDs} : setL [] [] e = some e := rfl
@[simp] theorem e_setL {i : Nat} {r : List Nat} {x : SD} {xs : List SD} {e : SDs} : setL (i :: r) (x :: xs) e = (setS i x e).bind (setL r xs) := by
  show (match setS i x e with | none => none | some e1 => setL r xs e1) = _
  cases setS i x e <;> rfl
theorem law_rest_nat {n w g a : Nat} (k : Ok w g) (hn : nb a < n) (ha : nb a ≤ 4000) (hw : w ≤ 900) : Ret (F__law_rest n) [nat g, nat a] (nat (R w g a)) := by
  have hg := ok_nb k
  obtain ⟨x, hi, hc, hw⟩ := wh_run (α := Nat) (t := tstM (opM geD (unM bitsD (varM 2)) (unM bitsD (varM 0))))
    (b := (asM (nameG 2) (opM xorD (varM 2) (opM shlD (varM 0) (opM subD (unM bitsD (varM 2)) (unM bitsD (varM 0)))))))
    (fun x => [.fro (nat g), .fro (nat a), .fro (nat x)]) (fun x => decide (w + 1 ≤ nb x)) (fun x => x ^^^ g * 2 ^ (nb x - nb g))
    (fun x => R w g x = R w g a ∧ nb x ≤ nb a) (fun x => nb x)
    (fun s hs => by
      simp [hg])

    (fun x hs hc => by
      obtain ⟨h1, h2⟩ := hs
      have hc2 : w + 1 ≤ nb x := by simpa using hc
      clear hc
      obtain ⟨d1, d2⟩ := div_step k hc2
      rw [hg]
      have hh : nb x - (w + 1) ≤ 5000 := by omega
      refine ⟨?_, ⟨by rw [d1, h1], by omega⟩, d2⟩
      simp [e_subN hc2, e_shlN (show nb g ≤ 5000 by omega) hh, hg, e_1shl hh]) n a ⟨rfl, Nat.le_refl _⟩ hn
  have hx : nb x ≤ w := by
    have : ¬ w + 1 ≤ nb x := by simpa using hc
    omega
  have hz : x = R w g a := by rw [← hi.1]; exact (R_nb k hx).symm
  subst hz
  refine Ret.of rfl (e' := [.fro (nat g), .fro (nat a), .fro (nat (R w g a))]) ?_
  show (m__law_rest n [.fro (nat g), .fro (nat a), .nn]) = _
  simp [m__law_rest, hw]
end N66

set_option Elab.async false
set_option linter.all false
set_option maxRecDepth 100000
set_option maxHeartbeats 2000000
namespace N66
open PySem PySem.Spec PyProof.Rows L2 Evl WS Mir Poly
end N66

set_option Elab.async false
set_option linter.all false
set_option maxRecDepth 100000
set_option maxHeartbeats 2000000
namespace N66
open PySem PySem.Spec PyProof.Rows L2 Evl WS Mir Poly
theorem nb_dbl (a : Nat) : nb (2 * a) ≤ nb a + 1 := by
  refine nb_le.mpr ?_
  have := nb_le.mp (Nat.le_refl (nb a))
  rw [Nat.pow_succ]
  omega
theorem nb_half {b : Nat} (h : b ≠ 0) : nb (b / 2) + 1 ≤ nb b := by
  have h0 : nb b ≠ 0 := by
    intro h2
    have := nb_le.mp (Nat.le_of_eq h2)
    omega
  obtain ⟨m, hm⟩ := Nat.exists_eq_succ_of_ne_zero h0
  have h1 : b < 2 ^ (m + 1) := nb_le.mp (by omega)
  have : nb (b / 2) ≤ m := nb_le.mpr (by rw [Nat.pow_succ] at h1; omega)
  omega
theorem nb_P : ∀ (b a : Nat), nb (P a b) ≤ nb a + nb b := by
  intro b
  induction b using Nat.strongRecOn with
  | ind b ih =>
    intro a
    by_cases h : b = 0
    · subst h; rw [P0]; exact Nat.zero_le _
    · have h1 := ih (b / 2) (by omega) (2 * a)
      have h2 := nb_dbl a
      have h3 := nb_half h
      have h4 := P_bit a (b / 2) (b % 2) (by omega)
      rw [← split2] at h4
      rw [h4]
      refine nb_xor ?_ (by omega)
      split
      · omega
      · exact Nat.zero_le _
theorem n1 : nb 1 ≤ 1 := nb_le.mpr (by decide)
theorem n2 : nb 2 ≤ 2 := nb_le.mpr (by decide)
/-- a check's data -/
structure G (w l g : Nat) : Prop where
  w1 : 1 ≤ w
  w2 : w ≤ 16
  hl : l < 2 ^ w
  odd : l % 2 = 1
  hg : g = 2 ^ w + l
section
variable {n w l g : Nat}
theorem G.ok (k : G w l g) : Ok w g := ⟨k.w1, by rw [k.hg]; omega, by have := k.hl; rw [k.hg, Nat.pow_succ]; omega⟩
def Ck (w l : Nat) : D := .ins 0 [("_width", nat w), ("_low", nat l)]
theorem ck_w : (([("_width", nat w), ("_low", nat l)] : List (Str × D)).lookup (Str.ofString "_width")) = some (nat w) := rfl
theorem ck_l : (([("_width", nat w), ("_low", nat l)] : List (Str × D)).lookup (Str.ofString "_low")) = some (nat l) := by
  have h : ((Str.ofString "_low") == (Str.ofString "_width")) = false := by decide +kernel
  show (match (Str.ofString "_low") == (Str.ofString "_width") with | true => some (nat w) | false => ([("_low", nat l)] : List (Str × D)).lookup (Str.ofString "_low")) = _
  rw [h]
  rfl
theorem width_nat : Ret (F_Check_width n) [Ck w l] (nat w) := ⟨_, rfl, rfl⟩
theorem low_nat : Ret (F_Check_low n) [Ck w l] (nat l) := by
  refine Ret.of rfl (e' := [.fro (Ck w l)]) ?_
  show bnd (bnd (some (Ck w l, [SD.fro (Ck w l)])) fun d e1 => match d with | .ins c fs => if [0].contains c then rsl (fs.lookup (Str.ofString "_low")) e1 else none | _ => none) (fun d e1 => some (Out.rt d e1)) = _
  show bnd (rsl (([("_width", nat w), ("_low", nat l)] : List (Str × D)).lookup (Str.ofString "_low")) [SD.fro (Ck w l)]) (fun d e1 => some (Out.rt d e1)) = _
  rw [ck_l]
  rfl
def propD (F : MF) (d : D) (e : SDs) : Option (D × SDs) := match d with
  | .ins c2 _ => if c2 = 0 then callE F [.inl d] e else none
  | _ => none
@[simp] theorem e_propM {F : MF} {m : M} {e : SDs} : propM 0 F m e = bnd (m e) fun d e1 => propD F d e1 := Eq.trans rfl rfl
@[simp] theorem e_propD {F : MF} {e : SDs} : propD F (Ck w l) e = callE F [.inl (Ck w l)] e := rfl
@[simp] theorem ca_w {e : SDs} : callE (F_Check_width n) [.inl (Ck w l)] e = some (nat w, e) := width_nat.c1
@[simp] theorem ca_l {e : SDs} : callE (F_Check_low n) [.inl (Ck w l)] e = some (nat l, e) := low_nat.c1
theorem sum_nat (k : G w l g) : Ret (F_sum_of n) [Ck w l] (nat g) := by
  have h : 2 ^ w ||| l = g := by
    have := Nat.two_pow_add_eq_or_of_lt k.hl 1
    rw [Nat.mul_one] at this
    rw [k.hg, this]
  have hw := k.w2
  refine Ret.of rfl (e' := [.fro (Ck w l)]) ?_
  show m_sum_of n [.fro (Ck w l)] = _
  simp [m_sum_of, e_1shl (show w ≤ 5000 by omega), h]
end
end N66

set_option Elab.async false
set_option linter.all false
set_option maxRecDepth 100000
set_option maxHeartbeats 2000000
namespace N66
open PySem PySem.Spec PyProof.Rows L2 Evl WS Mir Poly
theorem or1 (x : Nat) : 2 * x ||| 1 = 2 * x + 1 := by
  have := Nat.two_pow_add_eq_or_of_lt (i := 1) (b := 1) (by decide) x
  rw [Nat.pow_one] at this
  exact this.symm
@[simp] theorem e_or1 {x : Nat} : orD (nat (2 * x)) (.int 1) = some (nat (2 * x + 1)) := by
  have := @e_orN (2 * x) 1
  rw [or1] at this
  exact this
@[simp] theorem e_or0 {x : Nat} : orD (nat x) (.int 0) = some (nat x) := by
  have := @e_orN x 0
  rw [Nat.or_zero] at this
  exact this
theorem red_tst {w g y : Nat} : (y / 2 ^ w != 0) = !decide (y < 2 ^ w) := by
  by_cases h : y < 2 ^ w
  · rw [Nat.div_eq_of_lt h]; simp [h]
  · have : 0 < y / 2 ^ w := Nat.div_pos (by omega) (Nat.two_pow_pos w)
    have h2 : (y / 2 ^ w != 0) = true := by rw [bne_iff_ne]; omega
    rw [h2]
    simp [h]
section
variable {n w l g : Nat}
theorem risen_nat {r m : Nat} (k : G w l g) (hr : r < 2 ^ w) (hm : m ≤ 1000) : Ret (F_risen n) [nat r, Ck w l, nat m] (nat (R w g (r * 2 ^ m))) := by
  have ok := k.ok
  have hw2 := k.w2
  let E : Nat → SDs := fun i => [.fro (nat (R w g (r * 2 ^ i))), .fro (Ck w l), .fro (nat m), .fro (nat g), .fro (nat w), if i = 0 then .nn else .fro (nat (i - 1))]
  have hf := for_rng (g := nameG 5) (b := (seqM (augM 0 shlD (cM (.int 1)))
 (ifS (truM (opM shrD (varM 0) (varM 4))) (augM 0 xorD (varM 3)) nxM))) E m fun i hi => by
    refine ⟨[.fro (nat (R w g (r * 2 ^ i))), .fro (Ck w l), .fro (nat m), .fro (nat g), .fro (nat w), .fro (nat i)], ?_, ?_⟩
    · cases i <;> simp [E]
    · have hx : nb (R w g (r * 2 ^ i)) ≤ 5000 := by
        have := nb_le.mpr (R_lt ok (r * 2 ^ i)); omega
      have h1 := R_dbl ok (r * 2 ^ i)
      rw [show 2 * (r * 2 ^ i) = r * 2 ^ (i + 1) by rw [Nat.pow_succ, Nat.mul_comm 2, Nat.mul_assoc]] at h1
      unfold red at h1
      have h2 := @red_tst w g (2 * R w g (r * 2 ^ i))
      by_cases h : 2 * R w g (r * 2 ^ i) < 2 ^ w
      · rw [if_pos h] at h1
        simp [E, e_shl1 hx, h2, h, h1]
      · rw [if_neg h] at h1
        simp [E, e_shl1 hx, h2, h, h1]
  have h0 : E 0 = [.fro (nat r), .fro (Ck w l), .fro (nat m), .fro (nat g), .fro (nat w), .nn] := by
    show [SD.fro (nat (R w g (r * 2 ^ 0))), .fro (Ck w l), .fro (nat m), .fro (nat g), .fro (nat w), .nn] = _
    rw [Nat.pow_zero, Nat.mul_one, R_small ok r hr]
  rw [h0] at hf
  have c1 := fun e => (sum_nat (n := n) k).c1 (e := e)
  refine Ret.of rfl (e' := E m) ?_
  show m_risen n [.fro (nat r), .fro (Ck w l), .fro (nat m), .nn, .nn, .nn] = _
  simp [m_risen, c1, e_rng1 (mr := consM (varM 2) nilM) (k := m) (e := [.fro (nat r), .fro (Ck w l), .fro (nat m), .fro (nat g), .fro (nat w), .nn]) (e1 := [.fro (nat r), .fro (Ck w l), .fro (nat m), .fro (nat g), .fro (nat w), .nn]) (by simp) (by omega), hf, E]
theorem bits_of_nat {x : Nat} (hw : w ≤ 900) : Ret (F_bits_of n) [nat x, nat w] (.str (tx (bt x w))) := by
  have h1 := e_revR1 (m := varM 1) (k := w) (e := [.fro (nat x), .fro (nat w), .nn]) (e1 := [.fro (nat x), .fro (nat w), .nn]) (by simp) (by omega)
  have h2 := comp_map (me := (ifM (truM (opM andD (opM shrD (varM 0) (varM 2)) (cM (.int 1)))) (cM (.str "1")) (cM (.str "0")))) (v := 2) (x0 := .nn)
    (fun d => match d with | .int j => .str (tx [x / 2 ^ j.toNat % 2 == 1]) | _ => .non) h1 (by simp) (.inl rfl) (by simp; omega) fun d hd => by
      rw [List.mem_map] at hd
      obtain ⟨i, _, rfl⟩ := hd
      have hj : (match nat (w - 1 - i) with | .int j => D.str (tx [x / 2 ^ j.toNat % 2 == 1]) | _ => .non) = .str (tx [x / 2 ^ (w - 1 - i) % 2 == 1]) := by
        show D.str (tx [x / 2 ^ ((w - 1 - i : Nat) : Int).toNat % 2 == 1]) = _
        rw [Int.toNat_natCast]
      rw [hj]
      rcases (show x / 2 ^ (w - 1 - i) % 2 = 0 ∨ x / 2 ^ (w - 1 - i) % 2 = 1 by omega) with h | h
      · simp [h, tx_0]
      · simp [h, tx_1]
  rw [List.map_map] at h2
  have h3 : ((List.range w).map ((fun d => match d with | .int j => D.str (tx [x / 2 ^ j.toNat % 2 == 1]) | _ => .non) ∘ fun i => nat (w - 1 - i))) = (bt x w).map fun b => D.str (tx [b]) := by
    rw [← bt_rev x w, List.map_map]
    refine List.map_congr_left fun i _ => ?_
    show D.str (tx [x / 2 ^ ((w - 1 - i : Nat) : Int).toNat % 2 == 1]) = _
    rw [Int.toNat_natCast]
    rfl
  rw [h3] at h2
  have h4 := e_joinT (bs := bt x w) (by rw [bt_len]; omega)
  rw [← tx_nil] at h4
  refine Ret.of rfl (e' := [.fro (nat x), .fro (nat w), .nn]) ?_
  show m_bits_of n [.fro (nat x), .fro (nat w), .nn] = _
  simp [m_bits_of, m1M, isStr, h2, h4]
end
end N66

set_option Elab.async false
set_option linter.all false
set_option maxRecDepth 100000
set_option maxHeartbeats 2000000
namespace N66
open PySem PySem.Spec PyProof.Rows L2 Evl WS Mir Poly
section
variable {n w l g : Nat}
theorem check_check_nat : Ret (F_check_check n) [Ck w l] .non := ⟨_, rfl, rfl⟩
theorem is_within_nat {x a b : Nat} : Ret (F_is_within n) [nat x, nat a, nat b] (.bl (decide (a ≤ x) && decide (x ≤ b))) := by
  have h := is_within_int n (x : Int) (a : Int) (b : Int)
  rw [show decide ((a : Int) ≤ (x : Int)) = decide (a ≤ x) by simp, show decide ((x : Int) ≤ (b : Int)) = decide (x ≤ b) by simp] at h
  exact h
theorem check_within_nat {x a b : Nat} (h1 : a ≤ x) (h2 : x ≤ b) : Ret (F_check_within n) [nat x, nat a, nat b] .non := by
  have c1 := fun e => (is_within_nat (n := n) (x := x) (a := a) (b := b)).c3 (e := e)
  refine Ret.ofN rfl (e' := [.fro (nat x), .fro (nat a), .fro (nat b)]) ?_
  show m_check_within n [.fro (nat x), .fro (nat a), .fro (nat b)] = _
  simp [m_check_within, c1, h1, h2]
end
end N66

set_option Elab.async false
set_option linter.all false
set_option maxRecDepth 100000
set_option maxHeartbeats 2000000
namespace N66
open PySem PySem.Spec PyProof.Rows L2 Evl WS Mir Poly
def Asc (ps : List Nat) : Prop := (∀ i a b, ps[i]? = some a → ps[i + 1]? = some b → a < b) ∧ ∀ p ∈ ps, p ≤ 1000000000000000000
def la (ps : List Nat) (i : Nat) : Int := if i = 0 then -1 else (ps.getD (i - 1) 0 : Nat)
def lp (ps : List Nat) (i : Nat) : Nat := if i = 0 then 0 else ps.getD (i - 1) 0
theorem la_lt {ps : List Nat} (h : Asc ps) {i p : Nat} (hp : ps[i]? = some p) : la ps i < (p : Int) := by
  cases i with
  | zero => show (-1 : Int) < p; omega
  | succ i =>
    show ((ps.getD i 0 : Nat) : Int) < p
    have hi : i + 1 < ps.length := (List.getElem?_eq_some_iff.mp hp).1
    have := h.1 i _ p (List.getElem?_eq_getElem (by omega)) hp
    rw [List.getD_eq_getElem?_getD, List.getElem?_eq_getElem (by omega)]
    show ((ps[i] : Nat) : Int) < p
    omega
theorem lp_le {ps : List Nat} (h : Asc ps) {i p : Nat} (hp : ps[i]? = some p) : lp ps i ≤ p := by
  cases i with
  | zero => exact Nat.zero_le _
  | succ i =>
    have := la_lt h hp
    have h2 : ((ps.getD i 0 : Nat) : Int) < p := this
    show ps.getD i 0 ≤ p
    omega
theorem lp_succ {ps : List Nat} {i p : Nat} (hp : ps[i]? = some p) : lp ps (i + 1) = p := by
  show ps.getD i 0 = p
  rw [List.getD_eq_getElem?_getD, hp]
  rfl
theorem la_succ {ps : List Nat} {i p : Nat} (hp : ps[i]? = some p) : la ps (i + 1) = p := by
  show ((ps.getD i 0 : Nat) : Int) = p
  rw [List.getD_eq_getElem?_getD, hp]
  rfl
theorem e_chM {f g : D → D → Option D} {ma mb mc : M} {e e1 e2 e3 : SDs} {x y z : D} {c : Bool} (h1 : ma e = some (x, e1)) (h2 : mb e1 = some (y, e2)) (h3 : f x y = some (.bl true)) (h4 : mc e2 = some (z, e3)) (h5 : g y z = some (.bl c)) : chM f g ma mb mc e = some (.bl c, e3) := by
  unfold chM
  rw [h1]
  show (bnd (mb e1) fun y e2 => match f x y with | some (.bl true) => bnd (mc e2) fun z e3 => rsl (g y z) e3 | some (.bl false) => some (.bl false, e2) | _ => none) = _
  rw [h2]
  show (match f x y with | some (.bl true) => bnd (mc e2) fun z e3 => rsl (g y z) e3 | some (.bl false) => some (.bl false, e2) | _ => none) = _
  rw [h3]
  show (bnd (mc e2) fun z e3 => rsl (g y z) e3) = _
  rw [h4]
  show rsl (g y z) e3 = _
  rw [h5]
  rfl
section
variable {n w l g : Nat}
theorem e_app2 {a b c f : SD} {d : D} {xs : List D} (h : xs.length ≤ 1000) : appM 2 (varM 4) [a, b, .own (.lst xs), c, .fro d, f] = some (.nx [a, b, .own (.lst (xs ++ [d])), c, .fro d, f]) := by
  show (if xs.length < sizeLine then some (Out.nx [a, b, .own (.lst (xs ++ [d])), c, .fro d, f]) else none) = _
  rw [if_pos (Nat.lt_of_le_of_lt h (by decide))]
/-- the number that has just these bits -/
def px (ps : List Nat) : Nat := ps.foldl (fun t p => t ^^^ 2 ^ p) 0
theorem px_snoc (ps : List Nat) (p : Nat) : px (ps ++ [p]) = px ps ^^^ 2 ^ p := by unfold px; rw [List.foldl_append]; rfl
end
end N66

set_option Elab.async false
set_option linter.all false
set_option maxRecDepth 100000
set_option maxHeartbeats 2000000
namespace N66
open PySem PySem.Spec PyProof.Rows L2 Evl WS Mir Poly
theorem nb_log {a m : Nat} (h : nb a ≤ m) (hm : 0 < m) : a.log2 < m := by
  unfold nb at h
  split at h
  · rename_i h0; subst h0; rw [show Nat.log2 0 = 0 by decide]; exact hm
  · omega
theorem shown_nat {a : Nat} (h : nb a ≤ 1000) : (PyData.shown (.int (a : Int))).length ≤ 1001 := by
  show (Str.ofString (toString (a : Int))).length ≤ 1001
  rw [PySem.ofString_length]
  exact int_text_length_le (k := 1000) (by decide) (by rw [Int.natAbs_natCast]; exact nb_log h (by decide))
theorem able_nat {a : Nat} (h : nb a ≤ 1000) : PyData.showable (.int (a : Int)) = true := by
  have := nb_log h (by decide)
  simp [PyData.showable]
  omega
theorem shown_tx {bs : List Bool} (h : bs.length ≤ 1000) : (PyData.shown (.str (tx bs))).length ≤ 10002 := by
  have := StrLaws.reprText_len (tx bs) (fun c hc => by
    have h2 : (tx bs).cps.toList = bs.map sgn := by show (bs.map sgn).toArray.toList = _; simp
    rw [h2, List.mem_map] at hc
    obtain ⟨b, _, rfl⟩ := hc
    cases b <;> decide)
  rw [tx_len] at this
  simp only [PyData.shown]
  omega
theorem repr_of {xs : List D} {ps : List PyData} (h : toPs xs = some ps) (sh : PyData.showableAll ps = true) (nd : PyData.hasDictAll ps = false) (dp : (PyData.list ps).depth ≤ 50) (sz : ((PyData.shownAll ps).map (·.length)).sum + 2 * (PyData.shownAll ps).length + 3 ≤ 100000) : ∃ X, reprA (.lst xs) = some (.str X) := by
  have h1 : toP (.lst xs) = some (.list ps) := by show (toPs xs).map PyData.list = _; rw [h]; rfl
  have h2 : (PyData.list ps).shown.length ≤ sizeLine := by
    simp only [PyData.shown]
    exact Nat.le_trans (listText_len_le _) (Nat.le_trans sz (by decide))
  have h3 : (PyData.list ps).showable = true := by simp only [PyData.showable]; exact sh
  have h4 : (PyData.list ps).hasDict = false := by simp only [PyData.hasDict]; exact nd
  refine ⟨(PyData.list ps).shown, ?_⟩
  show reprD.go (.lst xs) = _
  unfold reprD.go
  rw [h1]
  show (if _ then _ else _) = _
  rw [if_pos ⟨h3, h4, dp, h2⟩]
theorem repr_iis {a b : Nat} {bs : List Bool} (ha : nb a ≤ 1000) (hb : nb b ≤ 1000) (hl : bs.length ≤ 1000) : ∃ X, reprA (.lst [nat a, nat b, .str (tx bs)]) = some (.str X) := by
  have := shown_nat ha
  have := shown_nat hb
  have := shown_tx hl
  refine repr_of (ps := [.int (a : Int), .int (b : Int), .str (tx bs)]) rfl ?_ rfl (by simp [PyData.depth, PyData.depthAll]) ?_
  · simp only [PyData.showableAll, able_nat ha, able_nat hb]
    rfl
  · simp only [PyData.shownAll, List.map_cons, List.map_nil, List.sum_cons, List.sum_nil, List.length_cons, List.length_nil]
    omega
theorem repr_ii {a b : Nat} (ha : nb a ≤ 1000) (hb : nb b ≤ 1000) : ∃ X, reprA (.lst [nat a, nat b]) = some (.str X) := by
  have := shown_nat ha
  have := shown_nat hb
  refine repr_of (ps := [.int (a : Int), .int (b : Int)]) rfl ?_ rfl (by simp [PyData.depth, PyData.depthAll]) ?_
  · simp only [PyData.showableAll, able_nat ha, able_nat hb]
    rfl
  · simp only [PyData.shownAll, List.map_cons, List.map_nil, List.sum_cons, List.sum_nil, List.length_cons, List.length_nil]
    omega
theorem e_neSelf {X : Str} : eqD true (.str X) (.str X) = some (.bl false) := by
  show some (D.bl (!(X == X))) = _
  rw [beq_self_eq_true]
  rfl
section
variable {n w l g : Nat}
theorem init_nat (k : G w l g) : F_Check___init__ n [.bor (.ins 0 []), .fro (nat w), .fro (nat l)] = some (.non, [.bor (.ins 0 [("_width", nat w), ("_low", nat l)]), .fro (nat w), .fro (nat l)]) := by
  have hw := k.w2
  have hl := k.hl
  have ho := k.odd
  have c1 := fun e => (check_within_nat (n := n) (x := w) (a := 1) (b := 16) k.w1 k.w2).c3 (e := e)
  rw [nat1, show nat 16 = D.int 16 from rfl] at c1
  have c2 := fun e => (is_within_nat (n := n) (x := l) (a := 1) (b := 2 ^ w - 1)).c3 (e := e)
  rw [nat1, decide_eq_true (show 1 ≤ l by omega), decide_eq_true (show l ≤ 2 ^ w - 1 by omega)] at c2
  have hp := Nat.two_pow_pos w
  have h1 : seqM (setF [0] 0 "_width" (varM 1)) (setF [0] 0 "_low" (varM 2)) [.bor (.ins 0 []), .fro (nat w), .fro (nat l)] = some (.nx [.bor (.ins 0 [("_width", nat w), ("_low", nat l)]), .fro (nat w), .fro (nat l)]) := by
    have h2 : ¬ (Str.ofString "_width" = Str.ofString "_low") := by decide +kernel
    show some (Out.nx [.bor (.ins 0 (if Str.ofString "_width" = Str.ofString "_low" then [(Str.ofString "_width", nat l)] else [(Str.ofString "_width", nat w), (Str.ofString "_low", nat l)])), .fro (nat w), .fro (nat l)]) = _
    rw [if_neg h2]
  have h3 : m_Check___init__ n [.bor (.ins 0 []), .fro (nat w), .fro (nat l)] = some (.nx [.bor (.ins 0 [("_width", nat w), ("_low", nat l)]), .fro (nat w), .fro (nat l)]) := by
    unfold m_Check___init__
    rw [e_seqN (e1 := [.bor (.ins 0 []), .fro (nat w), .fro (nat l)]) (by simp [c1])]
    rw [e_seqN (e1 := [.bor (.ins 0 []), .fro (nat w), .fro (nat l)]) (by simp [c2, ho, e_1shl (show w ≤ 5000 by omega), e_sub1 (show 1 ≤ 2 ^ w by omega)])]
    exact h1
  unfold F_Check___init__ defF
  rw [if_pos ⟨rfl, rfl⟩]
  show (match m_Check___init__ n [.bor (.ins 0 []), .fro (nat w), .fro (nat l)] with | some (.rt d e') => some (d, finE [.bor (.ins 0 []), .fro (nat w), .fro (nat l)] e') | some (.nx e') => some (.non, finE [.bor (.ins 0 []), .fro (nat w), .fro (nat l)] e') | _ => none) = _
  rw [h3]
  rfl
theorem e_make {ma mb : M} {e : SDs} (k : G w l g) (h1 : ma e = some (nat w, e)) (h2 : mb e = some (nat l, e)) : makeM 0 (F_Check___init__ n) (consM ma (consM mb nilM)) e = some (Ck w l, e) := by
  unfold makeM
  rw [show consM ma (consM mb nilM) e = some ([nat w, nat l], e) by simp [h1, h2]]
  show (match F_Check___init__ n [.bor (.ins 0 []), .fro (nat w), .fro (nat l)] with | some (.non, .bor o :: _) => some (o.d, e) | _ => none) = _
  rw [init_nat k]
  rfl
theorem eq_nat {w' l' : Nat} : Ret (F_Check___eq__ n) [Ck w l, Ck w' l'] (.bl (w == w' && l == l')) := by
  have h0 : isiM (ownF2 0) (varM 1) [.fro (Ck w l), .fro (Ck w' l')] = some (.bl true, [.fro (Ck w l), .fro (Ck w' l')]) := rfl
  have h1 : opM (eqD false) (fldM [0] "_width" (varM 0)) (fldM [0] "_width" (varM 1)) [.fro (Ck w l), .fro (Ck w' l')] = some (.bl (w == w'), [.fro (Ck w l), .fro (Ck w' l')]) := by
    show rsl (eqD false (nat w) (nat w')) [.fro (Ck w l), .fro (Ck w' l')] = _
    rw [e_eqN]
    rfl
  have h2 : opM (eqD false) (fldM [0] "_low" (varM 0)) (fldM [0] "_low" (varM 1)) [.fro (Ck w l), .fro (Ck w' l')] = some (.bl (l == l'), [.fro (Ck w l), .fro (Ck w' l')]) := by
    show bnd (rsl (([("_width", nat w), ("_low", nat l)] : List (Str × D)).lookup (Str.ofString "_low")) [.fro (Ck w l), .fro (Ck w' l')]) (fun x e1 => bnd (fldM [0] "_low" (varM 1) e1) fun y e2 => rsl (eqD false x y) e2) = _
    rw [ck_l]
    show bnd (rsl (([("_width", nat w'), ("_low", nat l')] : List (Str × D)).lookup (Str.ofString "_low")) [.fro (Ck w l), .fro (Ck w' l')]) (fun y e2 => rsl (eqD false (nat l) y) e2) = _
    rw [ck_l]
    show rsl (eqD false (nat l) (nat l')) _ = _
    rw [e_eqN]
    rfl
  refine Ret.of rfl (e' := [.fro (Ck w l), .fro (Ck w' l')]) ?_
  show m_Check___eq__ n [.fro (Ck w l), .fro (Ck w' l')] = _
  cases hb : w == w' with
  | true =>
    rw [hb] at h1
    simp only [m_Check___eq__, e_retM, e_andVt h0, e_andVt h1, h2, bnd_s]
    rfl
  | false =>
    rw [hb] at h1
    simp only [m_Check___eq__, e_retM, e_andVt h0, e_andVf h1, bnd_s]
    rfl
theorem eq_tup {xs : List D} : Ret (F_Check___eq__ n) [Ck w l, .tup xs] (.bl false) := by
  refine Ret.of rfl (e' := [.fro (Ck w l), .fro (.tup xs)]) ?_
  have h0 : isiM (ownF2 0) (varM 1) [.fro (Ck w l), .fro (.tup xs)] = some (.bl false, [.fro (Ck w l), .fro (.tup xs)]) := rfl
  show m_Check___eq__ n [.fro (Ck w l), .fro (.tup xs)] = _
  simp only [m_Check___eq__, e_retM, e_andVf h0, bnd_s]
theorem own_nat {w' l' : Nat} : ownEq 0 false (F_Check___eq__ n) (Ck w l) (Ck w' l') = some (.bl (w == w' && l == l')) := by
  obtain ⟨es, h1, _⟩ := eq_nat (n := n) (w := w) (l := l) (w' := w') (l' := l')
  show (if (0 : Nat) = 0 ∧ rhsB 0 (Ck w' l') = true then (match F_Check___eq__ n [.fro (Ck w l), .fro (Ck w' l')] with | some (.bl b, _) => some (D.bl (if false then !b else b)) | _ => none) else none) = _
  rw [if_pos ⟨rfl, rfl⟩]
  rw [show F_Check___eq__ n [.fro (Ck w l), .fro (Ck w' l')] = _ from h1]
  rfl
theorem own_tup {xs : List D} : ownEq 0 false (F_Check___eq__ n) (Ck w l) (.tup xs) = some (.bl false) := by
  obtain ⟨es, h1, _⟩ := eq_tup (n := n) (w := w) (l := l) (xs := xs)
  show (if (0 : Nat) = 0 ∧ rhsB 0 (.tup xs) = true then (match F_Check___eq__ n [.fro (Ck w l), .fro (.tup xs)] with | some (.bl b, _) => some (D.bl (if false then !b else b)) | _ => none) else none) = _
  rw [if_pos ⟨rfl, rfl⟩]
  rw [show F_Check___eq__ n [.fro (Ck w l), .fro (.tup xs)] = _ from h1]
  rfl
end
end N66

set_option Elab.async false
set_option linter.all false
set_option maxRecDepth 100000
set_option maxHeartbeats 2000000
namespace N66
open PySem PySem.Spec PyProof.Rows L2 Evl WS Mir Poly
theorem for_inv {g : D → SDs → Option SDs} {b : MS} (Inv : Nat → SDs → Prop) : ∀ (xs : List D) (k : Nat) (h : ∀ i x e, xs[i]? = some x → Inv (k + i) e → ∃ e1 e2, g x e = some e1 ∧ b e1 = some (.nx e2) ∧ Inv (k + i + 1) e2) (e : SDs), Inv k e → ∃ e', forL g b xs e = some (.nx e') ∧ Inv (k + xs.length) e'
  | [], k, _, e, he => ⟨e, rfl, he⟩
  | x :: r, k, h, e, he => by
    obtain ⟨e1, e2, h1, h2, h3⟩ := h 0 x e rfl he
    rw [for_step h1 h2]
    obtain ⟨e', h4, h5⟩ := for_inv Inv r (k + 1) (fun i y f hy hf => by
      have := h (i + 1) y f hy (by rw [show k + (i + 1) = k + 1 + i by omega]; exact hf)
      rw [show k + 1 + i = k + (i + 1) by omega]
      exact this) e2 h3
    refine ⟨e', h4, ?_⟩
    rw [show k + (x :: r).length = k + 1 + r.length by rw [List.length_cons]; omega]
    exact h5
@[simp] theorem e_modN {a b : Nat} (h : b ≠ 0) : modD (nat a) (nat b) = some (nat (a % b)) := by
  have hc : CNz (a : Int) (b : Int) := by show (b : Int) ≠ 0; omega
  show (if CNz (a : Int) (b : Int) then some (D.int ((a : Int).fmod (b : Int))) else none) = _
  rw [if_pos hc, Int.fmod_eq_emod_of_nonneg _ (Int.natCast_nonneg b)]
  rfl
theorem e_fdivN {a b : Nat} (h : b ≠ 0) (hb : nb b ≤ 1000) : fdivD (nat a) (nat b) = some (nat (a / b)) := by
  have hc : CDivW (a : Int) (b : Int) := ⟨by omega, by rw [Int.natAbs_natCast]; exact Nat.lt_trans (nb_log hb (by decide)) (by decide)⟩
  show (if CDivW (a : Int) (b : Int) then some (D.int ((a : Int) / (b : Int))) else none) = _
  rw [if_pos hc]
  rfl
theorem e_mulN {a b : Nat} (ha : nb a ≤ 5000) (hb : nb b ≤ 5000) : mulD (nat a) (nat b) = some (nat (a * b)) := by
  have hc : CMulX (a : Int) (b : Int) := by
    show (Builtin.Int.intBits (a : Int) : Int) + (Builtin.Int.intBits (b : Int) : Int) ≤ 134217728
    rw [nb_bits, nb_bits]
    omega
  refine (e_mul hc).trans ?_
  rw [← Int.natCast_mul]
  rfl
/-- a generator's data: how far its count is -/
def GS (b : Nat) (o : OD) : Prop := ∃ a c d : Nat, o = .lst [nat a, nat c, nat d] ∧ nb a ≤ 2000 ∧ nb c ≤ 40 ∧ d ≤ b
theorem GS.mono {b b' : Nat} {o : OD} (h : GS b o) (hb : b ≤ b') : GS b' o := by
  obtain ⟨a, c, d, h1, h2, h3, h4⟩ := h
  exact ⟨a, c, d, h1, h2, h3, by omega⟩
section
variable {n : Nat}
theorem hash_nat {a d : Nat} (ha : nb a ≤ 40) (hd : nb d ≤ 40) : ∃ z, Ret (F__law_hash n) [nat a, nat d] (nat z) ∧ z < 2147483647 := by
  have l1 : D.int 1299709 = nat 1299709 := rfl
  have l2 : D.int 104729 = nat 104729 := rfl
  have l3 : D.int 31 = nat 31 := rfl
  have l4 : D.int 7 = nat 7 := rfl
  have l5 : D.int 2147483629 = nat 2147483629 := rfl
  have l6 : D.int 48271 = nat 48271 := rfl
  have l7 : D.int 15485863 = nat 15485863 := rfl
  have l8 : D.int 2147483587 = nat 2147483587 := rfl
  have l9 : D.int 69621 = nat 69621 := rfl
  have l10 : D.int 2147483647 = nat 2147483647 := rfl
  have m1 : mulD (nat a) (nat 1299709) = some (nat (a * 1299709)) := e_mulN (by omega) (Nat.le_trans (nb_le.mpr (show 1299709 < 2 ^ 21 by decide)) (by decide))
  have m2 : mulD (nat 104729) (nat d) = some (nat (104729 * d)) := e_mulN (Nat.le_trans (nb_le.mpr (show 104729 < 2 ^ 21 by decide)) (by decide)) (by omega)
  have z2 : nb (104729 * d) ≤ 100 := by
    have := @nb_mul 104729 d
    have : nb 104729 ≤ 21 := nb_le.mpr (by decide)
    omega
  have m3 : mulD (nat (104729 * d)) (nat d) = some (nat (104729 * d * d)) := e_mulN (by omega) (by omega)
  have m4 : mulD (nat 31) (nat d) = some (nat (31 * d)) := e_mulN (Nat.le_trans (nb_le.mpr (show 31 < 2 ^ 21 by decide)) (by decide)) (by omega)
  have small : ∀ {x k : Nat}, k ≤ 2147483648 → 0 < k → nb (x % k) ≤ 31 := fun {x k} h h0 => nb_le.mpr (Nat.lt_of_lt_of_le (Nat.mod_lt x h0) h)
  have m5 : ∀ x, mulD (nat (x % 2147483629)) (nat (x % 2147483629)) = some (nat (x % 2147483629 * (x % 2147483629))) := fun x => by
    have := @small x 2147483629 (by decide) (by decide)
    exact e_mulN (by omega) (by omega)
  have m6 : mulD (nat 48271) (nat d) = some (nat (48271 * d)) := e_mulN (Nat.le_trans (nb_le.mpr (show 48271 < 2 ^ 21 by decide)) (by decide)) (by omega)
  have m7 : ∀ x, mulD (nat (x % 2147483587)) (nat 69621) = some (nat (x % 2147483587 * 69621)) := fun x => by
    have := @small x 2147483587 (by decide) (by decide)
    exact e_mulN (by omega) (Nat.le_trans (nb_le.mpr (show 69621 < 2 ^ 21 by decide)) (by decide))
  have key : ∃ z e', m__law_hash n [.fro (nat a), .fro (nat d), .nn] = some (.rt (nat z) e') ∧ z < 2147483647 := by
    simp only [m__law_hash, l1, l2, l3, l4, l5, l6, l7, l8, l9, l10]
    simp [m1, m2, m3, m4, m5, m6, m7]
    exact ⟨_, rfl, Nat.mod_lt _ (by decide)⟩
  obtain ⟨z, e', h1, h2⟩ := key
  exact ⟨z, Ret.of rfl h1, h2⟩
/-! the three cells of a generator -/
theorem ix_at {o0 o1 o2 : D} {x : SD} {r : SDs} (h : x.ow = some (.lst [o0, o1, o2])) : ixO 0 (cM (.int 0)) (x :: r) = some (o0, x :: r) ∧ ixO 0 (cM (.int 1)) (x :: r) = some (o1, x :: r) ∧ ixO 0 (cM (.int 2)) (x :: r) = some (o2, x :: r) := by
  cases x with
  | nn => cases h
  | fro d => cases h
  | own o => cases h; exact ⟨rfl, rfl, rfl⟩
  | bor o => cases h; exact ⟨rfl, rfl, rfl⟩
@[simp] theorem ix0 {o0 o1 o2 : D} {r : SDs} : ixO 0 (cM (.int 0)) (.bor (.lst [o0, o1, o2]) :: r) = some (o0, .bor (.lst [o0, o1, o2]) :: r) := (ix_at rfl).1
@[simp] theorem ix1 {o0 o1 o2 : D} {r : SDs} : ixO 0 (cM (.int 1)) (.bor (.lst [o0, o1, o2]) :: r) = some (o1, .bor (.lst [o0, o1, o2]) :: r) := (ix_at rfl).2.1
@[simp] theorem ix2 {o0 o1 o2 : D} {r : SDs} : ixO 0 (cM (.int 2)) (.bor (.lst [o0, o1, o2]) :: r) = some (o2, .bor (.lst [o0, o1, o2]) :: r) := (ix_at rfl).2.2
theorem put0 {o0 o1 o2 d : D} {r e : SDs} {m : M} (h : m e = some (d, .bor (.lst [o0, o1, o2]) :: r)) : putM 0 (cM (.int 0)) m e = some (.nx (.bor (.lst [d, o1, o2]) :: r)) := by
  unfold putM
  rw [h]
  rfl
theorem put2 {o0 o1 o2 d : D} {r e : SDs} {m : M} (h : m e = some (d, .bor (.lst [o0, o1, o2]) :: r)) : putM 0 (cM (.int 2)) m e = some (.nx (.bor (.lst [o0, o1, d]) :: r)) := by
  unfold putM
  rw [h]
  rfl
theorem rnd_nat {b bound : Nat} {o : OD} (hg : GS b o) (hb : b ≤ 1000000000) (h1 : 1 ≤ bound) (h2 : nb bound ≤ 100) : ∃ z o', F__law_random n [.bor o, .fro (nat bound)] = some (nat z, [.bor o', .fro (nat bound)]) ∧ z < bound ∧ GS (b + 100) o' := by
  obtain ⟨a, c, d, rfl, ha, hc, hd⟩ := hg
  have hne : bound ≠ 0 := by omega
  have key : ∃ z o' s2 s3, m__law_random n [.bor (.lst [nat a, nat c, nat d]), .fro (nat bound), .nn, .nn] = some (.rt (nat z) [.bor o', .fro (nat bound), s2, s3]) ∧ z < bound ∧ GS (b + 100) o' := by
    by_cases h0 : a = 0
    · subst h0
      have hz : ∀ i x e, (rngD 0 (1 + nb bound / 30))[i]? = some x → (fun i e => ∃ d' z s, e = [.bor (.lst [nat 0, nat c, nat d']), .fro (nat bound), .fro (nat z), s] ∧ (s = .nn ∨ ∃ q, s = .fro q) ∧ d' ≤ b + i ∧ nb z ≤ 40 * i) (0 + i) e →
          ∃ e1 e2, nameG 3 x e = some e1 ∧ (seqM (putM 0 (cM (.int 2)) (opM addD (ixO 0 (cM (.int 2))) (cM (.int 1))))
 (asM (nameG 2) (opM addD (opM mulD (varM 2) (cM (.int 2147483587))) (callM (F__law_hash n) (valA (ixO 0 (cM (.int 1))) (valA (ixO 0 (cM (.int 2))) nilA)))))) e1 = some (.nx e2) ∧ (fun i e => ∃ d' z s, e = [.bor (.lst [nat 0, nat c, nat d']), .fro (nat bound), .fro (nat z), s] ∧ (s = .nn ∨ ∃ q, s = .fro q) ∧ d' ≤ b + i ∧ nb z ≤ 40 * i) (0 + i + 1) e2 := fun i x e hx he => by
        obtain ⟨rfl, hi⟩ := rng0_get hx
        obtain ⟨d', z, s, rfl, hs, hd', hzb⟩ := he
        rw [Nat.zero_add] at hd' hzb ⊢
        have hnd : nb (d' + 1) ≤ 40 := nb_le.mpr (by have : (2 : Nat) ^ 40 = 1099511627776 := by decide
                                                     omega)
        obtain ⟨hh, hc1, hc2⟩ := hash_nat (n := n) (a := c) (d := d' + 1) hc hnd
        have c1 := fun e => hc1.c2 (e := e)
        have hml : mulD (nat z) (.int 2147483587) = some (nat (z * 2147483587)) := e_mulN (b := 2147483587) (by omega) (Nat.le_trans (nb_le.mpr (show 2147483587 < 2 ^ 31 by decide)) (by decide))
        refine ⟨[.bor (.lst [nat 0, nat c, nat d']), .fro (nat bound), .fro (nat z), .fro (nat i)], [.bor (.lst [nat 0, nat c, nat (d' + 1)]), .fro (nat bound), .fro (nat (z * 2147483587 + hh)), .fro (nat i)], ?_, ?_, d' + 1, z * 2147483587 + hh, .fro (nat i), rfl, .inr ⟨_, rfl⟩, by omega, ?_⟩
        · rcases hs with rfl | ⟨q, rfl⟩ <;> rfl
        · rw [e_seqN (put2 (d := nat (d' + 1)) (o0 := nat 0) (o1 := nat c) (o2 := nat d') (r := [.fro (nat bound), .fro (nat z), .fro (nat i)]) (by simp))]
          simp [hml, c1]
        · have s1 := @nb_mul z 2147483587
          have s2 : nb 2147483587 ≤ 31 := nb_le.mpr (by decide)
          have s3 : nb (z * 2147483587) ≤ 40 * i + 31 := by omega
          have s4 := nb_le.mp s3
          refine nb_le.mpr ?_
          have s5 : 2147483647 ≤ 2 ^ (40 * i + 31) := Nat.le_trans (show 2147483647 ≤ 2 ^ 31 by decide) (Nat.pow_le_pow_right (by decide) (by omega))
          have s6 : (2 : Nat) ^ (40 * i + 31) * 2 ≤ 2 ^ (40 * (i + 1)) := by
            rw [← Nat.pow_succ]
            exact Nat.pow_le_pow_right (by decide) (by omega)
          have s7 := Nat.add_lt_add s4 (Nat.lt_of_lt_of_le hc2 s5)
          rw [← Nat.mul_two] at s7
          exact Nat.lt_of_lt_of_le s7 s6
      obtain ⟨e', f1, f2⟩ := for_inv (g := nameG 3) (fun i e => ∃ d' z s, e = [.bor (.lst [nat 0, nat c, nat d']), .fro (nat bound), .fro (nat z), s] ∧ (s = .nn ∨ ∃ q, s = .fro q) ∧ d' ≤ b + i ∧ nb z ≤ 40 * i) (rngD 0 (1 + nb bound / 30)) 0 hz [.bor (.lst [nat 0, nat c, nat d]), .fro (nat bound), .fro (nat 0), .nn] ⟨d, 0, .nn, rfl, .inl rfl, by omega, by decide⟩
      obtain ⟨d', z, s, rfl, hs, hd', hzb⟩ := f2
      rw [rng0_len, Nat.zero_add] at hd'
      have f3 : forL (nameG 3) _ (rngD 0 (1 + nb bound / 30)) [.bor (.lst [nat 0, nat c, nat d]), .fro (nat bound), .fro (.int 0), .nn] = _ := f1
      have hdv : fdivD (nat (nb bound)) (.int 30) = some (nat (nb bound / 30)) := e_fdivN (b := 30) (by decide) (Nat.le_trans (nb_le.mpr (show 30 < 2 ^ 5 by decide)) (by decide))
      refine ⟨z % bound, .lst [nat 0, nat c, nat d'], .fro (nat z), s, ?_, Nat.mod_lt _ (by omega), 0, c, d', rfl, by decide, hc, by omega⟩
      simp [m__law_random, e_rng1 (mr := (consM (opM addD (cM (.int 1)) (opM fdivD (unM bitsD (varM 1)) (cM (.int 30)))) nilM)) (k := 1 + nb bound / 30) (e := [.bor (.lst [nat 0, nat c, nat d]), .fro (nat bound), .fro (.int 0), .nn]) (e1 := [.bor (.lst [nat 0, nat c, nat d]), .fro (nat bound), .fro (.int 0), .nn]) (by simp [hdv]) (by omega), f3, hne]
    · refine ⟨a % bound, .lst [nat (a / bound), nat c, nat d], .fro (nat (a % bound)), .nn, ?_, Nat.mod_lt _ (by omega), a / bound, c, d, rfl, Nat.le_trans (nb_mono (Nat.div_le_self _ _)) ha, hc, by omega⟩
      have hp := put0 (m := (opM fdivD (ixO 0 (cM (.int 0))) (varM 1))) (e := [.bor (.lst [nat a, nat c, nat d]), .fro (nat bound), .fro (nat (a % bound)), .nn]) (d := nat (a / bound)) (o0 := nat a) (o1 := nat c) (o2 := nat d) (r := [.fro (nat bound), .fro (nat (a % bound)), .nn]) (by simp [e_fdivN hne (show nb bound ≤ 1000 by omega)])
      simp [m__law_random, h0, hne, hp]
  obtain ⟨z, o', s2, s3, h3, h4, h5⟩ := key
  refine ⟨z, o', ?_, h4, h5⟩
  unfold F__law_random defF
  rw [if_pos ⟨rfl, rfl⟩]
  show (match m__law_random n [.bor (.lst [nat a, nat c, nat d]), .fro (nat bound), .nn, .nn] with | some (.rt d' e') => some (d', finE [.bor (.lst [nat a, nat c, nat d]), .fro (nat bound)] e') | some (.nx e') => some (.non, finE [.bor (.lst [nat a, nat c, nat d]), .fro (nat bound)] e') | _ => none) = _
  rw [h3]
  rfl
end
end N66

set_option Elab.async false
set_option linter.all false
set_option maxRecDepth 100000
set_option maxHeartbeats 2000000
namespace N66
open PySem PySem.Spec PyProof.Rows L2 Evl WS Mir Poly
theorem putB_inl : ∀ (ds : List D) (es e : SDs), es.length = ds.length → putB (ds.map (Sum.inl : D → Mir.Arg)) es e = some e
  | [], [], _, _ => rfl
  | [], _ :: _, _, h => by cases h
  | _ :: _, [], _, h => by cases h
  | _ :: r, _ :: t, e, h => putB_inl r t e (by simpa using h)
theorem argsE_inl : ∀ (ds : List D) (e : SDs), argsE (ds.map (Sum.inl : D → Mir.Arg)) e = some (ds.map SD.fro)
  | [], _ => rfl
  | d :: r, e => by
    show (match argsE (r.map Sum.inl) e with | some xs => some (SD.fro d :: xs) | none => none) = _
    rw [argsE_inl r e]
    rfl
theorem slotsA_inl : ∀ ds : List D, slotsA (ds.map (Sum.inl : D → Mir.Arg)) = []
  | [] => rfl
  | _ :: r => slotsA_inl r
theorem call_slo {F : MF} {e es : SDs} {i : Nat} {x : SD} {o o' : OD} {ds : List D} {r : D} (hx : e[i]? = some x) (ho : x.ow = some o) (h : F (.bor o :: ds.map SD.fro) = some (r, .bor o' :: es)) (hl : es.length = ds.length) : callE F (.inr i :: ds.map Sum.inl) e = some (r, e.set i (upSD x o')) := by
  have h1 : slotsA (.inr i :: ds.map (Sum.inl : D → Mir.Arg)) = [i] := by show i :: slotsA (ds.map Sum.inl) = _; rw [slotsA_inl]
  have h2 : argsE (.inr i :: ds.map (Sum.inl : D → Mir.Arg)) e = some (.bor o :: ds.map SD.fro) := by
    show (match e[i]? with | some x => (match x.ow with | some o => (match argsE (ds.map Sum.inl) e with | some xs => some (SD.bor o :: xs) | none => none) | none => none) | none => none) = _
    rw [hx]
    show (match x.ow with | some o => (match argsE (ds.map Sum.inl) e with | some xs => some (SD.bor o :: xs) | none => none) | none => none) = _
    rw [ho]
    show (match argsE (ds.map Sum.inl) e with | some xs => some (SD.bor o :: xs) | none => none) = _
    rw [argsE_inl]
  unfold callE
  rw [h1, h2]
  show (match F (.bor o :: ds.map SD.fro) with | none => none | some (d, es') => (putB (.inr i :: ds.map Sum.inl) es' e).map (fun e2 => (d, e2))) = _
  rw [h]
  show (match e[i]? with | some x => putB (ds.map Sum.inl) es (e.set i (upSD x o')) | none => none).map (fun e2 => (r, e2)) = _
  rw [hx]
  show (putB (ds.map Sum.inl) es (e.set i (upSD x o'))).map _ = _
  rw [putB_inl ds es _ hl]
  rfl
theorem finE_fro : ∀ (ds : List D) (e' : SDs), finE (ds.map SD.fro) e' = ds.map SD.fro
  | [], _ => rfl
  | d :: r, e' => by
    show SD.fro d :: finE (r.map SD.fro) e'.tail = _
    rw [finE_fro r]
    rfl
theorem def_bor {n N : Nat} {ms : MS} {o o' : OD} {ds : List D} {d : D} {e' : SDs} (hn : ds.length + 1 = n) (h : ms (.bor o :: ds.map SD.fro ++ List.replicate (N - n) .nn) = some (.rt d (.bor o' :: e'))) : defF n N ms (.bor o :: ds.map SD.fro) = some (d, .bor o' :: ds.map SD.fro) := by
  have h1 : noOwn (.bor o :: ds.map SD.fro) = true := by
    show (true && noOwn (ds.map SD.fro)) = true
    rw [Bool.true_and]
    unfold noOwn
    rw [List.all_map]
    exact List.all_eq_true.mpr fun _ _ => rfl
  unfold defF
  rw [if_pos ⟨by rw [List.length_cons, List.length_map, hn], h1⟩, h]
  show some (d, SD.bor o' :: finE (ds.map SD.fro) e') = _
  rw [finE_fro]
@[simp] theorem e_sloA {i : Nat} {r : MA} {e : SDs} : sloA i r e = (match e[i]? with | some x => (match x.ow with | some _ => bnd (r e) fun as e2 => some (.inr i :: as, e2) | none => none) | none => none) := Eq.trans rfl rfl
@[simp] theorem ow_own {o : OD} : (SD.own o).ow = some o := rfl
@[simp] theorem ow_bor {o : OD} : (SD.bor o).ow = some o := rfl
@[simp] theorem up_own {o p : OD} : upSD (.own o) p = .own p := rfl
@[simp] theorem up_bor {o p : OD} : upSD (.bor o) p = .bor p := rfl
section
variable {n : Nat}
/-- a draw by a def that holds the generator in its first name -/
theorem rnd0 {b bound : Nat} {o : OD} (hg : GS b o) (hb : b ≤ 1000000000) (h1 : 1 ≤ bound) (h2 : nb bound ≤ 100) : ∃ z o', (∀ r : SDs, callE (F__law_random n) [.inr 0, .inl (nat bound)] (.bor o :: r) = some (nat z, .bor o' :: r)) ∧ z < bound ∧ GS (b + 100) o' := by
  obtain ⟨z, o', h3, h4, h5⟩ := rnd_nat (n := n) hg hb h1 h2
  exact ⟨z, o', fun r => call_slo (e := .bor o :: r) (x := .bor o) (i := 0) (ds := [nat bound]) rfl rfl h3 rfl, h4, h5⟩
theorem drawn_nat {b w : Nat} {o : OD} (hg : GS b o) (hb : b ≤ 1000000000) (h1 : 1 ≤ w) (h2 : w ≤ 16) : ∃ l o', F__law_drawn n [.bor o, .fro (nat w)] = some (nat l, [.bor o', .fro (nat w)]) ∧ G w l (2 ^ w + l) ∧ GS (b + 100) o' := by
  have hp : nb (2 ^ (w - 1)) ≤ 100 := Nat.le_trans (nb_pow _) (by omega)
  obtain ⟨z, o', h3, h4, h5⟩ := rnd0 (n := n) (bound := 2 ^ (w - 1)) hg hb (Nat.two_pow_pos _) hp
  have hz : nb z ≤ 16 := nb_le.mpr (Nat.lt_of_lt_of_le h4 (Nat.pow_le_pow_right (by decide) (by omega)))
  have hm : mulD (.int 2) (nat z) = some (nat (2 * z)) := e_mulN (a := 2) (Nat.le_trans N66.n2 (by decide)) (by omega)
  have hw : 2 ^ w = 2 * 2 ^ (w - 1) := by
    obtain ⟨v, rfl⟩ := Nat.exists_eq_succ_of_ne_zero (show w ≠ 0 by omega)
    rw [Nat.succ_sub_one, Nat.pow_succ, Nat.mul_comm]
  refine ⟨1 + 2 * z, o', def_bor (ds := [nat w]) (e' := [.fro (nat w)]) rfl ?_, ⟨h1, h2, by omega, by omega, rfl⟩, h5⟩
  show m__law_drawn n [.bor o, .fro (nat w)] = _
  simp [m__law_drawn, e_sub1 h1, e_1shl (show w - 1 ≤ 5000 by omega), h3, hm]
theorem ints_of : ∀ ns : List Int, intsO (ns.map D.int) = some ns
  | [] => rfl
  | i :: r => by
    show (match intsO (r.map D.int) with | some ns => some (i :: ns) | none => none) = _
    rw [ints_of r]
theorem cell_nat {ns : List Int} {i : Nat} (hl : ns.length ≤ 63) : ∃ v : Int, Ret (F__law_cell n) [.scr (ns.map D.int), nat i] (.int v) := by
  have h0 : lenD (.scr (ns.map D.int)) = some (nat ns.length) := by
    show some (D.int ((ns.map D.int).length : Nat)) = _
    rw [List.length_map]
    rfl
  by_cases h : i < ns.length
  · refine ⟨ns[i], Ret.of rfl (e' := [.fro (.scr (ns.map D.int)), .fro (nat i)]) ?_⟩
    show m__law_cell n [.fro (.scr (ns.map D.int)), .fro (nat i)] = _
    have h1 : ixD (.scr (ns.map D.int)) (nat i) = some (.int ns[i]) := by
      show atI (ns.map D.int) (i : Int) = _
      unfold atI ixN
      rw [if_pos (Int.natCast_nonneg i), if_pos (by rw [List.length_map]; omega)]
      show (ns.map D.int)[(i : Int).toNat]? = _
      rw [Int.toNat_natCast, List.getElem?_map, List.getElem?_eq_getElem h]
      rfl
    simp [m__law_cell, h0, h, h1]
  · have h2 : ∃ xs : List Int, slD (.scr (ns.map D.int)) none (some 1) = some (.lst (xs.map D.int)) := by
      refine ⟨(ns.drop (HT.sIx (ns.map D.int).length 0 none)).take (HT.sIx (ns.map D.int).length (ns.map D.int).length (some 1) - HT.sIx (ns.map D.int).length 0 none), ?_⟩
      rw [List.map_take, List.map_drop]
      rfl
    obtain ⟨xs, h2⟩ := h2
    refine ⟨xs.sum.fmod 1000003, Ret.of rfl (e' := [.fro (.scr (ns.map D.int)), .fro (nat i)]) ?_⟩
    show m__law_cell n [.fro (.scr (ns.map D.int)), .fro (nat i)] = _
    have h3 : sumD (.lst (xs.map D.int)) = some (.int xs.sum) := by
      show (match intsO (xs.map D.int) with | some ns => some (D.int ns.sum) | none => none) = _
      rw [ints_of]
    have h4 : slM (varM 0) noPt (ptM (cM (.int 1))) [.fro (.scr (ns.map D.int)), .fro (nat i)] = some (.lst (xs.map D.int), [.fro (.scr (ns.map D.int)), .fro (nat i)]) := by
      show rsl (slD (.scr (ns.map D.int)) none (some 1)) _ = _
      rw [h2]
      rfl
    have h5 : modD (.int xs.sum) (.int 1000003) = some (.int (xs.sum.fmod 1000003)) := by
      have hc : CNz xs.sum 1000003 := (by decide : (1000003 : Int) ≠ 0)
      exact e_iC hc
    simp [m__law_cell, h0, h, h4, h3, h5]
theorem gen_nat {ns : List Int} {i : Nat} (hl : ns.length ≤ 63) (hi : i ≤ 1000) : ∃ o es, F__law_generator n [.fro (.scr (ns.map D.int)), .fro (nat i)] = some (o, es) ∧ GS (1000 * i) o := by
  obtain ⟨v, h1⟩ := cell_nat (n := n) (i := i) hl
  have c1 := fun e => h1.c2 (e := e)
  have p1 : powD (.int 10) (.int 18) = some (.int (10 ^ 18)) := e_iC (show CPowW 10 18 by decide +kernel)
  have p2 : powD (.int 10) (.int 60) = some (.int (10 ^ 60)) := e_iC (show CPowW 10 60 by decide +kernel)
  have p3 : powD (.int (10 ^ 60)) (.int 10) = some (.int ((10 ^ 60) ^ 10)) := e_iC (show CPowW (10 ^ 60) 10 by decide +kernel)
  have q1 : ∀ x : Int, ∃ a : Nat, modD (.int x) (.int ((10 ^ 60) ^ 10)) = some (nat a) ∧ nb a ≤ 2000 := fun x => by
    have hk : (0 : Int) < (10 ^ 60) ^ 10 := by decide +kernel
    obtain ⟨a, ha⟩ := Int.eq_ofNat_of_zero_le (Int.fmod_nonneg_of_pos x hk)
    have hlt := Int.fmod_lt_of_pos x hk
    rw [ha] at hlt
    have h2 : ((10 ^ 60) ^ 10 : Int) = (((10 ^ 60) ^ 10 : Nat) : Int) := by decide +kernel
    rw [h2] at hlt
    have h3 : a < (10 ^ 60) ^ 10 := Int.ofNat_lt.mp hlt
    refine ⟨a, ?_, nb_le.mpr (Nat.lt_trans h3 (by decide +kernel))⟩
    show _ = some (D.int (a : Int))
    rw [← ha]
    exact e_iC (C := CNz) (show ((10 ^ 60) ^ 10 : Int) ≠ 0 by decide +kernel)
  have q2 : ∀ x : Int, ∃ a : Nat, modD (.int x) (.int 2147483647) = some (nat a) ∧ nb a ≤ 40 := fun x => by
    have hk : (0 : Int) < 2147483647 := by decide
    obtain ⟨a, ha⟩ := Int.eq_ofNat_of_zero_le (Int.fmod_nonneg_of_pos x hk)
    have hlt := Int.fmod_lt_of_pos x hk
    rw [ha] at hlt
    refine ⟨a, ?_, nb_le.mpr (Nat.lt_trans (show a < 2147483647 by omega) (by decide))⟩
    show _ = some (D.int (a : Int))
    rw [← ha]
    exact e_iC (C := CNz) (show (2147483647 : Int) ≠ 0 by decide)
  obtain ⟨a, a1, a2⟩ := q1 (if 0 > v - 10 ^ 18 then 0 else v - 10 ^ 18)
  obtain ⟨c, c2, c3⟩ := q2 v
  have m1 : mulD (.int 1000) (nat i) = some (nat (1000 * i)) := e_mulN (a := 1000) (Nat.le_trans (nb_le.mpr (show 1000 < 2 ^ 10 by decide)) (by decide)) (Nat.le_trans (nb_le.mpr (show i < 2 ^ 10 by omega)) (by decide))
  have key : m__law_generator n [.fro (.scr (ns.map D.int)), .fro (nat i), .nn] = some (.ro (.lst [nat a, nat c, nat (1000 * i)]) [.fro (.scr (ns.map D.int)), .fro (nat i), .fro (.int v)]) := by
    simp only [m__law_generator, e_seq, e_asM, e_callM, e_valA, e_varM, e_nilA, List.getElem?_cons_zero, List.getElem?_cons_succ, bnd_s, c1, e_nameG, e_setS, List.set, Option.map_some]
    show bnd (lstF _ _) _ = _
    rw [e_lstF (xs := [nat a, nat c, nat (1000 * i)]) (e1 := [.fro (.scr (ns.map D.int)), .fro (nat i), .fro (.int v)]) (by
      simp only [e_consM, e_opM, e_cbM, e_varM, e_cM, e_nilM, List.getElem?_cons_zero, List.getElem?_cons_succ, bnd_s, rsl_s, p1, p2, p3, e_sub, e_two, e_i0, e_one, e_int, a1, c2, m1]) (by simp)]
    rfl
  refine ⟨.lst [nat a, nat c, nat (1000 * i)], [.fro (.scr (ns.map D.int)), .fro (nat i)], ?_, a, c, 1000 * i, rfl, a2, c3, Nat.le_refl _⟩
  unfold F__law_generator defO
  rw [if_pos ⟨rfl, rfl⟩]
  show (match m__law_generator n [.fro (.scr (ns.map D.int)), .fro (nat i), .nn] with | some (.ro d e') => some (d, finE [.fro (.scr (ns.map D.int)), .fro (nat i)] e') | _ => none) = _
  rw [key]
  rfl
end
end N66

set_option Elab.async false
set_option linter.all false
set_option maxRecDepth 100000
set_option maxHeartbeats 2000000
namespace N66
open PySem PySem.Spec PyProof.Rows L2 Evl WS Mir Poly
theorem bt_add {w l : Nat} : ∀ v, v ≤ w → bt (2 ^ w + l) v = bt l v
  | 0, _ => rfl
  | v + 1, h => by
    have h1 := Nat.testBit_two_pow_add_gt (show v < w by omega) l
    rw [Nat.testBit_eq_decide_div_mod_eq, Nat.testBit_eq_decide_div_mod_eq] at h1
    have h2 : ((2 ^ w + l) / 2 ^ v % 2 == 1) = (l / 2 ^ v % 2 == 1) := by
      rw [Bool.eq_iff_iff, beq_iff_eq, beq_iff_eq]
      have := decide_eq_decide.mp h1
      exact this
    rw [bt, bt, h2, bt_add v (by omega)]
theorem bt_top {w l : Nat} (h : l < 2 ^ w) : bt (2 ^ w + l) (w + 1) = true :: bt l w := by
  have h1 : (2 ^ w + l) / 2 ^ w = 1 := by
    rw [Nat.add_div_left _ (Nat.two_pow_pos w), Nat.div_eq_of_lt h]
  rw [bt, bt_add w (Nat.le_refl _), h1]
  rfl
theorem add_xor (a : Nat) : ∀ (w b : Nat), b < 2 ^ w → a * 2 ^ w + b = a * 2 ^ w ^^^ b
  | 0, b, h => by
    have : b = 0 := by omega
    subst this
    rw [Nat.xor_zero, Nat.add_zero]
  | w + 1, b, h => by
    have h1 := dbl_xor (a * 2 ^ w) (b / 2) 0 (b % 2) (by decide) (by omega)
    rw [Nat.zero_xor, Nat.add_zero, ← split2, ← add_xor a w (b / 2) (by rw [Nat.pow_succ] at h; omega)] at h1
    rw [Nat.pow_succ, ← Nat.mul_assoc, Nat.mul_comm _ 2, ← h1]
    omega
section
variable {n w l g : Nat}
theorem R_join (k : Ok w g) (bs : List Bool) {x : Nat} (hx : x < 2 ^ w) : R w g (vl (bs ++ bt x w)) = R w g (vl bs * 2 ^ w) ^^^ x := by
  rw [vl_app, bt_len, vl_bt, Nat.mod_eq_of_lt hx, add_xor _ _ _ hx, R_xor k, R_small k x hx]
theorem bits_nat (k : G w l g) : Ret (F_Check_bits n) [Ck w l] (.str (tx (true :: bt l w))) := by
  have hw := k.w2
  have c1 := fun e => (bits_of_nat (n := n) (x := l) (w := w) (by omega)).c2 (e := e)
  have h1 : ∀ e, fldM [0] "_width" (varM 0) (.fro (Ck w l) :: e) = some (nat w, .fro (Ck w l) :: e) := fun e => rfl
  have h2 : ∀ e, fldM [0] "_low" (varM 0) (.fro (Ck w l) :: e) = some (nat l, .fro (Ck w l) :: e) := fun e => by
    show rsl (([("_width", nat w), ("_low", nat l)] : List (Str × D)).lookup (Str.ofString "_low")) _ = _
    rw [ck_l]
    rfl
  have h3 : addD (.str (Str.ofString "1")) (.str (tx (bt l w))) = some (.str (tx (true :: bt l w))) := by
    rw [tx_1]
    exact e_addT (a := [true]) (by rw [bt_len, List.length_singleton]; omega)
  refine Ret.of rfl (e' := [.fro (Ck w l)]) ?_
  show m_Check_bits n [.fro (Ck w l)] = _
  simp [m_Check_bits, h1, h2, c1, h3]
theorem meth_of {c : Nat} {nm : Str} {F : MF} {fs : List (Str × D)} {e : SDs} (h : fs.lookup nm = none) : methM c nm F (varM 0) nilA (.fro (.ins c fs) :: e) = callE F [.inl (.ins c fs)] (.fro (.ins c fs) :: e) := by
  unfold methM
  show (if c = c ∧ fs.lookup nm = none then callE F [.inl (.ins c fs)] (.fro (.ins c fs) :: e) else none) = _
  rw [if_pos ⟨rfl, h⟩]
theorem e_bits {e : SDs} (k : G w l g) : methM 0 "bits" (F_Check_bits n) (varM 0) nilA (.fro (Ck w l) :: e) = some (.str (tx (true :: bt l w)), .fro (Ck w l) :: e) := by
  have h : ([("_width", nat w), ("_low", nat l)] : List (Str × D)).lookup (Str.ofString "bits") = none := by
    have h1 : ((Str.ofString "bits") == (Str.ofString "_width")) = false := by decide +kernel
    have h2 : ((Str.ofString "bits") == (Str.ofString "_low")) = false := by decide +kernel
    show (match (Str.ofString "bits") == (Str.ofString "_width") with | true => some (nat w) | false => match (Str.ofString "bits") == (Str.ofString "_low") with | true => some (nat l) | false => none) = _
    rw [h1, h2]
  exact (meth_of h).trans (bits_nat k).c1
end
end N66

set_option Elab.async false
set_option linter.all false
set_option maxRecDepth 100000
set_option maxHeartbeats 2000000
namespace N66
open PySem PySem.Spec PyProof.Rows L2 Evl WS Mir Poly
theorem e_reprB {b : Bool} : reprA (.bl b) = some (.str (if b then "True" else "False")) := rfl
@[simp] theorem e_isB2 {b c : Bool} : isD true (.bl b) (.bl c) = some (.bl (!decide (b = c))) := rfl
theorem e_min4 {w : Nat} : i0D (fun i j => if j < i then j else i) (nat w) (.int 4) = some (nat (min w 4)) := by
  show some (D.int (if (4 : Int) < (w : Int) then 4 else (w : Int))) = some (D.int ((min w 4 : Nat) : Int))
  congr 2
  split <;> omega
section
variable {n w l g : Nat}
end
end N66

set_option Elab.async false
set_option linter.all false
set_option maxRecDepth 100000
set_option maxHeartbeats 2000000
namespace N66
open PySem PySem.Spec PyProof.Rows L2 Evl WS Mir Poly
/-- signs turned at places that are counted from the right -/
def fl (c : Nat → Bool) : List Bool → List Bool
  | [] => []
  | b :: r => (if c r.length then !b else b) :: fl c r
theorem fl_len (c : Nat → Bool) : ∀ bs, (fl c bs).length = bs.length
  | [] => rfl
  | b :: r => by rw [fl, List.length_cons, List.length_cons, fl_len c r]
theorem fl_get {c : Nat → Bool} : ∀ {bs : List Bool} {i : Nat} {b : Bool}, bs[i]? = some b → (fl c bs)[i]? = some (if c (bs.length - 1 - i) then !b else b)
  | [], i, b, h => by simp at h
  | a :: r, 0, b, h => by
    simp at h
    subst h
    rfl
  | a :: r, i + 1, b, h => by
    have h2 := fl_get (c := c) (bs := r) (i := i) (b := b) (by simpa using h)
    rw [fl, List.getElem?_cons_succ, h2, List.length_cons, show r.length + 1 - 1 - (i + 1) = r.length - 1 - i by omega]
theorem xor_mul (a b w : Nat) : (a ^^^ b) * 2 ^ w = a * 2 ^ w ^^^ b * 2 ^ w := by rw [← P_pow, P_xor, P_pow, P_pow]
def sx (c : Nat → Bool) : Nat → Nat
  | 0 => 0
  | k + 1 => (if c k then 2 ^ k else 0) ^^^ sx c k
theorem vl_cons' (b : Bool) (bs : List Bool) : vl (b :: bs) = b.toNat * 2 ^ bs.length ^^^ vl bs := by rw [vl_cons, add_xor _ _ _ (vl_lt bs)]
theorem vl_fl (c : Nat → Bool) : ∀ bs : List Bool, vl (fl c bs) = vl bs ^^^ sx c bs.length
  | [] => by simp [fl, sx, vl]
  | b :: r => by
    rw [fl, vl_cons', vl_cons', vl_fl c r, fl_len, List.length_cons, sx]
    cases b <;> cases c r.length <;> simp [Nat.xor_assoc, xlc, xcc]
theorem px_fil (c : Nat → Bool) : ∀ k, px ((List.range k).filter c) = sx c k
  | 0 => rfl
  | k + 1 => by
    rw [List.range_succ, List.filter_append, sx, ← px_fil c k]
    cases h : c k with
    | true => rw [show [k].filter c = [k] by simp [h], px_snoc, if_pos rfl, Nat.xor_comm]
    | false => rw [show [k].filter c = [] by simp [h], List.append_nil, if_neg (by decide), Nat.zero_xor]
theorem asc_fil (c : Nat → Bool) {k : Nat} (hk : k ≤ 1000000) : Asc ((List.range k).filter c) := by
  refine ⟨fun i a b h1 h2 => ?_, fun p hp => ?_⟩
  · have h := (List.pairwise_lt_range (n := k)).filter c
    have i1 := List.getElem?_eq_some_iff.mp h1
    have i2 := List.getElem?_eq_some_iff.mp h2
    have := List.pairwise_iff_getElem.mp h i (i + 1) i1.1 i2.1 (by omega)
    rw [i1.2, i2.2] at this
    exact this
  · have := List.mem_range.mp (List.mem_filter.mp hp).1
    omega
theorem e_inN {p : Nat} {ps : List Nat} : inD false (nat p) (.lst (ps.map nat)) = some (.bl (ps.any fun q => q == p)) := by
  have h1 : (ps.map nat).all flatB = true := by
    rw [List.all_map]
    exact List.all_eq_true.mpr fun _ _ => rfl
  have h2 : ((ps.map nat).any fun y => eqF y (nat p)) = ps.any fun q => q == p := by
    rw [List.any_map]
    congr 1
    funext q
    show ((q : Int) == (p : Int)) = _
    rw [Bool.eq_iff_iff, beq_iff_eq, beq_iff_eq]
    omega
  show (if flatB (nat p) = true ∧ (ps.map nat).all flatB = true then some (D.bl ((ps.map nat).any fun y => eqF y (nat p))) else _) = _
  rw [if_pos ⟨rfl, h1⟩, h2]
theorem any_fil {c : Nat → Bool} {k p : Nat} (h : p < k) : (((List.range k).filter c).any fun q => q == p) = c p := by
  rw [Bool.eq_iff_iff, List.any_eq_true]
  constructor
  · rintro ⟨q, h1, h2⟩
    have := beq_iff_eq.mp h2
    subst this
    exact (List.mem_filter.mp h1).2
  · intro hc
    exact ⟨p, List.mem_filter.mpr ⟨List.mem_range.mpr h, hc⟩, beq_self_eq_true p⟩
theorem e_flip {b : Bool} : ixD (.lst [.str (Str.ofString "1"), .str (Str.ofString "0")]) (.int (if b then 1 else 0)) = some (.str (tx [!b])) := by
  cases b
  · show some (D.str (Str.ofString "1")) = _
    rw [tx_1]
    rfl
  · show some (D.str (Str.ofString "0")) = _
    rw [tx_0]
    rfl
theorem toPs_nat : ∀ ps : List Nat, toPs (ps.map nat) = some (ps.map fun p : Nat => PyData.int (p : Int))
  | [] => rfl
  | p :: r => by
    show (match toP (nat p), toPs (r.map nat) with | some p, some q => some (p :: q) | _, _ => none) = _
    rw [toPs_nat r]
    rfl
theorem lay_ints : ∀ ps : List Nat, PyData.canLayAll0 (ps.map fun p : Nat => PyData.int (p : Int)) = true
  | [] => by simp [PyData.canLayAll0]
  | p :: r => by
    rw [List.map_cons]
    simp only [PyData.canLayAll0, PyData.canLay0, lay_ints r, Bool.and_self]
theorem depth_ints : ∀ ps : List Nat, PyData.depthAll (ps.map fun p : Nat => PyData.int (p : Int)) ≤ 1
  | [] => by simp [PyData.depthAll]
  | p :: r => by
    have := depth_ints r
    rw [List.map_cons]
    simp only [PyData.depthAll, PyData.depth]
    omega
theorem e_eqLst {ps : List Nat} : eqD false (.lst (ps.map nat)) (.lst (ps.map nat)) = some (.bl true) := by
  have h1 : toP (.lst (ps.map nat)) = some (.list (ps.map fun p : Nat => PyData.int (p : Int))) := by show (toPs (ps.map nat)).map PyData.list = _; rw [toPs_nat]; rfl
  have h2 : PyData.canLay0 (.list (ps.map fun p : Nat => PyData.int (p : Int))) = true := by simp only [PyData.canLay0]; exact lay_ints ps
  have h3 : SeqAt.shaped (.list (ps.map fun p : Nat => PyData.int (p : Int))) = true := by
    have := depth_ints ps
    show (PyData.canLay0 _ && decide (PyData.depth _ ≤ 64)) = true
    rw [h2, Bool.true_and, decide_eq_true_iff]
    simp only [PyData.depth]
    omega
  show (match toP (.lst (ps.map nat)), toP (.lst (ps.map nat)) with | some p, some q => if SeqAt.shaped p = true ∧ SeqAt.shaped q = true then some (D.bl (PyData.eqv p q)) else none | _, _ => none) = _
  rw [h1]
  show (if SeqAt.shaped _ = true ∧ SeqAt.shaped _ = true then some (D.bl (PyData.eqv _ _)) else none) = _
  rw [if_pos ⟨h3, h3⟩, SeqAt.eqv_refl _ h2]
section
variable {n w l g : Nat}
/-- the places that are drawn -/
theorem pick_nat {x1 x2 x3 x4 x5 x6 : SD} : ∀ (ks : List Nat) (b : Nat) (o : OD), ks.Nodup → GS b o → b + 100 * ks.length ≤ 1000000000 → ∃ (c : Nat → Bool) (o' : OD), compL [7] (nameG 7) (tstM (opM (eqD false) (callM (F__law_random n) (sloA 0 (valA (cM (.int 4)) nilA))) (cM (.int 0)))) (varM 7) (ks.map nat) [.bor o, x1, x2, x3, x4, x5, x6, .nn] = some ((ks.filter c).map nat, [.bor o', x1, x2, x3, x4, x5, x6, .nn]) ∧ GS (b + 100 * ks.length) o'
  | [], b, o, _, hg, _ => ⟨fun _ => false, o, rfl, hg⟩
  | a :: r, b, o, hnd, hg, hb => by
    rw [List.length_cons] at hb
    obtain ⟨z, o1, h1, h2, h3⟩ := rnd0 (n := n) (bound := 4) hg (by omega) (by decide) (Nat.le_trans (nb_le.mpr (show 4 < 2 ^ 3 by decide)) (by decide))
    obtain ⟨c, o2, h4, h5⟩ := pick_nat r (b + 100) o1 (List.nodup_cons.mp hnd).2 h3 (by omega)
    have ha : a ∉ r := (List.nodup_cons.mp hnd).1
    have hf : ∀ v, (a :: r).filter (fun x => if x = a then v else c x) = if v then a :: r.filter c else r.filter c := fun v => by
      have h6 : r.filter (fun x => if x = a then v else c x) = r.filter c := List.filter_congr fun x hx => by
        rw [if_neg (fun h : x = a => ha (h ▸ hx))]
      rw [List.filter_cons, h6]
      simp
    refine ⟨fun x => if x = a then z == 0 else c x, o2, ?_, by rw [List.length_cons, show b + 100 * (r.length + 1) = b + 100 + 100 * r.length by omega]; exact h5⟩
    rw [hf, List.map_cons]
    have c1 : tstM (opM (eqD false) (callM (F__law_random n) (sloA 0 (valA (cM (.int 4)) nilA))) (cM (.int 0))) [.bor o, x1, x2, x3, x4, x5, x6, .fro (nat a)] = some (z == 0, [.bor o1, x1, x2, x3, x4, x5, x6, .fro (nat a)]) := by
      have := h1 [x1, x2, x3, x4, x5, x6, .fro (nat a)]
      rw [show nat 4 = D.int 4 from rfl] at this
      simp [this, -e_eqL]
    show (bnd (tstM (opM (eqD false) (callM (F__law_random n) (sloA 0 (valA (cM (.int 4)) nilA))) (cM (.int 0))) [.bor o, x1, x2, x3, x4, x5, x6, .fro (nat a)]) fun b e2 => if b then (bnd (varM 7 e2) fun d e3 => match wipeE [7] e3 with | none => none | some e4 => (match compL [7] (nameG 7) (tstM (opM (eqD false) (callM (F__law_random n) (sloA 0 (valA (cM (.int 4)) nilA))) (cM (.int 0)))) (varM 7) (r.map nat) e4 with | none => none | some (ds, e5) => some (d :: ds, e5))) else (match wipeE [7] e2 with | none => none | some e4 => compL [7] (nameG 7) (tstM (opM (eqD false) (callM (F__law_random n) (sloA 0 (valA (cM (.int 4)) nilA))) (cM (.int 0)))) (varM 7) (r.map nat) e4)) = _
    rw [c1, bnd_s]
    cases z == 0 with
    | true =>
      show (match compL [7] (nameG 7) (tstM (opM (eqD false) (callM (F__law_random n) (sloA 0 (valA (cM (.int 4)) nilA))) (cM (.int 0)))) (varM 7) (r.map nat) [.bor o1, x1, x2, x3, x4, x5, x6, .nn] with | none => none | some (ds, e5) => some (nat a :: ds, e5)) = _
      rw [h4]
      rfl
    | false =>
      show compL [7] (nameG 7) (tstM (opM (eqD false) (callM (F__law_random n) (sloA 0 (valA (cM (.int 4)) nilA))) (cM (.int 0)))) (varM 7) (r.map nat) [.bor o1, x1, x2, x3, x4, x5, x6, .nn] = _
      rw [h4]
      rfl
end
end N66

set_option Elab.async false
set_option linter.all false
set_option maxRecDepth 100000
set_option maxHeartbeats 2000000
namespace N66
open PySem PySem.Spec PyProof.Rows L2 Evl WS Mir Poly
theorem p18 : powD (.int 10) (.int 18) = some (nat 1000000000000000000) := (e_iC (C := CPowW) (show CPowW 10 18 by decide +kernel)).trans (congrArg (fun i => some (D.int i)) (by decide +kernel))
section
variable {n w l g : Nat}
end
end N66

set_option Elab.async false
set_option linter.all false
set_option maxRecDepth 100000
set_option maxHeartbeats 2000000
namespace N66
open PySem PySem.Spec PyProof.Rows L2 Evl WS Mir Poly
def Nb (s : SD) : Prop := ∀ o, s ≠ .bor o
theorem nb_fro {d : D} : Nb (.fro d) := fun o h => nomatch h
theorem nb_own {d : OD} : Nb (.own d) := fun o h => nomatch h
theorem nb_nn : Nb .nn := fun o h => nomatch h
theorem set_nb {i : Nat} {x s : SD} {e : SDs} (h1 : e[i]? = some s) (h2 : Nb s) : setS i x e = some (e.set i x) := by
  unfold setS
  rw [h1]
  cases s with
  | bor o => exact absurd rfl (h2 o)
  | nn => rfl
  | fro d => rfl
  | own o => rfl
theorem as_nb {i : Nat} {s : SD} {e e1 : SDs} {m : M} {d : D} (hm : m e = some (d, e1)) (h1 : e1[i]? = some s) (h2 : Nb s) : asM (nameG i) m e = some (.nx (e1.set i (.fro d))) := by
  rw [e_asM, hm, bnd_s, e_nameG, set_nb h1 h2]
  rfl
section
variable {n w l g : Nat}
/-- a def that draws, called with the list in name i -/
theorem call_own {F : MF} {e : SDs} {i : Nat} {x : SD} {o o' : OD} {ds : List D} {r : D} (hx : e[i]? = some x) (ho : x.ow = some o) (h : F (.bor o :: ds.map SD.fro) = some (r, .bor o' :: ds.map SD.fro)) : callE F (.inr i :: ds.map Sum.inl) e = some (r, e.set i (upSD x o')) := call_slo hx ho h (List.length_map ..)
theorem rnd2 {b bound : Nat} {o : OD} (hg : GS b o) (hb : b ≤ 1000000000) (h1 : 1 ≤ bound) (h2 : nb bound ≤ 100) : ∃ z o', (∀ (x y : SD) (r : SDs), callE (F__law_random n) [.inr 2, .inl (nat bound)] (x :: y :: .own o :: r) = some (nat z, x :: y :: .own o' :: r)) ∧ z < bound ∧ GS (b + 100) o' := by
  obtain ⟨z, o', h3, h4, h5⟩ := rnd_nat (n := n) hg hb h1 h2
  exact ⟨z, o', fun x y r => call_own (e := x :: y :: .own o :: r) (x := .own o) (i := 2) (ds := [nat bound]) rfl rfl h3, h4, h5⟩
theorem e_tx {bs : List Bool} {s : Str} (h : s = tx bs) : D.str s = D.str (tx bs) := by rw [h]
end
end N66

set_option Elab.async false
set_option linter.all false
set_option maxRecDepth 100000
set_option maxHeartbeats 2000000
namespace N66
open PySem PySem.Spec PyProof.Rows L2 Evl WS Mir Poly
theorem g33 : G 3 3 11 := ⟨by decide, by decide, by decide, rfl, rfl⟩
theorem e_eqRefl {xs : List D} {ps : List PyData} (h : toPs xs = some ps) (h2 : PyData.canLayAll0 ps = true) (h3 : PyData.depthAll ps ≤ 1) : eqD false (.lst xs) (.lst xs) = some (.bl true) := by
  have h1 : toP (.lst xs) = some (.list ps) := by show (toPs xs).map PyData.list = _; rw [h]; rfl
  have h4 : PyData.canLay0 (.list ps) = true := by simp only [PyData.canLay0]; exact h2
  have h5 : SeqAt.shaped (.list ps) = true := by
    show (PyData.canLay0 _ && decide (PyData.depth _ ≤ 64)) = true
    rw [h4, Bool.true_and, decide_eq_true_iff]
    simp only [PyData.depth]
    omega
  show (match toP (.lst xs), toP (.lst xs) with | some p, some q => if SeqAt.shaped p = true ∧ SeqAt.shaped q = true then some (D.bl (PyData.eqv p q)) else none | _, _ => none) = _
  rw [h1]
  show (if SeqAt.shaped _ = true ∧ SeqAt.shaped _ = true then some (D.bl (PyData.eqv _ _)) else none) = _
  rw [if_pos ⟨h5, h5⟩, SeqAt.eqv_refl _ h4]
end N66

set_option Elab.async false
set_option linter.all false
set_option maxRecDepth 100000
set_option maxHeartbeats 2000000
namespace N66
open PySem PySem.Spec PyProof.Rows L2 Evl WS Mir Poly
/-! ### lists of whole numbers -/
def il (xs : List Int) : D := .lst (xs.map D.int)
theorem nbI (i : Int) : Builtin.Int.intBits i = nb i.natAbs := by
  unfold Builtin.Int.intBits nb
  by_cases h : i = 0
  · subst h; rfl
  · have h2 : (i == 0) = false := by simpa using h
    have h3 : i.natAbs ≠ 0 := by omega
    rw [h2, if_neg h3]
    rfl
theorem mulI {i j : Int} (hi : nb i.natAbs ≤ 5000) (hj : nb j.natAbs ≤ 5000) : mulD (.int i) (.int j) = some (.int (i * j)) :=
  e_mul (by show (Builtin.Int.intBits i : Int) + (Builtin.Int.intBits j : Int) ≤ 134217728; rw [nbI, nbI]; omega)
@[simp] theorem e_subI {i j : Int} : subD (.int i) (.int j) = some (.int (i - j)) := Eq.trans rfl rfl
@[simp] theorem e_addNI {a : Nat} {i : Int} : addD (nat a) (.int i) = some (.int ((a : Int) + i)) := Eq.trans rfl rfl
@[simp] theorem e_addIN {a : Nat} {i : Int} : addD (.int i) (nat a) = some (.int (i + (a : Int))) := Eq.trans rfl rfl
@[simp] theorem e_negN {a : Nat} : negD (nat a) = some (.int (-(a : Int))) := Eq.trans rfl rfl
theorem shrI {i : Int} {s : Nat} : shrD (.int i) (nat s) = some (.int (i / 2 ^ s)) := by
  show (if CNn i (s : Int) then some (D.int (i / 2 ^ ((s : Int).toNat))) else none) = _
  rw [if_pos (show CNn i (s : Int) from Int.natCast_nonneg s), Int.toNat_natCast]
theorem fdivI {i : Int} {s : Nat} (hs : s ≤ 100) : fdivD (.int i) (nat (2 ^ s)) = some (.int (i / 2 ^ s)) := by
  have hp : 0 < 2 ^ s := Nat.two_pow_pos s
  have h : CDivW i ((2 ^ s : Nat) : Int) := ⟨by omega, by rw [Int.natAbs_natCast, Nat.log2_two_pow]; omega⟩
  show (if CDivW i ((2 ^ s : Nat) : Int) then some (D.int (i / ((2 ^ s : Nat) : Int))) else none) = _
  rw [if_pos h]
  congr 3
theorem ixDN {xs : List D} {i : Nat} {d : D} (h : xs[i]? = some d) : ixD (.lst xs) (nat i) = some d := by
  have hi : i < xs.length := (List.getElem?_eq_some_iff.mp h).1
  show (ixN xs.length (i : Int)).bind (fun j => xs[j]?) = _
  unfold ixN
  rw [if_pos (Int.natCast_nonneg i), if_pos (by omega)]
  show xs[(i : Int).toNat]? = _
  rw [Int.toNat_natCast, h]
def gt (xs : List Int) (i : Nat) : Int := xs.getD i 0
theorem ixI {xs : List Int} {i : Nat} (h : i < xs.length) : ixD (il xs) (nat i) = some (.int (gt xs i)) :=
  ixDN (by unfold gt; rw [List.getElem?_map, List.getElem?_eq_getElem h, List.getD_eq_getElem?_getD, List.getElem?_eq_getElem h]; rfl)
@[simp] theorem lenI {xs : List Int} : lenD (il xs) = some (nat xs.length) := by
  show some (D.int ((xs.map D.int).length : Nat)) = _
  rw [List.length_map]
  rfl
@[simp] theorem listI {xs : List Int} : listD (il xs) = some (il xs) := rfl
theorem lstII {m : M} {e e1 : SDs} {xs : List Int} (h : m e = some (il xs, e1)) : lstI m e = some (xs.map D.int, e1) := by
  unfold lstI
  rw [h]
  rfl
theorem addL {xs ys : List D} (h : xs.length + ys.length ≤ 1000) : addD (.lst xs) (.lst ys) = some (.lst (xs ++ ys)) := by
  have h1 : xs.length + ys.length ≤ sizeLine := Nat.le_trans h (by decide)
  show (if xs.length + ys.length ≤ sizeLine then some (D.lst (xs ++ ys)) else none) = _
  rw [if_pos h1]
theorem addIL {xs ys : List Int} (h : xs.length + ys.length ≤ 1000) : addD (il xs) (il ys) = some (il (xs ++ ys)) := by
  unfold il
  rw [addL (by rw [List.length_map, List.length_map]; exact h), List.map_append]
theorem slTo {xs : List Int} {k : Nat} (h : k ≤ xs.length) : slD (il xs) none (some (k : Int)) = some (il (xs.take k)) := by
  show some (D.lst (((xs.map D.int).drop 0).take ((if (k : Int) < 0 then ((k : Int) + ((xs.map D.int).length : Int)).toNat else min (k : Int).toNat (xs.map D.int).length) - 0))) = _
  rw [if_neg (by omega), List.drop_zero, Int.toNat_natCast, List.length_map, Nat.min_eq_left h, Nat.sub_zero, ← List.map_take]
  rfl
theorem slFrom {xs : List Int} {k : Nat} (h : k ≤ xs.length) : slD (il xs) (some (k : Int)) none = some (il (xs.drop k)) := by
  show some (D.lst (((xs.map D.int).drop (if (k : Int) < 0 then ((k : Int) + ((xs.map D.int).length : Int)).toNat else min (k : Int).toNat (xs.map D.int).length)).take ((xs.map D.int).length - (if (k : Int) < 0 then ((k : Int) + ((xs.map D.int).length : Int)).toNat else min (k : Int).toNat (xs.map D.int).length)))) = _
  rw [if_neg (by omega), Int.toNat_natCast, List.length_map, Nat.min_eq_left h, ← List.map_drop, List.take_of_length_le (by rw [List.length_map, List.length_drop]; omega)]
  rfl
theorem noPtE {e : SDs} : noPt e = some (none, e) := rfl
theorem ptMN {m : M} {e e1 : SDs} {k : Nat} (h : m e = some (nat k, e1)) : ptM m e = some (some (k : Int), e1) := by
  unfold ptM
  rw [h]
  rfl
theorem slME {m : M} {ml mh : MI} {e e1 e2 e3 : SDs} {d r : D} {lo hi : Option Int} (h : m e = some (d, e1)) (h1 : ml e1 = some (lo, e2)) (h2 : mh e2 = some (hi, e3)) (h3 : slD d lo hi = some r) : slM m ml mh e = some (r, e3) := by
  unfold slM
  rw [h, bnd_s, h1, bnd_s, h2, bnd_s, h3]
  rfl
/-- == of lists of whole numbers -/
theorem toPs_int : ∀ ps : List Int, toPs (ps.map D.int) = some (ps.map PyData.int)
  | [] => rfl
  | p :: r => by
    show (match toP (.int p), toPs (r.map D.int) with | some p, some q => some (p :: q) | _, _ => none) = _
    rw [toPs_int r]
    rfl
theorem lay_int : ∀ ps : List Int, PyData.canLayAll0 (ps.map PyData.int) = true
  | [] => by simp [PyData.canLayAll0]
  | p :: r => by
    rw [List.map_cons]
    simp only [PyData.canLayAll0, PyData.canLay0, lay_int r]
    rfl
theorem depth_int : ∀ ps : List Int, PyData.depthAll (ps.map PyData.int) ≤ 1
  | [] => by simp [PyData.depthAll]
  | p :: r => by
    rw [List.map_cons]
    have := depth_int r
    simp only [PyData.depthAll, PyData.depth]
    omega
theorem eqv_int : ∀ ps qs : List Int, PyData.eqvAll (ps.map PyData.int) (qs.map PyData.int) = (ps == qs)
  | [], [] => rfl
  | [], _ :: _ => rfl
  | _ :: _, [] => rfl
  | p :: ps, q :: qs => by
    show ((p == q) && PyData.eqvAll (ps.map PyData.int) (qs.map PyData.int)) = ((p == q) && (ps == qs))
    rw [eqv_int]
theorem eqIL (neg : Bool) (ps qs : List Int) : eqD neg (il ps) (il qs) = some (.bl (if neg then !(ps == qs) else ps == qs)) := by
  have h1 : ∀ ps : List Int, toP (il ps) = some (.list (ps.map PyData.int)) := fun ps => by show (toPs (ps.map D.int)).map PyData.list = _; rw [toPs_int]; rfl
  have h3 : ∀ ps : List Int, SeqAt.shaped (.list (ps.map PyData.int)) = true := fun ps => by
    have h2 : PyData.canLay0 (.list (ps.map PyData.int)) = true := by simp only [PyData.canLay0]; exact lay_int ps
    have := depth_int ps
    show (PyData.canLay0 _ && decide (PyData.depth _ ≤ 64)) = true
    rw [h2, Bool.true_and, decide_eq_true_iff]
    simp only [PyData.depth]
    omega
  show (match toP (il ps), toP (il qs) with | some p, some q => if SeqAt.shaped p = true ∧ SeqAt.shaped q = true then some (D.bl (if neg then !PyData.eqv p q else PyData.eqv p q)) else none | _, _ => none) = _
  rw [h1, h1]
  show (if SeqAt.shaped _ = true ∧ SeqAt.shaped _ = true then some (D.bl (if neg then !PyData.eqv _ _ else PyData.eqv _ _)) else none) = _
  have h4 := eqv_int ps qs
  rw [if_pos ⟨h3 ps, h3 qs⟩]
  show some (D.bl (if neg then !PyData.eqvAll (ps.map PyData.int) (qs.map PyData.int) else PyData.eqvAll (ps.map PyData.int) (qs.map PyData.int))) = _
  rw [h4]
theorem e_appO {e : SDs} {i : Nat} {xs : List D} {d : D} {m : M} (h : e[i]? = some (.own (.lst xs))) (hm : m e = some (d, e)) (hl : xs.length ≤ 1000) : appM i m e = some (.nx (e.set i (.own (.lst (xs ++ [d]))))) := by
  have ho : ownAt e i = some (.own (.lst xs), .lst xs) := by
    unfold ownAt
    rw [h]
    rfl
  unfold appM
  rw [ho]
  show (bnd (m e) fun d e1 => match ownAt e1 i with | some (x, .lst xs) => if xs.length < sizeLine then some (Out.nx (e1.set i (upSD x (.lst (xs ++ [d]))))) else none | _ => none) = _
  rw [hm, bnd_s, ho]
  show (if xs.length < sizeLine then some (Out.nx (e.set i (upSD (.own (.lst xs)) (.lst (xs ++ [d]))))) else none) = _
  rw [if_pos (Nat.lt_of_le_of_lt hl (by decide))]
  rfl
theorem e_rng2 {mr : ML} {a b : Nat} {e e1 : SDs} (h : mr e = some ([nat a, nat b], e1)) (ha : a ≤ 1000000) (hb : b ≤ 1000000) : rng2I mr e = some (((List.range (b - a)).map (a + ·)).map nat, e1) := by
  unfold rng2I
  rw [h, bnd_s]
  show (if -(2 ^ 62) ≤ (a : Int) ∧ (a : Int) < 2 ^ 62 ∧ -(2 ^ 62) ≤ (b : Int) ∧ (b : Int) < 2 ^ 62 then some (rngD (a : Int) ((b : Int) - (a : Int)).toNat, e1) else none) = _
  rw [if_pos (by omega), show ((b : Int) - (a : Int)).toNat = b - a by omega]
  congr 2
  unfold rngD
  rw [List.map_map]
  refine List.map_congr_left fun i _ => ?_
  show D.int ((a : Int) + (i : Int)) = D.int ((a + i : Nat) : Int)
  congr 1
theorem fil_nat {mi : ML} {mt : MT} {me : M} {e : SDs} {v : Nat} {x0 : SD} {xs : List Nat} (t : Nat → Bool) (f : Nat → D) (hi : mi e = some (xs.map nat, e)) (hv : e[v]? = some x0) (hf : x0 = .nn ∨ ∃ d, x0 = .fro d) (hl : xs.length ≤ 1000)
    (ht : ∀ x ∈ xs, mt (e.set v (.fro (nat x))) = some (t x, e.set v (.fro (nat x)))) (hm : ∀ x ∈ xs, t x = true → me (e.set v (.fro (nat x))) = some (f x, e.set v (.fro (nat x)))) :
    compF mi [v] (nameG v) mt me e = some (.lst ((xs.filter t).map f), e) := by
  have h2 := comp_fil (me := me) (mt := mt) (v := v) (x0 := x0) (e := e) (fun d => match d with | .int j => f j.toNat | _ => .non) (fun d => match d with | .int j => t j.toNat | _ => false) hi hv hf (by rw [List.length_map]; exact hl)
    (fun d hd => by
      rw [List.mem_map] at hd
      obtain ⟨i, hi, rfl⟩ := hd
      have hj : (match nat i with | .int j => t j.toNat | _ => false) = t i := by
        show t (i : Int).toNat = _
        rw [Int.toNat_natCast]
      rw [hj]
      exact ht i hi) fun d hd hh => by
      rw [List.mem_map] at hd
      obtain ⟨i, hi, rfl⟩ := hd
      have hj : (match nat i with | .int j => f j.toNat | _ => .non) = f i := by
        show f (i : Int).toNat = _
        rw [Int.toNat_natCast]
      have hh : t (i : Int).toNat = true := hh
      rw [Int.toNat_natCast] at hh
      rw [hj]
      exact hm i hi hh
  rw [h2, List.filter_map, List.map_map]
  have e1 : ((fun d : D => match d with | .int j => t j.toNat | _ => false) ∘ nat) = t := by
    funext i
    show t (i : Int).toNat = _
    rw [Int.toNat_natCast]
  have e2 : ((fun d : D => match d with | .int j => f j.toNat | _ => .non) ∘ nat) = f := by
    funext i
    show f (i : Int).toNat = _
    rw [Int.toNat_natCast]
  rw [e1, e2]
theorem map_nat {mi : ML} {me : M} {e : SDs} {v : Nat} {x0 : SD} {xs : List Nat} (f : Nat → D) (hi : mi e = some (xs.map nat, e)) (hv : e[v]? = some x0) (hf : x0 = .nn ∨ ∃ d, x0 = .fro d) (hl : xs.length ≤ 1000)
    (hm : ∀ x ∈ xs, me (e.set v (.fro (nat x))) = some (f x, e.set v (.fro (nat x)))) :
    compF mi [v] (nameG v) yesT me e = some (.lst (xs.map f), e) := by
  have h2 := fil_nat (mt := yesT) (me := me) (fun _ => true) f hi hv hf hl (fun x _ => rfl) fun x hx _ => hm x hx
  rw [List.filter_eq_self.mpr (fun _ _ => rfl)] at h2
  exact h2
end N66

set_option Elab.async false
set_option linter.all false
set_option maxRecDepth 100000
set_option maxHeartbeats 2000000
namespace N66
open PySem PySem.Spec PyProof.Rows L2 Evl WS Mir Poly
def sm (f : Nat → Int) : Nat → Int
  | 0 => 0
  | n + 1 => sm f n + f n
theorem sm_congr {f g : Nat → Int} : ∀ {n : Nat}, (∀ i, i < n → f i = g i) → sm f n = sm g n
  | 0, _ => rfl
  | n + 1, h => by
    show sm f n + f n = sm g n + g n
    rw [sm_congr fun i hi => h i (by omega), h n (by omega)]
theorem sm_add {f g : Nat → Int} : ∀ n : Nat, sm (fun i => f i + g i) n = sm f n + sm g n
  | 0 => rfl
  | n + 1 => by
    show sm (fun i => f i + g i) n + (f n + g n) = (sm f n + f n) + (sm g n + g n)
    rw [sm_add n]
    omega
theorem sm_mul {f : Nat → Int} {c : Int} : ∀ n : Nat, sm (fun i => c * f i) n = c * sm f n
  | 0 => (Int.mul_zero c).symm
  | n + 1 => by
    show sm (fun i => c * f i) n + c * f n = c * (sm f n + f n)
    rw [sm_mul n, Int.mul_add]
theorem sm_zero : ∀ n : Nat, sm (fun _ => 0) n = 0
  | 0 => rfl
  | n + 1 => by show sm (fun _ => 0) n + 0 = 0; rw [sm_zero n]; rfl
theorem sm_front {f : Nat → Int} : ∀ n : Nat, sm f (n + 1) = f 0 + sm (fun i => f (i + 1)) n
  | 0 => by show 0 + f 0 = f 0 + 0; omega
  | n + 1 => by
    show sm f (n + 1) + f (n + 1) = f 0 + (sm (fun i => f (i + 1)) n + f (n + 1))
    rw [sm_front n]
    omega
theorem map_int {mi : ML} {me : M} {e : SDs} {v : Nat} {x0 : SD} {xs : List Int} (f : Int → D) (hi : mi e = some (xs.map D.int, e)) (hv : e[v]? = some x0) (hf : x0 = .nn ∨ ∃ d, x0 = .fro d) (hl : xs.length ≤ 1000)
    (hm : ∀ x ∈ xs, me (e.set v (.fro (.int x))) = some (f x, e.set v (.fro (.int x)))) : compF mi [v] (nameG v) yesT me e = some (.lst (xs.map f), e) := by
  have h := comp_map (me := me) (fun d => match d with | .int j => f j | _ => .non) hi hv hf (by rw [List.length_map]; exact hl) fun x hx => by
    rw [List.mem_map] at hx
    obtain ⟨i, hi, rfl⟩ := hx
    exact hm i hi
  rw [List.map_map] at h
  exact h
theorem compL_map {vs : List Nat} {ga : D → SDs → Option SDs} {me : M} {e0 : SDs} (g : D → D) (E : D → SDs) : ∀ (xs : List D), (∀ x ∈ xs, ga x e0 = some (E x)) → (∀ x ∈ xs, me (E x) = some (g x, E x)) → (∀ x ∈ xs, wipeE vs (E x) = some e0) → compL vs ga yesT me xs e0 = some (xs.map g, e0)
  | [], _, _, _ => rfl
  | x :: r, h1, h2, h3 => by
    have ih := compL_map g E r (fun y hy => h1 y (List.mem_cons_of_mem _ hy)) (fun y hy => h2 y (List.mem_cons_of_mem _ hy)) fun y hy => h3 y (List.mem_cons_of_mem _ hy)
    show (match ga x e0 with | none => none | some e1 => bnd (yesT e1) fun b e2 => if b then (bnd (me e2) fun d e3 => match wipeE vs e3 with | none => none | some e4 => (match compL vs ga yesT me r e4 with | none => none | some (ds, e5) => some (d :: ds, e5))) else (match wipeE vs e2 with | none => none | some e4 => compL vs ga yesT me r e4)) = _
    rw [h1 x List.mem_cons_self]
    show (bnd (me (E x)) fun d e3 => match wipeE vs e3 with | none => none | some e4 => (match compL vs ga yesT me r e4 with | none => none | some (ds, e5) => some (d :: ds, e5))) = _
    rw [h2 x List.mem_cons_self]
    show (match wipeE vs (E x) with | none => none | some e4 => (match compL vs ga yesT me r e4 with | none => none | some (ds, e5) => some (g x :: ds, e5))) = _
    rw [h3 x List.mem_cons_self]
    show (match compL vs ga yesT me r e0 with | none => none | some (ds, e5) => some (g x :: ds, e5)) = _
    rw [ih]
    rfl
theorem compF_map {vs : List Nat} {ga : D → SDs → Option SDs} {me : M} {mi : ML} {e0 : SDs} {xs : List D} (g : D → D) (E : D → SDs) (hi : mi e0 = some (xs, e0)) (hw : wipeE vs e0 = some e0) (hr : restE e0 vs e0 = e0) (hl : xs.length ≤ 1000)
    (h1 : ∀ x ∈ xs, ga x e0 = some (E x)) (h2 : ∀ x ∈ xs, me (E x) = some (g x, E x)) (h3 : ∀ x ∈ xs, wipeE vs (E x) = some e0) : compF mi vs ga yesT me e0 = some (.lst (xs.map g), e0) := by
  unfold compF
  rw [hi]
  show (if xs.length ≤ sizeLine then (match wipeE vs e0 with | none => none | some e2 => match compL vs ga yesT me xs e2 with | none => none | some (ds, e3) => some (OD.lst ds, restE e0 vs e3)) else none) = _
  rw [if_pos (Nat.le_trans hl (by decide)), hw]
  show (match compL vs ga yesT me xs e0 with | none => none | some (ds, e3) => some (OD.lst ds, restE e0 vs e3)) = _
  rw [compL_map g E xs h1 h2 h3]
  show some (OD.lst (xs.map g), restE e0 vs e0) = _
  rw [hr]
theorem enum_at : ∀ (xs : List Int) (k : Nat), enumD k (xs.map D.int) = (List.range xs.length).map fun i => D.tup [nat (k + i), .int (gt xs i)]
  | [], _ => rfl
  | x :: r, k => by
    show D.tup [nat k, .int x] :: enumD (k + 1) (r.map D.int) = (List.range (r.length + 1)).map _
    rw [enum_at r (k + 1), List.range_succ_eq_map, List.map_cons, List.map_map]
    congr 1
    refine List.map_congr_left fun i _ => ?_
    show D.tup [nat (k + 1 + i), .int (gt r i)] = D.tup [nat (k + (i + 1)), .int (gt (x :: r) (i + 1))]
    rw [show k + 1 + i = k + (i + 1) by omega]
    rfl
theorem gt_map {k i : Nat} {f : Nat → Int} (h : i < k) : gt ((List.range k).map f) i = f i := by
  unfold gt
  rw [List.getD_eq_getElem?_getD, List.getElem?_map, List.getElem?_range h]
  rfl
theorem sum_sm : ∀ (f : Nat → Int) (k : Nat), ((List.range k).map f).sum = sm f k
  | _, 0 => rfl
  | f, k + 1 => by
    rw [List.range_succ, List.map_append, List.sum_append, sum_sm f k]
    show _ + (f k + 0) = sm f k + f k
    rw [Int.add_zero]
theorem sumI (xs : List Int) : sumD (il xs) = some (.int xs.sum) := by
  show (match intsO (xs.map D.int) with | some ns => some (D.int ns.sum) | none => none) = _
  rw [ints_of]
theorem gt_set {xs : List Int} {p i : Nat} {v : Int} (hp : p < xs.length) : gt (xs.set p v) i = if i = p then v else gt xs i := by
  unfold gt
  rw [List.getD_eq_getElem?_getD, List.getD_eq_getElem?_getD, List.getElem?_set]
  by_cases c : p = i
  · subst c
    rw [if_pos rfl, if_pos hp, if_pos rfl]
    rfl
  · rw [if_neg c, if_neg (fun e => c e.symm)]
theorem e_ixO {i p : Nat} {mk : M} {e : SDs} {P : List Int} (h : e[i]? = some (.own (.lst (P.map D.int)))) (h1 : mk e = some (nat p, e)) (hp : p < P.length) : ixO i mk e = some (.int (gt P p), e) := by
  have ho : ownAt e i = some (.own (.lst (P.map D.int)), .lst (P.map D.int)) := by
    unfold ownAt
    rw [h]
    rfl
  have hat : atI (P.map D.int) (p : Int) = some (.int (gt P p)) := by
    unfold atI ixN
    rw [if_pos (Int.natCast_nonneg p), if_pos (by rw [List.length_map]; omega), Int.toNat_natCast]
    show (P.map D.int)[p]? = _
    unfold gt
    rw [List.getElem?_map, List.getD_eq_getElem?_getD, List.getElem?_eq_getElem hp]
    rfl
  unfold ixO
  rw [ho]
  show (bnd (mk e) fun j e1 => match ownAt e1 i, j with | some (_, .lst xs), .int n => rsl (atI xs n) e1 | _, _ => none) = _
  rw [h1, bnd_s, ho]
  show rsl (atI (P.map D.int) (p : Int)) e = _
  rw [hat]
  rfl
theorem repDk {xs : List D} {k : Int} (h : -(2 ^ 63) ≤ k ∧ k < 2 ^ 63 ∧ xs.length * k.toNat ≤ sizeLine) : repD xs k = some (List.replicate k.toNat xs).flatten := if_pos h
theorem q1 {k : Nat} (hk : k ≤ 1000) : ([D.int 0].length * (k : Int).toNat) ≤ sizeLine := by
    rw [Int.toNat_natCast]
    exact Nat.le_trans (show 1 * k ≤ 1000 by omega) (by decide)
theorem q2 {k : Nat} (hk : k ≤ 1000) : -(2 ^ 63) ≤ (k : Int) := by omega
theorem q3 {k : Nat} (hk : k ≤ 1000) : (k : Int) < 2 ^ 63 := by omega
theorem q4 {k : Nat} (hk : k ≤ 1000) :  repD [.int 0] (k : Int) = some (List.replicate (k : Int).toNat [D.int 0]).flatten := repDk ⟨q2 hk, q3 hk, q1 hk⟩
theorem q5 {k : Nat} : (List.replicate k [D.int 0]).flatten = (List.replicate k (0 : Int)).map D.int := by
    induction k with
    | zero => rfl
    | succ k ih =>
      rw [List.replicate_succ, List.replicate_succ, List.flatten_cons, ih]
      rfl
theorem q6 {k : Nat} (hk : k ≤ 1000) :  repD [.int 0] (k : Int) = some ((List.replicate k (0 : Int)).map D.int) := (q4 hk).trans (by rw [Int.toNat_natCast, q5])
theorem mulL {xs : List D} {k : Int} {ys : List D} (h : repD xs k = some ys) : mulD (.lst xs) (.int k) = some (.lst ys) := by
  show (match repD xs k with | some ys => some (D.lst ys) | none => none) = _
  rw [h]
theorem repF_E {ma mb : M} {e e1 e2 : SDs} {xs ys : List D} {k : Int} (h1 : ma e = some (.lst xs, e1)) (h2 : mb e1 = some (.int k, e2)) (h3 : repD xs k = some ys) : repF ma mb e = some (.lst ys, e2) := by
  unfold repF
  rw [h1, bnd_s, h2, bnd_s]
  show (match repD xs k with | some ys => some (OD.lst ys, e2) | none => none) = _
  rw [h3]
theorem gt_rep0 {k i : Nat} : gt (List.replicate k 0) i = 0 := by
  unfold gt
  rw [List.getD_eq_getElem?_getD, List.getElem?_replicate]
  split <;> rfl
theorem e_putD {e e1 e2 : SDs} {i p : Nat} {mi mv : M} {xs : List Int} {v : Int} (h : mv e = some (.int v, e1)) (h1 : e1[i]? = some (.own (.lst (xs.map D.int)))) (h2 : mi e1 = some (nat p, e2)) (h3 : e2[i]? = some (.own (.lst (xs.map D.int)))) (hp : p < xs.length) :
    putM i mi mv e = some (.nx (e2.set i (.own (.lst ((xs.set p v).map D.int))))) := by
  have ho : ∀ e : SDs, e[i]? = some (.own (.lst (xs.map D.int))) → ownAt e i = some (.own (.lst (xs.map D.int)), .lst (xs.map D.int)) := fun e h => by
    unfold ownAt
    rw [h]
    rfl
  have hix : ixN (xs.map D.int).length (p : Int) = some p := by
    unfold ixN
    rw [if_pos (Int.natCast_nonneg p), if_pos (by rw [List.length_map]; omega), Int.toNat_natCast]
  unfold putM
  rw [h, bnd_s, ho e1 h1]
  show (bnd (mi e1) fun j e2 => match ownAt e2 i, j with | some (x, .lst xs), .int n => (match ixN xs.length n with | some p => some (Out.nx (e2.set i (upSD x (.lst (xs.set p (.int v)))))) | none => none) | _, _ => none) = _
  rw [h2, bnd_s, ho e2 h3]
  show (match ixN (xs.map D.int).length (p : Int) with | some q => some (Out.nx (e2.set i (.own (.lst ((xs.map D.int).set q (.int v)))))) | none => none) = _
  rw [hix]
  show some (Out.nx (e2.set i (.own (.lst ((xs.map D.int).set p (.int v)))))) = _
  rw [List.map_set]
theorem eq_of_gt {xs ys : List Int} (hl : xs.length = ys.length) (h : ∀ i, i < xs.length → gt xs i = gt ys i) : xs = ys := by
  refine List.ext_getElem hl fun i h1 h2 => ?_
  have := h i h1
  unfold gt at this
  rw [List.getD_eq_getElem?_getD, List.getD_eq_getElem?_getD, List.getElem?_eq_getElem h1, List.getElem?_eq_getElem h2] at this
  exact this
theorem sm_swap {f : Nat → Nat → Int} (m : Nat) : ∀ n : Nat, sm (fun a => sm (fun b => f a b) m) n = sm (fun b => sm (fun a => f a b) n) m
  | 0 => by
    show 0 = sm (fun b => 0) m
    rw [sm_zero]
  | n + 1 => by
    show sm (fun a => sm (fun b => f a b) m) n + sm (fun b => f n b) m = sm (fun b => sm (fun a => f a b) n + f n b) m
    rw [sm_swap m n, ← sm_add]
theorem sm_all0 {f : Nat → Int} {n : Nat} (h : ∀ i, i < n → f i = 0) : sm f n = 0 := by rw [sm_congr h, sm_zero]
theorem sm_ind {x : Int} {k : Nat} : ∀ {n : Nat}, k < n → sm (fun j => if j = k then x else 0) n = x
  | 0, h => by omega
  | n + 1, h => by
    show sm (fun j => if j = k then x else 0) n + (if n = k then x else 0) = x
    by_cases c : n = k
    · rw [if_pos c, sm_all0 fun i hi => if_neg (by omega), Int.zero_add]
    · rw [if_neg c, sm_ind (by omega), Int.add_zero]
theorem tup2 {m1 m2 : M} {e e1 e2 : SDs} {x y : D} (h1 : m1 e = some (x, e1)) (h2 : m2 e1 = some (y, e2)) : tupM (consM m1 (consM m2 nilM)) e = some (.tup [x, y], e2) :=
  e_tupM (xs := [x, y]) (by rw [e_consM, h1, bnd_s, e_consM, h2]; rfl) (by show (2 : Nat) ≤ 100; decide)
theorem ixD0' {x : D} {xs : List D} : ixD (.lst (x :: xs)) (.int 0) = some x := by
  show atI (x :: xs) 0 = _
  unfold atI ixN
  rw [if_pos (by decide), if_pos (by rw [List.length_cons]; omega)]
  rfl
theorem list_gt (xs : List Int) : (List.range xs.length).map (gt xs) = xs := by
  refine List.ext_getElem (by rw [List.length_map, List.length_range]) fun i h1 h2 => ?_
  rw [List.getElem_map, List.getElem_range]
  unfold gt
  rw [List.getD_eq_getElem?_getD, List.getElem?_eq_getElem h2]
  rfl
theorem rng1N {mr : ML} {k : Nat} {e e1 : SDs} (h : mr e = some ([nat k], e1)) (hk : k ≤ 1000000) : rng1I mr e = some ((List.range k).map nat, e1) := by
  rw [e_rng1 h hk]
  have hr : rngD 0 k = (List.range k).map nat := by
    unfold rngD
    refine List.map_congr_left fun i _ => ?_
    show D.int (0 + (i : Int)) = D.int (i : Int)
    rw [Int.zero_add]
  rw [hr]
theorem modI {x : Int} {m : Nat} (h : 0 < m) : modD (.int x) (nat m) = some (.int (x % (m : Int))) := by
  show (if CNz x (m : Int) then some (D.int (x.fmod (m : Int))) else none) = _
  rw [if_pos (show CNz x (m : Int) from (by omega : (m : Int) ≠ 0)), Int.fmod_eq_emod_of_nonneg _ (by omega)]
theorem thaw_sc {m : M} {e e' : SDs} {d : D} (h : m (thaw e) = some (d, e')) (hs : scalar d = true) : scM m e = some (d, e) := by
  unfold scM
  rw [h]
  show (if scalar d then some (d, e) else none) = _
  rw [if_pos hs]
theorem lenE {k : Nat} {e : SDs} {xs : List Int} (h : varM k e = some (il xs, e)) : cbM (one lenD) (consM (varM k) nilM) e = some (nat xs.length, e) := by
  rw [e_cbM, e_consM, h]
  show rsl (lenD (il xs)) e = _
  rw [lenI]
  rfl
theorem map_il {mi : ML} {me : M} {e : SDs} {v : Nat} {x0 : SD} {xs : List Int} (h : Int → Int) (hi : mi e = some (xs.map D.int, e)) (hv : e[v]? = some x0) (hf : x0 = .nn ∨ ∃ d, x0 = .fro d) (hl : xs.length ≤ 1000)
    (hm : ∀ x ∈ xs, me (e.set v (.fro (.int x))) = some (.int (h x), e.set v (.fro (.int x)))) : frM (compF mi [v] (nameG v) yesT me) e = some (il (xs.map h), e) := by
  rw [e_frM, map_int (fun x => .int (h x)) hi hv hf hl hm]
  show some (D.lst (xs.map fun x => D.int (h x)), e) = some (D.lst ((xs.map h).map D.int), e)
  rw [List.map_map]
  rfl
theorem var_set {e : SDs} {v : Nat} {x0 : SD} {x : D} (hv : e[v]? = some x0) : varM v (e.set v (.fro x)) = some (x, e.set v (.fro x)) := by
  unfold varM
  rw [List.getElem?_set_self ((List.getElem?_eq_some_iff.mp hv).1)]
theorem enum_get {xs : List Int} {i : Nat} {x : D} (h : (enumD 0 (xs.map D.int))[i]? = some x) : i < xs.length ∧ x = .tup [nat i, .int (gt xs i)] := by
  rw [enum_at] at h
  by_cases c : i < xs.length
  · rw [List.getElem?_map, List.getElem?_range c] at h
    cases h
    exact ⟨c, by show D.tup [nat (0 + i), .int (gt xs i)] = _; rw [Nat.zero_add]⟩
  · rw [List.getElem?_eq_none (by rw [List.length_map, List.length_range]; omega)] at h
    cases h
theorem enum_l {xs : List Int} : (enumD 0 (xs.map D.int)).length = xs.length := by rw [enum_at, List.length_map, List.length_range]
section
variable {n : Nat}
theorem call1 {F : MF} {m : M} {e : SDs} {x r : D} (h : m e = some (x, e)) (hF : Ret F [x] r) : callM F (valA m nilA) e = some (r, e) := by
  have v : valA m nilA e = some ([.inl x], e) := by
    rw [e_valA, h]
    rfl
  rw [e_callM, v, bnd_s]
  exact hF.c1
theorem call2 {F : MF} {m m2 : M} {e : SDs} {x y r : D} (h : m e = some (x, e)) (h2 : m2 e = some (y, e)) (hF : Ret F [x, y] r) : callM F (valA m (valA m2 nilA)) e = some (r, e) := by
  have v : valA m (valA m2 nilA) e = some ([.inl x, .inl y], e) := by
    rw [e_valA, h, bnd_s, e_valA, h2]
    rfl
  rw [e_callM, v, bnd_s]
  exact hF.c2
theorem call3 {F : MF} {m m2 m3 : M} {e : SDs} {x y z r : D} (h : m e = some (x, e)) (h2 : m2 e = some (y, e)) (h3 : m3 e = some (z, e)) (hF : Ret F [x, y, z] r) : callM F (valA m (valA m2 (valA m3 nilA))) e = some (r, e) := by
  have v : valA m (valA m2 (valA m3 nilA)) e = some ([.inl x, .inl y, .inl z], e) := by
    rw [e_valA, h, bnd_s, e_valA, h2, bnd_s, e_valA, h3]
    rfl
  rw [e_callM, v, bnd_s]
  exact hF.c3
theorem call4 {F : MF} {m m2 m3 m4 : M} {e : SDs} {x y z u r : D} (h : m e = some (x, e)) (h2 : m2 e = some (y, e)) (h3 : m3 e = some (z, e)) (h4 : m4 e = some (u, e)) (hF : Ret F [x, y, z, u] r) : callM F (valA m (valA m2 (valA m3 (valA m4 nilA)))) e = some (r, e) := by
  have v : valA m (valA m2 (valA m3 (valA m4 nilA))) e = some ([.inl x, .inl y, .inl z, .inl u], e) := by
    rw [e_valA, h, bnd_s, e_valA, h2, bnd_s, e_valA, h3, bnd_s, e_valA, h4]
    rfl
  rw [e_callM, v, bnd_s]
  exact hF.c4
end
theorem nb0 {a : Nat} : nb a = 0 ↔ a = 0 := by
  constructor
  · intro h
    have := nb_le.mp (Nat.le_of_eq h)
    rw [Nat.pow_zero] at this
    omega
  · intro h
    subst h
    rfl
theorem nb_pos {a : Nat} (h : a ≠ 0) : 1 ≤ nb a := by
  have : nb a ≠ 0 := fun q => h (nb0.mp q)
  omega
theorem nb_top {a : Nat} (h : a ≠ 0) : 2 ^ (nb a - 1) ≤ a ∧ a < 2 ^ nb a := by
  have := nb_pos h
  exact ⟨nb_lt.mp (by omega), nb_le.mp (Nat.le_refl _)⟩
theorem nb_xle {x y m : Nat} (hx : nb x ≤ m) (hy : nb y ≤ m) : nb (x ^^^ y) ≤ m := nb_le.mpr (Nat.xor_lt_two_pow (nb_le.mp hx) (nb_le.mp hy))
theorem xx (a b : Nat) : (a ^^^ b) ^^^ b = a := by rw [Nat.xor_assoc, Nat.xor_self, Nat.xor_zero]
theorem nb1 : nb 1 = 1 := by decide +kernel
theorem x0 {a b : Nat} (h : a ^^^ b = 0) : a = b := by
  have := xx a b
  rw [h, Nat.zero_xor] at this
  exact this.symm
theorem e_eqNat {neg : Bool} {a b : Nat} : eqD neg (nat a) (nat b) = some (.bl (if neg then !(a == b) else a == b)) := by
  show eqD neg (.int (a : Int)) (.int (b : Int)) = _
  rw [e_eqI]
  have : ((a : Int) == (b : Int)) = (a == b) := by
    rw [Bool.eq_iff_iff, beq_iff_eq, beq_iff_eq]
    omega
  rw [this]
end N66

set_option Elab.async false
set_option linter.all false
set_option maxRecDepth 100000
set_option maxHeartbeats 2000000
namespace N66
open PySem PySem.Spec PyProof.Rows L2 Evl WS Mir Poly
theorem sm_split {f : Nat → Int} (a : Nat) : ∀ b, sm f (a + b) = sm f a + sm (fun i => f (a + i)) b
  | 0 => (Int.add_zero _).symm
  | b + 1 => by
    show sm f (a + b) + f (a + b) = sm f a + (sm (fun i => f (a + i)) b + f (a + b))
    rw [sm_split a b, Int.add_assoc]
/-! ### signs -/
def dt (u v : Nat) : Nat → Bool
  | 0 => false
  | k + 1 => (u.testBit k && v.testBit k) ^^ dt u v k
def sg (k u v : Nat) : Int := if dt u v k then -1 else 1
theorem dt_xor (u v x : Nat) : ∀ k, dt u (v ^^^ x) k = (dt u v k ^^ dt u x k)
  | 0 => rfl
  | k + 1 => by
    show ((u.testBit k && (v ^^^ x).testBit k) ^^ dt u (v ^^^ x) k) = (((u.testBit k && v.testBit k) ^^ dt u v k) ^^ ((u.testBit k && x.testBit k) ^^ dt u x k))
    rw [dt_xor u v x k, Nat.testBit_xor]
    cases u.testBit k <;> cases v.testBit k <;> cases x.testBit k <;> cases dt u v k <;> cases dt u x k <;> rfl
theorem sg_xor (k u v x : Nat) : sg k u (v ^^^ x) = sg k u v * sg k u x := by
  unfold sg
  rw [dt_xor]
  cases dt u v k <;> cases dt u x k <;> rfl
theorem dt_zero (u : Nat) : ∀ k, dt u 0 k = false
  | 0 => rfl
  | k + 1 => by
    show ((u.testBit k && (0 : Nat).testBit k) ^^ dt u 0 k) = false
    rw [dt_zero u k, Nat.zero_testBit]
    cases u.testBit k <;> rfl
theorem dt_high {u u' v : Nat} : ∀ k, (∀ i, i < k → u.testBit i = u'.testBit i) → dt u v k = dt u' v k
  | 0, _ => rfl
  | k + 1, h => by
    show ((u.testBit k && v.testBit k) ^^ dt u v k) = ((u'.testBit k && v.testBit k) ^^ dt u' v k)
    rw [dt_high k fun i hi => h i (by omega), h k (by omega)]
theorem dt_comm (u v : Nat) : ∀ k, dt u v k = dt v u k
  | 0 => rfl
  | k + 1 => by
    show ((u.testBit k && v.testBit k) ^^ dt u v k) = ((v.testBit k && u.testBit k) ^^ dt v u k)
    rw [dt_comm u v k, Bool.and_comm]
/-- all signs of a number but nought take one another away -/
theorem sg_sum : ∀ (k v : Nat), v < 2 ^ k → sm (fun u => sg k u v) (2 ^ k) = if v = 0 then ((2 ^ k : Nat) : Int) else 0
  | 0, v, hv => by
    obtain rfl : v = 0 := by rw [Nat.pow_zero] at hv; omega
    rfl
  | k + 1, v, hv => by
    have e1 : ∀ u, u < 2 ^ k → sg (k + 1) u v = sg k u v := fun u hu => by
      unfold sg
      show (if ((u.testBit k && v.testBit k) ^^ dt u v k) = true then _ else _) = _
      rw [Nat.testBit_lt_two_pow hu]
      simp
    have e2 : ∀ u, u < 2 ^ k → sg (k + 1) (2 ^ k + u) v = (if v.testBit k then -1 else 1) * sg k u v := fun u hu => by
      unfold sg
      show (if (((2 ^ k + u).testBit k && v.testBit k) ^^ dt (2 ^ k + u) v k) = true then _ else _) = _
      have b : (2 ^ k + u).testBit k = true := by
        rw [Nat.testBit_two_pow_add_eq, Nat.testBit_lt_two_pow hu]
        rfl
      rw [b, dt_high (u := 2 ^ k + u) (u' := u) k fun i hi => Nat.testBit_two_pow_add_gt hi u]
      cases v.testBit k <;> cases dt u v k <;> rfl
    have s : sm (fun u => sg (k + 1) u v) (2 ^ (k + 1)) = sm (fun u => sg k u v) (2 ^ k) + (if v.testBit k then -1 else 1) * sm (fun u => sg k u v) (2 ^ k) := by
      rw [show 2 ^ (k + 1) = 2 ^ k + 2 ^ k by rw [Nat.pow_succ]; omega, sm_split, sm_congr e1, sm_congr (f := fun i => sg (k + 1) (2 ^ k + i) v) e2, sm_mul]
    rw [s]
    cases hb : v.testBit k with
    | true =>
      have : v ≠ 0 := fun z => by rw [z, Nat.zero_testBit] at hb; cases hb
      rw [if_neg this, if_pos rfl]
      omega
    | false =>
      have hv2 : v < 2 ^ k := by
        refine Nat.lt_pow_two_of_testBit v fun i hi => ?_
        by_cases c : i = k
        · rw [c]; exact hb
        · exact Nat.testBit_lt_two_pow (Nat.lt_of_lt_of_le hv (Nat.pow_le_pow_right (by decide) (by omega)))
      rw [sg_sum k v hv2]
      by_cases h0 : v = 0
      · rw [if_pos h0, if_pos h0]
        rw [Nat.pow_succ]
        simp
        omega
      · rw [if_neg h0, if_neg h0]
        simp
/-! ### how many choices of places -/
section
variable (p : Nat → Nat)
def NN : Nat → Nat → Nat → Nat
  | 0, f, v => if f = 0 ∧ v = 0 then 1 else 0
  | m + 1, 0, v => NN m 0 v
  | m + 1, f + 1, v => NN m (f + 1) v + NN m f (v ^^^ p m)
/-- how many places of an odd sign -/
def od (k u : Nat) : Nat → Nat
  | 0 => 0
  | m + 1 => od k u m + if dt u (p m) k then 1 else 0
def cn (v : Nat) : Nat → Nat
  | 0 => 0
  | m + 1 => cn v m + if p m = v then 1 else 0
theorem od_le (k u : Nat) : ∀ m, od p k u m ≤ m
  | 0 => Nat.le_refl 0
  | m + 1 => by
    have := od_le k u m
    show od p k u m + (if dt u (p m) k then 1 else 0) ≤ m + 1
    split <;> omega
theorem cn_le (v : Nat) : ∀ m, cn p v m ≤ m
  | 0 => Nat.le_refl 0
  | m + 1 => by
    have := cn_le v m
    show cn p v m + (if p m = v then 1 else 0) ≤ m + 1
    split <;> omega
/-- signs of all places, by their rests -/
theorem od_sum {k : Nat} (hp : ∀ i, p i < 2 ^ k) (u : Nat) : ∀ m, sm (fun v => sg k u v * ((cn p v m : Nat) : Int)) (2 ^ k) = (m : Int) - 2 * (od p k u m : Nat)
  | 0 => by
    rw [sm_all0 fun i _ => by show _ * ((0 : Nat) : Int) = 0; simp]
    rfl
  | m + 1 => by
    have e : ∀ v, v < 2 ^ k → sg k u v * ((cn p v (m + 1) : Nat) : Int) = sg k u v * ((cn p v m : Nat) : Int) + (if v = p m then sg k u (p m) else 0) := fun v _ => by
      show sg k u v * ((cn p v m + (if p m = v then 1 else 0) : Nat) : Int) = _
      by_cases c : p m = v
      · rw [if_pos c, if_pos c.symm, c, Int.natCast_add, Int.mul_add]
        simp
      · rw [if_neg c, if_neg fun z => c z.symm, Int.add_zero, Nat.add_zero]
    rw [sm_congr e, sm_add, od_sum hp u m, sm_ind (hp m)]
    show _ + sg k u (p m) = ((m + 1 : Nat) : Int) - 2 * ((od p k u m + (if dt u (p m) k then 1 else 0) : Nat) : Int)
    unfold sg
    split <;> omega
end
/-! ### choices -/
def CC : Nat → Nat → Nat
  | _, 0 => 1
  | 0, _ + 1 => 0
  | a + 1, t + 1 => CC a t + CC a (t + 1)
theorem C0 (a : Nat) : CC a 0 = 1 := by cases a <;> rfl
theorem CS (a t : Nat) : CC (a + 1) (t + 1) = CC a t + CC a (t + 1) := rfl
def s1 (t : Nat) : Int := if t % 2 = 1 then -1 else 1
theorem s1_s (t : Nat) : s1 (t + 1) = -s1 t := by
  unfold s1
  rcases Nat.mod_two_eq_zero_or_one t with h | h
  · rw [h, show (t + 1) % 2 = 1 by omega]
    rfl
  · rw [h, show (t + 1) % 2 = 0 by omega]
    rfl
def Kr (f a b : Nat) : Int := sm (fun t => s1 t * (CC a t : Int) * (CC b (f - t) : Int)) (f + 1)
theorem Kr0 (a b : Nat) : Kr 0 a b = 1 := by
  show 0 + s1 0 * (CC a 0 : Int) * (CC b 0 : Int) = 1
  rw [C0, C0]
  rfl
theorem Kr_b (f a b : Nat) : Kr (f + 1) a (b + 1) = Kr (f + 1) a b + Kr f a b := by
  show sm _ (f + 1) + s1 (f + 1) * (CC a (f + 1) : Int) * (CC (b + 1) (f + 1 - (f + 1)) : Int) = sm _ (f + 1) + s1 (f + 1) * (CC a (f + 1) : Int) * (CC b (f + 1 - (f + 1)) : Int) + Kr f a b
  have e : ∀ t, t < f + 1 → s1 t * (CC a t : Int) * (CC (b + 1) (f + 1 - t) : Int) = s1 t * (CC a t : Int) * (CC b (f + 1 - t) : Int) + s1 t * (CC a t : Int) * (CC b (f - t) : Int) := fun t ht => by
    rw [show f + 1 - t = (f - t) + 1 by omega, CS, Int.natCast_add, Int.mul_add, Int.add_comm]
  rw [sm_congr e, sm_add, Nat.sub_self, C0, C0]
  unfold Kr
  omega
theorem Kr_a (f a b : Nat) : Kr (f + 1) (a + 1) b = Kr (f + 1) a b - Kr f a b := by
  unfold Kr
  rw [sm_front, sm_front (f := fun t => s1 t * (CC a t : Int) * (CC b (f + 1 - t) : Int))]
  have e : ∀ t, t < f + 1 → s1 (t + 1) * (CC (a + 1) (t + 1) : Int) * (CC b (f + 1 - (t + 1)) : Int) = s1 (t + 1) * (CC a (t + 1) : Int) * (CC b (f + 1 - (t + 1)) : Int) + (-1) * (s1 t * (CC a t : Int) * (CC b (f - t) : Int)) := fun t ht => by
    rw [CS, Int.natCast_add, Int.mul_add, Int.add_mul, Int.add_comm, s1_s, show f + 1 - (t + 1) = f - t by omega]
    congr 1
    rw [Int.neg_mul, Int.neg_mul, Int.neg_mul, Int.one_mul]
  rw [sm_congr e, sm_add, sm_mul, C0, C0]
  omega
/-- what is chosen, by signs -/
theorem NN_sum {p : Nat → Nat} {k : Nat} (hp : ∀ i, p i < 2 ^ k) : ∀ (m f v : Nat), v < 2 ^ k → ((2 ^ k : Nat) : Int) * (NN p m f v : Nat) = sm (fun u => sg k u v * Kr f (od p k u m) (m - od p k u m)) (2 ^ k)
  | 0, 0, v, hv => by
    have : ∀ u, u < 2 ^ k → sg k u v * Kr 0 (od p k u 0) (0 - od p k u 0) = sg k u v := fun u _ => by rw [Kr0, Int.mul_one]
    rw [sm_congr this, sg_sum k v hv]
    show _ * ((if 0 = 0 ∧ v = 0 then 1 else 0 : Nat) : Int) = _
    by_cases c : v = 0
    · rw [if_pos ⟨rfl, c⟩, if_pos c]
      simp
    · rw [if_neg fun z => c z.2, if_neg c]
      simp
  | 0, f + 1, v, hv => by
    have : ∀ u, u < 2 ^ k → sg k u v * Kr (f + 1) (od p k u 0) (0 - od p k u 0) = 0 := fun u _ => by
      have z : Kr (f + 1) 0 0 = 0 := by
        unfold Kr
        refine sm_all0 fun t ht => ?_
        by_cases c : t = 0
        · subst c
          rw [show f + 1 - 0 = f + 1 from rfl, show CC 0 (f + 1) = 0 from rfl]
          simp
        · obtain ⟨t', rfl⟩ := Nat.exists_eq_succ_of_ne_zero c
          rw [show CC 0 (t' + 1) = 0 from rfl]
          simp
      show sg k u v * Kr (f + 1) 0 0 = 0
      rw [z, Int.mul_zero]
    rw [sm_all0 this]
    show _ * ((if f + 1 = 0 ∧ v = 0 then 1 else 0 : Nat) : Int) = _
    rw [if_neg fun z => absurd z.1 (by omega)]
    simp
  | m + 1, 0, v, hv => by
    have ih := NN_sum hp m 0 v hv
    show ((2 ^ k : Nat) : Int) * (NN p m 0 v : Nat) = _
    rw [ih]
    exact sm_congr fun u _ => by rw [Kr0, Kr0]
  | m + 1, f + 1, v, hv => by
    have i1 := NN_sum hp m (f + 1) v hv
    have i2 := NN_sum hp m f (v ^^^ p m) (Nat.xor_lt_two_pow hv (hp m))
    show ((2 ^ k : Nat) : Int) * ((NN p m (f + 1) v + NN p m f (v ^^^ p m) : Nat) : Int) = _
    rw [Int.natCast_add, Int.mul_add, i1, i2, ← sm_add]
    refine sm_congr fun u _ => ?_
    have ol := od_le p k u m
    rw [sg_xor, Int.mul_assoc, ← Int.mul_add]
    congr 1
    show _ = Kr (f + 1) (od p k u m + (if dt u (p m) k then 1 else 0)) (m + 1 - (od p k u m + (if dt u (p m) k then 1 else 0)))
    unfold sg
    by_cases c : dt u (p m) k = true
    · rw [if_pos c, if_pos c, show m + 1 - (od p k u m + 1) = m - od p k u m by omega, Kr_a]
      omega
    · rw [if_neg c, if_neg c]
      show _ = Kr (f + 1) (od p k u m) (m + 1 - od p k u m)
      rw [show m + 1 - od p k u m = m - od p k u m + 1 by omega, Kr_b]
      omega
end N66

set_option Elab.async false
set_option linter.all false
set_option maxRecDepth 100000
set_option maxHeartbeats 2000000
namespace N66
open PySem PySem.Spec PyProof.Rows L2 Evl WS Mir Poly
/-! ### powers of x come back -/
theorem php : ∀ (N : Nat) (f : Nat → Nat), (∀ i, i ≤ N → f i < N) → ∃ i j, i < j ∧ j ≤ N ∧ f i = f j
  | 0, f, h => absurd (h 0 (Nat.le_refl 0)) (Nat.not_lt_zero _)
  | N + 1, f, h => by
    rcases Classical.em (∃ i, i ≤ N ∧ f i = f (N + 1)) with ⟨i, h1, h2⟩ | c
    · exact ⟨i, N + 1, by omega, Nat.le_refl _, h2⟩
    · have ne : ∀ i, i ≤ N → f i ≠ f (N + 1) := fun i hi e => c ⟨i, hi, e⟩
      obtain ⟨i, j, h1, h2, h3⟩ := php N (fun i => if f i = N then f (N + 1) else f i) fun i hi => by
        have a := h i (by omega)
        have b := h (N + 1) (Nat.le_refl _)
        have d := ne i hi
        show (if f i = N then f (N + 1) else f i) < N
        split <;> omega
      refine ⟨i, j, h1, by omega, ?_⟩
      have di := ne i (by omega)
      have dj := ne j h2
      have h3 : (if f i = N then f (N + 1) else f i) = (if f j = N then f (N + 1) else f j) := h3
      split at h3 <;> split at h3 <;> omega
theorem least {Q : Nat → Prop} : ∀ n, Q n → ∃ m, m ≤ n ∧ Q m ∧ ∀ j, j < m → ¬ Q j := by
  intro n
  induction n using Nat.strongRecOn with
  | ind n ih =>
    intro h
    rcases Classical.em (∃ j, j < n ∧ Q j) with ⟨j, h1, h2⟩ | c
    · obtain ⟨m, a, b, d⟩ := ih j h1 h2
      exact ⟨m, by omega, b, d⟩
    · exact ⟨n, Nat.le_refl _, h, fun j hj hq => c ⟨j, hj, hq⟩⟩
def pp (w g i : Nat) : Nat := R w g (2 ^ i)
structure Od (w g T : Nat) : Prop where
  t1 : 1 ≤ T
  tw : T ≤ 2 ^ w
  one : pp w g T = 1
  mn : ∀ j, 1 ≤ j → j < T → pp w g j ≠ 1
section
variable {w g T i j : Nat}
theorem pp_lt (k : Ok w g) (i : Nat) : pp w g i < 2 ^ w := R_lt k _
theorem pp0 (k : Ok w g) : pp w g 0 = 1 := R_small k 1 (one_lt k)
theorem pp_s (k : Ok w g) (i : Nat) : pp w g (i + 1) = red w g (2 * pp w g i) := by unfold pp; rw [Nat.pow_succ, Nat.mul_comm, R_dbl k]
theorem pp_small (k : Ok w g) (h : i < w) : pp w g i = 2 ^ i := R_small k _ (Nat.pow_lt_pow_right (by decide) h)
theorem red_inj (ho : g % 2 = 1) {x y : Nat} (h : red w g (2 * x) = red w g (2 * y)) : x = y := by
  have od : ∀ z, (2 * z ^^^ g) % 2 = 1 := fun z => by
    rw [(xor_div2 _ _).2, ho, show 2 * z % 2 = 0 by omega]
    rfl
  unfold red at h
  split at h <;> split at h
  · omega
  · have := od y
    omega
  · have := od x
    omega
  · have := congrArg (fun z => z ^^^ g) h
    have this : (2 * x ^^^ g) ^^^ g = (2 * y ^^^ g) ^^^ g := this
    rw [xx, xx] at this
    omega
theorem pp_cancel (k : Ok w g) (ho : g % 2 = 1) (d : Nat) : ∀ i, pp w g i = pp w g (i + d) → pp w g d = 1
  | 0, h => by
    rw [pp0 k, Nat.zero_add] at h
    exact h.symm
  | i + 1, h => by
    rw [show i + 1 + d = (i + d) + 1 by omega, pp_s k, pp_s k] at h
    exact pp_cancel k ho d i (red_inj ho h)
theorem od_ex (k : Ok w g) (ho : g % 2 = 1) : ∃ T, Od w g T := by
  obtain ⟨i, j, h1, h2, h3⟩ := php (2 ^ w) (pp w g) fun i _ => pp_lt k i
  have e : pp w g (j - i) = 1 := pp_cancel k ho (j - i) i (by rw [show i + (j - i) = j by omega]; exact h3)
  obtain ⟨T, a, b, d⟩ := least (Q := fun m => 1 ≤ m ∧ pp w g m = 1) (j - i) ⟨by omega, e⟩
  exact ⟨T, b.1, by omega, b.2, fun m m1 m2 m3 => d m m2 ⟨m1, m3⟩⟩
theorem pp_add (k : Ok w g) (o : Od w g T) (i : Nat) : pp w g (i + T) = pp w g i := by
  unfold pp
  have := R_sh k (a := 2 ^ T) (b := 1) (by rw [show R w g (2 ^ T) = 1 from o.one]; exact (pp0 k).symm) i
  rw [Nat.one_mul] at this
  rw [Nat.pow_add, Nat.mul_comm]
  exact this
theorem pp_mul (k : Ok w g) (o : Od w g T) (i : Nat) : ∀ q, pp w g (i + T * q) = pp w g i
  | 0 => by rw [Nat.mul_zero, Nat.add_zero]
  | q + 1 => by rw [Nat.mul_succ, ← Nat.add_assoc, pp_add k o, pp_mul k o i q]
theorem pp_mod (k : Ok w g) (o : Od w g T) (i : Nat) : pp w g i = pp w g (i % T) := by
  have := pp_mul k o (i % T) (i / T)
  rw [Nat.mod_add_div] at this
  exact this
theorem pp_iff (k : Ok w g) (ho : g % 2 = 1) (o : Od w g T) : pp w g i = pp w g j ↔ i % T = j % T := by
  constructor
  · intro h
    rw [pp_mod k o i, pp_mod k o j] at h
    have ai := Nat.mod_lt i o.t1
    have aj := Nat.mod_lt j o.t1
    rcases Nat.lt_trichotomy (i % T) (j % T) with c | c | c
    · exact absurd (pp_cancel k ho (j % T - i % T) (i % T) (by rw [show i % T + (j % T - i % T) = j % T by omega]; exact h)) (o.mn _ (by omega) (by omega))
    · exact c
    · exact absurd (pp_cancel k ho (i % T - j % T) (j % T) (by rw [show j % T + (i % T - j % T) = i % T by omega]; exact h.symm)) (o.mn _ (by omega) (by omega))
  · intro h
    rw [pp_mod k o i, pp_mod k o j, h]
theorem succ_div (x : Nat) (hT : 0 < T) : (x + 1) / T = x / T + if (x + 1) % T = 0 then 1 else 0 := by
  have e := Nat.div_add_mod x T
  have l := Nat.mod_lt x hT
  generalize x / T = q at e ⊢
  generalize x % T = r at e l
  subst e
  by_cases c : r + 1 = T
  · have e : T * q + r + 1 = T * (q + 1) := by rw [Nat.mul_succ]; omega
    rw [e, Nat.mul_div_cancel_left _ hT, Nat.mul_mod_right, if_pos rfl]
  · rw [Nat.add_assoc, Nat.mul_add_div hT, Nat.mul_add_mod, Nat.div_eq_of_lt (show r + 1 < T by omega), Nat.mod_eq_of_lt (show r + 1 < T by omega), if_neg (by omega)]
theorem back_iff (hj : j < T) (m : Nat) : (m + (T - 1 - j) + 1) % T = 0 ↔ m % T = j := by
  have hT : 0 < T := by omega
  have e := Nat.div_add_mod m T
  have l := Nat.mod_lt m hT
  generalize m / T = q at e
  generalize m % T = r at e l ⊢
  subst e
  rw [show T * q + r + (T - 1 - j) + 1 = T * q + (r + (T - 1 - j) + 1) by omega, Nat.mul_add_mod]
  rcases Nat.lt_trichotomy r j with c | c | c
  · rw [Nat.mod_eq_of_lt (by omega)]
    omega
  · rw [show r + (T - 1 - j) + 1 = T by omega, Nat.mod_self]
    omega
  · rw [show r + (T - 1 - j) + 1 = T * 1 + (r - j) by omega, Nat.mul_add_mod, Nat.mod_eq_of_lt (by omega)]
    omega
/-- how often a rest comes -/
theorem cn_at (k : Ok w g) (ho : g % 2 = 1) (o : Od w g T) (hj : j < T) : ∀ m, cn (pp w g) (pp w g j) m = (m + (T - 1 - j)) / T
  | 0 => by
    show 0 = _
    rw [Nat.div_eq_of_lt (by omega)]
  | m + 1 => by
    show cn (pp w g) (pp w g j) m + (if pp w g m = pp w g j then 1 else 0) = _
    rw [cn_at k ho o hj m, show m + 1 + (T - 1 - j) = m + (T - 1 - j) + 1 by omega, succ_div _ o.t1]
    have : pp w g m = pp w g j ↔ (m + (T - 1 - j) + 1) % T = 0 := by rw [pp_iff k ho o, back_iff hj, Nat.mod_eq_of_lt hj]
    by_cases c : pp w g m = pp w g j
    · rw [if_pos c, if_pos (this.mp c)]
    · rw [if_neg c, if_neg fun z => c (this.mpr z)]
theorem cn_no {p : Nat → Nat} {v : Nat} (h : ∀ i, p i ≠ v) : ∀ m, cn p v m = 0
  | 0 => rfl
  | m + 1 => by
    show cn p v m + (if p m = v then 1 else 0) = 0
    rw [cn_no h m, if_neg (h m)]
end
/-! ### choices, reckoned -/
def FF (a : Nat) : Nat → Int
  | 0 => 1
  | k + 1 => FF a k * ((a : Int) - (k : Int))
theorem fall_FF (a : Nat) : ∀ k, Builtin.Math.fallingProduct (a : Int) k = FF a k
  | 0 => rfl
  | k + 1 => by
    have ih := fall_FF a k
    unfold Builtin.Math.fallingProduct at ih ⊢
    rw [List.range_succ, List.foldl_append, ih]
    rfl
theorem FF_s (a : Nat) : ∀ k, FF (a + 1) (k + 1) = ((a : Int) + 1) * FF a k
  | 0 => by
    show 1 * (((a + 1 : Nat) : Int) - ((0 : Nat) : Int)) = ((a : Int) + 1) * 1
    omega
  | k + 1 => by
    show FF (a + 1) (k + 1) * (((a + 1 : Nat) : Int) - ((k + 1 : Nat) : Int)) = ((a : Int) + 1) * (FF a k * ((a : Int) - (k : Int)))
    rw [FF_s a k, Int.mul_assoc, show ((a + 1 : Nat) : Int) - ((k + 1 : Nat) : Int) = (a : Int) - (k : Int) by omega]
theorem FF_00 : ∀ k, FF 0 (k + 1) = 0
  | 0 => rfl
  | k + 1 => by
    show FF 0 (k + 1) * _ = 0
    rw [FF_00 k, Int.zero_mul]
theorem CC_FF : ∀ (a k : Nat), (CC a k : Int) * FF k k = FF a k
  | a, 0 => by rw [C0]; rfl
  | 0, k + 1 => by
    rw [FF_00]
    show ((0 : Nat) : Int) * _ = 0
    simp
  | a + 1, k + 1 => by
    have h1 := CC_FF a k
    have h2 := CC_FF a (k + 1)
    rw [CS, Int.natCast_add, Int.add_mul, h2, FF_s a k, FF_s k k, Int.mul_left_comm, h1]
    show ((k : Int) + 1) * FF a k + FF a k * ((a : Int) - (k : Int)) = ((a : Int) + 1) * FF a k
    rw [Int.mul_comm (FF a k), ← Int.add_mul]
    congr 1
    omega
theorem FF_pos : ∀ k, 0 < FF k k
  | 0 => by decide
  | k + 1 => by
    rw [FF_s k k]
    exact Int.mul_pos (by omega) (FF_pos k)
theorem CC_zero : ∀ (a k : Nat), a < k → CC a k = 0
  | _, 0, h => absurd h (Nat.not_lt_zero _)
  | 0, k + 1, _ => rfl
  | a + 1, k + 1, h => by rw [CS, CC_zero a k (by omega), CC_zero a (k + 1) (by omega)]
theorem CC_self : ∀ a, CC a a = 1
  | 0 => rfl
  | a + 1 => by rw [CS, CC_self a, CC_zero a (a + 1) (by omega)]
theorem CC_symm : ∀ (n a b : Nat), a + b = n → CC n a = CC n b
  | n, 0, b, h => by
    obtain rfl : b = n := by omega
    rw [C0, CC_self]
  | n, a + 1, 0, h => by
    obtain rfl : a + 1 = n := by omega
    rw [C0, CC_self]
  | n + 1, a + 1, b + 1, h => by
    rw [CS, CS, CC_symm n a (b + 1) (by omega), CC_symm n (a + 1) b (by omega), Nat.add_comm]
theorem fall_div (a k : Nat) : Builtin.Math.fallingProduct (a : Int) k / Builtin.Math.fallingProduct (k : Int) k = (CC a k : Int) := by
  rw [fall_FF, fall_FF, ← CC_FF a k]
  exact Int.mul_ediv_cancel _ (by have := FF_pos k; omega)
theorem comb_CC (a b : Nat) : PySem.W.mcComb (a : Int) (b : Int) = (CC a b : Int) := by
  unfold PySem.W.mcComb
  by_cases h : a < b
  · rw [if_pos (by omega), CC_zero a b h]
    rfl
  · rw [if_neg (by omega)]
    by_cases c : b ≤ a - b
    · have e : min (b : Int) ((a : Int) - (b : Int)) = ((b : Nat) : Int) := by omega
      rw [e, Int.toNat_natCast, fall_div]
    · have e : min (b : Int) ((a : Int) - (b : Int)) = ((a - b : Nat) : Int) := by omega
      rw [e, Int.toNat_natCast, fall_div, CC_symm a b (a - b) (by omega)]
theorem combN {a b : Nat} (ha : a < 18446744073709551616) (hb : b ≤ 9000) : combD (nat a) (nat b) = some (nat (CC a b)) := by
  show (if 0 ≤ (a : Int) ∧ 0 ≤ (b : Int) ∧ (a : Int) < 18446744073709551616 ∧ ((b : Int) ≤ 9000 ∨ (a : Int) ≤ 18000) then some (D.int (PySem.W.mcComb (a : Int) (b : Int))) else none) = _
  rw [if_pos ⟨by omega, by omega, by omega, .inl (by omega)⟩, comb_CC]
  rfl
theorem CC_le : ∀ (a b : Nat), CC a b ≤ (a + 1) ^ b
  | a, 0 => by rw [C0]; exact Nat.one_le_two_pow (n := 0)
  | 0, b + 1 => Nat.zero_le _
  | a + 1, b + 1 => by
    have h1 := CC_le a b
    have h2 := CC_le a (b + 1)
    have m : (a + 1) ^ b ≤ (a + 2) ^ b := Nat.pow_le_pow_left (by omega) b
    rw [CS]
    rw [Nat.pow_succ] at h2 ⊢
    have : (a + 1) ^ b * (a + 1) ≤ (a + 2) ^ b * (a + 1) := Nat.mul_le_mul_right _ m
    rw [show a + 1 + 1 = a + 2 from rfl, show (a + 2) ^ b * (a + 2) = (a + 2) ^ b * (a + 1) + (a + 2) ^ b by rw [Nat.mul_succ (n := (a + 2) ^ b)]]
    omega
end N66

set_option Elab.async false
set_option linter.all false
set_option maxRecDepth 100000
set_option maxHeartbeats 2000000
namespace N66
open PySem PySem.Spec PyProof.Rows L2 Evl WS Mir Poly
def ZZ (p : Nat → Nat) (t c : Int) : Nat → Nat → Int
  | 0, v => if v = 0 then 1 else 0
  | m + 1, v => c * ZZ p t c m v + t * ZZ p t c m (v ^^^ p m)
section
variable {p : Nat → Nat} {t c : Int} {k : Nat}
theorem ZZ_sum (hp : ∀ i, p i < 2 ^ k) : ∀ (m v : Nat), v < 2 ^ k → ((2 ^ k : Nat) : Int) * ZZ p t c m v = sm (fun u => sg k u v * ((c - t) ^ od p k u m * (c + t) ^ (m - od p k u m))) (2 ^ k)
  | 0, v, hv => by
    have : ∀ u, u < 2 ^ k → sg k u v * ((c - t) ^ od p k u 0 * (c + t) ^ (0 - od p k u 0)) = sg k u v := fun u _ => by
      show sg k u v * ((c - t) ^ 0 * (c + t) ^ 0) = _
      rw [Int.pow_zero, Int.pow_zero, Int.mul_one, Int.mul_one]
    rw [sm_congr this, sg_sum k v hv]
    show _ * (if v = 0 then 1 else 0 : Int) = _
    split
    · rw [Int.mul_one]
    · rw [Int.mul_zero]
  | m + 1, v, hv => by
    have i1 := ZZ_sum hp m v hv
    have i2 := ZZ_sum hp m (v ^^^ p m) (Nat.xor_lt_two_pow hv (hp m))
    show _ * (c * ZZ p t c m v + t * ZZ p t c m (v ^^^ p m)) = _
    rw [Int.mul_add, Int.mul_left_comm, i1, Int.mul_left_comm _ t, i2, ← sm_mul, ← sm_mul, ← sm_add]
    refine sm_congr fun u _ => ?_
    have ol := od_le p k u m
    rw [sg_xor]
    show _ = sg k u v * ((c - t) ^ (od p k u m + (if dt u (p m) k then 1 else 0)) * (c + t) ^ (m + 1 - (od p k u m + (if dt u (p m) k then 1 else 0))))
    generalize sg k u v = s
    unfold sg
    by_cases h : dt u (p m) k = true
    · rw [if_pos h, if_pos h, show m + 1 - (od p k u m + 1) = m - od p k u m by omega, Int.pow_succ]
      generalize (c - t) ^ od p k u m = X
      generalize (c + t) ^ (m - od p k u m) = Y
      rw [show X * (c - t) * Y = (c - t) * (X * Y) by rw [Int.mul_comm X, Int.mul_assoc]]
      generalize X * Y = Z
      rw [show s * -1 * Z = -(s * Z) by rw [Int.mul_neg_one, Int.neg_mul], Int.mul_left_comm s, Int.sub_mul]
      generalize s * Z = Q
      rw [Int.mul_neg]
      omega
    · rw [if_neg h, if_neg h]
      show _ = s * ((c - t) ^ od p k u m * (c + t) ^ (m + 1 - od p k u m))
      rw [show m + 1 - od p k u m = (m - od p k u m) + 1 by omega, Int.pow_succ]
      generalize (c - t) ^ od p k u m = X
      generalize (c + t) ^ (m - od p k u m) = Y
      rw [show X * (Y * (c + t)) = (c + t) * (X * Y) by rw [← Int.mul_assoc, Int.mul_comm]]
      generalize X * Y = Z
      rw [Int.mul_one, Int.mul_left_comm s, Int.add_mul]
theorem NN_zero : ∀ (m f v : Nat), m < f → NN p m f v = 0
  | _, 0, _, h => absurd h (Nat.not_lt_zero _)
  | 0, f + 1, v, _ => if_neg fun z => absurd z.1 (by omega)
  | m + 1, f + 1, v, h => by
    show NN p m (f + 1) v + NN p m f (v ^^^ p m) = 0
    rw [NN_zero m (f + 1) v (by omega), NN_zero m f _ (by omega)]
theorem NN_0 : ∀ (m v : Nat), NN p m 0 v = if v = 0 then 1 else 0
  | 0, v => by
    show (if 0 = 0 ∧ v = 0 then 1 else 0) = _
    by_cases h : v = 0
    · rw [if_pos ⟨rfl, h⟩, if_pos h]
    · rw [if_neg fun z => h z.2, if_neg h]
  | m + 1, v => NN_0 m v
theorem NN_1 : ∀ (m v : Nat), NN p m 1 v = cn p v m
  | 0, v => if_neg fun z => absurd z.1 (by omega)
  | m + 1, v => by
    show NN p m 1 v + NN p m 0 (v ^^^ p m) = cn p v m + _
    rw [NN_1 m v, NN_0]
    congr 1
    by_cases h : p m = v
    · rw [if_pos h, if_pos (by rw [h, Nat.xor_self])]
    · rw [if_neg h, if_neg fun z => h (x0 z).symm]
/-- weighed choices, by how many are taken -/
theorem ZZ_NN : ∀ (m v : Nat), ZZ p t c m v = sm (fun f => (NN p m f v : Int) * (t ^ f * c ^ (m - f))) (m + 1)
  | 0, v => by
    show (if v = 0 then 1 else 0 : Int) = 0 + ((if 0 = 0 ∧ v = 0 then 1 else 0 : Nat) : Int) * (t ^ 0 * c ^ 0)
    rw [Int.pow_zero, Int.pow_zero]
    by_cases h : v = 0
    · rw [if_pos h, if_pos ⟨rfl, h⟩]
      rfl
    · rw [if_neg h, if_neg fun z => h z.2]
      rfl
  | m + 1, v => by
    show c * ZZ p t c m v + t * ZZ p t c m (v ^^^ p m) = _
    rw [ZZ_NN m v, ZZ_NN m (v ^^^ p m), ← sm_mul, ← sm_mul]
    have e1 : sm (fun f => c * ((NN p m f v : Int) * (t ^ f * c ^ (m - f)))) (m + 1) = sm (fun f => (NN p m f v : Int) * (t ^ f * c ^ (m + 1 - f))) (m + 1 + 1) := by
      show _ = sm _ (m + 1) + (NN p m (m + 1) v : Int) * _
      rw [NN_zero m (m + 1) v (by omega)]
      simp only [Int.natCast_zero, Int.zero_mul, Int.add_zero]
      refine sm_congr fun f hf => ?_
      rw [show m + 1 - f = (m - f) + 1 by omega, Int.pow_succ, Int.mul_left_comm]
      congr 1
      rw [← Int.mul_assoc, Int.mul_comm c]
      rw [Int.mul_assoc, Int.mul_comm c (c ^ (m - f))]
    rw [e1, sm_front, sm_front (f := fun f => (NN p (m + 1) f v : Int) * (t ^ f * c ^ (m + 1 - f)))]
    have e2 : ∀ f, f < m + 1 → (NN p (m + 1) (f + 1) v : Int) * (t ^ (f + 1) * c ^ (m + 1 - (f + 1))) = (NN p m (f + 1) v : Int) * (t ^ (f + 1) * c ^ (m + 1 - (f + 1))) + t * ((NN p m f (v ^^^ p m) : Int) * (t ^ f * c ^ (m - f))) := fun f hf => by
      show ((NN p m (f + 1) v + NN p m f (v ^^^ p m) : Nat) : Int) * _ = _
      rw [Int.natCast_add, Int.add_mul]
      congr 1
      rw [show m + 1 - (f + 1) = m - f by omega, Int.pow_succ, Int.mul_left_comm t]
      congr 1
      rw [Int.mul_comm (t ^ f), Int.mul_assoc]
    rw [sm_congr e2, sm_add]
    show _ = (NN p m 0 v : Int) * _ + _
    omega
end
/-! ### all choices -/
section
variable {w g : Nat}
theorem ZZ_low (k : Ok w g) : ∀ m, m ≤ w → ∀ v, ZZ (pp w g) 1 1 m v = if v < 2 ^ m then 1 else 0
  | 0, _, v => by
    show (if v = 0 then 1 else 0 : Int) = _
    by_cases h : v = 0
    · rw [if_pos h, if_pos (by rw [h]; decide)]
    · rw [if_neg h, if_neg (by rw [Nat.pow_zero]; omega)]
  | m + 1, hm, v => by
    show 1 * ZZ (pp w g) 1 1 m v + 1 * ZZ (pp w g) 1 1 m (v ^^^ pp w g m) = _
    rw [ZZ_low k m (by omega), ZZ_low k m (by omega), pp_small k (by omega), Nat.pow_succ]
    have up : ∀ y, y < 2 ^ m → y ^^^ 2 ^ m = 2 ^ m + y := fun y hy => by
      have := add_xor 1 m y hy
      rw [Nat.one_mul] at this
      rw [this, Nat.xor_comm]
    by_cases h1 : v < 2 ^ m
    · rw [if_pos h1, up v h1, if_neg (by omega), if_pos (by omega)]
      rfl
    · rw [if_neg h1]
      by_cases h2 : v < 2 ^ m * 2
      · have e := up (v - 2 ^ m) (by omega)
        rw [show 2 ^ m + (v - 2 ^ m) = v by omega] at e
        have : v ^^^ 2 ^ m = v - 2 ^ m := by
          generalize v - 2 ^ m = y at e ⊢
          rw [← e, xx]
        rw [this, if_pos (by omega), if_pos h2]
        rfl
      · have : ¬ v ^^^ 2 ^ m < 2 ^ m := fun z => by
          have := up _ z
          rw [xx] at this
          omega
        rw [if_neg this, if_neg h2]
        rfl
theorem ZZ_all (k : Ok w g) : ∀ j v, v < 2 ^ w → ZZ (pp w g) 1 1 (w + j) v = ((2 ^ j : Nat) : Int)
  | 0, v, hv => by
    rw [Nat.add_zero, ZZ_low k w (Nat.le_refl _), if_pos hv]
    rfl
  | j + 1, v, hv => by
    show 1 * ZZ (pp w g) 1 1 (w + j) v + 1 * ZZ (pp w g) 1 1 (w + j) (v ^^^ pp w g (w + j)) = _
    rw [ZZ_all k j v hv, ZZ_all k j _ (Nat.xor_lt_two_pow hv (pp_lt k _)), Nat.pow_succ]
    omega
/-! ### numbers, by their ones -/
def pcb (x : Nat) : Nat → Nat
  | 0 => 0
  | m + 1 => pcb x m + if x.testBit m then 1 else 0
def cx (Q : Nat → Bool) : Nat → Nat
  | 0 => 0
  | N + 1 => cx Q N + if Q N then 1 else 0
theorem cx_split (Q : Nat → Bool) (a : Nat) : ∀ b, cx Q (a + b) = cx Q a + cx (fun i => Q (a + i)) b
  | 0 => rfl
  | b + 1 => by
    show cx Q (a + b) + _ = cx Q a + (cx (fun i => Q (a + i)) b + _)
    rw [cx_split Q a b, Nat.add_assoc]
    rfl
theorem cx_congr {Q S : Nat → Bool} : ∀ {N : Nat}, (∀ i, i < N → Q i = S i) → cx Q N = cx S N
  | 0, _ => rfl
  | N + 1, h => by
    show cx Q N + _ = cx S N + _
    rw [cx_congr fun i hi => h i (by omega), h N (by omega)]
theorem cx_no {Q : Nat → Bool} : ∀ {N : Nat}, (∀ i, i < N → Q i = false) → cx Q N = 0
  | 0, _ => rfl
  | N + 1, h => by
    show cx Q N + (if Q N then 1 else 0) = 0
    rw [cx_no fun i hi => h i (by omega), h N (by omega)]
    rfl
theorem pcb_high {x y : Nat} : ∀ m, (∀ i, i < m → x.testBit i = y.testBit i) → pcb x m = pcb y m
  | 0, _ => rfl
  | m + 1, h => by
    show pcb x m + _ = pcb y m + _
    rw [pcb_high m fun i hi => h i (by omega), h m (by omega)]
theorem NN_cx (k : Ok w g) : ∀ (m f v : Nat), cx (fun x => R w g x == v && pcb x m == f) (2 ^ m) = NN (pp w g) m f v
  | 0, f, v => by
    show 0 + (if (R w g 0 == v && (0 : Nat) == f) = true then 1 else 0) = if f = 0 ∧ v = 0 then 1 else 0
    rw [R0, Nat.zero_add]
    by_cases h : f = 0 ∧ v = 0
    · rw [if_pos h, h.1, h.2]
      rfl
    · rw [if_neg h, if_neg]
      rw [Bool.and_eq_true, beq_iff_eq, beq_iff_eq]
      exact fun z => h ⟨z.2.symm, z.1.symm⟩
  | m + 1, f, v => by
    have lo : ∀ x, x < 2 ^ m → pcb x (m + 1) = pcb x m := fun x hx => by
      show pcb x m + (if x.testBit m then 1 else 0) = _
      rw [Nat.testBit_lt_two_pow hx]
      rfl
    have hi : ∀ x, x < 2 ^ m → pcb (2 ^ m + x) (m + 1) = pcb x m + 1 := fun x hx => by
      show pcb (2 ^ m + x) m + (if (2 ^ m + x).testBit m then 1 else 0) = _
      rw [Nat.testBit_two_pow_add_eq, Nat.testBit_lt_two_pow hx, pcb_high (x := 2 ^ m + x) (y := x) m fun i hi => Nat.testBit_two_pow_add_gt hi x]
      rfl
    have rx : ∀ x, x < 2 ^ m → R w g (2 ^ m + x) = pp w g m ^^^ R w g x := fun x hx => by
      have := add_xor 1 m x hx
      rw [Nat.one_mul] at this
      rw [this, R_xor k]
      rfl
    rw [show 2 ^ (m + 1) = 2 ^ m + 2 ^ m by rw [Nat.pow_succ]; omega, cx_split]
    rw [cx_congr (S := fun x => R w g x == v && pcb x m == f) fun x hx => by rw [lo x hx], NN_cx k m f v]
    cases f with
    | zero =>
      rw [cx_no fun x hx => by rw [hi x hx]; show (_ && (pcb x m + 1 == 0)) = false; simp]
      rfl
    | succ f =>
      rw [cx_congr (S := fun x => R w g x == v ^^^ pp w g m && pcb x m == f) fun x hx => by
        rw [hi x hx, rx x hx, Bool.eq_iff_iff, Bool.and_eq_true, Bool.and_eq_true, beq_iff_eq, beq_iff_eq, beq_iff_eq, beq_iff_eq]
        constructor
        · rintro ⟨h1, h2⟩
          exact ⟨by rw [← h1, Nat.xor_comm (pp w g m), xx], by omega⟩
        · rintro ⟨h1, h2⟩
          exact ⟨by rw [h1, Nat.xor_comm, xx], by omega⟩, NN_cx k m f (v ^^^ pp w g m)]
      rfl
end
end N66

set_option Elab.async false
set_option linter.all false
set_option maxRecDepth 100000
set_option maxHeartbeats 2000000
namespace N66
open PySem PySem.Spec PyProof.Rows L2 Evl WS Mir Poly
section
variable {n w l g T many : Nat}
theorem e_addn1 {m : Nat} : addD (nat m) (.int 1) = some (nat (m + 1)) := rfl
theorem wid_e {i w l : Nat} {e : SDs} (h : varM i e = some (Ck w l, e)) : propM 0 (F_Check_width n) (varM i) e = some (nat w, e) := by
  rw [e_propM, h, bnd_s, e_propD, ca_w]
def OE (w l g x m : Nat) : SDs := [.fro (Ck w l), .fro (nat x), .fro (nat m), .fro (nat g), .fro (nat w)]
theorem order_of_nat (k : G w l g) (o : Od w g T) (hn : 2 ^ 20 ≤ n) : Ret (F_order_of n) [Ck w l] (nat T) := by
  have ok := k.ok
  have hw := k.w2
  have hT : T ≤ 2 ^ 16 := Nat.le_trans o.tw (Nat.pow_le_pow_right (by decide) hw)
  have lt := pp_lt ok
  have hT2 : T - 1 < 2 ^ 20 := Nat.lt_of_lt_of_le (show T - 1 < T by have := o.t1; omega) (Nat.le_trans hT (by decide))
  let body : MS := (seqM (augM 1 shlD (cM (.int 1)))
 (seqM (ifS (truM (opM shrD (varM 1) (varM 4))) (augM 1 xorD (varM 3)) nxM)
 (extM 2 (cM (.int 1)))))
  obtain ⟨m, hI, hc, hw2⟩ := wh_run (α := Nat) (t := tstM (opM (eqD true) (varM 1) (cM (.int 1)))) (b := body) (fun m => OE w l g (pp w g m) m) (fun m => !(pp w g m == 1)) (fun m => m + 1) (fun m => 1 ≤ m ∧ m ≤ T) (fun m => T - m)
    (fun m hm => by
      have v : varM 1 (OE w l g (pp w g m) m) = some (nat (pp w g m), OE w l g (pp w g m) m) := rfl
      rw [e_tstM, e_opM, v, bnd_s, e_cM, bnd_s, show D.int 1 = nat 1 from rfl, e_eqNat]
      rfl)
    (fun m hm hc => by
      have hne : pp w g m ≠ 1 := fun z => by rw [z] at hc; exact absurd hc (by decide)
      have hmT : m < T := by
        rcases Nat.lt_or_ge m T with c | c
        · exact c
        · exact absurd (show pp w g m = 1 by rw [show m = T by omega]; exact o.one) hne
      refine ⟨?_, ⟨by omega, by omega⟩, by omega⟩
      have hx : nb (pp w g m) ≤ 5000 := by have := nb_le.mpr (lt m); omega
      have h1 := pp_s ok m
      unfold red at h1
      have h2 := @red_tst w g (2 * pp w g m)
      show body (OE w l g (pp w g m) m) = some (.nx (OE w l g (pp w g (m + 1)) (m + 1)))
      rw [h1]
      by_cases h : 2 * pp w g m < 2 ^ w
      · rw [if_pos h]
        simp [body, OE, e_shl1 hx, h2, h, -e_addNI, e_addn1]
        rfl
      · rw [if_neg h]
        simp [body, OE, e_shl1 hx, h2, h, -e_addNI, e_addn1]
        rfl) n 1 ⟨Nat.le_refl 1, o.t1⟩ (Nat.lt_of_lt_of_le hT2 hn)
  have he : m = T := by
    have h1 : pp w g m = 1 := by
      have : (pp w g m == 1) = true := by
        cases q : pp w g m == 1 with
        | true => rfl
        | false => rw [q] at hc; cases hc
      exact beq_iff_eq.mp this
    rcases Nat.lt_or_ge m T with c | c
    · exact absurd h1 (o.mn m hI.1 c)
    · omega
  subst he
  let e0 : SDs := [.fro (Ck w l), .nn, .nn, .nn, .nn]
  let e1 : SDs := [.fro (Ck w l), .fro (nat (pp w g 1)), .fro (nat 1), .nn, .nn]
  have cr : callM (F_risen n) (valA (cM (.int 1)) (valA (varM 0) (valA (cM (.int 1)) nilA))) e0 = some (nat (pp w g 1), e0) := by
    have := call3 (F := F_risen n) (m := cM (.int 1)) (m2 := varM 0) (m3 := cM (.int 1)) (e := e0) (x := nat 1) (z := nat 1) rfl rfl rfl (risen_nat (n := n) (r := 1) (m := 1) k (one_lt ok) (by decide))
    rw [Nat.one_mul] at this
    exact this
  have a1 : parM [1, 2] (froX (callM (F_risen n) (valA (cM (.int 1)) (valA (varM 0) (valA (cM (.int 1)) nilA)))) (froX (cM (.int 1)) nilX)) e0 = some (.nx e1) := by
    rw [e_parM, e_froX, cr]
    rfl
  have a2 : parM [3, 4] (froX (callM (F_sum_of n) (valA (varM 0) nilA)) (froX (propM 0 (F_Check_width n) (varM 0)) nilX)) e1 = some (.nx (OE w l g (pp w g 1) 1)) := by
    rw [e_parM, e_froX, call1 (m := varM 0) (e := e1) rfl (sum_nat (n := n) k), bnd_s, e_froX, wid_e (i := 0) (e := e1) (w := w) (l := l) rfl]
    rfl
  refine Ret.of rfl (e' := OE w l g (pp w g m) m) ?_
  show m_order_of n e0 = _
  unfold m_order_of
  rw [e_seqN a1, e_seqN a2, e_seqN hw2]
  rfl
def ppL (w g m : Nat) : List Int := (List.range m).map fun j => ((pp w g j : Nat) : Int)
theorem first_powers_nat (k : G w l g) {m : Nat} (hm : m ≤ 900) : Ret (F_first_powers n) [Ck w l, nat m] (il (ppL w g m)) := by
  have ok := k.ok
  have hw := k.w2
  have lt := pp_lt ok
  let s6 : Nat → SD := fun j => match j with
    | 0 => .nn
    | j + 1 => .fro (nat j)
  have n6 : ∀ j, Nb (s6 j) := fun j => by cases j; exact nb_nn; exact nb_fro
  let E : Nat → SDs := fun i => [.fro (Ck w l), .fro (nat m), .own (.lst ((ppL w g i).map D.int)), .fro (nat (pp w g i)), .fro (nat g), .fro (nat w), s6 i]
  let body : MS := (seqM (appM 2 (varM 3))
 (seqM (augM 3 shlD (cM (.int 1)))
 (ifS (truM (opM shrD (varM 3) (varM 5))) (augM 3 xorD (varM 4)) nxM)))
  have lp := for_rng (g := nameG 6) (b := body) E m fun i hi => by
    let e1 : SDs := [.fro (Ck w l), .fro (nat m), .own (.lst ((ppL w g i).map D.int)), .fro (nat (pp w g i)), .fro (nat g), .fro (nat w), .fro (nat i)]
    let e2 : SDs := [.fro (Ck w l), .fro (nat m), .own (.lst ((ppL w g (i + 1)).map D.int)), .fro (nat (pp w g i)), .fro (nat g), .fro (nat w), .fro (nat i)]
    refine ⟨e1, by show setS 6 _ _ = _; rw [set_nb (s := s6 i) rfl (n6 i)]; rfl, ?_⟩
    have ap : appM 2 (varM 3) e1 = some (.nx e2) := by
      rw [e_appO (xs := (ppL w g i).map D.int) (e := e1) (d := nat (pp w g i)) rfl rfl (by unfold ppL; rw [List.length_map, List.length_map, List.length_range]; omega)]
      have : ppL w g (i + 1) = ppL w g i ++ [((pp w g i : Nat) : Int)] := by
        unfold ppL
        rw [List.range_succ, List.map_append]
        rfl
      show some (Out.nx [.fro (Ck w l), .fro (nat m), .own (.lst ((ppL w g i).map D.int ++ [nat (pp w g i)])), .fro (nat (pp w g i)), .fro (nat g), .fro (nat w), .fro (nat i)]) = some (Out.nx [.fro (Ck w l), .fro (nat m), .own (.lst ((ppL w g (i + 1)).map D.int)), .fro (nat (pp w g i)), .fro (nat g), .fro (nat w), .fro (nat i)])
      rw [this, List.map_append]
      rfl
    have hx : nb (pp w g i) ≤ 5000 := by have := nb_le.mpr (lt i); omega
    have h1 := pp_s ok i
    unfold red at h1
    have h2 := @red_tst w g (2 * pp w g i)
    show seqM _ _ e1 = some (.nx (E (i + 1)))
    rw [e_seqN ap]
    show _ = some (Out.nx [.fro (Ck w l), .fro (nat m), .own (.lst ((ppL w g (i + 1)).map D.int)), .fro (nat (pp w g (i + 1))), .fro (nat g), .fro (nat w), .fro (nat i)])
    rw [h1]
    by_cases h : 2 * pp w g i < 2 ^ w
    · rw [if_pos h]
      simp [e2, e_shl1 hx, h2, h]
    · rw [if_neg h]
      simp [e2, e_shl1 hx, h2, h]
  let e0 : SDs := [.fro (Ck w l), .fro (nat m), .nn, .nn, .nn, .nn, .nn]
  let e1 : SDs := [.fro (Ck w l), .fro (nat m), .own (.lst []), .fro (nat 1), .nn, .nn, .nn]
  have h0 : E 0 = [.fro (Ck w l), .fro (nat m), .own (.lst []), .fro (nat 1), .fro (nat g), .fro (nat w), .nn] := by
    show [SD.fro (Ck w l), .fro (nat m), .own (.lst []), .fro (nat (pp w g 0)), .fro (nat g), .fro (nat w), .nn] = _
    rw [pp0 ok]
  have a2 : parM [4, 5] (froX (callM (F_sum_of n) (valA (varM 0) nilA)) (froX (propM 0 (F_Check_width n) (varM 0)) nilX)) e1 = some (.nx (E 0)) := by
    rw [e_parM, e_froX, call1 (m := varM 0) (e := e1) rfl (sum_nat (n := n) k), bnd_s, e_froX, wid_e (i := 0) (e := e1) (w := w) (l := l) rfl, h0]
    rfl
  have it : rng1I (consM (varM 1) nilM) (E 0) = some (rngD 0 m, E 0) := e_rng1 (k := m) rfl (by omega)
  refine Ret.of rfl (e' := [.fro (Ck w l), .fro (nat m), .fro (il (ppL w g m)), .fro (nat (pp w g m)), .fro (nat g), .fro (nat w), s6 m]) ?_
  show m_first_powers n e0 = _
  unfold m_first_powers
  rw [e_seqN (e1 := e1) rfl, e_seqN a2, e_seqN (e1 := E m) (by rw [e_forM, it, bnd_s]; exact lp)]
  rfl
end
end N66

set_option Elab.async false
set_option linter.all false
set_option maxRecDepth 100000
set_option maxHeartbeats 2000000
namespace N66
open PySem PySem.Spec PyProof.Rows L2 Evl WS Mir Poly
section
variable {n w l g T many : Nat}
theorem G.podd (k : G w l g) : g % 2 = 1 := by
  have := k.odd
  have := k.w1
  rw [k.hg]
  obtain ⟨m, hm⟩ : ∃ m, w = m + 1 := ⟨w - 1, by omega⟩
  rw [hm, Nat.pow_succ]
  omega
def cnL (w g many : Nat) : List Int := (List.range (2 ^ w)).map fun v => ((cn (pp w g) v many : Nat) : Int)
def hit (w g i v : Nat) : Bool := (List.range i).any fun j => pp w g j == v
def hcL (w g many i : Nat) : List Int := (List.range (2 ^ w)).map fun v => if hit w g i v then ((cn (pp w g) v many : Nat) : Int) else 0
theorem hit_s (i v : Nat) : hit w g (i + 1) v = (hit w g i v || pp w g i == v) := by
  unfold hit
  rw [List.range_succ, List.any_append]
  simp
theorem hc_len (i : Nat) : (hcL w g many i).length = 2 ^ w := by unfold hcL; rw [List.length_map, List.length_range]
theorem hc_gt {i v : Nat} (h : v < 2 ^ w) : gt (hcL w g many i) v = if hit w g i v then ((cn (pp w g) v many : Nat) : Int) else 0 := gt_map h
theorem hc_set (k : Ok w g) (i : Nat) : (hcL w g many i).set (pp w g i) ((cn (pp w g) (pp w g i) many : Nat) : Int) = hcL w g many (i + 1) := by
  refine eq_of_gt (by rw [List.length_set, hc_len, hc_len]) fun v hv => ?_
  rw [List.length_set, hc_len] at hv
  rw [gt_set (by rw [hc_len]; exact pp_lt k i), hc_gt hv, hc_gt hv, hit_s]
  by_cases c : v = pp w g i
  · rw [if_pos c, c, beq_self_eq_true, Bool.or_true]
    rfl
  · rw [if_neg c, beq_false_of_ne fun z => c z.symm, Bool.or_false]
theorem hc_zero : hcL w g many 0 = List.replicate (2 ^ w) 0 := by
  refine eq_of_gt (by rw [hc_len, List.length_replicate]) fun v hv => ?_
  rw [hc_len] at hv
  rw [hc_gt hv, gt_rep0]
  rfl
theorem hc_end (k : Ok w g) (o : Od w g T) : hcL w g many T = cnL w g many := by
  refine List.map_congr_left fun v _ => ?_
  cases q : hit w g T v with
  | true => rfl
  | false =>
    have no : ∀ i, pp w g i ≠ v := fun i e => by
      rw [pp_mod k o i] at e
      have : hit w g T v = true := by
        unfold hit
        rw [List.any_eq_true]
        exact ⟨i % T, List.mem_range.mpr (Nat.mod_lt i o.t1), beq_iff_eq.mpr e⟩
      rw [this] at q
      cases q
    rw [cn_no no]
    rfl
def PE (w l many T : Nat) (cs : List Int) (s4 s5 : SD) : SDs := [.fro (Ck w l), .fro (nat many), .fro (nat T), .own (.lst (cs.map D.int)), s4, s5]
def putB : MS := (putM 3 (varM 5) (ifM (tstM (opM ltD (varM 4) (varM 1))) (opM fdivD (opM subD (opM addD (opM subD (varM 1) (varM 4)) (varM 2)) (cM (.int 1))) (varM 2)) (cM (.int 0))))
theorem places_by_nat (k : G w l g) (o : Od w g T) (hw8 : w ≤ 8) (hn : 2 ^ 20 ≤ n) : Ret (F_places_by_rest n) [Ck w l, nat many] (il (cnL w g many)) := by
  have ok := k.ok
  have hT : T ≤ 256 := Nat.le_trans o.tw (Nat.pow_le_pow_right (by decide) hw8)
  have hp : 2 ^ w ≤ 256 := Nat.pow_le_pow_right (by decide) hw8
  let s4 : Nat → SD := fun j => match j with
    | 0 => .nn
    | j + 1 => .fro (nat j)
  let s5 : Nat → SD := fun j => match j with
    | 0 => .nn
    | j + 1 => .fro (nat (pp w g j))
  have n4 : ∀ j, Nb (s4 j) := fun j => by cases j; exact nb_nn; exact nb_fro
  have n5 : ∀ j, Nb (s5 j) := fun j => by cases j; exact nb_nn; exact nb_fro
  let E : Nat → SDs := fun i => PE w l many T (hcL w g many i) (s4 i) (s5 i)
  have lp := for_ix (g := tupG 2 (consG (nameG 4) (consG (nameG 5) nilG))) (b := putB) E (enumD 0 ((ppL w g T).map D.int)) 0 fun i x hx => by
    obtain ⟨hi, rfl⟩ := enum_get hx
    have lpl : (ppL w g T).length = T := by unfold ppL; rw [List.length_map, List.length_range]
    rw [lpl] at hi
    have hgt : gt (ppL w g T) i = ((pp w g i : Nat) : Int) := gt_map hi
    rw [Nat.zero_add, hgt]
    let e1 := PE w l many T (hcL w g many i) (.fro (nat i)) (.fro (nat (pp w g i)))
    refine ⟨e1, ?_, ?_⟩
    · show (setS 4 _ (PE w l many T (hcL w g many i) (s4 i) (s5 i))).bind (fun e => (setS 5 _ e).bind fun e => some e) = _
      unfold PE
      rw [set_nb (s := s4 i) rfl (n4 i)]
      show (setS 5 _ [.fro (Ck w l), .fro (nat many), .fro (nat T), .own (.lst ((hcL w g many i).map D.int)), .fro (nat i), s5 i]).bind (fun e => some e) = _
      rw [set_nb (s := s5 i) rfl (n5 i)]
      rfl
    · have v4 : varM 4 e1 = some (nat i, e1) := rfl
      have v1 : varM 1 e1 = some (nat many, e1) := rfl
      have v2 : varM 2 e1 = some (nat T, e1) := rfl
      have t1 : tstM (opM ltD (varM 4) (varM 1)) e1 = some (decide (i < many), e1) := by
        rw [e_tstM, e_opM, v4, bnd_s, v1, bnd_s, e_ltN]
        rfl
      have va : ifM (tstM (opM ltD (varM 4) (varM 1))) (opM fdivD (opM subD (opM addD (opM subD (varM 1) (varM 4)) (varM 2)) (cM (.int 1))) (varM 2)) (cM (.int 0)) e1 = some (.int ((cn (pp w g) (pp w g i) many : Nat) : Int), e1) := by
        rw [e_ifM, t1, bnd_s, cn_at ok k.podd o hi]
        by_cases c : i < many
        · rw [decide_eq_true c]
          show opM fdivD _ _ e1 = _
          rw [e_opM, e_opM, e_opM, e_opM, v1, bnd_s, v4, bnd_s, e_subN (by omega), rsl_s, bnd_s, v2, bnd_s, e_addN, rsl_s, bnd_s, e_cM, bnd_s, e_sub1 (by omega), rsl_s, bnd_s, v2, bnd_s, e_fdivN (by omega) (Nat.le_trans (nb_le.mpr (show T < 2 ^ 9 by omega)) (by decide)), show many - i + T - 1 = many + (T - 1 - i) by omega]
          rfl
        · rw [decide_eq_false c, Nat.div_eq_of_lt (by omega)]
          rfl
      show putB e1 = _
      unfold putB
      rw [e_putD (xs := hcL w g many i) (p := pp w g i) va rfl (show varM 5 e1 = some (nat (pp w g i), e1) from rfl) rfl (by rw [hc_len]; exact pp_lt ok i), hc_set ok]
      rfl
  rw [enum_l, Nat.zero_add] at lp
  have lpl : (ppL w g T).length = T := by unfold ppL; rw [List.length_map, List.length_range]
  rw [lpl] at lp
  let e0 : SDs := [.fro (Ck w l), .fro (nat many), .nn, .nn, .nn, .nn]
  let e1 : SDs := [.fro (Ck w l), .fro (nat many), .fro (nat T), .nn, .nn, .nn]
  have a1 : asM (nameG 2) (callM (F_order_of n) (valA (varM 0) nilA)) e0 = some (.nx e1) := by rw [e_asM, call1 (m := varM 0) (e := e0) rfl (order_of_nat (n := n) k o hn)]; rfl
  have a2 : owM 3 (repF (frM (lstF (consM (cM (.int 0)) nilM))) (opM shlD (cM (.int 1)) (propM 0 (F_Check_width n) (varM 0)))) e1 = some (.nx (E 0)) := by
    have sh : opM shlD (cM (.int 1)) (propM 0 (F_Check_width n) (varM 0)) e1 = some (.int ((2 ^ w : Nat) : Int), e1) := by
      rw [e_opM, e_cM, bnd_s, wid_e (i := 0) (e := e1) (w := w) (l := l) rfl, bnd_s, e_1shl (by omega)]
      rfl
    have r := repF_E (ma := frM (lstF (consM (cM (.int 0)) nilM))) (e := e1) (e1 := e1) (xs := [.int 0]) rfl sh (q6 (k := 2 ^ w) (by omega))
    unfold owM
    rw [r, bnd_s]
    show some (Out.nx [.fro (Ck w l), .fro (nat many), .fro (nat T), .own (.lst ((List.replicate (2 ^ w) (0 : Int)).map D.int)), .nn, .nn]) = some (Out.nx (PE w l many T (hcL w g many 0) .nn .nn))
    rw [hc_zero]
    rfl
  have it : enumI (consM (callM (F_first_powers n) (valA (varM 0) (valA (varM 2) nilA))) nilM) (E 0) = some (enumD 0 ((ppL w g T).map D.int), E 0) := by
    unfold enumI
    rw [e_consM, call2 (m := varM 0) (m2 := varM 2) (e := E 0) rfl rfl (first_powers_nat (n := n) k (show T ≤ 900 by omega))]
    rfl
  refine Ret.of rfl (e' := [.fro (Ck w l), .fro (nat many), .fro (nat T), .fro (il (cnL w g many)), s4 T, s5 T]) ?_
  show m_places_by_rest n e0 = _
  have cut : m_places_by_rest n = seqM (asM (nameG 2) (callM (F_order_of n) (valA (varM 0) nilA))) (seqM (owM 3 (repF (frM (lstF (consM (cM (.int 0)) nilM))) (opM shlD (cM (.int 1)) (propM 0 (F_Check_width n) (varM 0))))) (seqM (forM (enumI (consM (callM (F_first_powers n) (valA (varM 0) (valA (varM 2) nilA))) nilM)) (tupG 2 (consG (nameG 4) (consG (nameG 5) nilG))) putB) (frzM 3 (retM (varM 3))))) := rfl
  rw [cut, e_seqN a1, e_seqN a2, e_seqN (e1 := E T) (by rw [e_forM, it, bnd_s]; exact lp)]
  show frzM 3 (retM (varM 3)) (PE w l many T (hcL w g many T) (s4 T) (s5 T)) = _
  rw [hc_end ok o]
  rfl
/-! ### signs, bit by bit -/
def SB (F : Nat → Int) (b u : Nat) : Int := sm (fun v => sg b u v * F (u / 2 ^ b * 2 ^ b + v)) (2 ^ b)
theorem SB0 (F : Nat → Int) (u : Nat) : SB F 0 u = F u := by
  show 0 + sg 0 u 0 * F (u / 2 ^ 0 * 2 ^ 0 + 0) = F u
  rw [Nat.pow_zero, Nat.div_one, Nat.mul_one, Nat.add_zero, show sg 0 u 0 = 1 from rfl, Int.one_mul, Int.zero_add]
theorem SBw (F : Nat → Int) {u : Nat} (h : u < 2 ^ w) : SB F w u = sm (fun v => sg w u v * F v) (2 ^ w) := by
  unfold SB
  rw [Nat.div_eq_of_lt h]
  exact sm_congr fun v _ => by rw [Nat.zero_mul, Nat.zero_add]
theorem x1e (q : Nat) : (2 * q) ^^^ 1 = 2 * q + 1 := by
  have := dbl_xor q 0 0 1 (by decide) (by decide)
  rw [Nat.xor_zero, Nat.mul_zero, Nat.add_zero, Nat.zero_add] at this
  exact this.symm
theorem x1o (q : Nat) : (2 * q + 1) ^^^ 1 = 2 * q := by rw [← x1e, xx]
theorem tog (u b : Nat) : (u ^^^ 2 ^ b) / 2 ^ b = (u / 2 ^ b) ^^^ 1 ∧ (u ^^^ 2 ^ b) % 2 ^ b = u % 2 ^ b := by
  have hp := Nat.two_pow_pos b
  have l := Nat.mod_lt u hp
  have e : u ^^^ 2 ^ b = ((u / 2 ^ b) ^^^ 1) * 2 ^ b + u % 2 ^ b := by
    rw [add_xor _ _ _ l, xor_mul, Nat.one_mul]
    have := add_xor (u / 2 ^ b) b (u % 2 ^ b) l
    rw [show u / 2 ^ b * 2 ^ b + u % 2 ^ b = u by rw [Nat.mul_comm]; exact Nat.div_add_mod u _] at this
    conv => lhs; rw [this]
    rw [Nat.xor_assoc, Nat.xor_assoc, Nat.xor_comm (u % 2 ^ b)]
  rw [e, Nat.mul_comm]
  exact ⟨by rw [Nat.mul_add_div hp, Nat.div_eq_of_lt l, Nat.add_zero], by rw [Nat.mul_add_mod, Nat.mod_eq_of_lt l]⟩
theorem sg_low {b u u' v : Nat} (h : u % 2 ^ b = u' % 2 ^ b) : sg b u v = sg b u' v := by
  have e : dt u v b = dt u' v b := dt_high b fun i hi => by
    have := congrArg (fun z => z.testBit i) h
    have this : (u % 2 ^ b).testBit i = (u' % 2 ^ b).testBit i := this
    rw [Nat.testBit_mod_two_pow, Nat.testBit_mod_two_pow, decide_eq_true hi, Bool.true_and, Bool.true_and] at this
    exact this
  unfold sg
  rw [e]
theorem SB_s (F : Nat → Int) (b u : Nat) : SB F (b + 1) u = if u.testBit b then SB F b (u ^^^ 2 ^ b) - SB F b u else SB F b u + SB F b (u ^^^ 2 ^ b) := by
  obtain ⟨t1, t2⟩ := tog u b
  have tb : u.testBit b = decide (u / 2 ^ b % 2 = 1) := by
    rw [Nat.testBit_eq_decide_div_mod_eq]
  have e0 : ∀ v, v < 2 ^ b → sg (b + 1) u v = sg b u v := fun v hv => by
    unfold sg
    show (if ((u.testBit b && v.testBit b) ^^ dt u v b) = true then _ else _) = _
    rw [Nat.testBit_lt_two_pow hv]
    simp
  have e1 : ∀ v, v < 2 ^ b → sg (b + 1) u (2 ^ b + v) = (if u.testBit b then -1 else 1) * sg b u v := fun v hv => by
    unfold sg
    show (if ((u.testBit b && (2 ^ b + v).testBit b) ^^ dt u (2 ^ b + v) b) = true then _ else _) = _
    have q : (2 ^ b + v).testBit b = true := by
      rw [Nat.testBit_two_pow_add_eq, Nat.testBit_lt_two_pow hv]
      rfl
    rw [q, dt_comm u (2 ^ b + v), dt_high (u := 2 ^ b + v) (u' := v) b (fun i hi => Nat.testBit_two_pow_add_gt hi v), dt_comm v u]
    cases u.testBit b <;> cases dt u v b <;> rfl
  have hd : u / 2 ^ (b + 1) = u / 2 ^ b / 2 := by rw [Nat.pow_succ, Nat.div_div_eq_div_mul]
  have s0 : SB F (b + 1) u = sm (fun v => sg b u v * F (u / 2 ^ b / 2 * 2 * 2 ^ b + v)) (2 ^ b) + (if u.testBit b then -1 else 1) * sm (fun v => sg b u v * F ((u / 2 ^ b / 2 * 2 + 1) * 2 ^ b + v)) (2 ^ b) := by
    unfold SB
    rw [hd, show 2 ^ (b + 1) = 2 ^ b + 2 ^ b by rw [Nat.pow_succ]; omega, sm_split, ← sm_mul]
    congr 1
    · refine sm_congr fun v hv => ?_
      rw [e0 v hv, Nat.mul_assoc, show 2 * 2 ^ b = 2 ^ b + 2 ^ b by omega]
    · refine sm_congr fun v hv => ?_
      rw [e1 v hv, Int.mul_assoc]
      congr 3
      rw [Nat.add_mul, Nat.mul_assoc, show 2 * 2 ^ b = 2 ^ b + 2 ^ b by omega]
      omega
  have sx : ∀ u', u' % 2 ^ b = u % 2 ^ b → SB F b u' = sm (fun v => sg b u v * F (u' / 2 ^ b * 2 ^ b + v)) (2 ^ b) := fun u' h => sm_congr fun v _ => by rw [sg_low h]
  rw [s0, sx u rfl, sx (u ^^^ 2 ^ b) t2, t1, tb]
  generalize u / 2 ^ b = q
  rcases Nat.mod_two_eq_zero_or_one q with h | h
  · obtain ⟨r, rfl⟩ : ∃ r, q = 2 * r := ⟨q / 2, by omega⟩
    rw [h, x1e, show 2 * r / 2 = r by omega, Nat.mul_comm r 2]
    simp
  · obtain ⟨r, rfl⟩ : ∃ r, q = 2 * r + 1 := ⟨q / 2, by omega⟩
    rw [h, x1o, show (2 * r + 1) / 2 = r by omega, Nat.mul_comm r 2]
    simp only [decide_true, if_true]
    omega
end
end N66

set_option Elab.async false
set_option linter.all false
set_option maxRecDepth 100000
set_option maxHeartbeats 2000000
namespace N66
open PySem PySem.Spec PyProof.Rows L2 Evl WS Mir Poly
section
variable {n w l g T many few a b f : Nat}
theorem and_two (u b : Nat) : u &&& 2 ^ b = if u.testBit b then 2 ^ b else 0 := by
  apply Nat.eq_of_testBit_eq
  intro i
  rw [Nat.testBit_and, Nat.testBit_two_pow]
  by_cases c : b = i
  · subst c
    cases h : u.testBit b with
    | true => simp
    | false => simp
  · cases h : u.testBit b with
    | true => simp [c]
    | false => simp [c]
theorem and_bit (u b : Nat) : (u &&& 2 ^ b != 0) = u.testBit b := by
  rw [and_two]
  have := Nat.two_pow_pos b
  cases u.testBit b with
  | true =>
    show (2 ^ b != 0) = true
    rw [bne_iff_ne]
    omega
  | false => rfl
def odN (w g many : Nat) : List Nat := (List.range (2 ^ w)).map fun u => od (pp w g) w u many
def Fc (w g many : Nat) : Nat → Int := fun v => ((cn (pp w g) v many : Nat) : Int)
def SBL (w g many b : Nat) : List Int := (List.range (2 ^ w)).map (SB (Fc w g many) b)
theorem sb_len : (SBL w g many b).length = 2 ^ w := by unfold SBL; rw [List.length_map, List.length_range]
theorem sb_gt {u : Nat} (h : u < 2 ^ w) : gt (SBL w g many b) u = SB (Fc w g many) b u := gt_map h
theorem odd_places_nat (k : G w l g) (o : Od w g T) (hw8 : w ≤ 8) (hn : 2 ^ 20 ≤ n) : Ret (F_odd_places n) [Ck w l, nat many] (.lst ((odN w g many).map nat)) := by
  have ok := k.ok
  have hp : 2 ^ w ≤ 256 := Nat.pow_le_pow_right (by decide) hw8
  let s3 : Nat → SD := fun j => match j with
    | 0 => .nn
    | j + 1 => .fro (nat j)
  let s4 : Nat → SD := fun j => match j with
    | 0 => .nn
    | j + 1 => .fro (nat (2 ^ j))
  have n3 : ∀ j, Nb (s3 j) := fun j => by cases j; exact nb_nn; exact nb_fro
  have n4 : ∀ j, Nb (s4 j) := fun j => by cases j; exact nb_nn; exact nb_fro
  let E : Nat → SDs := fun b => [.fro (Ck w l), .fro (nat many), .fro (il (SBL w g many b)), s3 b, s4 b, .nn, .nn]
  let cell : M := (ifM (truM (opM andD (varM 5) (varM 4))) (opM subD (opM ixD (varM 2) (opM xorD (varM 5) (varM 4))) (opM ixD (varM 2) (varM 5))) (opM addD (opM ixD (varM 2) (varM 5)) (opM ixD (varM 2) (opM xorD (varM 5) (varM 4)))))
  let body : MS := (seqM (asM (nameG 4) (opM shlD (cM (.int 1)) (varM 3)))
 (asM (nameG 2) (frM (compF (rng1I (consM (cbM (one lenD) (consM (varM 2) nilM)) nilM)) [5] (nameG 5) yesT cell))))
  have lp := for_rng (g := nameG 3) (b := body) E w fun b hb => by
    let e1 : SDs := [.fro (Ck w l), .fro (nat many), .fro (il (SBL w g many b)), .fro (nat b), s4 b, .nn, .nn]
    let e2 : SDs := [.fro (Ck w l), .fro (nat many), .fro (il (SBL w g many b)), .fro (nat b), .fro (nat (2 ^ b)), .nn, .nn]
    refine ⟨e1, by show setS 3 _ _ = _; rw [set_nb (s := s3 b) rfl (n3 b)]; rfl, ?_⟩
    have a1 : asM (nameG 4) (opM shlD (cM (.int 1)) (varM 3)) e1 = some (.nx e2) := by
      have v3 : varM 3 e1 = some (nat b, e1) := rfl
      rw [e_asM, e_opM, e_cM, bnd_s, v3, bnd_s, e_1shl (by omega)]
      show (setS 4 _ e1).map Out.nx = _
      rw [set_nb (s := s4 b) rfl (n4 b)]
      rfl
    have it : rng1I (consM (cbM (one lenD) (consM (varM 2) nilM)) nilM) e2 = some ((List.range (2 ^ w)).map nat, e2) := rng1N (by
      rw [e_consM, lenE (xs := SBL w g many b) (e := e2) rfl, sb_len]
      rfl) (by omega)
    have mp := map_nat (me := cell) (e := e2) (v := 5) (x0 := .nn) (xs := List.range (2 ^ w)) (fun u => .int (SB (Fc w g many) (b + 1) u)) it rfl (.inl rfl) (by rw [List.length_range]; omega) fun u hu => by
      have hu := List.mem_range.mp hu
      have hx : u ^^^ 2 ^ b < 2 ^ w := Nat.xor_lt_two_pow hu (Nat.pow_lt_pow_right (by decide) hb)
      let e : SDs := [.fro (Ck w l), .fro (nat many), .fro (il (SBL w g many b)), .fro (nat b), .fro (nat (2 ^ b)), .fro (nat u), .nn]
      have v5 : varM 5 e = some (nat u, e) := rfl
      have v4 : varM 4 e = some (nat (2 ^ b), e) := rfl
      have v2 : varM 2 e = some (il (SBL w g many b), e) := rfl
      have tr : truM (opM andD (varM 5) (varM 4)) e = some (u.testBit b, e) := by
        rw [e_truM, e_opM, v5, bnd_s, v4, bnd_s, e_andN, rsl_s, bnd_s, e_trN, and_bit]
        rfl
      have i1 : opM ixD (varM 2) (varM 5) e = some (.int (SB (Fc w g many) b u), e) := by
        rw [e_opM, v2, bnd_s, v5, bnd_s, ixI (by rw [sb_len]; exact hu), sb_gt hu]
        rfl
      have i2 : opM ixD (varM 2) (opM xorD (varM 5) (varM 4)) e = some (.int (SB (Fc w g many) b (u ^^^ 2 ^ b)), e) := by
        rw [e_opM, v2, bnd_s, e_opM, v5, bnd_s, v4, bnd_s, e_xorN, rsl_s, bnd_s, ixI (by rw [sb_len]; exact hx), sb_gt hx]
        rfl
      show cell e = some (_, e)
      show ifM _ _ _ e = _
      rw [e_ifM, tr, bnd_s, SB_s]
      cases u.testBit b with
      | true =>
        show opM subD _ _ e = _
        rw [e_opM, i2, bnd_s, i1, bnd_s]
        rfl
      | false =>
        show opM addD _ _ e = _
        rw [e_opM, i1, bnd_s, i2, bnd_s]
        rfl
    show body e1 = _
    show seqM _ _ e1 = _
    rw [e_seqN a1, e_asM, e_frM, mp]
    show some (Out.nx [.fro (Ck w l), .fro (nat many), .fro (.lst ((List.range (2 ^ w)).map fun u => D.int (SB (Fc w g many) (b + 1) u))), .fro (nat b), .fro (nat (2 ^ b)), .nn, .nn]) = some (Out.nx [.fro (Ck w l), .fro (nat many), .fro (.lst (((List.range (2 ^ w)).map (SB (Fc w g many) (b + 1))).map D.int)), .fro (nat b), .fro (nat (2 ^ b)), .nn, .nn])
    rw [List.map_map]
    rfl
  let e0 : SDs := [.fro (Ck w l), .fro (nat many), .nn, .nn, .nn, .nn, .nn]
  have a0 : asM (nameG 2) (callM (F_places_by_rest n) (valA (varM 0) (valA (varM 1) nilA))) e0 = some (.nx (E 0)) := by
    rw [e_asM, call2 (m := varM 0) (m2 := varM 1) (e := e0) rfl rfl (places_by_nat (n := n) (many := many) k o hw8 hn)]
    have : cnL w g many = SBL w g many 0 := List.map_congr_left fun v _ => (SB0 (Fc w g many) v).symm
    show some (Out.nx [.fro (Ck w l), .fro (nat many), .fro (il (cnL w g many)), .nn, .nn, .nn, .nn]) = some (Out.nx [.fro (Ck w l), .fro (nat many), .fro (il (SBL w g many 0)), .nn, .nn, .nn, .nn])
    rw [this]
  have it : rng1I (consM (propM 0 (F_Check_width n) (varM 0)) nilM) (E 0) = some (rngD 0 w, E 0) := e_rng1 (k := w) (by rw [e_consM, wid_e (i := 0) (e := E 0) (w := w) (l := l) rfl]; rfl) (by omega)
  have last := map_il (mi := lstI (varM 2)) (me := opM fdivD (opM subD (varM 1) (varM 6)) (cM (.int 2))) (e := E w) (v := 6) (x0 := .nn) (xs := SBL w g many w) (fun x => ((many : Int) - x) / 2 ^ 1) rfl rfl (.inl rfl) (by rw [sb_len]; omega) fun x _ => by
    let e : SDs := [.fro (Ck w l), .fro (nat many), .fro (il (SBL w g many w)), s3 w, s4 w, .nn, .fro (.int x)]
    have v1 : varM 1 e = some (nat many, e) := rfl
    have v6 : varM 6 e = some (.int x, e) := rfl
    have sb : subD (nat many) (.int x) = some (.int ((many : Int) - x)) := e_subI
    have fd := fdivI (i := (many : Int) - x) (s := 1) (by decide)
    show opM fdivD _ _ e = _
    rw [e_opM, e_opM, v1, bnd_s, v6, bnd_s, sb, rsl_s, bnd_s, e_cM, bnd_s]
    show rsl (fdivD (.int ((many : Int) - x)) (nat (2 ^ 1))) e = _
    rw [fd]
    rfl
  have eL : (SBL w g many w).map (fun x => ((many : Int) - x) / 2 ^ 1) = (odN w g many).map fun u : Nat => (u : Int) := by
    unfold SBL odN
    rw [List.map_map, List.map_map]
    refine List.map_congr_left fun u hu => ?_
    have hu := List.mem_range.mp hu
    show ((many : Int) - SB (Fc w g many) w u) / 2 ^ 1 = ((od (pp w g) w u many : Nat) : Int)
    rw [SBw _ hu]
    have := od_sum (p := pp w g) (pp_lt ok) u many
    show ((many : Int) - sm (fun v => sg w u v * ((cn (pp w g) v many : Nat) : Int)) (2 ^ w)) / 2 ^ 1 = _
    rw [this]
    show ((many : Int) - ((many : Int) - 2 * ((od (pp w g) w u many : Nat) : Int))) / 2 = _
    omega
  rw [eL] at last
  refine Ret.of rfl (e' := E w) ?_
  show m_odd_places n e0 = _
  have cut : m_odd_places n = seqM (asM (nameG 2) (callM (F_places_by_rest n) (valA (varM 0) (valA (varM 1) nilA)))) (seqM (forM (rng1I (consM (propM 0 (F_Check_width n) (varM 0)) nilM)) (nameG 3) body) (retM (frM (compF (lstI (varM 2)) [6] (nameG 6) yesT (opM fdivD (opM subD (varM 1) (varM 6)) (cM (.int 2))))))) := rfl
  rw [cut, e_seqN a0, e_seqN (e1 := E w) (by rw [e_forM, it, bnd_s]; exact lp), e_retM, last]
  show some (Out.rt (.lst (((odN w g many).map fun u : Nat => (u : Int)).map D.int)) _) = some (Out.rt (.lst ((odN w g many).map nat)) _)
  rw [List.map_map]
  rfl
theorem nbCC {c : Nat} (ha : a < 2 ^ c) (t : Nat) : nb (CC a t) ≤ c * t + 1 := by
  have h1 : CC a t < 2 ^ (c * t + 1) := by
    refine Nat.lt_of_le_of_lt (CC_le a t) ?_
    refine Nat.lt_of_le_of_lt (Nat.pow_le_pow_left (show a + 1 ≤ 2 ^ c from ha) t) ?_
    rw [← Nat.pow_mul]
    exact Nat.pow_lt_pow_right (by decide) (by omega)
  exact nb_le.mpr h1
theorem two_e {f : D → D → Option D} {e : SDs} {m1 m2 : M} {x y z : D} (h1 : m1 e = some (x, e)) (h2 : m2 e = some (y, e)) (hz : f x y = some z) : cbM (two f) (consM m1 (consM m2 nilM)) e = some (z, e) := by
  have q : consM m1 (consM m2 nilM) e = some ([x, y], e) := by
    rw [e_consM, h1, bnd_s, e_consM, h2]
    rfl
  rw [e_cbM, q, bnd_s]
  show rsl (f x y) e = _
  rw [hz]
  rfl
theorem comb_e {e : SDs} {m1 m2 : M} (h1 : m1 e = some (nat a, e)) (h2 : m2 e = some (nat b, e)) (ha : a < 18446744073709551616) (hb : b ≤ 9000) : cbM (two combD) (consM m1 (consM m2 nilM)) e = some (nat (CC a b), e) := two_e h1 h2 (combN ha hb)
theorem signed_nat (ha : a < 18446744073709551616) (hb : b < 18446744073709551616) (hf : f ≤ 8) : Ret (F_signed_choices n) [nat a, nat b, nat f] (.int (Kr f a b)) := by
  let S : Nat → Int := fun j => sm (fun t => s1 t * (CC a t : Int) * (CC b (f - t) : Int)) j
  let s4 : Nat → SD := fun j => match j with
    | 0 => .nn
    | j + 1 => .fro (nat j)
  let s5 : Nat → SD := fun j => match j with
    | 0 => .nn
    | j + 1 => .fro (nat (CC a j * CC b (f - j)))
  have n4 : ∀ j, Nb (s4 j) := fun j => by cases j; exact nb_nn; exact nb_fro
  have n5 : ∀ j, Nb (s5 j) := fun j => by cases j; exact nb_nn; exact nb_fro
  let E : Nat → SDs := fun j => [.fro (nat a), .fro (nat b), .fro (nat f), .fro (.int (S j)), s4 j, s5 j]
  let body : MS := (seqM (asM (nameG 5) (opM mulD (cbM (two combD) (consM (varM 0) (consM (varM 4) nilM))) (cbM (two combD) (consM (varM 1) (consM (opM subD (varM 2) (varM 4)) nilM)))))
 (asM (nameG 3) (ifM (truM (opM andD (varM 4) (cM (.int 1)))) (opM subD (varM 3) (varM 5)) (opM addD (varM 3) (varM 5)))))
  have lp := for_rng (g := nameG 4) (b := body) E (f + 1) fun j hj => by
    let e1 : SDs := [.fro (nat a), .fro (nat b), .fro (nat f), .fro (.int (S j)), .fro (nat j), s5 j]
    let e2 : SDs := [.fro (nat a), .fro (nat b), .fro (nat f), .fro (.int (S j)), .fro (nat j), .fro (nat (CC a j * CC b (f - j)))]
    refine ⟨e1, by show setS 4 _ _ = _; rw [set_nb (s := s4 j) rfl (n4 j)]; rfl, ?_⟩
    have a1 : asM (nameG 5) (opM mulD (cbM (two combD) (consM (varM 0) (consM (varM 4) nilM))) (cbM (two combD) (consM (varM 1) (consM (opM subD (varM 2) (varM 4)) nilM)))) e1 = some (.nx e2) := by
      have v2 : varM 2 e1 = some (nat f, e1) := rfl
      have v4 : varM 4 e1 = some (nat j, e1) := rfl
      have sb : opM subD (varM 2) (varM 4) e1 = some (nat (f - j), e1) := by
        rw [e_opM, v2, bnd_s, v4, bnd_s, e_subN (by omega)]
        rfl
      rw [e_asM, e_opM, comb_e (m1 := varM 0) (m2 := varM 4) (e := e1) rfl rfl ha (by omega), bnd_s, comb_e (m1 := varM 1) (e := e1) rfl sb hb (by omega), bnd_s, e_mulN (Nat.le_trans (nbCC (c := 64) (Nat.lt_of_lt_of_le ha (by decide)) j) (by omega)) (Nat.le_trans (nbCC (c := 64) (Nat.lt_of_lt_of_le hb (by decide)) (f - j)) (by omega))]
      show (setS 5 _ e1).map Out.nx = _
      rw [set_nb (s := s5 j) rfl (n5 j)]
      rfl
    have v3 : varM 3 e2 = some (.int (S j), e2) := rfl
    have v5 : varM 5 e2 = some (nat (CC a j * CC b (f - j)), e2) := rfl
    have v4 : varM 4 e2 = some (nat j, e2) := rfl
    have tr : truM (opM andD (varM 4) (cM (.int 1))) e2 = some (j % 2 != 0, e2) := by
      rw [e_truM, e_opM, v4, bnd_s, e_cM, bnd_s, e_and1, rsl_s, bnd_s, e_trN]
      rfl
    have va : ifM (truM (opM andD (varM 4) (cM (.int 1)))) (opM subD (varM 3) (varM 5)) (opM addD (varM 3) (varM 5)) e2 = some (.int (S (j + 1)), e2) := by
      have hS : S (j + 1) = S j + s1 j * (CC a j : Int) * (CC b (f - j) : Int) := rfl
      rw [e_ifM, tr, bnd_s, hS]
      unfold s1
      rcases Nat.mod_two_eq_zero_or_one j with h | h
      · rw [h]
        show opM addD _ _ e2 = _
        rw [e_opM, v3, bnd_s, v5, bnd_s, if_neg (by decide), Int.one_mul, ← Int.natCast_mul]
        rfl
      · rw [h]
        show opM subD _ _ e2 = _
        have sb : subD (.int (S j)) (nat (CC a j * CC b (f - j))) = some (.int (S j - ((CC a j * CC b (f - j) : Nat) : Int))) := e_subI
        rw [e_opM, v3, bnd_s, v5, bnd_s, if_pos rfl, sb, show S j + -1 * (CC a j : Int) * (CC b (f - j) : Int) = S j - ((CC a j * CC b (f - j) : Nat) : Int) by rw [Int.mul_assoc, ← Int.natCast_mul]; omega]
        rfl
    show seqM _ _ e1 = _
    rw [e_seqN a1, e_asM, va]
    rfl
  let e0 : SDs := [.fro (nat a), .fro (nat b), .fro (nat f), .nn, .nn, .nn]
  have it : rng1I (consM (opM addD (varM 2) (cM (.int 1))) nilM) (E 0) = some (rngD 0 (f + 1), E 0) := e_rng1 (k := f + 1) (by
    have v2 : varM 2 (E 0) = some (nat f, E 0) := rfl
    rw [e_consM, e_opM, v2, bnd_s, e_cM, bnd_s, e_addn1]
    rfl) (by omega)
  refine Ret.of rfl (e' := E (f + 1)) ?_
  show m_signed_choices n e0 = _
  have cut : m_signed_choices n = seqM (asM (nameG 3) (cM (.int 0))) (seqM (forM (rng1I (consM (opM addD (varM 2) (cM (.int 1))) nilM)) (nameG 4) body) (retM (varM 3))) := rfl
  rw [cut, e_seqN (e1 := E 0) rfl, e_seqN (e1 := E (f + 1)) (by rw [e_forM, it, bnd_s]; exact lp)]
  rfl
theorem e_gtN {a b : Nat} : gtD (nat a) (nat b) = some (.bl (decide (b < a))) := by
  show some (D.bl (decide ((a : Int) > (b : Int)))) = _
  congr 2
  rw [decide_eq_decide]
  omega
theorem narrow_nat (hw : w ≤ 10) : Ret (F_check_narrow n) [Ck w l] .non := by
  let e : SDs := [.fro (Ck w l)]
  refine Ret.ofN rfl (e' := e) ?_
  have t1 : notM (truM (isiM (ownF2 0) (varM 0))) e = some (false, e) := rfl
  have t2 : tstM (opM gtD (propM 0 (F_Check_width n) (varM 0)) (cM (nat 10))) e = some (false, e) := by
    rw [e_tstM, e_opM, wid_e (i := 0) (e := e) (w := w) (l := l) rfl, bnd_s, e_cM, bnd_s, e_gtN, decide_eq_false (by omega)]
    rfl
  show ifS (orM (notM (truM (isiM (ownF2 0) (varM 0)))) (tstM (opM gtD (propM 0 (F_Check_width n) (varM 0)) (cM (nat 10))))) noM nxM e = _
  rw [e_ifS, e_orM, t1, bnd_s]
  show bnd (tstM _ e) _ = _
  rw [t2]
  rfl
theorem how_many_nat (k : G w l g) (o : Od w g T) (hw8 : w ≤ 8) (hn : 2 ^ 20 ≤ n) (hm : many ≤ 1000000000000000000) (hf : few ≤ 8) : Ret (F_how_many_unseen n) [Ck w l, nat many, nat few] (nat (NN (pp w g) many few 0)) := by
  have ok := k.ok
  have hp : 2 ^ w ≤ 256 := Nat.pow_le_pow_right (by decide) hw8
  let e0 : SDs := [.fro (Ck w l), .fro (nat many), .fro (nat few), .nn]
  have c1 : drM (callM (F_check_narrow n) (valA (varM 0) nilA)) e0 = some (.nx e0) := by rw [e_drM, call1 (m := varM 0) (e := e0) rfl (narrow_nat (n := n) (w := w) (l := l) (by omega))]; rfl
  have c2 : drM (callM (F_check_within n) (valA (varM 1) (valA (cM (.int 0)) (valA (cM (.int 1000000000000000000)) nilA)))) e0 = some (.nx e0) := by rw [e_drM, call3 (m := varM 1) (m2 := cM (.int 0)) (m3 := cM (.int 1000000000000000000)) (e := e0) (y := nat 0) (z := nat 1000000000000000000) rfl rfl rfl (check_within_nat (n := n) (Nat.zero_le many) hm)]; rfl
  have c3 : drM (callM (F_check_within n) (valA (varM 2) (valA (cM (.int 0)) (valA (cM (.int 8)) nilA)))) e0 = some (.nx e0) := by rw [e_drM, call3 (m := varM 2) (m2 := cM (.int 0)) (m3 := cM (.int 8)) (e := e0) (y := nat 0) (z := nat 8) rfl rfl rfl (check_within_nat (n := n) (Nat.zero_le few) hf)]; rfl
  have co := call2 (F := F_odd_places n) (m := varM 0) (m2 := varM 1) (e := e0) rfl rfl (odd_places_nat (n := n) (many := many) k o hw8 hn)
  have li : lstI (callM (F_odd_places n) (valA (varM 0) (valA (varM 1) nilA))) e0 = some ((odN w g many).map nat, e0) := by
    unfold lstI
    rw [co]
    rfl
  have hm2 : many < 18446744073709551616 := Nat.lt_of_le_of_lt hm (by decide)
  have mp := map_nat (me := callM (F_signed_choices n) (valA (varM 3) (valA (opM subD (varM 1) (varM 3)) (valA (varM 2) nilA)))) (e := e0) (v := 3) (x0 := .nn) (xs := odN w g many) (fun x => .int (Kr few x (many - x))) li rfl (.inl rfl) (by unfold odN; rw [List.length_map, List.length_range]; omega) fun x hx => by
    obtain ⟨u, hu, rfl⟩ := List.mem_map.mp hx
    have ol := od_le (pp w g) w u many
    let e : SDs := [.fro (Ck w l), .fro (nat many), .fro (nat few), .fro (nat (od (pp w g) w u many))]
    have v1 : varM 1 e = some (nat many, e) := rfl
    have v3 : varM 3 e = some (nat (od (pp w g) w u many), e) := rfl
    have sb : opM subD (varM 1) (varM 3) e = some (nat (many - od (pp w g) w u many), e) := by
      rw [e_opM, v1, bnd_s, v3, bnd_s, e_subN ol]
      rfl
    exact call3 (F := F_signed_choices n) (m := varM 3) (m3 := varM 2) (e := e) rfl sb rfl (signed_nat (n := n) (by omega) (by omega) hf)
  have hs : sm (fun u => Kr few (od (pp w g) w u many) (many - od (pp w g) w u many)) (2 ^ w) = ((2 ^ w : Nat) : Int) * ((NN (pp w g) many few 0 : Nat) : Int) := by
    rw [NN_sum (pp_lt ok) many few 0 (Nat.two_pow_pos w)]
    refine sm_congr fun u _ => ?_
    rw [show sg w u 0 = 1 by unfold sg; rw [dt_zero]; rfl, Int.one_mul]
  have su : cbM (one sumD) (consM (frM (compF (lstI (callM (F_odd_places n) (valA (varM 0) (valA (varM 1) nilA)))) [3] (nameG 3) yesT (callM (F_signed_choices n) (valA (varM 3) (valA (opM subD (varM 1) (varM 3)) (valA (varM 2) nilA)))))) nilM) e0 = some (.int (((2 ^ w : Nat) : Int) * ((NN (pp w g) many few 0 : Nat) : Int)), e0) := by
    rw [e_cbM, e_consM, e_frM, mp]
    have e1 : (odN w g many).map (fun x => D.int (Kr few x (many - x))) = ((List.range (2 ^ w)).map fun u => Kr few (od (pp w g) w u many) (many - od (pp w g) w u many)).map D.int := by
      unfold odN
      rw [List.map_map, List.map_map]
      rfl
    show rsl (sumD (.lst ((odN w g many).map (fun x => D.int (Kr few x (many - x)))))) e0 = _
    rw [e1]
    show rsl (sumD (il _)) e0 = _
    rw [sumI, sum_sm, hs]
    rfl
  refine Ret.of rfl (e' := e0) ?_
  show m_how_many_unseen n e0 = _
  unfold m_how_many_unseen
  rw [e_seqN c1, e_seqN c2, e_seqN c3, e_retM, e_opM, su, bnd_s, wid_e (i := 0) (e := e0) (w := w) (l := l) rfl, bnd_s, shrI]
  have : ((2 ^ w : Nat) : Int) * ((NN (pp w g) many few 0 : Nat) : Int) / 2 ^ w = ((NN (pp w g) many few 0 : Nat) : Int) := by
    rw [Int.natCast_pow]
    exact Int.mul_ediv_cancel_left _ (by have := Nat.two_pow_pos w; rw [show ((2 : Nat) : Int) = 2 from rfl]; exact Int.pow_ne_zero (by decide))
  rw [this]
  rfl
end
end N66

set_option Elab.async false
set_option linter.all false
set_option maxRecDepth 100000
set_option maxHeartbeats 2000000
namespace N66
open PySem PySem.Spec PyProof.Rows L2 Evl WS Mir Poly
section
variable {n w l g T many few a b f m t u : Nat} {x : Int}
theorem nb_pow {c : Nat} (h : x.natAbs ≤ 2 ^ c) (j : Nat) : nb (x ^ j).natAbs ≤ c * j + 1 := by
  have h1 : (x ^ j).natAbs < 2 ^ (c * j + 1) := by
    rw [Int.natAbs_pow]
    refine Nat.lt_of_le_of_lt (Nat.pow_le_pow_left h j) ?_
    rw [← Nat.pow_mul]
    exact Nat.pow_lt_pow_right (by decide) (by omega)
  exact nb_le.mpr h1
def pwL (x : Int) (j : Nat) : List Int := (List.range (j + 1)).map fun i => x ^ i
theorem pwL_s (x : Int) (j : Nat) : pwL x (j + 1) = pwL x j ++ [x ^ (j + 1)] := by
  unfold pwL
  rw [List.range_succ (n := j + 1), List.map_append]
  rfl
theorem pwL_len (x : Int) (j : Nat) : (pwL x j).length = j + 1 := by unfold pwL; rw [List.length_map, List.length_range]
theorem pwL_gt {j i : Nat} (h : i ≤ j) : gt (pwL x j) i = x ^ i := gt_map (by omega)
theorem e_ixL {i : Nat} {e : SDs} {P : List Int} (h : e[i]? = some (.own (.lst (P.map D.int)))) (hp : 1 ≤ P.length) : ixO i (unM negD (cM (.int 1))) e = some (.int (gt P (P.length - 1)), e) := by
  have ho : ownAt e i = some (.own (.lst (P.map D.int)), .lst (P.map D.int)) := by
    unfold ownAt
    rw [h]
    rfl
  have h1 : unM negD (cM (.int 1)) e = some (.int (-1), e) := rfl
  have hat : atI (P.map D.int) (-1) = some (.int (gt P (P.length - 1))) := by
    unfold atI ixN
    rw [List.length_map, if_neg (by decide), if_pos (by omega)]
    show (P.map D.int)[(-1 + ((P.length : Nat) : Int)).toNat]? = _
    rw [show (-1 + ((P.length : Nat) : Int)).toNat = P.length - 1 by omega, List.getElem?_map, List.getElem?_eq_getElem (by omega)]
    unfold gt
    rw [List.getD_eq_getElem?_getD, List.getElem?_eq_getElem (by omega)]
    rfl
  unfold ixO
  rw [ho]
  show (bnd (unM negD (cM (.int 1)) e) fun j e1 => match ownAt e1 i, j with | some (_, .lst xs), .int n => rsl (atI xs n) e1 | _, _ => none) = _
  rw [h1, bnd_s, ho]
  show rsl (atI (P.map D.int) (-1)) e = _
  rw [hat]
  rfl
theorem products_nat (hx : x.natAbs ≤ 1024) (hm : m ≤ 60) : Ret (F_first_products n) [.int x, nat m] (il (pwL x m)) := by
  let s3 : Nat → SD := fun j => match j with
    | 0 => .nn
    | j + 1 => .fro (nat j)
  have n3 : ∀ j, Nb (s3 j) := fun j => by cases j; exact nb_nn; exact nb_fro
  let E : Nat → SDs := fun i => [.fro (.int x), .fro (nat m), .own (.lst ((pwL x i).map D.int)), s3 i]
  let body : MS := appM 2 (opM mulD (ixO 2 (unM negD (cM (.int 1)))) (varM 0))
  have lp := for_rng (g := nameG 3) (b := body) E m fun i hi => by
    let e1 : SDs := [.fro (.int x), .fro (nat m), .own (.lst ((pwL x i).map D.int)), .fro (nat i)]
    refine ⟨e1, by show setS 3 _ _ = _; rw [set_nb (s := s3 i) rfl (n3 i)]; rfl, ?_⟩
    have ix := e_ixL (e := e1) (i := 2) (P := pwL x i) rfl (by rw [pwL_len]; omega)
    rw [pwL_len, Nat.add_sub_cancel, pwL_gt (Nat.le_refl i)] at ix
    have v0 : varM 0 e1 = some (.int x, e1) := rfl
    have ml : mulD (.int (x ^ i)) (.int x) = some (.int (x ^ i * x)) := mulI (Nat.le_trans (nb_pow (c := 10) hx i) (by omega)) (Nat.le_trans (nb_le.mpr (show x.natAbs < 2 ^ 11 by omega)) (by decide))
    have va : opM mulD (ixO 2 (unM negD (cM (.int 1)))) (varM 0) e1 = some (.int (x ^ (i + 1)), e1) := by
      rw [e_opM, ix, bnd_s, v0, bnd_s, ml, Int.pow_succ]
      rfl
    show appM 2 _ e1 = _
    rw [e_appO (xs := (pwL x i).map D.int) rfl va (by rw [List.length_map, pwL_len]; omega)]
    show some (Out.nx [.fro (.int x), .fro (nat m), .own (.lst ((pwL x i).map D.int ++ [.int (x ^ (i + 1))])), .fro (nat i)]) = some (Out.nx [.fro (.int x), .fro (nat m), .own (.lst ((pwL x (i + 1)).map D.int)), .fro (nat i)])
    rw [pwL_s, List.map_append]
    rfl
  let e0 : SDs := [.fro (.int x), .fro (nat m), .nn, .nn]
  have it : rng1I (consM (varM 1) nilM) (E 0) = some (rngD 0 m, E 0) := e_rng1 (k := m) rfl (by omega)
  refine Ret.of rfl (e' := [.fro (.int x), .fro (nat m), .fro (il (pwL x m)), s3 m]) ?_
  show m_first_products n e0 = _
  unfold m_first_products
  rw [e_seqN (e1 := E 0) (by show some (Out.nx [.fro (.int x), .fro (nat m), .own (.lst [.int 1]), .nn]) = some (Out.nx [.fro (.int x), .fro (nat m), .own (.lst [.int (x ^ 0)]), .nn]); rw [Int.pow_zero]), e_seqN (e1 := E m) (by rw [e_forM, it, bnd_s]; exact lp)]
  rfl
theorem gcdN {a b : Nat} : gcdD (nat a) (nat b) = some (nat (Nat.gcd a b)) := rfl
theorem gcd_pos2 (hu : 0 < u) : 0 < Nat.gcd t u := Nat.gcd_pos_of_pos_right t hu
theorem gcd_le2 (hu : 0 < u) : Nat.gcd t u ≤ u := Nat.le_of_dvd hu (Nat.gcd_dvd_right t u)
def lowD (t u : Nat) : D := .tup [nat (t / Nat.gcd t u), nat (u / Nat.gcd t u)]
theorem nb_mono2 {a b c : Nat} (h : a ≤ b) (hb : nb b ≤ c) : nb a ≤ c := nb_le.mpr (Nat.lt_of_le_of_lt h (nb_le.mp hb))
theorem fraction_nat (hu : 0 < u) (hb : nb u ≤ 1000) : Ret (F_fraction n) [nat t, nat u] (lowD t u) := by
  let e0 : SDs := [.fro (nat t), .fro (nat u), .nn]
  let e1 : SDs := [.fro (nat t), .fro (nat u), .fro (nat (Nat.gcd t u))]
  have v0 : varM 0 e0 = some (nat t, e0) := rfl
  have v1 : varM 1 e0 = some (nat u, e0) := rfl
  have t1 : tstM (opM gtD (varM 1) (cM (nat 0))) e0 = some (true, e0) := by
    rw [e_tstM, e_opM, v1, bnd_s, e_cM, bnd_s, e_gtN, decide_eq_true hu]
    rfl
  have a1 : asM (nameG 2) (ifM (tstM (opM gtD (varM 1) (cM (nat 0)))) (cbM (two gcdD) (consM (varM 0) (consM (varM 1) nilM))) (unM negD (cbM (two gcdD) (consM (varM 0) (consM (varM 1) nilM))))) e0 = some (.nx e1) := by
    rw [e_asM, e_ifM, t1, bnd_s]
    show bnd (cbM _ _ e0) _ = _
    rw [two_e v0 v1 gcdN]
    rfl
  have w0 : varM 0 e1 = some (nat t, e1) := rfl
  have w1 : varM 1 e1 = some (nat u, e1) := rfl
  have w2 : varM 2 e1 = some (nat (Nat.gcd t u), e1) := rfl
  have hg := gcd_pos2 (t := t) hu
  have hgb : nb (Nat.gcd t u) ≤ 1000 := nb_mono2 (gcd_le2 hu) hb
  have d1 : opM fdivD (varM 0) (varM 2) e1 = some (nat (t / Nat.gcd t u), e1) := by
    rw [e_opM, w0, bnd_s, w2, bnd_s, e_fdivN (by omega) hgb]
    rfl
  have d2 : opM fdivD (varM 1) (varM 2) e1 = some (nat (u / Nat.gcd t u), e1) := by
    rw [e_opM, w1, bnd_s, w2, bnd_s, e_fdivN (by omega) hgb]
    rfl
  refine Ret.of rfl (e' := e1) ?_
  show seqM (asM (nameG 2) (ifM (tstM (opM gtD (varM 1) (cM (nat 0)))) (cbM (two gcdD) (consM (varM 0) (consM (varM 1) nilM))) (unM negD (cbM (two gcdD) (consM (varM 0) (consM (varM 1) nilM)))))) (retM (tupM (consM (opM fdivD (varM 0) (varM 2)) (consM (opM fdivD (varM 1) (varM 2)) nilM)))) e0 = _
  rw [e_seqN a1, e_retM, tup2 d1 d2]
  rfl
theorem lowest_nat (hu : 0 < u) (hb : nb u ≤ 1000) (hn : u < n) : Ret (F__law_lowest n) [nat t, nat u] (lowD t u) := by
  obtain ⟨⟨x, y⟩, hi, hc, hw⟩ := wh_run (α := Nat × Nat) (t := tstM (opM (eqD true) (varM 3) (cM (.int 0)))) (b := (parM [2, 3] (froX (varM 3) (froX (opM modD (varM 2) (varM 3)) nilX))))
    (fun s => [.fro (nat t), .fro (nat u), .fro (nat s.1), .fro (nat s.2)]) (fun s => s.2 != 0) (fun s => (s.2, s.1 % s.2)) (fun s => Nat.gcd s.1 s.2 = Nat.gcd t u) (fun s => s.2)
    (fun s hs => by
      obtain ⟨x, y⟩ := s
      simp [-e_eqL]
      show (y == 0) = !(!(y == 0))
      rw [Bool.not_not])
    (fun s hs hc => by
      obtain ⟨x, y⟩ := s
      dsimp only at hs hc ⊢
      have hy : y ≠ 0 := by simpa using hc
      refine ⟨?_, ?_, Nat.mod_lt x (by omega)⟩
      · simp [e_modN hy]
      · rw [← hs, Nat.gcd_comm, ← Nat.gcd_rec, Nat.gcd_comm]) n (t, u) rfl hn
  have hy : y = 0 := by simpa using hc
  dsimp only at hi
  rw [hy, Nat.gcd_zero_right] at hi
  subst hy hi
  let e0 : SDs := [.fro (nat t), .fro (nat u), .nn, .nn]
  let e1 : SDs := [.fro (nat t), .fro (nat u), .fro (nat (Nat.gcd t u)), .fro (nat 0)]
  have a1 : parM [2, 3] (froX (cbM (one (i1D fun i => if i < 0 then -i else i)) (consM (varM 0) nilM)) (froX (varM 1) nilX)) e0 = some (.nx [.fro (nat t), .fro (nat u), .fro (nat t), .fro (nat u)]) := by
    have ab : cbM (one (i1D fun i => if i < 0 then -i else i)) (consM (varM 0) nilM) e0 = some (nat t, e0) := by
      have v0 : varM 0 e0 = some (nat t, e0) := rfl
      rw [e_cbM, e_consM, v0]
      show rsl (some (D.int (if (t : Int) < 0 then -(t : Int) else (t : Int)))) e0 = _
      rw [if_neg (by omega)]
      rfl
    rw [e_parM, e_froX, ab]
    rfl
  have w0 : varM 0 e1 = some (nat t, e1) := rfl
  have w1 : varM 1 e1 = some (nat u, e1) := rfl
  have w2 : varM 2 e1 = some (nat (Nat.gcd t u), e1) := rfl
  have hg := gcd_pos2 (t := t) hu
  have hgb : nb (Nat.gcd t u) ≤ 1000 := nb_mono2 (gcd_le2 hu) hb
  have d1 : opM fdivD (varM 0) (varM 2) e1 = some (nat (t / Nat.gcd t u), e1) := by
    rw [e_opM, w0, bnd_s, w2, bnd_s, e_fdivN (by omega) hgb]
    rfl
  have d2 : opM fdivD (varM 1) (varM 2) e1 = some (nat (u / Nat.gcd t u), e1) := by
    rw [e_opM, w1, bnd_s, w2, bnd_s, e_fdivN (by omega) hgb]
    rfl
  refine Ret.of rfl (e' := e1) ?_
  show m__law_lowest n e0 = _
  unfold m__law_lowest
  rw [e_seqN a1, e_seqN hw, e_retM]
  show bnd (tupM _ e1) _ = _
  rw [tup2 d1 d2]
  rfl
theorem raised_nat {b : Nat} (hb : b ≤ 1024) (hm : m ≤ 60) : Ret (F__law_raised n) [nat b, nat m] (nat (b ^ m)) := by
  let s3 : Nat → SD := fun j => match j with
    | 0 => .nn
    | j + 1 => .fro (nat j)
  have n3 : ∀ j, Nb (s3 j) := fun j => by cases j; exact nb_nn; exact nb_fro
  let E : Nat → SDs := fun i => [.fro (nat b), .fro (nat m), .fro (nat (b ^ i)), s3 i]
  have lp := for_rng (g := nameG 3) (b := asM (nameG 2) (opM mulD (varM 2) (varM 0))) E m fun i hi => by
    let e1 : SDs := [.fro (nat b), .fro (nat m), .fro (nat (b ^ i)), .fro (nat i)]
    refine ⟨e1, by show setS 3 _ _ = _; rw [set_nb (s := s3 i) rfl (n3 i)]; rfl, ?_⟩
    have v2 : varM 2 e1 = some (nat (b ^ i), e1) := rfl
    have v0 : varM 0 e1 = some (nat b, e1) := rfl
    have h1 : nb (b ^ i) ≤ 5000 := by
      have := nb_pow (x := (b : Int)) (c := 10) (by show ((b : Nat) : Int).natAbs ≤ 1024; omega) i
      rw [← Int.natCast_pow, Int.natAbs_natCast] at this
      omega
    rw [e_asM, e_opM, v2, bnd_s, v0, bnd_s, e_mulN h1 (Nat.le_trans (nb_le.mpr (show b < 2 ^ 11 by omega)) (by decide)), ← Nat.pow_succ]
    rfl
  let e0 : SDs := [.fro (nat b), .fro (nat m), .nn, .nn]
  have it : rng1I (consM (varM 1) nilM) (E 0) = some (rngD 0 m, E 0) := e_rng1 (k := m) rfl (by omega)
  refine Ret.of rfl (e' := E m) ?_
  show m__law_raised n e0 = _
  unfold m__law_raised
  rw [e_seqN (e1 := E 0) (by rw [e_asM, e_cM]; show some (Out.nx [.fro (nat b), .fro (nat m), .fro (.int 1), .nn]) = some (Out.nx [.fro (nat b), .fro (nat m), .fro (nat (b ^ 0)), .nn]); rw [Nat.pow_zero]; rfl), e_seqN (e1 := E m) (by rw [e_forM, it, bnd_s]; exact lp)]
  rfl
/-! ### the chance -/
theorem sm_nonneg {f : Nat → Int} : ∀ {N : Nat}, (∀ i, i < N → 0 ≤ f i) → 0 ≤ sm f N
  | 0, _ => Int.le_refl 0
  | N + 1, h => Int.add_nonneg (sm_nonneg fun i hi => h i (by omega)) (h N (by omega))
def totI (w g m t c : Nat) : Int := sm (fun f => ((NN (pp w g) m (f + 1) 0 : Nat) : Int) * (((t : Nat) : Int) ^ (f + 1) * ((c : Nat) : Int) ^ (m - (f + 1)))) m
def totN (w g m t c : Nat) : Nat := (totI w g m t c).toNat
theorem tot_cast (m t c : Nat) : ((totN w g m t c : Nat) : Int) = totI w g m t c := by
  have : 0 ≤ totI w g m t c := sm_nonneg fun f _ => Int.mul_nonneg (by omega) (Int.mul_nonneg (by rw [← Int.natCast_pow]; omega) (by rw [← Int.natCast_pow]; omega))
  unfold totN
  omega
theorem tot_Z (m t c : Nat) : ZZ (pp w g) t c m 0 = totI w g m t c + ((c : Nat) : Int) ^ m := by
  rw [ZZ_NN, sm_front, NN_0, if_pos rfl, Int.pow_zero, Int.one_mul]
  show ((1 : Nat) : Int) * _ + _ = totI w g m t c + _
  rw [show ((1 : Nat) : Int) = 1 from rfl, Int.one_mul, Int.add_comm, Nat.sub_zero]
  rfl
end
end N66

set_option Elab.async false
set_option linter.all false
set_option maxRecDepth 100000
set_option maxHeartbeats 2000000
namespace N66
open PySem PySem.Spec PyProof.Rows L2 Evl WS Mir Poly
section
variable {n w l g T many few a b f m t u : Nat} {x : Int}
theorem low_mul {k : Nat} (hk : 0 < k) (hu : 0 < u) : lowD (k * t) (u * k) = lowD t u := by
  unfold lowD
  rw [Nat.mul_comm u k, Nat.gcd_mul_left, Nat.mul_div_mul_left _ _ hk, Nat.mul_div_mul_left _ _ hk]
def CE (w l m t u : Nat) (s4 s5 s6 s7 : SD) : SDs := [.fro (Ck w l), .fro (nat m), .fro (nat t), .fro (nat u), s4, s5, s6, s7, .nn]
theorem max_e {e : SDs} {i : Nat} (h : varM i e = some (nat t, e)) : cbM (one (mmD maxI)) (consM (frM (lstF (consM (cM (.int 1)) (consM (varM i) nilM)))) nilM) e = some (nat (if 1 < t then t else 1), e) := by
  have q : frM (lstF (consM (cM (.int 1)) (consM (varM i) nilM))) e = some (il [1, (t : Int)], e) := by
    have q : consM (cM (.int 1)) (consM (varM i) nilM) e = some ([.int 1, nat t], e) := by
      rw [e_consM, e_cM, bnd_s, e_consM, h]
      rfl
    rw [e_frM, e_lstF q (by show (2 : Nat) ≤ 1000; decide)]
    rfl
  have mx : mmD maxI (il [1, (t : Int)]) = some (nat (if 1 < t then t else 1)) := by
    show (match intsO ([1, (t : Int)].map D.int) with | some ns => (match maxI ns with | some m => some (D.int m) | none => none) | none => none) = _
    rw [ints_of]
    show some (D.int (if (t : Int) > 1 then (t : Int) else 1)) = _
    by_cases c : 1 < t
    · rw [if_pos c, if_pos (by omega)]
      rfl
    · rw [if_neg c, if_neg (by omega)]
      rfl
  rw [e_cbM, e_consM, q]
  show rsl (mmD maxI (il [1, (t : Int)])) e = _
  rw [mx]
  rfl
theorem pow_nat (c m : Nat) : D.int (((c : Nat) : Int) ^ m) = nat (c ^ m) := by
  show D.int _ = D.int _
  rw [Int.natCast_pow]
theorem chance_nat (k : G w l g) (o : Od w g T) (hw8 : w ≤ 8) (hn : 2 ^ 20 ≤ n) (hm : m ≤ 60) (ht : t ≤ u) (hu : 1 ≤ u) (hu2 : u ≤ 1000) : Ret (F_chance n) [Ck w l, nat m, nat t, nat u] (lowD (totN w g m t (u - t)) (u ^ m)) := by
  have ok := k.ok
  have hp : 2 ^ w ≤ 256 := Nat.pow_le_pow_right (by decide) hw8
  let c := u - t
  let d : Int := (u : Int) - 2 * (t : Int)
  let e0 := CE w l m t u .nn .nn .nn .nn
  let e2 := CE w l m t u (.fro (il (pwL d m))) (.fro (il (pwL (u : Int) m))) .nn .nn
  have c1 : drM (callM (F_check_narrow n) (valA (varM 0) nilA)) e0 = some (.nx e0) := by rw [e_drM, call1 (m := varM 0) (e := e0) rfl (narrow_nat (n := n) (w := w) (l := l) (by omega))]; rfl
  have c2 : drM (callM (F_check_within n) (valA (varM 1) (valA (cM (.int 0)) (valA (cM (.int 60)) nilA)))) e0 = some (.nx e0) := by rw [e_drM, call3 (m := varM 1) (m2 := cM (.int 0)) (m3 := cM (.int 60)) (e := e0) (y := nat 0) (z := nat 60) rfl rfl rfl (check_within_nat (n := n) (Nat.zero_le m) hm)]; rfl
  have c3 : drM (callM (F_check_within n) (valA (varM 2) (valA (cM (.int 0)) (valA (cM (.int 1000)) nilA)))) e0 = some (.nx e0) := by rw [e_drM, call3 (m := varM 2) (m2 := cM (.int 0)) (m3 := cM (.int 1000)) (e := e0) (y := nat 0) (z := nat 1000) rfl rfl rfl (check_within_nat (n := n) (Nat.zero_le t) (by omega))]; rfl
  have c4 : drM (callM (F_check_within n) (valA (varM 3) (valA (cbM (one (mmD maxI)) (consM (frM (lstF (consM (cM (.int 1)) (consM (varM 2) nilM)))) nilM)) (valA (cM (.int 1000)) nilA)))) e0 = some (.nx e0) := by rw [e_drM, call3 (m := varM 3) (m3 := cM (.int 1000)) (e := e0) (z := nat 1000) rfl (max_e (i := 2) (e := e0) rfl) rfl (check_within_nat (n := n) (by split <;> omega) hu2)]; rfl
  have v1 : varM 1 e0 = some (nat m, e0) := rfl
  have v2 : varM 2 e0 = some (nat t, e0) := rfl
  have v3 : varM 3 e0 = some (nat u, e0) := rfl
  have b2 : nb t ≤ 5000 := Nat.le_trans (nb_le.mpr (show t < 2 ^ 10 by omega)) (by decide)
  have dd : opM subD (varM 3) (opM mulD (cM (.int 2)) (varM 2)) e0 = some (.int d, e0) := by
    have ml : mulD (.int 2) (nat t) = some (nat (2 * t)) := e_mulN (a := 2) (b := t) (Nat.le_trans (nb_le.mpr (show 2 < 2 ^ 2 by decide)) (by decide)) b2
    rw [e_opM, v3, bnd_s, e_opM, e_cM, bnd_s, v2, bnd_s, ml, rsl_s, bnd_s]
    show rsl (some (D.int ((u : Int) - ((2 * t : Nat) : Int)))) e0 = _
    rw [show (u : Int) - ((2 * t : Nat) : Int) = d by show _ = (u : Int) - 2 * (t : Int); omega]
    rfl
  have p1 := call2 (F := F_first_products n) (m2 := varM 1) (e := e0) (y := nat m) dd rfl (products_nat (n := n) (x := d) (m := m) (by show ((u : Int) - 2 * (t : Int)).natAbs ≤ 1024; omega) hm)
  have p2 := call2 (F := F_first_products n) (m := varM 3) (m2 := varM 1) (e := e0) (x := .int (u : Int)) (y := nat m) rfl rfl (products_nat (n := n) (x := (u : Int)) (m := m) (by omega) hm)
  have a45 : asM (tupG 2 (consG (nameG 4) (consG (nameG 5) nilG))) (tupM (consM (callM (F_first_products n) (valA (opM subD (varM 3) (opM mulD (cM (.int 2)) (varM 2))) (valA (varM 1) nilA))) (consM (callM (F_first_products n) (valA (varM 3) (valA (varM 1) nilA))) nilM))) e0 = some (.nx e2) := by
    rw [e_asM, tup2 p1 p2]
    rfl
  have co := call2 (F := F_odd_places n) (m := varM 0) (m2 := varM 1) (e := e2) rfl rfl (odd_places_nat (n := n) (many := m) k o hw8 hn)
  have li : lstI (callM (F_odd_places n) (valA (varM 0) (valA (varM 1) nilA))) e2 = some ((odN w g m).map nat, e2) := by
    unfold lstI
    rw [co]
    rfl
  have mp := map_nat (me := opM mulD (opM ixD (varM 4) (varM 8)) (opM ixD (varM 5) (opM subD (varM 1) (varM 8)))) (e := e2) (v := 8) (x0 := .nn) (xs := odN w g m) (fun x => .int (d ^ x * (u : Int) ^ (m - x))) li rfl (.inl rfl) (by unfold odN; rw [List.length_map, List.length_range]; omega) fun x hx => by
    obtain ⟨q, hq, rfl⟩ := List.mem_map.mp hx
    have ol := od_le (pp w g) w q m
    generalize od (pp w g) w q m = x at ol
    let e : SDs := [.fro (Ck w l), .fro (nat m), .fro (nat t), .fro (nat u), .fro (il (pwL d m)), .fro (il (pwL (u : Int) m)), .nn, .nn, .fro (nat x)]
    have v1 : varM 1 e = some (nat m, e) := rfl
    have v4 : varM 4 e = some (il (pwL d m), e) := rfl
    have v5 : varM 5 e = some (il (pwL (u : Int) m), e) := rfl
    have v8 : varM 8 e = some (nat x, e) := rfl
    have i1 : opM ixD (varM 4) (varM 8) e = some (.int (d ^ x), e) := by
      rw [e_opM, v4, bnd_s, v8, bnd_s, ixI (by rw [pwL_len]; omega), pwL_gt ol]
      rfl
    have i2 : opM ixD (varM 5) (opM subD (varM 1) (varM 8)) e = some (.int ((u : Int) ^ (m - x)), e) := by
      rw [e_opM, v5, bnd_s, e_opM, v1, bnd_s, v8, bnd_s, e_subN ol, rsl_s, bnd_s, ixI (by rw [pwL_len]; omega), pwL_gt (by omega)]
      rfl
    have ml : mulD (.int (d ^ x)) (.int ((u : Int) ^ (m - x))) = some (.int (d ^ x * (u : Int) ^ (m - x))) := mulI (Nat.le_trans (nb_pow (c := 10) (by show ((u : Int) - 2 * (t : Int)).natAbs ≤ 1024; omega) x) (by omega)) (Nat.le_trans (nb_pow (c := 10) (by show ((u : Nat) : Int).natAbs ≤ 1024; omega) (m - x)) (by omega))
    show opM mulD _ _ e = some (_, e)
    rw [e_opM, i1, bnd_s, i2, bnd_s, ml]
    rfl
  have hs : sm (fun q => d ^ od (pp w g) w q m * (u : Int) ^ (m - od (pp w g) w q m)) (2 ^ w) = ((2 ^ w : Nat) : Int) * ZZ (pp w g) t c m 0 := by
    rw [ZZ_sum (pp_lt ok) m 0 (Nat.two_pow_pos w)]
    refine sm_congr fun q _ => ?_
    rw [show sg w q 0 = 1 by unfold sg; rw [dt_zero]; rfl, Int.one_mul, show ((c : Nat) : Int) - (t : Int) = d by show ((u - t : Nat) : Int) - t = (u : Int) - 2 * (t : Int); omega, show ((c : Nat) : Int) + (t : Int) = (u : Int) by show ((u - t : Nat) : Int) + t = (u : Int); omega]
  let U : Int := ((2 ^ w : Nat) : Int) * ZZ (pp w g) t c m 0
  let e3 := CE w l m t u (.fro (il (pwL d m))) (.fro (il (pwL (u : Int) m))) (.fro (.int U)) .nn
  have a6 : asM (nameG 6) (cbM (one sumD) (consM (frM (compF (lstI (callM (F_odd_places n) (valA (varM 0) (valA (varM 1) nilA)))) [8] (nameG 8) yesT (opM mulD (opM ixD (varM 4) (varM 8)) (opM ixD (varM 5) (opM subD (varM 1) (varM 8)))))) nilM)) e2 = some (.nx e3) := by
    have e1 : (odN w g m).map (fun x => D.int (d ^ x * (u : Int) ^ (m - x))) = ((List.range (2 ^ w)).map fun q => d ^ od (pp w g) w q m * (u : Int) ^ (m - od (pp w g) w q m)).map D.int := by
      unfold odN
      rw [List.map_map, List.map_map]
      rfl
    have su : cbM (one sumD) (consM (frM (compF (lstI (callM (F_odd_places n) (valA (varM 0) (valA (varM 1) nilA)))) [8] (nameG 8) yesT (opM mulD (opM ixD (varM 4) (varM 8)) (opM ixD (varM 5) (opM subD (varM 1) (varM 8)))))) nilM) e2 = some (.int U, e2) := by
      rw [e_cbM, e_consM, e_frM, mp]
      show rsl (sumD (.lst ((odN w g m).map (fun x => D.int (d ^ x * (u : Int) ^ (m - x)))))) e2 = _
      rw [e1]
      show rsl (sumD (il _)) e2 = _
      rw [sumI, sum_sm, hs]
      rfl
    rw [e_asM, su]
    rfl
  let e4 := CE w l m t u (.fro (il (pwL d m))) (.fro (il (pwL (u : Int) m))) (.fro (.int U)) (.fro (nat (c ^ m)))
  have a7 : asM (nameG 7) (opM ixD (callM (F_first_products n) (valA (opM subD (varM 3) (varM 2)) (valA (varM 1) nilA))) (varM 1)) e3 = some (.nx e4) := by
    have w3 : varM 3 e3 = some (nat u, e3) := rfl
    have w2 : varM 2 e3 = some (nat t, e3) := rfl
    have w1 : varM 1 e3 = some (nat m, e3) := rfl
    have sb : opM subD (varM 3) (varM 2) e3 = some (.int (c : Int), e3) := by
      rw [e_opM, w3, bnd_s, w2, bnd_s, e_subN ht]
      rfl
    have p3 := call2 (F := F_first_products n) (m2 := varM 1) (e := e3) (y := nat m) sb rfl (products_nat (n := n) (x := (c : Int)) (m := m) (by show ((u - t : Nat) : Int).natAbs ≤ 1024; omega) hm)
    rw [e_asM, e_opM, p3, bnd_s, w1, bnd_s, ixI (by rw [pwL_len]; omega), pwL_gt (Nat.le_refl m), pow_nat]
    rfl
  have nc : nb (c ^ m) ≤ 5000 := by
    have := nb_pow (x := (c : Int)) (c := 10) (by show ((u - t : Nat) : Int).natAbs ≤ 1024; omega) m
    rw [← Int.natCast_pow, Int.natAbs_natCast] at this
    omega
  have nu : nb (u ^ m) ≤ 601 := by
    have := nb_pow (x := (u : Int)) (c := 10) (by show ((u : Nat) : Int).natAbs ≤ 1024; omega) m
    rw [← Int.natCast_pow, Int.natAbs_natCast] at this
    omega
  have hum : 0 < u ^ m := Nat.pow_pos (by omega)
  have d1 : opM subD (varM 6) (opM shlD (varM 7) (propM 0 (F_Check_width n) (varM 0))) e4 = some (nat (2 ^ w * totN w g m t c), e4) := by
    have w6 : varM 6 e4 = some (.int U, e4) := rfl
    have w7 : varM 7 e4 = some (nat (c ^ m), e4) := rfl
    have sb : subD (.int U) (nat (c ^ m * 2 ^ w)) = some (.int (U - ((c ^ m * 2 ^ w : Nat) : Int))) := e_subI
    rw [e_opM, w6, bnd_s, e_opM, w7, bnd_s, wid_e (i := 0) (e := e4) (w := w) (l := l) rfl, bnd_s, e_shlN nc (by omega), rsl_s, bnd_s, sb]
    have : U - ((c ^ m * 2 ^ w : Nat) : Int) = ((2 ^ w * totN w g m t c : Nat) : Int) := by
      show ((2 ^ w : Nat) : Int) * ZZ (pp w g) t c m 0 - _ = _
      rw [tot_Z, Int.natCast_mul (2 ^ w), tot_cast, Int.mul_add, Int.natCast_mul (c ^ m), Int.natCast_pow c m, Int.mul_comm (((c : Nat) : Int) ^ m)]
      omega
    rw [this]
    rfl
  have d2 : opM shlD (opM ixD (varM 5) (varM 1)) (propM 0 (F_Check_width n) (varM 0)) e4 = some (nat (u ^ m * 2 ^ w), e4) := by
    have w5 : varM 5 e4 = some (il (pwL (u : Int) m), e4) := rfl
    have w1 : varM 1 e4 = some (nat m, e4) := rfl
    rw [e_opM, e_opM, w5, bnd_s, w1, bnd_s, ixI (by rw [pwL_len]; omega), pwL_gt (Nat.le_refl m), rsl_s, bnd_s, wid_e (i := 0) (e := e4) (w := w) (l := l) rfl, bnd_s, pow_nat, e_shlN (by omega) (by omega)]
    rfl
  have nk : nb (u ^ m * 2 ^ w) ≤ 1000 := by
    rw [nb_shl (by have := nb_pos (show u ^ m ≠ 0 by omega); omega)]
    omega
  have cf := call2 (F := F_fraction n) (e := e4) d1 d2 (fraction_nat (n := n) (Nat.mul_pos hum (Nat.two_pow_pos w)) nk)
  rw [low_mul (Nat.two_pow_pos w) hum] at cf
  refine Ret.of rfl (e' := e4) ?_
  show m_chance n e0 = _
  unfold m_chance
  rw [e_seqN c1, e_seqN c2, e_seqN c3, e_seqN c4, e_seqN a45, e_seqN a6, e_seqN a7, e_retM, cf]
  rfl
end
end N66

set_option Elab.async false
set_option linter.all false
set_option maxRecDepth 100000
set_option maxHeartbeats 2000000
namespace N66
open PySem PySem.Spec PyProof.Rows L2 Evl WS Mir Poly
def Sc (x : SD) : Prop := x = .nn ∨ ∃ d, x = .fro d
section
variable {n b k m c : Nat} {o : OD}
theorem sc_set {i : Nat} {x s : SD} {e : SDs} (h1 : e[i]? = some s) (h2 : Sc s) : setS i x e = some (e.set i x) := set_nb h1 (by rcases h2 with rfl | ⟨d, rfl⟩; exact nb_nn; exact nb_fro)
theorem drawE {me : M} {r : SDs} (hg : GS b o) (hb : b ≤ 1000000000) (h1 : 1 ≤ k) (hk : nb k ≤ 100) (hm : me (.bor o :: r) = some (nat k, .bor o :: r)) : ∃ z o', z < k ∧ GS (b + 100) o' ∧ callM (F__law_random n) (sloA 0 (valA me nilA)) (.bor o :: r) = some (nat z, .bor o' :: r) := by
  obtain ⟨z, o', h, l, g⟩ := rnd0 (n := n) (bound := k) hg hb h1 hk
  refine ⟨z, o', l, g, ?_⟩
  have va : valA me nilA (.bor o :: r) = some ([.inl (nat k)], .bor o :: r) := by
    rw [e_valA, hm]
    rfl
  have q : sloA 0 (valA me nilA) (.bor o :: r) = some ([.inr 0, .inl (nat k)], .bor o :: r) := by
    show bnd (valA me nilA (.bor o :: r)) (fun as e2 => some (Sum.inr 0 :: as, e2)) = _
    rw [va]
    rfl
  rw [e_callM, q, bnd_s]
  exact h r
theorem drawnE {i w : Nat} {r : SDs} (hg : GS b o) (hb : b ≤ 1000000000) (h1 : 1 ≤ w) (h2 : w ≤ 16) (hm : varM i (.bor o :: r) = some (nat w, .bor o :: r)) : ∃ l o', G w l (2 ^ w + l) ∧ GS (b + 100) o' ∧ callM (F__law_drawn n) (sloA 0 (valA (varM i) nilA)) (.bor o :: r) = some (nat l, .bor o' :: r) := by
  obtain ⟨l, o', h, k, g⟩ := drawn_nat (n := n) hg hb h1 h2
  refine ⟨l, o', k, g, ?_⟩
  have va : valA (varM i) nilA (.bor o :: r) = some ([.inl (nat w)], .bor o :: r) := by
    rw [e_valA, hm]
    rfl
  have q : sloA 0 (valA (varM i) nilA) (.bor o :: r) = some ([.inr 0, .inl (nat w)], .bor o :: r) := by
    show bnd (valA (varM i) nilA (.bor o :: r)) (fun as e2 => some (Sum.inr 0 :: as, e2)) = _
    rw [va]
    rfl
  rw [e_callM, q, bnd_s]
  exact call_slo (e := .bor o :: r) (x := .bor o) (i := 0) (ds := [nat w]) rfl rfl h rfl
end

theorem ne_tup {a b : Nat} : eqD true (.tup [nat a, nat b]) (.tup [nat a, nat b]) = some (.bl false) := by
  have h1 : toP (.tup [nat a, nat b]) = some (.tuple [.int (a : Int), .int (b : Int)]) := rfl
  have h4 : PyData.canLay0 (.tuple [.int (a : Int), .int (b : Int)]) = true := by simp [PyData.canLay0, PyData.canLayAll0]
  have h5 : SeqAt.shaped (.tuple [.int (a : Int), .int (b : Int)]) = true := by
    show (PyData.canLay0 _ && decide (PyData.depth _ ≤ 64)) = true
    rw [h4, Bool.true_and, decide_eq_true_iff]
    simp [PyData.depth, PyData.depthAll]
  show (match toP (.tup [nat a, nat b]), toP (.tup [nat a, nat b]) with | some p, some q => if SeqAt.shaped p = true ∧ SeqAt.shaped q = true then some (D.bl (!PyData.eqv p q)) else none | _, _ => none) = _
  rw [h1]
  show (if SeqAt.shaped _ = true ∧ SeqAt.shaped _ = true then some (D.bl (!PyData.eqv _ _)) else none) = _
  rw [if_pos ⟨h5, h5⟩, SeqAt.eqv_refl _ h4]
  rfl
theorem ne_low {t u : Nat} : eqD true (lowD t u) (lowD t u) = some (.bl false) := ne_tup
theorem eq_low {t u : Nat} : eqD false (lowD t u) (lowD t u) = some (.bl true) := by
  have h := @ne_low t u
  show (match toP (lowD t u), toP (lowD t u) with | some p, some q => if SeqAt.shaped p = true ∧ SeqAt.shaped q = true then some (D.bl (PyData.eqv p q)) else none | _, _ => none) = _
  have h : (match toP (lowD t u), toP (lowD t u) with | some p, some q => if SeqAt.shaped p = true ∧ SeqAt.shaped q = true then some (D.bl (!PyData.eqv p q)) else none | _, _ => none) = some (.bl false) := h
  cases q : toP (lowD t u) with
  | none => rw [q] at h; cases h
  | some p =>
    rw [q] at h
    have h : (if SeqAt.shaped p = true ∧ SeqAt.shaped p = true then some (D.bl (!PyData.eqv p p)) else none) = some (.bl false) := h
    show (if SeqAt.shaped p = true ∧ SeqAt.shaped p = true then some (D.bl (PyData.eqv p p)) else none) = _
    split at h
    · rename_i hc
      rw [if_pos hc]
      cases e : PyData.eqv p p with
      | true => rfl
      | false => rw [e] at h; cases h
    · cases h
section
variable {n w l g T many few a b f m t u x : Nat}
/-! ### a number's ones -/
def onesL (x : Nat) : List Nat := (List.range (nb x)).filter fun i => x / 2 ^ i % 2 == 1
theorem pcb_fil (x : Nat) : ∀ K, ((List.range K).filter fun i => x / 2 ^ i % 2 == 1).length = pcb x K
  | 0 => rfl
  | K + 1 => by
    have e : (x / 2 ^ K % 2 == 1) = x.testBit K := by rw [Nat.testBit_eq_decide_div_mod_eq]; rfl
    rw [List.range_succ, List.filter_append, List.length_append, pcb_fil x K]
    show _ + (List.filter _ [K]).length = pcb x K + _
    cases h : x.testBit K with
    | true => rw [List.filter_cons_of_pos (by rw [e, h])]; rfl
    | false => rw [List.filter_cons_of_neg (by rw [e, h]; decide)]; rfl
theorem pcb_more {x : Nat} {K : Nat} (h : x < 2 ^ K) : ∀ j, pcb x (K + j) = pcb x K
  | 0 => rfl
  | j + 1 => by
    show pcb x (K + j) + (if x.testBit (K + j) then 1 else 0) = _
    rw [pcb_more h j, Nat.testBit_lt_two_pow (Nat.lt_of_lt_of_le h (Nat.pow_le_pow_right (by decide) (by omega)))]
    rfl
theorem ones_len {m : Nat} (h : x < 2 ^ m) : (onesL x).length = pcb x m := by
  unfold onesL
  rw [pcb_fil]
  have hn := nb_le.mpr h
  have := pcb_more (x := x) (K := nb x) (nb_le.mp (Nat.le_refl _)) (m - nb x)
  rw [show nb x + (m - nb x) = m by omega] at this
  exact this.symm
theorem pcb_le (x : Nat) : ∀ m, pcb x m ≤ m
  | 0 => Nat.le_refl 0
  | m + 1 => by
    have := pcb_le x m
    show pcb x m + (if x.testBit m then 1 else 0) ≤ m + 1
    split <;> omega
theorem places_nat {x : Nat} (hx : nb x ≤ 900) : Ret (F__law_places n) [nat x] (.lst ((onesL x).map nat)) := by
  let e0 : SDs := [.fro (nat x), .nn]
  have it : rng1I (consM (unM bitsD (varM 0)) nilM) e0 = some ((List.range (nb x)).map nat, e0) := rng1N (by
    have v : varM 0 e0 = some (nat x, e0) := rfl
    rw [e_consM, e_unM, v, bnd_s, e_bitsN]
    rfl) (by omega)
  have fl := fil_nat (mt := tstM (opM (eqD false) (opM modD (opM shrD (varM 0) (varM 1)) (cM (nat 2))) (cM (nat 1)))) (me := varM 1) (e := e0) (v := 1) (x0 := .nn) (xs := List.range (nb x)) (fun i => x / 2 ^ i % 2 == 1) nat it rfl (.inl rfl) (by rw [List.length_range]; omega) (fun i hi => by
    let e : SDs := [.fro (nat x), .fro (nat i)]
    have v0 : varM 0 e = some (nat x, e) := rfl
    have v1 : varM 1 e = some (nat i, e) := rfl
    show tstM _ e = some (_, e)
    rw [e_tstM, e_opM, e_opM, e_opM, v0, bnd_s, v1, bnd_s, e_shrN, rsl_s, bnd_s, e_cM, bnd_s, e_modN (by decide), rsl_s, bnd_s, e_cM, bnd_s, e_eqNat]
    rfl) (fun i _ _ => rfl)
  refine Ret.of rfl (e' := e0) ?_
  show retM (frM (compF (rng1I (consM (unM bitsD (varM 0)) nilM)) [1] (nameG 1) (tstM (opM (eqD false) (opM modD (opM shrD (varM 0) (varM 1)) (cM (nat 2))) (cM (nat 1)))) (varM 1))) e0 = _
  rw [e_retM, e_frM, fl]
  rfl
/-! ### counted one by one -/
def Qs (w g m s : Nat) (x : Nat) : Bool := R w g x == 0 && pcb x m == s
def cs (w g m N : Nat) : List Int := (List.range 9).map fun s => ((cx (Qs w g m s) N : Nat) : Int)
theorem cs_len (N : Nat) : (cs w g m N).length = 9 := by unfold cs; rw [List.length_map, List.length_range]
theorem cs_gt {N s : Nat} (h : s < 9) : gt (cs w g m N) s = ((cx (Qs w g m s) N : Nat) : Int) := gt_map h
theorem cs_s (N : Nat) (h : R w g N = 0) (hp : pcb N m < 9) : (cs w g m N).set (pcb N m) (gt (cs w g m N) (pcb N m) + 1) = cs w g m (N + 1) := by
  refine eq_of_gt (by rw [List.length_set, cs_len, cs_len]) fun s hs => ?_
  rw [List.length_set, cs_len] at hs
  rw [gt_set (by rw [cs_len]; exact hp), cs_gt hs, cs_gt hs, cs_gt hp]
  show _ = ((cx (Qs w g m s) N + (if Qs w g m s N then 1 else 0) : Nat) : Int)
  unfold Qs
  by_cases c : s = pcb N m
  · rw [if_pos c, c, h, beq_self_eq_true, beq_self_eq_true]
    rfl
  · rw [if_neg c, beq_false_of_ne fun z => c z.symm, Bool.and_false]
    rfl
theorem cs_n (N : Nat) (h : R w g N ≠ 0) : cs w g m N = cs w g m (N + 1) := by
  refine List.map_congr_left fun s _ => ?_
  show _ = ((cx (Qs w g m s) N + (if Qs w g m s N then 1 else 0) : Nat) : Int)
  unfold Qs
  rw [beq_false_of_ne h]
  rfl
theorem cs_end (k : Ok w g) : cs w g m (2 ^ m) = (List.range 9).map fun s => ((NN (pp w g) m s 0 : Nat) : Int) :=
  List.map_congr_left fun s _ => by rw [← NN_cx k m s 0]; rfl
def SE (w l g m : Nat) (o : OD) (cL : List Int) (s5 s6 s7 s8 s9 : SD) : SDs := [.bor o, .fro (Ck w l), .fro (nat g), .fro (nat m), .own (.lst (cL.map D.int)), s5, s6, s7, s8, s9, .nn]
def incB (n : Nat) : MS := (seqM (asM (nameG 6) (cbM (one lenD) (consM (callM (F__law_places n) (valA (varM 5) nilA)) nilM)))
 (putM 4 (varM 6) (opM addD (ixO 4 (varM 6)) (cM (.int 1)))))
def cntB (n : Nat) : MS := (ifS (tstM (opM (eqD false) (callM (F__law_rest n) (valA (varM 2) (valA (varM 5) nilA))) (cM (nat 0)))) (incB n) nxM)
theorem count_nat {o : OD} (k : G w l g) (hm : m ≤ 8) (hn : 2 ^ 20 ≤ n) : ∃ s5 s6, Sc s5 ∧ Sc s6 ∧ forM (rng1I (consM (opM shlD (cM (.int 1)) (varM 3)) nilM)) (nameG 5) (cntB n) (SE w l g m o (cs w g m 0) .nn .nn .nn .nn .nn) = some (.nx (SE w l g m o (cs w g m (2 ^ m)) s5 s6 .nn .nn .nn)) := by
  have ok := k.ok
  have w2 := k.w2
  have hp : 2 ^ m ≤ 256 := Nat.pow_le_pow_right (by decide) hm
  have hn2 : 100 ≤ n := Nat.le_trans (by decide) hn
  let e0 := SE w l g m o (cs w g m 0) .nn .nn .nn .nn .nn
  have it : rng1I (consM (opM shlD (cM (.int 1)) (varM 3)) nilM) e0 = some (rngD 0 (2 ^ m), e0) := e_rng1 (k := 2 ^ m) (by
    have v : varM 3 e0 = some (nat m, e0) := rfl
    rw [e_consM, e_opM, e_cM, bnd_s, v, bnd_s, e_1shl (by omega)]
    rfl) (by omega)
  obtain ⟨e', h1, s5, s6, rfl, k5, k6⟩ := for_inv (g := nameG 5) (b := cntB n) (fun j e => ∃ s5 s6, e = SE w l g m o (cs w g m j) s5 s6 .nn .nn .nn ∧ Sc s5 ∧ Sc s6) (rngD 0 (2 ^ m)) 0 (fun j y e hy he => by
    obtain ⟨rfl, hj⟩ := rng0_get hy
    obtain ⟨s5, s6, rfl, k5, k6⟩ := he
    rw [Nat.zero_add]
    have nj : nb j ≤ 8 := Nat.le_trans (nb_le.mpr hj) hm
    let e1 := SE w l g m o (cs w g m j) (.fro (nat j)) s6 .nn .nn .nn
    have g1 : nameG 5 (nat j) (SE w l g m o (cs w g m j) s5 s6 .nn .nn .nn) = some e1 := by
      show setS 5 _ (SE w l g m o (cs w g m j) s5 s6 .nn .nn .nn) = _
      unfold SE
      rw [sc_set (s := s5) rfl k5]
      rfl
    have t : tstM (opM (eqD false) (callM (F__law_rest n) (valA (varM 2) (valA (varM 5) nilA))) (cM (nat 0))) e1 = some (R w g j == 0, e1) := by
      rw [e_tstM, e_opM, call2 (m := varM 2) (m2 := varM 5) (e := e1) rfl rfl (law_rest_nat (n := n) (a := j) ok (by omega) (by omega) (by omega)), bnd_s, e_cM, bnd_s, e_eqNat]
      rfl
    by_cases c : R w g j = 0
    · let e2 := SE w l g m o (cs w g m j) (.fro (nat j)) (.fro (nat (pcb j m))) .nn .nn .nn
      have pl := pcb_le j m
      have a1 : asM (nameG 6) (cbM (one lenD) (consM (callM (F__law_places n) (valA (varM 5) nilA)) nilM)) e1 = some (.nx e2) := by
        have ln : cbM (one lenD) (consM (callM (F__law_places n) (valA (varM 5) nilA)) nilM) e1 = some (nat (pcb j m), e1) := by
          rw [e_cbM, e_consM, call1 (m := varM 5) (e := e1) rfl (places_nat (n := n) (x := j) (by omega))]
          show rsl (lenD (.lst ((onesL j).map nat))) e1 = _
          have : (onesL j).map nat = ((onesL j).map fun z : Nat => (z : Int)).map D.int := by rw [List.map_map]; rfl
          rw [this]
          show rsl (lenD (il _)) e1 = _
          rw [lenI, List.length_map, ones_len hj]
          rfl
        rw [e_asM, ln]
        show (setS 6 _ (SE w l g m o (cs w g m j) (.fro (nat j)) s6 .nn .nn .nn)).map Out.nx = _
        unfold SE
        rw [sc_set (s := s6) rfl k6]
        rfl
      have ix : ixO 4 (varM 6) e2 = some (.int (gt (cs w g m j) (pcb j m)), e2) := e_ixO (P := cs w g m j) (p := pcb j m) rfl rfl (by rw [cs_len]; omega)
      have va : opM addD (ixO 4 (varM 6)) (cM (.int 1)) e2 = some (.int (gt (cs w g m j) (pcb j m) + 1), e2) := by
        rw [e_opM, ix, bnd_s, e_cM, bnd_s]
        rfl
      refine ⟨e1, SE w l g m o (cs w g m (j + 1)) (.fro (nat j)) (.fro (nat (pcb j m))) .nn .nn .nn, g1, ?_, _, _, rfl, .inr ⟨_, rfl⟩, .inr ⟨_, rfl⟩⟩
      unfold cntB
      rw [e_ifS, t, bnd_s, beq_iff_eq.mpr c]
      have q : incB n e1 = some (.nx (SE w l g m o (cs w g m (j + 1)) (.fro (nat j)) (.fro (nat (pcb j m))) .nn .nn .nn)) := by
        unfold incB
        rw [e_seqN a1, e_putD (xs := cs w g m j) (p := pcb j m) va rfl (show varM 6 e2 = some (nat (pcb j m), e2) from rfl) rfl (by rw [cs_len]; omega), cs_s j c (by omega)]
        rfl
      exact q
    · refine ⟨e1, e1, g1, ?_, .fro (nat j), s6, ?_, .inr ⟨_, rfl⟩, k6⟩
      · unfold cntB
        rw [e_ifS, t, bnd_s, beq_false_of_ne c]
        rfl
      · rw [← cs_n j c]) e0 ⟨.nn, .nn, rfl, .inl rfl, .inl rfl⟩
  rw [rng0_len, Nat.zero_add] at h1
  refine ⟨s5, s6, k5, k6, ?_⟩
  show forM _ _ _ e0 = _
  rw [e_forM, it, bnd_s]
  exact h1
end
end N66

set_option Elab.async false
set_option linter.all false
set_option maxRecDepth 100000
set_option maxHeartbeats 2000000
namespace N66
open PySem PySem.Spec PyProof.Rows L2 Evl WS Mir Poly
section
variable {n w l g T many few a b f m t u x : Nat} {o : OD}
theorem NN_le (p : Nat → Nat) : ∀ (m f v : Nat), NN p m f v ≤ 2 ^ m
  | 0, f, v => by
    show (if f = 0 ∧ v = 0 then 1 else 0) ≤ 1
    split <;> omega
  | m + 1, 0, v => by
    have := NN_le p m 0 v
    show NN p m 0 v ≤ _
    rw [Nat.pow_succ]
    omega
  | m + 1, f + 1, v => by
    have h1 := NN_le p m (f + 1) v
    have h2 := NN_le p m f (v ^^^ p m)
    show NN p m (f + 1) v + NN p m f (v ^^^ p m) ≤ _
    rw [Nat.pow_succ]
    omega
theorem sm_more0 {F : Nat → Int} {a : Nat} : ∀ j, (∀ i, a ≤ i → F i = 0) → sm F (a + j) = sm F a
  | 0, _ => rfl
  | j + 1, h => by
    show sm F (a + j) + F (a + j) = _
    rw [sm_more0 j h, h _ (by omega), Int.add_zero]
theorem sum_NN (p : Nat → Nat) (m : Nat) (hm : m ≤ 8) : sm (fun s => ((NN p m s 0 : Nat) : Int)) 9 = ZZ p 1 1 m 0 := by
  rw [ZZ_NN]
  have e : sm (fun f => ((NN p m f 0 : Nat) : Int) * ((1 : Int) ^ f * (1 : Int) ^ (m - f))) (m + 1) = sm (fun s => ((NN p m s 0 : Nat) : Int)) (m + 1) := sm_congr fun f _ => by rw [Int.one_pow, Int.one_pow, Int.one_mul, Int.mul_one]
  rw [e]
  have := sm_more0 (F := fun s => ((NN p m s 0 : Nat) : Int)) (a := m + 1) (8 - m) fun i hi => by
    show ((NN p m i 0 : Nat) : Int) = 0
    rw [NN_zero m i 0 (by omega)]
    rfl
  rw [show m + 1 + (8 - m) = 9 by omega] at this
  exact this
def SF (w l g m : Nat) (o : OD) (cL : List Int) (s5 s6 s7 s8 s9 s10 : SD) : SDs := [.bor o, .fro (Ck w l), .fro (nat g), .fro (nat m), .own (.lst (cL.map D.int)), s5, s6, s7, s8, s9, s10]
def cmpB (n : Nat) : MS := (ifS (scT (tstM (opM (eqD true) (frM (compF (rng1I (consM (cM (nat 9)) nilM)) [10] (nameG 10) yesT (callM (F_how_many_unseen n) (valA (varM 1) (valA (varM 3) (valA (varM 10) nilA)))))) (varM 4)))) (retM (cM (.bl false))) nxM)
def sumB (n : Nat) : MS := (ifS (andM (tstM (opM geD (varM 3) (propM 0 (F_Check_width n) (varM 1)))) (tstM (opM (eqD true) (scM (cbM (one sumD) (consM (varM 4) nilM))) (opM shlD (cM (.int 1)) (opM subD (varM 3) (propM 0 (F_Check_width n) (varM 1))))))) (retM (cM (.bl false))) nxM)
theorem cmp_nat {s5 s6 s7 s8 s9 : SD} (k : G w l g) (od : Od w g T) (hw8 : w ≤ 8) (hn : 2 ^ 20 ≤ n) (hm : m ≤ 8) : cmpB n (SF w l g m o (cs w g m (2 ^ m)) s5 s6 s7 s8 s9 .nn) = some (.nx (SF w l g m o (cs w g m (2 ^ m)) s5 s6 s7 s8 s9 .nn)) := by
  let e := SF w l g m o (cs w g m (2 ^ m)) s5 s6 s7 s8 s9 .nn
  let et := thaw e
  have it : rng1I (consM (cM (nat 9)) nilM) et = some ((List.range 9).map nat, et) := rng1N (k := 9) rfl (by decide)
  have mp := map_nat (me := callM (F_how_many_unseen n) (valA (varM 1) (valA (varM 3) (valA (varM 10) nilA)))) (e := et) (v := 10) (x0 := .nn) (xs := List.range 9) (fun s => nat (NN (pp w g) m s 0)) it rfl (.inl rfl) (by rw [List.length_range]; decide) fun s hs => by
    have hs := List.mem_range.mp hs
    exact call3 (F := F_how_many_unseen n) (m := varM 1) (m2 := varM 3) (m3 := varM 10) (e := et.set 10 (.fro (nat s))) (x := Ck w l) (y := nat m) (z := nat s) rfl rfl rfl (how_many_nat (n := n) k od hw8 hn (by omega) (by omega))
  have eL : ((List.range 9).map fun s => nat (NN (pp w g) m s 0)) = (cs w g m (2 ^ m)).map D.int := by
    rw [cs_end k.ok, List.map_map]
    rfl
  rw [eL] at mp
  have v4 : varM 4 et = some (il (cs w g m (2 ^ m)), et) := rfl
  have q := eqIL true (cs w g m (2 ^ m)) (cs w g m (2 ^ m))
  have tt : tstM (opM (eqD true) (frM (compF (rng1I (consM (cM (nat 9)) nilM)) [10] (nameG 10) yesT (callM (F_how_many_unseen n) (valA (varM 1) (valA (varM 3) (valA (varM 10) nilA)))))) (varM 4)) et = some (false, et) := by
    rw [e_tstM, e_opM, e_frM, mp, bnd_s]
    show bnd (bnd (varM 4 et) _) _ = _
    rw [v4, bnd_s]
    show bnd (rsl (eqD true (il (cs w g m (2 ^ m))) (il (cs w g m (2 ^ m)))) et) _ = _
    rw [q, beq_self_eq_true]
    rfl
  have ts : scT (tstM (opM (eqD true) (frM (compF (rng1I (consM (cM (nat 9)) nilM)) [10] (nameG 10) yesT (callM (F_how_many_unseen n) (valA (varM 1) (valA (varM 3) (valA (varM 10) nilA)))))) (varM 4))) e = some (false, e) := by
    unfold scT
    show (match tstM _ et with | some (b, _) => some (b, e) | none => none) = _
    rw [tt]
  show cmpB n e = _
  unfold cmpB
  rw [e_ifS, ts]
  rfl
theorem sumB_nat {s5 s6 s7 s8 s9 s10 : SD} (k : G w l g) (hm : m ≤ 8) : sumB n (SF w l g m o (cs w g m (2 ^ m)) s5 s6 s7 s8 s9 s10) = some (.nx (SF w l g m o (cs w g m (2 ^ m)) s5 s6 s7 s8 s9 s10)) := by
  let e := SF w l g m o (cs w g m (2 ^ m)) s5 s6 s7 s8 s9 s10
  have v3 : varM 3 e = some (nat m, e) := rfl
  have t1 : tstM (opM geD (varM 3) (propM 0 (F_Check_width n) (varM 1))) e = some (decide (w ≤ m), e) := by
    rw [e_tstM, e_opM, v3, bnd_s, wid_e (i := 1) (e := e) (w := w) (l := l) rfl, bnd_s, e_geN]
    rfl
  show sumB n e = _
  unfold sumB
  rw [e_ifS, e_andM, t1, bnd_s]
  by_cases c : w ≤ m
  · have hs : (cs w g m (2 ^ m)).sum = ((2 ^ (m - w) : Nat) : Int) := by
      rw [cs_end k.ok, sum_sm, sum_NN _ m hm]
      have := ZZ_all k.ok (m - w) 0 (Nat.two_pow_pos w)
      rw [show w + (m - w) = m by omega] at this
      exact this
    have sc : scM (cbM (one sumD) (consM (varM 4) nilM)) e = some (nat (2 ^ (m - w)), e) := by
      refine thaw_sc (e' := thaw e) ?_ rfl
      have v4 : varM 4 (thaw e) = some (il (cs w g m (2 ^ m)), thaw e) := rfl
      rw [e_cbM, e_consM, v4]
      show rsl (sumD (il (cs w g m (2 ^ m)))) (thaw e) = _
      rw [sumI, hs]
      rfl
    have sh : opM shlD (cM (.int 1)) (opM subD (varM 3) (propM 0 (F_Check_width n) (varM 1))) e = some (nat (2 ^ (m - w)), e) := by
      rw [e_opM, e_cM, bnd_s, e_opM, v3, bnd_s, wid_e (i := 1) (e := e) (w := w) (l := l) rfl, bnd_s, e_subN c, rsl_s, bnd_s, e_1shl (by omega)]
      rfl
    have t2 : tstM (opM (eqD true) (scM (cbM (one sumD) (consM (varM 4) nilM))) (opM shlD (cM (.int 1)) (opM subD (varM 3) (propM 0 (F_Check_width n) (varM 1))))) e = some (false, e) := by
      rw [e_tstM, e_opM, sc, bnd_s, sh, bnd_s, e_eqNat, beq_self_eq_true]
      rfl
    rw [decide_eq_true c]
    show bnd (tstM _ e) _ = _
    rw [t2]
    rfl
  · rw [decide_eq_false c]
    rfl
def addB (n : Nat) : MS := (asM (nameG 9) (opM addD (varM 9) (opM mulD (opM mulD (ixO 4 (varM 10)) (callM (F__law_raised n) (valA (varM 8) (valA (varM 10) nilA)))) (callM (F__law_raised n) (valA (opM subD (varM 7) (varM 8)) (valA (opM subD (varM 3) (varM 10)) nilA))))))
def topB (n : Nat) : MS := (seqM (asM (nameG 9) (cM (.int 0)))
 (seqM (forM (rng2I (consM (cM (nat 1)) (consM (opM addD (varM 3) (cM (.int 1))) nilM))) (nameG 10) (addB n))
 (ifS (tstM (opM (eqD true) (callM (F_chance n) (valA (varM 1) (valA (varM 3) (valA (varM 8) (valA (varM 7) nilA))))) (callM (F__law_lowest n) (valA (varM 9) (valA (callM (F__law_raised n) (valA (varM 7) (valA (varM 3) nilA))) nilA))))) (retM (cM (.bl false))) nxM)))
theorem top_nat {s5 s6 s9 s10 : SD} (k : G w l g) (od : Od w g T) (hw8 : w ≤ 8) (hn : 2 ^ 45 ≤ n) (hm : m ≤ 8) (ht : t ≤ u) (hu : 1 ≤ u) (hu2 : u ≤ 12) (h9 : Sc s9) (h10 : Sc s10) :
    ∃ t9 t10, topB n (SF w l g m o (cs w g m (2 ^ m)) s5 s6 (.fro (nat u)) (.fro (nat t)) s9 s10) = some (.nx (SF w l g m o (cs w g m (2 ^ m)) s5 s6 (.fro (nat u)) (.fro (nat t)) t9 t10)) ∧ Sc t9 ∧ Sc t10 := by
  have hn2 : 2 ^ 20 ≤ n := Nat.le_trans (by decide) hn
  let cL := cs w g m (2 ^ m)
  let c := u - t
  let F : Nat → Int := fun f => ((NN (pp w g) m (f + 1) 0 : Nat) : Int) * (((t : Nat) : Int) ^ (f + 1) * ((c : Nat) : Int) ^ (m - (f + 1)))
  let E := fun s9 s10 => SF w l g m o cL s5 s6 (.fro (nat u)) (.fro (nat t)) s9 s10
  let e0 := E s9 s10
  have a0 : asM (nameG 9) (cM (.int 0)) e0 = some (.nx (E (.fro (.int (sm F 0))) s10)) := by
    rw [e_asM, e_cM]
    show (setS 9 _ (SF w l g m o cL s5 s6 (.fro (nat u)) (.fro (nat t)) s9 s10)).map Out.nx = _
    unfold SF
    rw [sc_set (s := s9) rfl h9]
    rfl
  let xs : List Nat := (List.range (m + 1 - 1)).map fun i => 1 + i
  obtain ⟨e', lp, t10, rfl, k10⟩ := for_inv (g := nameG 10) (b := addB n) (fun j e => ∃ s10, e = E (.fro (.int (sm F j))) s10 ∧ Sc s10) (xs.map nat) 0 (fun j y e hy he => by
    obtain ⟨s10, rfl, k10⟩ := he
    rw [Nat.zero_add]
    have hj : j < m := by
      have := (List.getElem?_eq_some_iff.mp hy).1
      rw [List.length_map, List.length_map, List.length_range] at this
      omega
    rw [List.getElem?_map, List.getElem?_map, List.getElem?_range (by omega)] at hy
    cases hy
    let e1 := E (.fro (.int (sm F j))) (.fro (nat (1 + j)))
    refine ⟨e1, E (.fro (.int (sm F (j + 1)))) (.fro (nat (1 + j))), ?_, ?_, _, rfl, .inr ⟨_, rfl⟩⟩
    · show setS 10 _ (SF w l g m o cL s5 s6 (.fro (nat u)) (.fro (nat t)) (.fro (.int (sm F j))) s10) = _
      unfold SF
      rw [sc_set (s := s10) rfl k10]
      rfl
    · have v9 : varM 9 e1 = some (.int (sm F j), e1) := rfl
      have v8 : varM 8 e1 = some (nat t, e1) := rfl
      have v7 : varM 7 e1 = some (nat u, e1) := rfl
      have v3 : varM 3 e1 = some (nat m, e1) := rfl
      have v10 : varM 10 e1 = some (nat (1 + j), e1) := rfl
      have ix : ixO 4 (varM 10) e1 = some (.int ((NN (pp w g) m (1 + j) 0 : Nat) : Int), e1) := by
        have := e_ixO (e := e1) (i := 4) (mk := varM 10) (P := cL) (p := 1 + j) rfl rfl (by show _ < (cs w g m (2 ^ m)).length; rw [cs_len]; omega)
        rw [this]
        show some (D.int (gt (cs w g m (2 ^ m)) (1 + j)), e1) = _
        rw [cs_end k.ok]
        have : gt ((List.range 9).map fun s => ((NN (pp w g) m s 0 : Nat) : Int)) (1 + j) = ((NN (pp w g) m (1 + j) 0 : Nat) : Int) := gt_map (by omega)
        rw [this]
      have c1 := call2 (F := F__law_raised n) v8 v10 (raised_nat (n := n) (b := t) (m := 1 + j) (by omega) (by omega))
      have sb1 : opM subD (varM 7) (varM 8) e1 = some (nat c, e1) := by
        rw [e_opM, v7, bnd_s, v8, bnd_s, e_subN ht]
        rfl
      have sb2 : opM subD (varM 3) (varM 10) e1 = some (nat (m - (1 + j)), e1) := by
        rw [e_opM, v3, bnd_s, v10, bnd_s, e_subN (by omega)]
        rfl
      have c2 := call2 (F := F__law_raised n) sb1 sb2 (raised_nat (n := n) (b := c) (m := m - (1 + j)) (by show u - t ≤ 1024; omega) (by omega))
      have bp : ∀ {x i : Nat}, x ≤ 12 → i ≤ 8 → nb (x ^ i) ≤ 33 := fun {x i} hx hi => by
        have := nb_pow (x := (x : Int)) (c := 4) (by show ((x : Nat) : Int).natAbs ≤ 16; omega) i
        rw [← Int.natCast_pow, Int.natAbs_natCast] at this
        omega
      have hN := NN_le (pp w g) m (1 + j) 0
      have hN2 : NN (pp w g) m (1 + j) 0 ≤ 256 := Nat.le_trans hN (Nat.pow_le_pow_right (by decide) hm)
      have bN : nb (NN (pp w g) m (1 + j) 0) ≤ 9 := nb_le.mpr (Nat.lt_of_le_of_lt hN2 (by decide))
      have b1 := bp (x := t) (i := 1 + j) (by omega) (by omega)
      have b2 := bp (x := c) (i := m - (1 + j)) (by show u - t ≤ 12; omega) (by omega)
      have m1 : mulD (nat (NN (pp w g) m (1 + j) 0)) (nat (t ^ (1 + j))) = some (nat (NN (pp w g) m (1 + j) 0 * t ^ (1 + j))) := e_mulN (by omega) (by omega)
      have bm := @nb_mul (NN (pp w g) m (1 + j) 0) (t ^ (1 + j))
      have m2 : mulD (nat (NN (pp w g) m (1 + j) 0 * t ^ (1 + j))) (nat (c ^ (m - (1 + j)))) = some (nat (NN (pp w g) m (1 + j) 0 * t ^ (1 + j) * c ^ (m - (1 + j)))) := e_mulN (by omega) (by omega)
      have ix : ixO 4 (varM 10) e1 = some (nat (NN (pp w g) m (1 + j) 0), e1) := ix
      unfold addB
      rw [e_asM, e_opM, v9, bnd_s, e_opM, e_opM, ix, bnd_s, c1, bnd_s, m1, rsl_s, bnd_s, c2, bnd_s, m2, rsl_s, bnd_s]
      have hF : sm F (j + 1) = sm F j + ((NN (pp w g) m (1 + j) 0 * t ^ (1 + j) * c ^ (m - (1 + j)) : Nat) : Int) := by
        show sm F j + ((NN (pp w g) m (j + 1) 0 : Nat) : Int) * (((t : Nat) : Int) ^ (j + 1) * ((c : Nat) : Int) ^ (m - (j + 1))) = _
        rw [Nat.add_comm 1 j, Int.natCast_mul, Int.natCast_mul, Int.natCast_pow, Int.natCast_pow, Int.mul_assoc]
      rw [hF]
      rfl) (E (.fro (.int (sm F 0))) s10) ⟨s10, rfl, h10⟩
  have lx : (xs.map nat).length = m := by rw [List.length_map, List.length_map, List.length_range]; omega
  rw [lx, Nat.zero_add] at lp
  let e3 := E (.fro (.int (sm F m))) t10
  have it : rng2I (consM (cM (nat 1)) (consM (opM addD (varM 3) (cM (.int 1))) nilM)) (E (.fro (.int (sm F 0))) s10) = some (xs.map nat, E (.fro (.int (sm F 0))) s10) := e_rng2 (a := 1) (b := m + 1) (by
    have v3 : varM 3 (E (.fro (.int (sm F 0))) s10) = some (nat m, E (.fro (.int (sm F 0))) s10) := rfl
    rw [e_consM, e_cM, bnd_s, e_consM, e_opM, v3, bnd_s, e_cM, bnd_s, e_addn1]
    rfl) (by omega) (by omega)
  have w9 : varM 9 e3 = some (nat (totN w g m t c), e3) := by
    show some (D.int (sm F m), e3) = some (D.int ((totN w g m t c : Nat) : Int), e3)
    rw [tot_cast]
    rfl
  have w8 : varM 8 e3 = some (nat t, e3) := rfl
  have w7 : varM 7 e3 = some (nat u, e3) := rfl
  have w3 : varM 3 e3 = some (nat m, e3) := rfl
  have ch := call4 (F := F_chance n) (m := varM 1) (e := e3) rfl w3 w8 w7 (chance_nat (n := n) k od hw8 hn2 (show m ≤ 60 by omega) ht hu (by omega))
  have ra := call2 (F := F__law_raised n) w7 w3 (raised_nat (n := n) (b := u) (m := m) (by omega) (by omega))
  have bu : nb (u ^ m) ≤ 33 := by
    have := nb_pow (x := (u : Int)) (c := 4) (by show ((u : Nat) : Int).natAbs ≤ 16; omega) m
    rw [← Int.natCast_pow, Int.natAbs_natCast] at this
    omega
  have lo := call2 (F := F__law_lowest n) w9 ra (lowest_nat (n := n) (t := totN w g m t c) (u := u ^ m) (Nat.pow_pos (by omega)) (by omega) (Nat.lt_of_lt_of_le (nb_le.mp bu) (Nat.le_trans (by decide) hn)))
  have af : ifS (tstM (opM (eqD true) (callM (F_chance n) (valA (varM 1) (valA (varM 3) (valA (varM 8) (valA (varM 7) nilA))))) (callM (F__law_lowest n) (valA (varM 9) (valA (callM (F__law_raised n) (valA (varM 7) (valA (varM 3) nilA))) nilA))))) (retM (cM (.bl false))) nxM e3 = some (.nx e3) := by
    rw [e_ifS, e_tstM, e_opM, ch, bnd_s, lo, bnd_s, ne_low]
    rfl
  refine ⟨.fro (.int (sm F m)), t10, ?_, .inr ⟨_, rfl⟩, k10⟩
  show topB n e0 = _
  unfold topB
  rw [e_seqN a0, e_seqN (e1 := e3) (by rw [e_forM, it, bnd_s]; exact lp)]
  exact af
end
end N66

set_option Elab.async false
set_option linter.all false
set_option maxRecDepth 100000
set_option maxHeartbeats 2000000
namespace N66
open PySem PySem.Spec PyProof.Rows L2 Evl WS Mir Poly
section
variable {n b w l g T m t u x : Nat} {o : OD}
theorem sr_cut (n : Nat) : m__law_small_right n = seqM (owM 4 (repF (frM (lstF (consM (cM (.int 0)) nilM))) (cM (.int ((9 : Nat) : Int)))))
 (seqM (forM (rng1I (consM (opM shlD (cM (.int 1)) (varM 3)) nilM)) (nameG 5) (cntB n))
 (seqM (cmpB n)
 (seqM (sumB n)
 (seqM (asM (nameG 7) (opM addD (cM (nat 1)) (callM (F__law_random n) (sloA 0 (valA (cM (nat 12)) nilA)))))
 (seqM (forM (lstI (frM (lstF (consM (callM (F__law_random n) (sloA 0 (valA (opM addD (varM 7) (cM (.int 1))) nilA))) (consM (cM (nat 0)) (consM (varM 7) nilM)))))) (nameG 8) (topB n))
 (retM (cM (.bl true)))))))) := rfl
theorem small_right_nat (k : G w l g) (od : Od w g T) (hw8 : w ≤ 8) (hm : m ≤ 8) (hg : GS b o) (hb : b ≤ 800000000) (hn : 2 ^ 45 ≤ n) : ∃ o', F__law_small_right n [.bor o, .fro (Ck w l), .fro (nat g), .fro (nat m)] = some (.bl true, [.bor o', .fro (Ck w l), .fro (nat g), .fro (nat m)]) ∧ GS (b + 1000) o' := by
  have hn2 : 2 ^ 20 ≤ n := Nat.le_trans (by decide) hn
  let cL := cs w g m (2 ^ m)
  let e0 : SDs := [.bor o, .fro (Ck w l), .fro (nat g), .fro (nat m), .nn, .nn, .nn, .nn, .nn, .nn, .nn]
  have a1 : owM 4 (repF (frM (lstF (consM (cM (.int 0)) nilM))) (cM (.int ((9 : Nat) : Int)))) e0 = some (.nx (SE w l g m o (cs w g m 0) .nn .nn .nn .nn .nn)) := by
    have r := repF_E (ma := frM (lstF (consM (cM (.int 0)) nilM))) (mb := cM (.int ((9 : Nat) : Int))) (e := e0) (e1 := e0) (xs := [.int 0]) rfl rfl (q6 (k := 9) (by decide))
    unfold owM
    rw [r, bnd_s]
    rfl
  obtain ⟨s5, s6, k5, k6, a2⟩ := count_nat (o := o) (n := n) k hm hn2
  let e2 := SF w l g m o cL s5 s6 .nn .nn .nn .nn
  have a3 : cmpB n e2 = some (.nx e2) := cmp_nat k od hw8 hn2 hm
  have a4 : sumB n e2 = some (.nx e2) := sumB_nat k hm
  obtain ⟨z, o1, lz, g1, c1⟩ := drawE (n := n) (k := 12) (me := cM (nat 12)) (r := e2.tail) hg (by omega) (by decide) (Nat.le_trans (nb_le.mpr (show 12 < 2 ^ 4 by decide)) (by decide)) rfl
  let u := 1 + z
  let e3 := SF w l g m o1 cL s5 s6 (.fro (nat u)) .nn .nn .nn
  have a5 : asM (nameG 7) (opM addD (cM (nat 1)) (callM (F__law_random n) (sloA 0 (valA (cM (nat 12)) nilA)))) e2 = some (.nx e3) := by
    have c1 : callM (F__law_random n) (sloA 0 (valA (cM (nat 12)) nilA)) e2 = some (nat z, SF w l g m o1 cL s5 s6 .nn .nn .nn .nn) := c1
    rw [e_asM, e_opM, e_cM, bnd_s, c1, bnd_s, e_addN]
    rfl
  obtain ⟨y, o2, ly, g2, c2⟩ := drawE (n := n) (k := u + 1) (me := opM addD (varM 7) (cM (.int 1))) (r := e3.tail) g1 (by omega) (by omega) (Nat.le_trans (nb_le.mpr (show u + 1 < 2 ^ 4 by show 1 + z + 1 < 16; omega)) (by decide)) (by
    have v : varM 7 e3 = some (nat u, e3) := rfl
    show opM _ _ _ e3 = _
    rw [e_opM, v, bnd_s, e_cM, bnd_s, e_addn1]
    rfl)
  let e4 := SF w l g m o2 cL s5 s6 (.fro (nat u)) .nn .nn .nn
  have c2 : callM (F__law_random n) (sloA 0 (valA (opM addD (varM 7) (cM (.int 1))) nilA)) e3 = some (nat y, e4) := c2
  have it : lstI (frM (lstF (consM (callM (F__law_random n) (sloA 0 (valA (opM addD (varM 7) (cM (.int 1))) nilA))) (consM (cM (nat 0)) (consM (varM 7) nilM))))) e3 = some ([nat y, nat 0, nat u], e4) := by
    have q : consM (callM (F__law_random n) (sloA 0 (valA (opM addD (varM 7) (cM (.int 1))) nilA))) (consM (cM (nat 0)) (consM (varM 7) nilM)) e3 = some ([nat y, nat 0, nat u], e4) := by
      have v : varM 7 e4 = some (nat u, e4) := rfl
      rw [e_consM, c2, bnd_s, e_consM, e_cM, bnd_s, e_consM, v]
      rfl
    unfold lstI
    rw [e_frM, e_lstF q (by show (3 : Nat) ≤ 1000; decide)]
    rfl
  obtain ⟨e', lp, s8, s9, s10, rfl, _⟩ := for_inv (g := nameG 8) (b := topB n) (fun j e => ∃ s8 s9 s10, e = SF w l g m o2 cL s5 s6 (.fro (nat u)) s8 s9 s10 ∧ Sc s8 ∧ Sc s9 ∧ Sc s10) [nat y, nat 0, nat u] 0 (fun j x e hx he => by
    obtain ⟨t, ht, rfl⟩ : ∃ t, t ≤ u ∧ x = nat t := by
      have hx := List.mem_of_getElem? hx
      rcases List.mem_cons.mp hx with h | h
      · exact ⟨y, by omega, h⟩
      · rcases List.mem_cons.mp h with h | h
        · exact ⟨0, Nat.zero_le _, h⟩
        · exact ⟨u, Nat.le_refl _, List.mem_singleton.mp h⟩
    obtain ⟨s8, s9, s10, rfl, k8, k9, k10⟩ := he
    obtain ⟨t9, t10, q1, q9, q10⟩ := top_nat (n := n) (o := o2) (s5 := s5) (s6 := s6) (u := u) (t := t) k od hw8 hn hm ht (by omega) (by show 1 + z ≤ 12; omega) k9 k10
    refine ⟨SF w l g m o2 cL s5 s6 (.fro (nat u)) (.fro (nat t)) s9 s10, _, ?_, q1, _, t9, t10, rfl, .inr ⟨_, rfl⟩, q9, q10⟩
    show setS 8 _ (SF w l g m o2 cL s5 s6 (.fro (nat u)) s8 s9 s10) = _
    unfold SF
    rw [sc_set (s := s8) rfl k8]
    rfl) e4 ⟨.nn, .nn, .nn, rfl, .inl rfl, .inl rfl, .inl rfl⟩
  refine ⟨o2, ?_, g2.mono (by omega)⟩
  refine def_bor (n := 4) (N := 11) (ds := [Ck w l, nat g, nat m]) (e' := (SF w l g m o2 cL s5 s6 (.fro (nat u)) s8 s9 s10).tail) rfl ?_
  show m__law_small_right n e0 = _
  rw [sr_cut, e_seqN a1, e_seqN a2]
  show seqM (cmpB n) _ e2 = _
  rw [e_seqN a3, e_seqN a4, e_seqN a5, e_seqN (e1 := SF w l g m o2 cL s5 s6 (.fro (nat u)) s8 s9 s10) (by rw [e_forM, it, bnd_s]; exact lp)]
  rfl
end
end N66

set_option Elab.async false
set_option linter.all false
set_option maxRecDepth 100000
set_option maxHeartbeats 2000000
namespace N66
open PySem PySem.Spec PyProof.Rows L2 Evl WS Mir Poly
/-! ### by twos -/
def tr : Nat → Nat
  | 0 => 0
  | q + 1 => tr q + q
theorem tr2 : ∀ q, 2 * (tr q : Int) = (q : Int) * ((q : Int) - 1)
  | 0 => rfl
  | q + 1 => by
    have ih := tr2 q
    show 2 * ((tr q + q : Nat) : Int) = ((q + 1 : Nat) : Int) * (((q + 1 : Nat) : Int) - 1)
    rw [Int.natCast_add, Int.mul_add, ih, show ((q + 1 : Nat) : Int) - 1 = (q : Int) by omega, show ((q + 1 : Nat) : Int) = (q : Int) + 1 by omega, Int.mul_sub, Int.add_mul]
    omega
section
variable {w g T m i j v : Nat}
theorem NN_1z (k : Ok w g) (ho : g % 2 = 1) (m : Nat) : NN (pp w g) m 1 0 = 0 := by
  rw [NN_1]
  refine cn_no (fun i e => ?_) m
  -- no power of x is nought
  have : ∀ i, pp w g i ≠ 0 := fun i => by
    induction i with
    | zero =>
      rw [pp0 k]
      decide
    | succ i ih =>
      intro z
      rw [pp_s k] at z
      have : red w g (2 * pp w g i) = red w g (2 * 0) := by
        rw [z]
        unfold red
        rw [if_pos (by have := Nat.two_pow_pos w; omega)]
      exact ih (red_inj ho this)
  exact this i e
theorem cn_self (k : Ok w g) (ho : g % 2 = 1) (o : Od w g T) (m : Nat) : cn (pp w g) (pp w g m) m = m / T := by
  rw [pp_mod k o m, cn_at k ho o (Nat.mod_lt m o.t1)]
  have e := Nat.div_add_mod m T
  have l := Nat.mod_lt m o.t1
  generalize m / T = q at e ⊢
  generalize m % T = r at e l ⊢
  subst e
  rw [show T * q + r + (T - 1 - r) = T * q + (T - 1) by omega, Nat.mul_add_div o.t1, Nat.div_eq_of_lt (by omega), Nat.add_zero]
theorem NN_2 (k : Ok w g) (ho : g % 2 = 1) (o : Od w g T) : ∀ m, NN (pp w g) m 2 0 = m % T * tr (m / T + 1) + (T - m % T) * tr (m / T)
  | 0 => by
    rw [Nat.zero_mod, Nat.zero_div]
    show (if 2 = 0 ∧ 0 = 0 then 1 else 0) = 0 * tr 1 + (T - 0) * 0
    rw [if_neg (by decide), Nat.zero_mul, Nat.mul_zero]
  | m + 1 => by
    show NN (pp w g) m 2 0 + NN (pp w g) m 1 (0 ^^^ pp w g m) = _
    rw [NN_2 k ho o m, NN_1, Nat.zero_xor, cn_self k ho o]
    have hT := o.t1
    have e := Nat.div_add_mod m T
    have l := Nat.mod_lt m hT
    generalize hq : m / T = q at e ⊢
    generalize hr : m % T = r at e l ⊢
    have ht : tr (q + 1) = tr q + q := rfl
    by_cases c : r + 1 = T
    · have d1 : (m + 1) / T = q + 1 := by rw [← e, show T * q + r + 1 = T * (q + 1) by rw [Nat.mul_succ]; omega, Nat.mul_div_cancel_left _ hT]
      have d2 : (m + 1) % T = 0 := by rw [← e, show T * q + r + 1 = T * (q + 1) by rw [Nat.mul_succ]; omega, Nat.mul_mod_right]
      rw [d1, d2, Nat.zero_mul, Nat.sub_zero, Nat.zero_add, show T - r = 1 by omega, Nat.one_mul, ← c, Nat.succ_mul, ht]
      omega
    · have d1 : (m + 1) / T = q := by rw [← e, Nat.add_assoc, Nat.mul_add_div hT, Nat.div_eq_of_lt (by omega), Nat.add_zero]
      have d2 : (m + 1) % T = r + 1 := by rw [← e, Nat.add_assoc, Nat.mul_add_mod, Nat.mod_eq_of_lt (by omega)]
      rw [d1, d2, Nat.succ_mul, ht]
      obtain ⟨s, hs⟩ : ∃ s, T - r = s + 1 := ⟨T - r - 1, by omega⟩
      rw [hs, show T - (r + 1) = s by omega, Nat.succ_mul]
      omega
end
/-! ### by threes -/
section
variable (p : Nat → Nat)
def S3 (M : Nat) : Int := sm (fun i => sm (fun j => if i < j then sm (fun l => if j < l ∧ p l = p i ^^^ p j then 1 else 0) M else 0) M) M
theorem cn_sm (u : Nat) : ∀ j, ((cn p u j : Nat) : Int) = sm (fun i => if p i = u then 1 else 0) j
  | 0 => rfl
  | j + 1 => by
    show ((cn p u j + (if p j = u then 1 else 0) : Nat) : Int) = sm _ j + _
    rw [Int.natCast_add, cn_sm u j]
    congr 1
    show ((if p j = u then 1 else 0 : Nat) : Int) = if p j = u then 1 else 0
    split <;> rfl
theorem cn_sm2 (u : Nat) {j M : Nat} (h : j ≤ M) : ((cn p u j : Nat) : Int) = sm (fun i => if i < j ∧ p i = u then 1 else 0) M := by
  obtain ⟨d, rfl⟩ : ∃ d, M = j + d := ⟨M - j, by omega⟩
  rw [sm_split, sm_all0 (f := fun i => if j + i < j ∧ p (j + i) = u then (1 : Int) else 0) fun i _ => if_neg fun z => absurd z.1 (by omega), Int.add_zero, cn_sm]
  refine sm_congr fun i hi => ?_
  by_cases c : p i = u
  · rw [if_pos c, if_pos ⟨hi, c⟩]
  · rw [if_neg c, if_neg fun z => c z.2]
theorem NN_2s (v : Nat) : ∀ M, ((NN p M 2 v : Nat) : Int) = sm (fun j => ((cn p (v ^^^ p j) j : Nat) : Int)) M
  | 0 => by
    show ((if 2 = 0 ∧ v = 0 then 1 else 0 : Nat) : Int) = 0
    rw [if_neg fun z => absurd z.1 (by decide)]
    rfl
  | M + 1 => by
    show ((NN p M 2 v + NN p M 1 (v ^^^ p M) : Nat) : Int) = sm _ M + _
    rw [Int.natCast_add, NN_2s v M, NN_1]
theorem NN_2d (v M : Nat) : ((NN p M 2 v : Nat) : Int) = sm (fun i => sm (fun j => if i < j ∧ v = p i ^^^ p j then 1 else 0) M) M := by
  rw [NN_2s, sm_swap]
  refine sm_congr fun j hj => ?_
  rw [cn_sm2 p _ (show j ≤ M by omega)]
  refine sm_congr fun i _ => ?_
  have : p i = v ^^^ p j ↔ v = p i ^^^ p j := ⟨fun h => by rw [h, xx], fun h => by rw [h, xx]⟩
  by_cases c : i < j ∧ p i = v ^^^ p j
  · rw [if_pos c, if_pos ⟨c.1, this.mp c.2⟩]
  · rw [if_neg c, if_neg fun z => c ⟨z.1, this.mpr z.2⟩]
theorem NN_3 : ∀ M, ((NN p M 3 0 : Nat) : Int) = S3 p M
  | 0 => by
    show ((if 3 = 0 ∧ 0 = 0 then 1 else 0 : Nat) : Int) = 0
    rw [if_neg (by decide)]
    rfl
  | M + 1 => by
    show ((NN p M 3 0 + NN p M 2 (0 ^^^ p M) : Nat) : Int) = _
    rw [Int.natCast_add, NN_3 M, Nat.zero_xor, NN_2d]
    -- what the last place adds
    have e1 : ∀ i, i < M → sm (fun j => if i < j then sm (fun l => if j < l ∧ p l = p i ^^^ p j then (1 : Int) else 0) (M + 1) else 0) (M + 1) = sm (fun j => if i < j then sm (fun l => if j < l ∧ p l = p i ^^^ p j then (1 : Int) else 0) M else 0) M + sm (fun j => if i < j ∧ p M = p i ^^^ p j then (1 : Int) else 0) M := fun i hi => by
      show sm _ M + (if i < M then sm (fun l => if M < l ∧ p l = p i ^^^ p M then (1 : Int) else 0) (M + 1) else 0) = _
      rw [if_pos hi, sm_all0 (f := fun l => if M < l ∧ p l = p i ^^^ p M then (1 : Int) else 0) fun l hl => if_neg fun z => absurd z.1 (by omega), Int.add_zero, ← sm_add]
      refine sm_congr fun j hj => ?_
      by_cases c : i < j
      · rw [if_pos c, if_pos c]
        show sm _ M + (if j < M ∧ p M = p i ^^^ p j then (1 : Int) else 0) = _
        congr 1
        by_cases d : p M = p i ^^^ p j
        · rw [if_pos ⟨hj, d⟩, if_pos ⟨c, d⟩]
        · rw [if_neg fun z => d z.2, if_neg fun z => d z.2]
      · rw [if_neg c, if_neg c, if_neg fun z => c z.1]
        rfl
    have e2 : sm (fun j => if M < j then sm (fun l => if j < l ∧ p l = p M ^^^ p j then (1 : Int) else 0) (M + 1) else 0) (M + 1) = 0 := sm_all0 fun j hj => if_neg (by omega)
    show _ = sm _ M + sm (fun j => if M < j then sm (fun l => if j < l ∧ p l = p M ^^^ p j then (1 : Int) else 0) (M + 1) else 0) (M + 1)
    rw [e2, Int.add_zero, sm_congr e1, sm_add]
    rfl
end
/-! ### all odd -/
def xr (x : Nat) : Nat → Bool
  | 0 => false
  | k + 1 => x.testBit k ^^ xr x k
theorem xr_xor (x y : Nat) : ∀ k, xr (x ^^^ y) k = (xr x k ^^ xr y k)
  | 0 => rfl
  | k + 1 => by
    show ((x ^^^ y).testBit k ^^ xr (x ^^^ y) k) = ((x.testBit k ^^ xr x k) ^^ (y.testBit k ^^ xr y k))
    rw [xr_xor x y k, Nat.testBit_xor]
    cases x.testBit k <;> cases y.testBit k <;> cases xr x k <;> cases xr y k <;> rfl
theorem xr_two (x : Nat) : ∀ k, xr (2 * x) (k + 1) = xr x k
  | 0 => by
    show ((2 * x).testBit 0 ^^ false) = false
    rw [Nat.testBit_zero]
    simp
  | k + 1 => by
    show ((2 * x).testBit (k + 1) ^^ xr (2 * x) (k + 1)) = (x.testBit k ^^ xr x k)
    rw [xr_two x k, Nat.testBit_succ, show 2 * x / 2 = x by omega]
theorem xr_zero : ∀ k, xr 0 k = false
  | 0 => rfl
  | k + 1 => by
    show ((0 : Nat).testBit k ^^ xr 0 k) = false
    rw [xr_zero k, Nat.zero_testBit]
    rfl
theorem xr_one : ∀ k, xr 1 (k + 1) = true
  | 0 => rfl
  | k + 1 => by
    show ((1 : Nat).testBit (k + 1) ^^ xr 1 (k + 1)) = true
    rw [xr_one k, Nat.testBit_succ, show 1 / 2 = 0 from rfl, Nat.zero_testBit]
    rfl
theorem pcb_xr (x : Nat) : ∀ k, pcb x k % 2 = if xr x k then 1 else 0
  | 0 => rfl
  | k + 1 => by
    have ih := pcb_xr x k
    show (pcb x k + (if x.testBit k then 1 else 0)) % 2 = if (x.testBit k ^^ xr x k) = true then 1 else 0
    cases h1 : x.testBit k <;> cases h2 : xr x k <;> rw [h2] at ih <;> simp at ih ⊢ <;> omega
section
variable {w g T m i j v : Nat}
theorem pp_xr (k : Ok w g) (hx : xr g (w + 1) = false) : ∀ i, xr (pp w g i) (w + 1) = true
  | 0 => by rw [pp0 k]; exact xr_one w
  | i + 1 => by
    have ih := pp_xr k hx i
    have lo : xr (pp w g i) (w + 1) = xr (pp w g i) w := by
      show ((pp w g i).testBit w ^^ xr (pp w g i) w) = _
      rw [Nat.testBit_lt_two_pow (pp_lt k i), Bool.false_xor]
    rw [lo] at ih
    rw [pp_s k]
    unfold red
    split
    · rw [xr_two, ih]
    · rw [xr_xor, xr_two, ih, hx]
      rfl
theorem NN_xr (k : Ok w g) (hx : xr g (w + 1) = false) : ∀ (m f v : Nat), NN (pp w g) m f v ≠ 0 → xr v (w + 1) = decide (f % 2 = 1)
  | 0, f, v, h => by
    have h : (if f = 0 ∧ v = 0 then 1 else 0) ≠ 0 := h
    split at h
    · rename_i c
      rw [c.1, c.2, xr_zero]
      rfl
    · exact absurd rfl h
  | m + 1, 0, v, h => NN_xr k hx m 0 v h
  | m + 1, f + 1, v, h => by
    have h : NN (pp w g) m (f + 1) v + NN (pp w g) m f (v ^^^ pp w g m) ≠ 0 := h
    by_cases c : NN (pp w g) m (f + 1) v = 0
    · have := NN_xr k hx m f (v ^^^ pp w g m) (by omega)
      rw [xr_xor, pp_xr k hx] at this
      rcases Nat.mod_two_eq_zero_or_one f with e | e
      · rw [e] at this
        rw [show (f + 1) % 2 = 1 by omega]
        cases q : xr v (w + 1) <;> rw [q] at this <;> simp at this ⊢
      · rw [e] at this
        rw [show (f + 1) % 2 = 0 by omega]
        cases q : xr v (w + 1) <;> rw [q] at this <;> simp at this ⊢
    · exact NN_xr k hx m (f + 1) v c
theorem NN_odd (k : Ok w g) (hx : xr g (w + 1) = false) {f : Nat} (hf : f % 2 = 1) (m : Nat) : NN (pp w g) m f 0 = 0 := by
  rcases Nat.eq_zero_or_pos (NN (pp w g) m f 0) with z | z
  · exact z
  · have := NN_xr k hx m f 0 (by omega)
    rw [xr_zero, hf] at this
    exact absurd this (by decide)
theorem xr_g (k : G w l g) : xr g (w + 1) = !(xr l w) := by
  have hl := k.hl
  show (g.testBit w ^^ xr g w) = _
  have e1 : g.testBit w = true := by
    rw [k.hg, Nat.testBit_two_pow_add_eq, Nat.testBit_lt_two_pow hl]
    rfl
  have e2 : ∀ j, j ≤ w → xr g j = xr l j := fun j => by
    induction j with
    | zero => intro _; rfl
    | succ j ih =>
      intro hj
      show (g.testBit j ^^ xr g j) = (l.testBit j ^^ xr l j)
      rw [ih (by omega), k.hg, Nat.testBit_two_pow_add_gt (by omega)]
  rw [e1, e2 w (Nat.le_refl _)]
  cases xr l w <;> rfl
end
end N66

set_option Elab.async false
set_option linter.all false
set_option maxRecDepth 100000
set_option maxHeartbeats 2000000
namespace N66
open PySem PySem.Spec PyProof.Rows L2 Evl WS Mir Poly
theorem cnt_tab : ∀ w, w < 9 → ∀ l, l < 256 → Txt.count (tx (true :: bt l w)) (Str.ofString "1") = ((1 + pcb l w : Nat) : Int) := by decide +kernel
end N66

set_option Elab.async false
set_option linter.all false
set_option maxRecDepth 100000
set_option maxHeartbeats 2000000
namespace N66
open PySem PySem.Spec PyProof.Rows L2 Evl WS Mir Poly
theorem fil1 {p : Nat → Bool} {x : Nat} (h : p x = true) : [x].filter p = [x] := by
  rw [List.filter_cons_of_pos h]
  rfl
theorem fil0 {p : Nat → Bool} {x : Nat} (h : p x = false) : [x].filter p = [] := by
  rw [List.filter_cons_of_neg (by rw [h]; decide)]
  rfl
theorem trn (q : Nat) : 2 * tr (q + 1) = (q + 1) * q := by
  have h := tr2 (q + 1)
  rw [show ((q + 1 : Nat) : Int) - 1 = (q : Int) by omega, ← Int.natCast_mul] at h
  omega
section
variable {n w l g T m : Nat}
theorem pairs_nat (k : Ok w g) (ho : g % 2 = 1) (od : Od w g T) (hT : T ≤ 300) (hm : m ≤ 1000000000000000000) : Ret (F__law_pairs n) [nat m, nat T] (nat (NN (pp w g) m 2 0)) := by
  have t1 := od.t1
  let e0 : SDs := [.fro (nat m), .fro (nat T), .nn, .nn]
  have hNN := NN_2 k ho od m
  have hr := Nat.mod_lt m od.t1
  have hq : m / T ≤ m := Nat.div_le_self m T
  generalize hqq : m / T = q at hNN hq
  generalize hrr : m % T = r at hNN hr
  let e1 : SDs := [.fro (nat m), .fro (nat T), .fro (nat q), .fro (nat r)]
  have bT : nb T ≤ 1000 := Nat.le_trans (nb_le.mpr (show T < 2 ^ 9 by omega)) (by decide)
  have a1 : parM [2, 3] (froX (opM fdivD (varM 0) (varM 1)) (froX (opM modD (varM 0) (varM 1)) nilX)) e0 = some (.nx e1) := by
    have v0 : varM 0 e0 = some (nat m, e0) := rfl
    have v1 : varM 1 e0 = some (nat T, e0) := rfl
    have d1 : opM fdivD (varM 0) (varM 1) e0 = some (nat q, e0) := by
      rw [e_opM, v0, bnd_s, v1, bnd_s, e_fdivN (by omega) bT, hqq]
      rfl
    have d2 : opM modD (varM 0) (varM 1) e0 = some (nat r, e0) := by
      rw [e_opM, v0, bnd_s, v1, bnd_s, e_modN (by omega), hrr]
      rfl
    rw [e_parM, e_froX, d1, bnd_s, e_froX, d2]
    rfl
  have bq : nb q ≤ 60 := nb_le.mpr (Nat.lt_of_le_of_lt (Nat.le_trans hq hm) (by decide))
  have br : nb r ≤ 9 := nb_le.mpr (show r < 2 ^ 9 by omega)
  have bq1 : nb (q + 1) ≤ 61 := nb_le.mpr (by have := nb_le.mp bq; rw [Nat.pow_succ]; omega)
  have v1 : varM 1 e1 = some (nat T, e1) := rfl
  have v2 : varM 2 e1 = some (nat q, e1) := rfl
  have v3 : varM 3 e1 = some (nat r, e1) := rfl
  have x1 : opM fdivD (opM mulD (opM mulD (varM 3) (opM addD (varM 2) (cM (.int 1)))) (varM 2)) (cM (nat 2)) e1 = some (nat (r * tr (q + 1)), e1) := by
    have m1 : mulD (nat r) (nat (q + 1)) = some (nat (r * (q + 1))) := e_mulN (by omega) (by omega)
    have b1 := @nb_mul r (q + 1)
    have m2 : mulD (nat (r * (q + 1))) (nat q) = some (nat (r * (q + 1) * q)) := e_mulN (by omega) (by omega)
    rw [e_opM, e_opM, e_opM, v3, bnd_s, e_opM, v2, bnd_s, e_cM, bnd_s, e_addn1, rsl_s, bnd_s, m1, rsl_s, bnd_s, v2, bnd_s, m2, rsl_s, bnd_s, e_cM, bnd_s, e_fdivN (by decide) (Nat.le_trans (nb_le.mpr (show 2 < 2 ^ 2 by decide)) (by decide)), Nat.mul_assoc, ← trn q, Nat.mul_left_comm, Nat.mul_div_cancel_left _ (by decide)]
    rfl
  have x2 : opM fdivD (opM mulD (opM mulD (opM subD (varM 1) (varM 3)) (varM 2)) (opM subD (varM 2) (cM (.int 1)))) (cM (nat (2 ^ 1))) e1 = some (nat ((T - r) * tr q), e1) := by
    have bs : nb (T - r) ≤ 9 := nb_le.mpr (show T - r < 2 ^ 9 by omega)
    have m1 : mulD (nat (T - r)) (nat q) = some (nat ((T - r) * q)) := e_mulN (by omega) (by omega)
    have b1 := @nb_mul (T - r) q
    have s2 : subD (nat q) (.int 1) = some (.int ((q : Int) - 1)) := e_subI
    have m2 : mulD (.int (((T - r) * q : Nat) : Int)) (.int ((q : Int) - 1)) = some (.int ((((T - r) * q : Nat) : Int) * ((q : Int) - 1))) := mulI (by rw [Int.natAbs_natCast]; omega) (Nat.le_trans (show nb ((q : Int) - 1).natAbs ≤ 61 from nb_le.mpr (by have := nb_le.mp bq; rw [Nat.pow_succ]; omega)) (by decide))
    have m2 : mulD (nat ((T - r) * q)) (.int ((q : Int) - 1)) = some (.int ((((T - r) * q : Nat) : Int) * ((q : Int) - 1))) := m2
    have fd := fdivI (i := (((T - r) * q : Nat) : Int) * ((q : Int) - 1)) (s := 1) (by decide)
    have e : (((T - r) * q : Nat) : Int) * ((q : Int) - 1) / 2 ^ 1 = (((T - r) * tr q : Nat) : Int) := by
      rw [Int.natCast_mul, Int.mul_assoc, ← tr2 q, Int.mul_left_comm, Int.natCast_mul]
      exact Int.mul_ediv_cancel_left _ (by decide)
    rw [e_opM, e_opM, e_opM, e_opM, v1, bnd_s, v3, bnd_s, e_subN (by omega), rsl_s, bnd_s, v2, bnd_s, m1, rsl_s, bnd_s, e_opM, v2, bnd_s, e_cM, bnd_s, s2, rsl_s, bnd_s, m2, rsl_s, bnd_s, e_cM, bnd_s, fd, e]
    rfl
  refine Ret.of rfl (e' := e1) ?_
  show m__law_pairs n e0 = _
  have cut : m__law_pairs n = seqM (parM [2, 3] (froX (opM fdivD (varM 0) (varM 1)) (froX (opM modD (varM 0) (varM 1)) nilX))) (retM (opM addD (opM fdivD (opM mulD (opM mulD (varM 3) (opM addD (varM 2) (cM (.int 1)))) (varM 2)) (cM (nat 2))) (opM fdivD (opM mulD (opM mulD (opM subD (varM 1) (varM 3)) (varM 2)) (opM subD (varM 2) (cM (.int 1)))) (cM (nat (2 ^ 1)))))) := rfl
  rw [cut, e_seqN a1, e_retM, e_opM, x1, bnd_s, x2, bnd_s, e_addN, hNN]
  rfl
/-! ### a dict of lists -/
theorem val_map {ks : List (Key × D)} {k k2 : Key} {d : D} : valD (ks.map fun kv => if kv.1 = k then (kv.1, d) else kv) k2 = if k2 = k ∧ (ks.any fun kv => decide (kv.1 = k)) = true then some d else valD ks k2 := by
  induction ks with
  | nil =>
    show none = _
    rw [if_neg (by simp)]
    rfl
  | cons kv r ih =>
    unfold valD at ih ⊢
    rw [List.map_cons, List.find?_cons, List.find?_cons, List.any_cons]
    by_cases c : kv.1 = k
    · rw [if_pos c]
      show Option.map _ (match decide (kv.1 = k2) with | true => some (kv.1, d) | false => _) = _
      rw [decide_eq_true c, Bool.true_or]
      by_cases q : kv.1 = k2
      · rw [decide_eq_true q, if_pos ⟨by rw [← q, c], rfl⟩]
        rfl
      · rw [decide_eq_false q, if_neg fun z => q (by rw [c, z.1])]
        show Option.map _ (List.find? _ _) = Option.map _ (List.find? _ r)
        rw [ih, if_neg fun z => q (by rw [c, z.1])]
    · rw [if_neg c, decide_eq_false c, Bool.false_or]
      by_cases q : kv.1 = k2
      · rw [decide_eq_true q, if_neg fun z => c (by rw [q, z.1])]
      · rw [decide_eq_false q]
        exact ih
theorem val_put {ks : List (Key × D)} {k k2 : Key} {d : D} : valD (putD ks k d) k2 = if k2 = k then some d else valD ks k2 := by
  unfold putD
  by_cases c : (ks.any fun kv => decide (kv.1 = k)) = true
  · rw [if_pos c, val_map]
    by_cases q : k2 = k
    · rw [if_pos ⟨q, c⟩, if_pos q]
    · rw [if_neg fun z => q z.1, if_neg q]
  · rw [if_neg c]
    have no : ks.find? (fun kv => decide (kv.1 = k)) = none := by
      rw [List.find?_eq_none]
      intro x hx h
      exact c (List.any_eq_true.mpr ⟨x, hx, h⟩)
    unfold valD
    rw [List.find?_append]
    by_cases q : k2 = k
    · subst q
      rw [no, if_pos rfl, Option.none_or, List.find?_cons, decide_eq_true rfl]
      rfl
    · rw [if_neg q]
      have : List.find? (fun kv : Key × D => decide (kv.1 = k2)) [(k, d)] = none := by
        rw [List.find?_cons, decide_eq_false fun z => q z.symm]
        rfl
      rw [this, Option.or_none]
theorem put_len {ks : List (Key × D)} {k : Key} {d : D} : (putD ks k d).length ≤ ks.length + 1 := by
  unfold putD
  split
  · rw [List.length_map]
    omega
  · rw [List.length_append]
    exact Nat.le_refl _
theorem dg2_e {i v : Nat} {mk mx : M} {e : SDs} {ks : List (Key × D)} {z : D} (h : e[i]? = some (.own (.dic ks))) (h1 : mk e = some (nat v, e)) (h2 : mx e = some (z, e)) : dg2O i mk mx e = some ((valD ks (.inl (v : Int))).getD z, e) := by
  have ho : ownAt e i = some (.own (.dic ks), .dic ks) := by
    unfold ownAt
    rw [h]
    rfl
  unfold dg2O
  rw [ho]
  show (bnd (mk e) fun y e1 => bnd (mx e1) fun z e2 => match ownAt e2 i, keyO y with | some (_, .dic ks), some kk => some ((valD ks kk).getD z, e2) | _, _ => none) = _
  rw [h1, bnd_s, h2, bnd_s, ho]
  rfl
theorem dput_e {i v : Nat} {mk m : M} {e : SDs} {ks : List (Key × D)} {d : D} (h : e[i]? = some (.own (.dic ks))) (h1 : mk e = some (nat v, e)) (h2 : m e = some (d, e)) (hl : ks.length ≤ 1000) : dputM i mk m e = some (.nx (e.set i (.own (.dic (putD ks (.inl (v : Int)) d))))) := by
  have ho : ownAt e i = some (.own (.dic ks), .dic ks) := by
    unfold ownAt
    rw [h]
    rfl
  unfold dputM
  rw [h2, bnd_s, ho]
  show (bnd (mk e) fun y e2 => match ownAt e2 i, keyO y with | some (x, .dic ks), some k => if ks.length < sizeLine then some (Out.nx (e2.set i (upSD x (.dic (putD ks k d))))) else none | _, _ => none) = _
  rw [h1, bnd_s, ho]
  show (if ks.length < sizeLine then some (Out.nx (e.set i (upSD (.own (.dic ks)) (.dic (putD ks (.inl (v : Int)) d))))) else none) = _
  rw [if_pos (Nat.lt_of_le_of_lt hl (by decide))]
  rfl
def nl (xs : List Nat) : D := .lst (xs.map nat)
def spL (w g j v : Nat) : List Nat := (List.range j).filter fun i => pp w g i == v
def TE (g m : Nat) (ks : List (Key × D)) (pL : List Int) (t : Int) (s5 s6 s7 : SD) : SDs := [.fro (nat g), .fro (nat m), .own (.dic ks), .own (.lst (pL.map D.int)), .fro (.int t), s5, s6, s7, .nn]
theorem ppL_s (j : Nat) : ppL w g (j + 1) = ppL w g j ++ [((pp w g j : Nat) : Int)] := by
  unfold ppL
  rw [List.range_succ, List.map_append]
  rfl
theorem ppL_len (j : Nat) : (ppL w g j).length = j := by unfold ppL; rw [List.length_map, List.length_range]
theorem ppL_gt {j i : Nat} (h : i < j) : gt (ppL w g j) i = ((pp w g i : Nat) : Int) := gt_map h
def spotB (n : Nat) : MS := (seqM (appM 3 (callM (F__law_rest n) (valA (varM 0) (valA (opM shlD (cM (.int 1)) (varM 5)) nilA))))
 (dputM 2 (ixO 3 (varM 5)) (opM addD (dg2O 2 (ixO 3 (varM 5)) (frM (lstF nilM))) (frM (lstF (consM (varM 5) nilM))))))
def lastB : MS := (asM (nameG 4) (opM addD (varM 4) (cbM (one lenD) (consM (frM (compF (lstI (dg2O 2 (opM xorD (ixO 3 (varM 6)) (ixO 3 (varM 7))) (frM (lstF nilM)))) [8] (nameG 8) (tstM (opM gtD (varM 8) (varM 7))) (varM 8))) nilM))))
def pairB : MS := forM (rng2I (consM (opM addD (varM 6) (cM (.int 1))) (consM (varM 1) nilM))) (nameG 7) lastB
theorem sp_len (j v : Nat) : (spL w g j v).length ≤ j := by
  have := List.length_filter_le (fun i => pp w g i == v) (List.range j)
  rw [List.length_range] at this
  exact this
theorem spots_nat (k : Ok w g) (hw : w ≤ 16) (hm : m ≤ 60) (hn : 2 ^ 20 ≤ n) : ∃ ks s5, Sc s5 ∧ forM (rng1I (consM (varM 1) nilM)) (nameG 5) (spotB n) (TE g m [] [] 0 .nn .nn .nn) = some (.nx (TE g m ks (ppL w g m) 0 s5 .nn .nn)) ∧ (∀ v : Nat, (valD ks (.inl (v : Int))).getD (nl []) = nl (spL w g m v)) := by
  let e0 := TE g m [] [] 0 .nn .nn .nn
  have it : rng1I (consM (varM 1) nilM) e0 = some (rngD 0 m, e0) := e_rng1 (k := m) rfl (by omega)
  obtain ⟨e', h1, ks, s5, rfl, _, hs, k5⟩ := for_inv (g := nameG 5) (b := spotB n) (fun j e => ∃ ks s5, e = TE g m ks (ppL w g j) 0 s5 .nn .nn ∧ ks.length ≤ j ∧ (∀ v : Nat, (valD ks (.inl (v : Int))).getD (nl []) = nl (spL w g j v)) ∧ Sc s5) (rngD 0 m) 0 (fun j y e hy he => by
    obtain ⟨rfl, hj⟩ := rng0_get hy
    obtain ⟨ks, s5, rfl, lk, hs, k5⟩ := he
    rw [Nat.zero_add] at lk hs ⊢
    let e1 := TE g m ks (ppL w g j) 0 (.fro (nat j)) .nn .nn
    let e2 := TE g m ks (ppL w g (j + 1)) 0 (.fro (nat j)) .nn .nn
    have g1 : nameG 5 (nat j) (TE g m ks (ppL w g j) 0 s5 .nn .nn) = some e1 := by
      show setS 5 _ (TE g m ks (ppL w g j) 0 s5 .nn .nn) = _
      unfold TE
      rw [sc_set (s := s5) rfl k5]
      rfl
    have sh : opM shlD (cM (.int 1)) (varM 5) e1 = some (nat (2 ^ j), e1) := by
      have v : varM 5 e1 = some (nat j, e1) := rfl
      rw [e_opM, e_cM, bnd_s, v, bnd_s, e_1shl (by omega)]
      rfl
    have n2 : nb (2 ^ j) ≤ j + 1 := nb_le.mpr (Nat.pow_lt_pow_right (by decide) (by omega))
    have cr := call2 (F := F__law_rest n) (m := varM 0) (e := e1) rfl sh (law_rest_nat (n := n) (a := 2 ^ j) k (Nat.lt_of_lt_of_le (show nb (2 ^ j) < 100 by omega) (Nat.le_trans (by decide) hn)) (by omega) (by omega))
    have a1 : appM 3 (callM (F__law_rest n) (valA (varM 0) (valA (opM shlD (cM (.int 1)) (varM 5)) nilA))) e1 = some (.nx e2) := by
      rw [e_appO (xs := (ppL w g j).map D.int) rfl cr (by rw [List.length_map, ppL_len]; omega)]
      show some (Out.nx [.fro (nat g), .fro (nat m), .own (.dic ks), .own (.lst ((ppL w g j).map D.int ++ [nat (pp w g j)])), .fro (.int 0), .fro (nat j), .nn, .nn, .nn]) = some (Out.nx [.fro (nat g), .fro (nat m), .own (.dic ks), .own (.lst ((ppL w g (j + 1)).map D.int)), .fro (.int 0), .fro (nat j), .nn, .nn, .nn])
      rw [ppL_s, List.map_append]
      rfl
    have ix : ixO 3 (varM 5) e2 = some (nat (pp w g j), e2) := by
      have := e_ixO (e := e2) (i := 3) (mk := varM 5) (P := ppL w g (j + 1)) (p := j) rfl rfl (by rw [ppL_len]; omega)
      rw [ppL_gt (by omega)] at this
      exact this
    have gt_ := dg2_e (e := e2) (i := 2) (ks := ks) (z := nl []) (mx := frM (lstF nilM)) rfl ix rfl
    rw [hs] at gt_
    have on : frM (lstF (consM (varM 5) nilM)) e2 = some (nl [j], e2) := rfl
    have ad : addD (nl (spL w g j (pp w g j))) (nl [j]) = some (nl (spL w g j (pp w g j) ++ [j])) := by
      have := sp_len (w := w) (g := g) j (pp w g j)
      unfold nl
      rw [addL (by rw [List.length_map]; show _ + 1 ≤ 1000; omega), List.map_append]
    have va : opM addD (dg2O 2 (ixO 3 (varM 5)) (frM (lstF nilM))) (frM (lstF (consM (varM 5) nilM))) e2 = some (nl (spL w g j (pp w g j) ++ [j]), e2) := by
      rw [e_opM, gt_, bnd_s, on, bnd_s, ad]
      rfl
    have a2 := dput_e (e := e2) (i := 2) (ks := ks) rfl ix va (by omega)
    refine ⟨e1, TE g m (putD ks (.inl ((pp w g j : Nat) : Int)) (nl (spL w g j (pp w g j) ++ [j]))) (ppL w g (j + 1)) 0 (.fro (nat j)) .nn .nn, g1, ?_, _, _, rfl, ?_, fun v => ?_, .inr ⟨_, rfl⟩⟩
    · unfold spotB
      rw [e_seqN a1, a2]
      rfl
    · have := put_len (ks := ks) (k := .inl ((pp w g j : Nat) : Int)) (d := nl (spL w g j (pp w g j) ++ [j]))
      omega
    · rw [val_put]
      have sp : spL w g (j + 1) v = if pp w g j = v then spL w g j v ++ [j] else spL w g j v := by
        unfold spL
        rw [List.range_succ, List.filter_append]
        by_cases c : pp w g j = v
        · rw [if_pos c, fil1 (p := fun i => pp w g i == v) (beq_iff_eq.mpr c)]
        · rw [if_neg c, fil0 (p := fun i => pp w g i == v) (beq_false_of_ne c), List.append_nil]
      rw [sp]
      by_cases c : pp w g j = v
      · rw [if_pos (by rw [c]), if_pos c, c]
        rfl
      · rw [if_neg (fun z => c (by have := Sum.inl.inj z; omega)), if_neg c]
        exact hs v) e0 ⟨[], .nn, rfl, Nat.le_refl _, fun v => rfl, .inl rfl⟩
  rw [rng0_len, Nat.zero_add] at hs h1
  refine ⟨ks, s5, k5, ?_, hs⟩
  show forM _ _ _ e0 = _
  rw [e_forM, it, bnd_s]
  exact h1
theorem fil_len (P Q : Nat → Bool) : ∀ M, ((((List.range M).filter P).filter Q).length : Int) = sm (fun x => if Q x = true ∧ P x = true then 1 else 0) M
  | 0 => rfl
  | M + 1 => by
    rw [List.range_succ, List.filter_append, List.filter_append, List.length_append, Int.natCast_add, fil_len P Q M]
    show _ = sm _ M + (if Q M = true ∧ P M = true then (1 : Int) else 0)
    congr 1
    cases p : P M with
    | true =>
      rw [fil1 p]
      cases q : Q M with
      | true =>
        rw [fil1 q, if_pos ⟨rfl, rfl⟩]
        rfl
      | false =>
        rw [fil0 q, if_neg (by simp)]
        rfl
    | false =>
      rw [fil0 p, if_neg (by simp)]
      rfl
end
end N66

set_option Elab.async false
set_option linter.all false
set_option maxRecDepth 100000
set_option maxHeartbeats 2000000
namespace N66
open PySem PySem.Spec PyProof.Rows L2 Evl WS Mir Poly
section
variable {n b w l g T m far : Nat} {o : OD}
def Fij (w g m i j : Nat) : Int := sm (fun l => if j < l ∧ pp w g l = pp w g i ^^^ pp w g j then 1 else 0) m
def Oi (w g m i : Nat) : Int := sm (fun j => if i < j then Fij w g m i j else 0) m
theorem Oi_eq {i : Nat} (hi : i < m) : Oi w g m i = sm (fun d => Fij w g m i (i + 1 + d)) (m - (i + 1)) := by
  unfold Oi
  conv => lhs; rw [show m = (i + 1) + (m - (i + 1)) by omega]
  rw [sm_split, sm_all0 (f := fun j => if i < j then Fij w g ((i + 1) + (m - (i + 1))) i j else 0) fun j hj => if_neg (by omega), Int.zero_add]
  refine sm_congr fun d _ => ?_
  rw [if_pos (by omega), show (i + 1) + (m - (i + 1)) = m by omega]
theorem threes_nat (k : Ok w g) (hw : w ≤ 16) (hm : m ≤ 60) (hn : 2 ^ 20 ≤ n) : Ret (F__law_threes n) [nat g, nat m] (nat (NN (pp w g) m 3 0)) := by
  obtain ⟨ks, s5, k5, l1, hs⟩ := spots_nat (n := n) (m := m) k hw hm hn
  let E := fun (t : Int) (s6 s7 : SD) => TE g m ks (ppL w g m) t s5 s6 s7
  let e0 := E 0 .nn .nn
  have it : rng1I (consM (varM 1) nilM) e0 = some (rngD 0 m, e0) := e_rng1 (k := m) rfl (by omega)
  obtain ⟨e', l2, s6, s7, rfl, _⟩ := for_inv (g := nameG 6) (b := pairB) (fun i e => ∃ s6 s7, e = E (sm (Oi w g m) i) s6 s7 ∧ Sc s6 ∧ Sc s7) (rngD 0 m) 0 (fun i y e hy he => by
    obtain ⟨rfl, hi⟩ := rng0_get hy
    obtain ⟨s6, s7, rfl, k6, k7⟩ := he
    rw [Nat.zero_add]
    let t := sm (Oi w g m) i
    let e1 := E t (.fro (nat i)) s7
    have g1 : nameG 6 (nat i) (E t s6 s7) = some e1 := by
      show setS 6 _ (TE g m ks (ppL w g m) t s5 s6 s7) = _
      unfold TE
      rw [sc_set (s := s6) rfl k6]
      rfl
    let xs : List Nat := (List.range (m - (i + 1))).map fun d => i + 1 + d
    have ir : rng2I (consM (opM addD (varM 6) (cM (.int 1))) (consM (varM 1) nilM)) e1 = some (xs.map nat, e1) := e_rng2 (a := i + 1) (b := m) (by
      have v6 : varM 6 e1 = some (nat i, e1) := rfl
      have v1 : varM 1 e1 = some (nat m, e1) := rfl
      rw [e_consM, e_opM, v6, bnd_s, e_cM, bnd_s, e_addn1, rsl_s, bnd_s, e_consM, v1]
      rfl) (by omega) (by omega)
    obtain ⟨e', l3, s7', rfl, k7'⟩ := for_inv (g := nameG 7) (b := lastB) (fun d e => ∃ s7, e = E (t + sm (fun d => Fij w g m i (i + 1 + d)) d) (.fro (nat i)) s7 ∧ Sc s7) (xs.map nat) 0 (fun d y e hy he => by
      obtain ⟨s7, rfl, k7⟩ := he
      rw [Nat.zero_add]
      have hd : d < m - (i + 1) := by
        have := (List.getElem?_eq_some_iff.mp hy).1
        rw [List.length_map, List.length_map, List.length_range] at this
        exact this
      rw [List.getElem?_map, List.getElem?_map, List.getElem?_range hd] at hy
      cases hy
      let j := i + 1 + d
      let t2 := t + sm (fun d => Fij w g m i (i + 1 + d)) d
      let e2 := E t2 (.fro (nat i)) (.fro (nat j))
      refine ⟨e2, E (t + sm (fun d => Fij w g m i (i + 1 + d)) (d + 1)) (.fro (nat i)) (.fro (nat j)), ?_, ?_, _, rfl, .inr ⟨_, rfl⟩⟩
      · show setS 7 _ (TE g m ks (ppL w g m) t2 s5 (.fro (nat i)) s7) = _
        unfold TE
        rw [sc_set (s := s7) rfl k7]
        rfl
      · have ix6 : ixO 3 (varM 6) e2 = some (nat (pp w g i), e2) := by
          have := e_ixO (e := e2) (i := 3) (mk := varM 6) (P := ppL w g m) (p := i) rfl rfl (by rw [ppL_len]; omega)
          rw [ppL_gt hi] at this
          exact this
        have ix7 : ixO 3 (varM 7) e2 = some (nat (pp w g j), e2) := by
          have := e_ixO (e := e2) (i := 3) (mk := varM 7) (P := ppL w g m) (p := j) rfl rfl (by rw [ppL_len]; omega)
          rw [ppL_gt (show j < m by omega)] at this
          exact this
        have xo : opM xorD (ixO 3 (varM 6)) (ixO 3 (varM 7)) e2 = some (nat (pp w g i ^^^ pp w g j), e2) := by
          rw [e_opM, ix6, bnd_s, ix7, bnd_s, e_xorN]
          rfl
        have dg := dg2_e (e := e2) (i := 2) (ks := ks) (z := nl []) (mx := frM (lstF nilM)) rfl xo rfl
        rw [hs] at dg
        let v := pp w g i ^^^ pp w g j
        have li : lstI (dg2O 2 (opM xorD (ixO 3 (varM 6)) (ixO 3 (varM 7))) (frM (lstF nilM))) e2 = some ((spL w g m v).map nat, e2) := by
          unfold lstI
          rw [dg]
          rfl
        have sl := sp_len (w := w) (g := g) m v
        have fl := fil_nat (mi := lstI (dg2O 2 (opM xorD (ixO 3 (varM 6)) (ixO 3 (varM 7))) (frM (lstF nilM)))) (mt := tstM (opM gtD (varM 8) (varM 7))) (me := varM 8) (e := e2) (v := 8) (x0 := .nn) (xs := spL w g m v) (fun x => decide (j < x)) nat li rfl (.inl rfl) (by omega) (fun x _ => by
          have v8 : varM 8 (e2.set 8 (.fro (nat x))) = some (nat x, e2.set 8 (.fro (nat x))) := rfl
          have v7 : varM 7 (e2.set 8 (.fro (nat x))) = some (nat j, e2.set 8 (.fro (nat x))) := rfl
          rw [e_tstM, e_opM, v8, bnd_s, v7, bnd_s, e_gtN]
          rfl) (fun x _ _ => rfl)
        have ln : cbM (one lenD) (consM (frM (compF (lstI (dg2O 2 (opM xorD (ixO 3 (varM 6)) (ixO 3 (varM 7))) (frM (lstF nilM)))) [8] (nameG 8) (tstM (opM gtD (varM 8) (varM 7))) (varM 8))) nilM) e2 = some (.int (Fij w g m i j), e2) := by
          rw [e_cbM, e_consM, e_frM, fl]
          show rsl (lenD (.lst (((spL w g m v).filter fun x => decide (j < x)).map nat))) e2 = _
          have q : ((spL w g m v).filter fun x => decide (j < x)).map nat = (((spL w g m v).filter fun x => decide (j < x)).map fun z : Nat => (z : Int)).map D.int := by rw [List.map_map]; rfl
          rw [q]
          show rsl (lenD (il _)) e2 = _
          rw [lenI, List.length_map]
          have h := fil_len (fun x => pp w g x == v) (fun x => decide (j < x)) m
          have h2 : (((spL w g m v).filter fun x => decide (j < x)).length : Int) = Fij w g m i j := by
            refine h.trans (sm_congr fun x _ => ?_)
            by_cases c : j < x ∧ pp w g x = v
            · rw [if_pos ⟨decide_eq_true c.1, beq_iff_eq.mpr c.2⟩]
              exact (if_pos c).symm
            · rw [if_neg fun z => c ⟨of_decide_eq_true z.1, beq_iff_eq.mp z.2⟩]
              exact (if_neg c).symm
          show some (D.int (((spL w g m v).filter fun x => decide (j < x)).length : Int), e2) = _
          rw [h2]
        have v4 : varM 4 e2 = some (.int t2, e2) := rfl
        unfold lastB
        rw [e_asM, e_opM, v4, bnd_s, ln, bnd_s]
        have : t + sm (fun d => Fij w g m i (i + 1 + d)) (d + 1) = t2 + Fij w g m i j := by
          show t + (sm (fun d => Fij w g m i (i + 1 + d)) d + Fij w g m i (i + 1 + d)) = t + sm (fun d => Fij w g m i (i + 1 + d)) d + Fij w g m i (i + 1 + d)
          omega
        rw [this]
        rfl) e1 ⟨s7, by show _ = E (t + 0) _ _; rw [Int.add_zero], k7⟩
    have lx : (xs.map nat).length = m - (i + 1) := by rw [List.length_map, List.length_map, List.length_range]
    rw [lx, Nat.zero_add, ← Oi_eq hi] at l3
    refine ⟨e1, E (sm (Oi w g m) (i + 1)) (.fro (nat i)) s7', g1, ?_, _, _, rfl, .inr ⟨_, rfl⟩, k7'⟩
    unfold pairB
    rw [e_forM, ir, bnd_s]
    exact l3) e0 ⟨.nn, .nn, rfl, .inl rfl, .inl rfl⟩
  rw [rng0_len, Nat.zero_add] at l2
  have hv : sm (Oi w g m) m = ((NN (pp w g) m 3 0 : Nat) : Int) := by
    rw [NN_3]
    rfl
  refine Ret.of rfl (e' := E (sm (Oi w g m) m) s6 s7) ?_
  show m__law_threes n [.fro (nat g), .fro (nat m), .nn, .nn, .nn, .nn, .nn, .nn, .nn] = _
  have cut : m__law_threes n = seqM (parM [2, 3, 4] (ownX newF (ownX (lstF nilM) (froX (cM (.int 0)) nilX)))) (seqM (forM (rng1I (consM (varM 1) nilM)) (nameG 5) (spotB n)) (seqM (forM (rng1I (consM (varM 1) nilM)) (nameG 6) pairB) (retM (varM 4)))) := rfl
  rw [cut, e_seqN (e1 := TE g m [] [] 0 .nn .nn .nn) rfl, e_seqN l1, e_seqN (e1 := E (sm (Oi w g m) m) s6 s7) (by rw [e_forM]; show bnd (rng1I _ e0) _ = _; rw [it, bnd_s]; exact l2)]
  show some (Out.rt (.int (sm (Oi w g m) m)) _) = _
  rw [hv]
  rfl
theorem all_odd_nat (k : G w l g) (hw8 : w ≤ 8) : Ret (F_all_odd n) [Ck w l] (.bl ((1 + pcb l w) % 2 == 0)) := by
  let e : SDs := [.fro (Ck w l)]
  have ll : l < 256 := Nat.lt_of_lt_of_le k.hl (Nat.pow_le_pow_right (by decide) hw8)
  have s1 : drM (callM (F_check_check n) (valA (varM 0) nilA)) e = some (.nx e) := by rw [e_drM, call1 (m := varM 0) (e := e) rfl (check_check_nat (n := n))]; rfl
  have cn := cnt_tab w (by omega) l ll
  have c1 : m1M cntD (methM 0 "bits" (F_Check_bits n) (varM 0) nilA) (cM (.str (Str.ofString "1"))) e = some (nat (1 + pcb l w), e) := by
    unfold m1M
    rw [e_bits k, bnd_s]
    show rsl (cntD (.str (tx (true :: bt l w))) (.str (Str.ofString "1"))) e = _
    show rsl (some (D.int (Txt.count (tx (true :: bt l w)) (Str.ofString "1")))) e = _
    rw [cn]
    rfl
  refine Ret.of rfl (e' := e) ?_
  show seqM (drM (callM (F_check_check n) (valA (varM 0) nilA))) (retM (opM (eqD false) (opM andD (m1M cntD (methM 0 "bits" (F_Check_bits n) (varM 0) nilA) (cM (.str (Str.ofString "1")))) (cM (.int 1))) (cM (nat 0)))) e = _
  rw [e_seqN s1, e_retM, e_opM, e_opM, c1, bnd_s, e_cM, bnd_s, e_and1, rsl_s, bnd_s, e_cM, bnd_s, e_eqNat]
  rfl
theorem odd_g (k : G w l g) (h : ((1 + pcb l w) % 2 == 0) = true) : xr g (w + 1) = false := by
  rw [xr_g k]
  have h := beq_iff_eq.mp h
  have := pcb_xr l w
  cases q : xr l w with
  | true => rfl
  | false =>
    rw [q] at this
    simp at this
    omega
theorem order_nat (k : G w l g) (od : Od w g T) (hn : 2 ^ 20 ≤ n) : Ret (F_order n) [Ck w l] (nat T) := by
  let e : SDs := [.fro (Ck w l)]
  refine Ret.of rfl (e' := e) ?_
  show m_order n e = _
  unfold m_order
  rw [e_seqN (e1 := e) (by rw [e_drM, call1 (m := varM 0) (e := e) rfl (check_check_nat (n := n))]; rfl), e_retM, call1 (m := varM 0) (e := e) rfl (order_of_nat (n := n) k od hn)]
  rfl
end
end N66

set_option Elab.async false
set_option linter.all false
set_option maxRecDepth 100000
set_option maxHeartbeats 2000000
namespace N66
open PySem PySem.Spec PyProof.Rows L2 Evl WS Mir Poly
section
variable {n b w l g T m far : Nat} {o : OD}
def QE (w l g m : Nat) (o : OD) (s4 s5 : SD) : SDs := [.bor o, .fro (Ck w l), .fro (nat g), .fro (nat m), s4, s5, .nn]
def farM (n : Nat) : M := (opM ixD (frM (lstF (consM (opM powD (cM (.int 10)) (cM (.int 18))) (consM (callM (F__law_random n) (sloA 0 (valA (opM powD (cM (.int 10)) (cM (.int 18))) nilA))) (consM (varM 3) nilM))))) (callM (F__law_random n) (sloA 0 (valA (cM (nat 3)) nilA))))
def toldM (n : Nat) : M := (frM (compF (rng1I (consM (cM (nat 3)) nilM)) [6] (nameG 6) yesT (callM (F_how_many_unseen n) (valA (varM 1) (valA (varM 4) (valA (varM 6) nilA))))))
def firstB (n : Nat) : MS := (ifS (tstM (opM (eqD true) (varM 5) (frM (lstF (consM (cM (nat 1)) (consM (cM (nat 0)) (consM (callM (F__law_pairs n) (valA (varM 4) (valA (callM (F_order n) (valA (varM 1) nilA)) nilA))) nilM))))))) (retM (cM (.bl false))) nxM)
def threeB (n : Nat) : MS := (ifS (tstM (opM (eqD true) (callM (F_how_many_unseen n) (valA (varM 1) (valA (varM 3) (valA (cM (nat 3)) nilA)))) (callM (F__law_threes n) (valA (varM 2) (valA (varM 3) nilA))))) (retM (cM (.bl false))) nxM)
def oddM (n : Nat) : M := (frM (compF (lstI (frM (lstF (consM (cM (nat 1)) (consM (cM (nat 3)) (consM (cM (nat 5)) (consM (cM (nat 7)) nilM))))))) [6] (nameG 6) (tstM (opM (eqD true) (callM (F_how_many_unseen n) (valA (varM 1) (valA (varM 4) (valA (varM 6) nilA)))) (cM (nat 0)))) (varM 6)))
def oddB (n : Nat) : MS := (ifS (andM (truM (callM (F_all_odd n) (valA (varM 1) nilA))) (tstM (opM (eqD true) (oddM n) (frM (lstF nilM))))) (retM (cM (.bl false))) nxM)
def lowB (n : Nat) : MS := (ifS (tstM (opM ltD (varM 3) (propM 0 (F_Check_width n) (varM 1)))) (retM (opM (eqD false) (callM (F_chance n) (valA (varM 1) (valA (varM 3) (valA (cM (nat 1)) (valA (cM (nat 2)) nilA))))) (tupM (consM (cM (nat 0)) (consM (cM (nat 1)) nilM))))) nxM)
def endB (n : Nat) : MS := (retM (opM (eqD false) (callM (F_chance n) (valA (varM 1) (valA (varM 3) (valA (cM (nat 1)) (valA (cM (nat 2)) nilA))))) (callM (F__law_lowest n) (valA (opM subD (opM shlD (cM (.int 1)) (opM subD (varM 3) (propM 0 (F_Check_width n) (varM 1)))) (cM (.int 1))) (valA (opM shlD (cM (.int 1)) (varM 3)) nilA)))))
theorem gr_cut (n : Nat) : m__law_great_right n = seqM (asM (nameG 4) (farM n)) (seqM (asM (nameG 5) (toldM n)) (seqM (firstB n) (seqM (threeB n) (seqM (oddB n) (seqM (lowB n) (endB n)))))) := rfl
theorem far_nat (hg : GS b o) (hb : b ≤ 900000000) (hm : m ≤ 60) : ∃ far o', far ≤ 1000000000000000000 ∧ farM n (QE w l g m o .nn .nn) = some (nat far, QE w l g m o' .nn .nn) ∧ GS (b + 200) o' := by
  let e0 := QE w l g m o .nn .nn
  have me : ∀ o, opM powD (cM (.int 10)) (cM (.int 18)) (QE w l g m o .nn .nn) = some (nat 1000000000000000000, QE w l g m o .nn .nn) := fun o => by
    rw [e_opM, e_cM, bnd_s, e_cM, bnd_s, p18]
    rfl
  obtain ⟨z, o1, lz, g1, c1⟩ := drawE (n := n) (k := 1000000000000000000) (me := opM powD (cM (.int 10)) (cM (.int 18))) (r := e0.tail) hg (by omega) (by decide) (Nat.le_trans (nb_le.mpr (show 1000000000000000000 < 2 ^ 60 by decide)) (by decide)) (me o)
  let e1 := QE w l g m o1 .nn .nn
  have c1 : callM (F__law_random n) (sloA 0 (valA (opM powD (cM (.int 10)) (cM (.int 18))) nilA)) e0 = some (nat z, e1) := c1
  obtain ⟨y, o2, ly, g2, c2⟩ := drawE (n := n) (k := 3) (me := cM (nat 3)) (r := e1.tail) g1 (by omega) (by decide) (Nat.le_trans (nb_le.mpr (show 3 < 2 ^ 2 by decide)) (by decide)) rfl
  have c2 : callM (F__law_random n) (sloA 0 (valA (cM (nat 3)) nilA)) e1 = some (nat y, QE w l g m o2 .nn .nn) := c2
  have ls : frM (lstF (consM (opM powD (cM (.int 10)) (cM (.int 18))) (consM (callM (F__law_random n) (sloA 0 (valA (opM powD (cM (.int 10)) (cM (.int 18))) nilA))) (consM (varM 3) nilM)))) e0 = some (.lst ([1000000000000000000, z, m].map nat), e1) := by
    have q : consM (opM powD (cM (.int 10)) (cM (.int 18))) (consM (callM (F__law_random n) (sloA 0 (valA (opM powD (cM (.int 10)) (cM (.int 18))) nilA))) (consM (varM 3) nilM)) e0 = some ([1000000000000000000, z, m].map nat, e1) := by
      have v : varM 3 e1 = some (nat m, e1) := rfl
      rw [e_consM, me o, bnd_s, e_consM, c1, bnd_s, e_consM, v]
      rfl
    rw [e_frM, e_lstF q (by show (3 : Nat) ≤ 1000; decide)]
    rfl
  have hy : ∃ far, [1000000000000000000, z, m][y]? = some far ∧ far ≤ 1000000000000000000 := by
    have : y = 0 ∨ y = 1 ∨ y = 2 := by omega
    rcases this with rfl | rfl | rfl
    · exact ⟨_, rfl, Nat.le_refl _⟩
    · exact ⟨z, rfl, by omega⟩
    · exact ⟨m, rfl, by omega⟩
  obtain ⟨far, h1, h2⟩ := hy
  refine ⟨far, o2, h2, ?_, g2⟩
  show farM n e0 = _
  unfold farM
  rw [e_opM, ls, bnd_s, c2, bnd_s, ixDN (d := nat far) (by rw [List.getElem?_map, h1]; rfl)]
  rfl
theorem one_two (k : G w l g) (od : Od w g T) (hw8 : w ≤ 8) (hn : 2 ^ 20 ≤ n) (hm : m ≤ 60) {e : SDs} (h1 : varM 1 e = some (Ck w l, e)) (h3 : varM 3 e = some (nat m, e)) :
    callM (F_chance n) (valA (varM 1) (valA (varM 3) (valA (cM (nat 1)) (valA (cM (nat 2)) nilA)))) e = some (lowD (if w ≤ m then 2 ^ (m - w) - 1 else 0) (2 ^ m), e) := by
  have c := call4 (F := F_chance n) (m := varM 1) (m2 := varM 3) (m3 := cM (nat 1)) (m4 := cM (nat 2)) h1 h3 rfl rfl (chance_nat (n := n) (t := 1) (u := 2) k od hw8 hn hm (by decide) (by decide) (by decide))
  have hz := tot_Z (w := w) (g := g) m 1 1
  rw [show ((1 : Nat) : Int) = 1 from rfl, Int.one_pow, ← tot_cast] at hz
  have ht : totN w g m 1 1 = if w ≤ m then 2 ^ (m - w) - 1 else 0 := by
    by_cases q : w ≤ m
    · have := ZZ_all k.ok (m - w) 0 (Nat.two_pow_pos w)
      rw [show w + (m - w) = m by omega] at this
      have p := Nat.two_pow_pos (m - w)
      rw [if_pos q]
      omega
    · have := ZZ_low k.ok m (by omega) 0
      rw [if_pos (Nat.two_pow_pos m)] at this
      rw [if_neg q]
      omega
  rw [show (2 : Nat) - 1 = 1 from rfl, ht] at c
  exact c
theorem great_right_nat (k : G w l g) (od : Od w g T) (hw8 : w ≤ 8) (hm : m ≤ 40) (hg : GS b o) (hb : b ≤ 800000000) (hn : 2 ^ 45 ≤ n) : ∃ o', F__law_great_right n [.bor o, .fro (Ck w l), .fro (nat g), .fro (nat m)] = some (.bl true, [.bor o', .fro (Ck w l), .fro (nat g), .fro (nat m)]) ∧ GS (b + 1000) o' := by
  have hn2 : 2 ^ 20 ≤ n := Nat.le_trans (by decide) hn
  have ok := k.ok
  have ho := k.podd
  have hT : T ≤ 256 := Nat.le_trans od.tw (Nat.pow_le_pow_right (by decide) hw8)
  obtain ⟨far, o1, hf, f1, g1⟩ := far_nat (n := n) (w := w) (l := l) (g := g) (m := m) hg (by omega) (by omega)
  let N : Nat → Nat := fun s => NN (pp w g) far s 0
  let e0 := QE w l g m o .nn .nn
  let e1 := QE w l g m o1 (.fro (nat far)) .nn
  let e2 := QE w l g m o1 (.fro (nat far)) (.fro (.lst ((List.range 3).map fun s => nat (N s))))
  have a1 : asM (nameG 4) (farM n) e0 = some (.nx e1) := by rw [e_asM, f1]; rfl
  have a2 : asM (nameG 5) (toldM n) e1 = some (.nx e2) := by
    have it : rng1I (consM (cM (nat 3)) nilM) e1 = some ((List.range 3).map nat, e1) := rng1N (k := 3) rfl (by decide)
    have mp := map_nat (me := callM (F_how_many_unseen n) (valA (varM 1) (valA (varM 4) (valA (varM 6) nilA)))) (e := e1) (v := 6) (x0 := .nn) (xs := List.range 3) (fun s => nat (N s)) it rfl (.inl rfl) (by rw [List.length_range]; decide) fun s hs => by
      have hs := List.mem_range.mp hs
      exact call3 (F := F_how_many_unseen n) (m := varM 1) (m2 := varM 4) (m3 := varM 6) (e := e1.set 6 (.fro (nat s))) (x := Ck w l) (y := nat far) (z := nat s) rfl rfl rfl (how_many_nat (n := n) k od hw8 hn2 hf (by omega))
    unfold toldM
    rw [e_asM, e_frM, mp]
    rfl
  have a3 : firstB n e2 = some (.nx e2) := by
    have v5 : varM 5 e2 = some (il [1, 0, ((N 2 : Nat) : Int)], e2) := by
      show some (D.lst [nat (N 0), nat (N 1), nat (N 2)], e2) = _
      have h0 : N 0 = 1 := by show NN (pp w g) far 0 0 = 1; rw [NN_0, if_pos rfl]
      have h1 : N 1 = 0 := NN_1z ok ho far
      rw [h0, h1]
      rfl
    have co := call1 (F := F_order n) (m := varM 1) (e := e2) rfl (order_nat (n := n) k od hn2)
    have cp := call2 (F := F__law_pairs n) (m := varM 4) (e := e2) rfl co (pairs_nat (n := n) ok ho od (by omega) hf)
    have rh : frM (lstF (consM (cM (nat 1)) (consM (cM (nat 0)) (consM (callM (F__law_pairs n) (valA (varM 4) (valA (callM (F_order n) (valA (varM 1) nilA)) nilA))) nilM)))) e2 = some (il [1, 0, ((N 2 : Nat) : Int)], e2) := by
      have q : consM (cM (nat 1)) (consM (cM (nat 0)) (consM (callM (F__law_pairs n) (valA (varM 4) (valA (callM (F_order n) (valA (varM 1) nilA)) nilA))) nilM)) e2 = some ([nat 1, nat 0, nat (N 2)], e2) := by
        rw [e_consM, e_cM, bnd_s, e_consM, e_cM, bnd_s, e_consM, cp]
        rfl
      rw [e_frM, e_lstF q (by show (3 : Nat) ≤ 1000; decide)]
      rfl
    unfold firstB
    rw [e_ifS, e_tstM, e_opM, v5, bnd_s, rh, bnd_s, eqIL, beq_self_eq_true]
    rfl
  have a4 : threeB n e2 = some (.nx e2) := by
    have ch := call3 (F := F_how_many_unseen n) (m := varM 1) (m2 := varM 3) (m3 := cM (nat 3)) (e := e2) rfl rfl rfl (how_many_nat (n := n) (many := m) k od hw8 hn2 (by omega) (by decide))
    have ct := call2 (F := F__law_threes n) (m := varM 2) (m2 := varM 3) (e := e2) rfl rfl (threes_nat (n := n) (m := m) ok (by omega) (by omega) hn2)
    unfold threeB
    rw [e_ifS, e_tstM, e_opM, ch, bnd_s, ct, bnd_s, e_eqNat, beq_self_eq_true]
    rfl
  have a5 : oddB n e2 = some (.nx e2) := by
    have ta : truM (callM (F_all_odd n) (valA (varM 1) nilA)) e2 = some ((1 + pcb l w) % 2 == 0, e2) := by
      rw [e_truM, call1 (m := varM 1) (e := e2) rfl (all_odd_nat (n := n) k hw8), bnd_s, e_trB]
      rfl
    unfold oddB
    rw [e_ifS, e_andM, ta, bnd_s]
    cases h : (1 + pcb l w) % 2 == 0 with
    | false => rfl
    | true =>
      have hx := odd_g k h
      have fl := fil_nat (mi := lstI (frM (lstF (consM (cM (nat 1)) (consM (cM (nat 3)) (consM (cM (nat 5)) (consM (cM (nat 7)) nilM))))))) (mt := tstM (opM (eqD true) (callM (F_how_many_unseen n) (valA (varM 1) (valA (varM 4) (valA (varM 6) nilA)))) (cM (nat 0)))) (me := varM 6) (e := e2) (v := 6) (x0 := .nn) (xs := [1, 3, 5, 7]) (fun _ => false) nat rfl rfl (.inl rfl) (by decide) (fun x hx2 => by
        have hx3 : x % 2 = 1 ∧ x ≤ 8 := by
          have : x = 1 ∨ x = 3 ∨ x = 5 ∨ x = 7 := by simpa using hx2
          omega
        have c := call3 (F := F_how_many_unseen n) (m := varM 1) (m2 := varM 4) (m3 := varM 6) (e := e2.set 6 (.fro (nat x))) (x := Ck w l) (y := nat far) (z := nat x) rfl rfl rfl (how_many_nat (n := n) k od hw8 hn2 hf hx3.2)
        rw [NN_odd ok hx hx3.1] at c
        rw [e_tstM, e_opM, c, bnd_s, e_cM, bnd_s, e_eqNat]
        rfl) (fun x _ _ => rfl)
      have om : oddM n e2 = some (il [], e2) := by
        unfold oddM
        rw [e_frM, fl]
        rfl
      have z : frM (lstF nilM) e2 = some (il [], e2) := rfl
      have t2 : tstM (opM (eqD true) (oddM n) (frM (lstF nilM))) e2 = some (false, e2) := by
        rw [e_tstM, e_opM, om, bnd_s, z, bnd_s, eqIL]
        rfl
      show bnd (tstM _ e2) _ = _
      rw [t2]
      rfl
  have ch := one_two (n := n) (e := e2) k od hw8 hn2 (show m ≤ 60 by omega) rfl rfl
  have v3 : varM 3 e2 = some (nat m, e2) := rfl
  have tl : tstM (opM ltD (varM 3) (propM 0 (F_Check_width n) (varM 1))) e2 = some (decide (m < w), e2) := by
    rw [e_tstM, e_opM, v3, bnd_s, wid_e (i := 1) (e := e2) (w := w) (l := l) rfl, bnd_s, e_ltN]
    rfl
  have fin : seqM (lowB n) (endB n) e2 = some (.rt (.bl true) e2) := by
    by_cases c : m < w
    · rw [if_neg (by omega)] at ch
      have lz : lowD 0 (2 ^ m) = .tup [nat 0, nat 1] := by
        unfold lowD
        rw [Nat.gcd_zero_left, Nat.div_self (Nat.two_pow_pos m), Nat.zero_div]
      have tp : tupM (consM (cM (nat 0)) (consM (cM (nat 1)) nilM)) e2 = some (lowD 0 (2 ^ m), e2) := by
        rw [lz]
        rfl
      have r : lowB n e2 = some (.rt (.bl true) e2) := by
        unfold lowB
        rw [e_ifS, tl, bnd_s, decide_eq_true c]
        show retM _ e2 = _
        rw [e_retM, e_opM, ch, bnd_s, tp, bnd_s, eq_low]
        rfl
      rw [e_seqR r]
    · rw [if_pos (by omega)] at ch
      have r : lowB n e2 = some (.nx e2) := by
        unfold lowB
        rw [e_ifS, tl, bnd_s, decide_eq_false c]
        rfl
      have p := Nat.two_pow_pos (m - w)
      have d1 : opM subD (opM shlD (cM (.int 1)) (opM subD (varM 3) (propM 0 (F_Check_width n) (varM 1)))) (cM (.int 1)) e2 = some (nat (2 ^ (m - w) - 1), e2) := by
        rw [e_opM, e_opM, e_cM, bnd_s, e_opM, v3, bnd_s, wid_e (i := 1) (e := e2) (w := w) (l := l) rfl, bnd_s, e_subN (by omega), rsl_s, bnd_s, e_1shl (by omega), rsl_s, bnd_s, e_cM, bnd_s, e_sub1 (by omega)]
        rfl
      have d2 : opM shlD (cM (.int 1)) (varM 3) e2 = some (nat (2 ^ m), e2) := by
        rw [e_opM, e_cM, bnd_s, v3, bnd_s, e_1shl (by omega)]
        rfl
      have bm : nb (2 ^ m) ≤ m + 1 := nb_le.mpr (Nat.pow_lt_pow_right (by decide) (by omega))
      have lo := call2 (F := F__law_lowest n) d1 d2 (lowest_nat (n := n) (Nat.two_pow_pos m) (by omega) (Nat.lt_of_lt_of_le (Nat.pow_lt_pow_right (by decide) (show m < 45 by omega)) hn))
      rw [e_seqN r]
      unfold endB
      rw [e_retM, e_opM, ch, bnd_s, lo, bnd_s, eq_low]
      rfl
  refine ⟨o1, ?_, g1.mono (by omega)⟩
  refine def_bor (n := 4) (N := 7) (ds := [Ck w l, nat g, nat m]) (e' := e2.tail) rfl ?_
  show m__law_great_right n e0 = _
  rw [gr_cut, e_seqN a1, e_seqN a2, e_seqN a3, e_seqN a4, e_seqN a5]
  exact fin
end
end N66

set_option Elab.async false
set_option linter.all false
set_option maxRecDepth 100000
namespace N66
open PySem PySem.Spec PyProof.Rows L2 Evl WS Mir
def bodyL (n : Nat) : MS := (seqM (owM 2 (callF (F__law_generator n) (consM (varM 0) (consM (varM 1) nilM))))
 (seqM (asM (nameG 3) (opM addD (cM (.int 1)) (callM (F__law_random n) (sloA 2 (valA (cM (.int 4)) nilA)))))
 (seqM (asM (nameG 4) (callM (F__law_drawn n) (sloA 2 (valA (varM 3) nilA))))
 (seqM (ifS (notM (truM (callM (F__law_small_right n) (sloA 2 (valA (makeM 0 (F_Check___init__ n) (consM (varM 3) (consM (varM 4) nilM))) (valA (opM addD (opM shlD (cM (.int 1)) (varM 3)) (varM 4)) (valA (callM (F__law_random n) (sloA 2 (valA (cM (.int 9)) nilA))) nilA))))))) (retM (cM (.bl false))) nxM)
 (seqM (asM (nameG 3) (opM addD (cM (.int 1)) (callM (F__law_random n) (sloA 2 (valA (cM (.int 8)) nilA)))))
 (seqM (asM (nameG 4) (callM (F__law_drawn n) (sloA 2 (valA (varM 3) nilA))))
 (ifS (notM (truM (callM (F__law_great_right n) (sloA 2 (valA (makeM 0 (F_Check___init__ n) (consM (varM 3) (consM (varM 4) nilM))) (valA (opM addD (opM shlD (cM (.int 1)) (varM 3)) (varM 4)) (valA (callM (F__law_random n) (sloA 2 (valA (cM (.int 41)) nilA))) nilA))))))) (retM (cM (.bl false))) nxM)))))))
def tailL (n : Nat) : MS := (seqM (asM (nameG 5) (makeM 0 (F_Check___init__ n) (consM (cM (.int 3)) (consM (cM (.int 3)) nilM))))
 (seqM (ifS (tstM (opM (eqD true) (frM (compF (rng1I (consM (cM (.int 9)) nilM)) [6] (nameG 6) yesT (callM (F_how_many_unseen n) (valA (varM 5) (valA (cM (.int 7)) (valA (varM 6) nilA)))))) (frM (lstF (consM (cM (.int 1)) (consM (cM (.int 0)) (consM (cM (.int 0)) (consM (cM (.int 7)) (consM (cM (.int 7)) (consM (cM (.int 0)) (consM (cM (.int 0)) (consM (cM (.int 1)) (consM (cM (.int 0)) nilM))))))))))))) (retM (cM (.bl false))) nxM)
 (retM (andV (opM (eqD false) (callM (F_chance n) (valA (varM 5) (valA (cM (.int 7)) (valA (cM (.int 1)) (valA (cM (.int 2)) nilA))))) (tupM (consM (cM (.int 15)) (consM (cM (.int 128)) nilM)))) (andV (opM (eqD false) (callM (F_chance n) (valA (varM 5) (valA (cM (.int 0)) (valA (cM (.int 1)) (valA (cM (.int 2)) nilA))))) (tupM (consM (cM (.int 0)) (consM (cM (.int 1)) nilM)))) (opM (eqD false) (callM (F_chance n) (valA (varM 5) (valA (cM (.int 7)) (valA (cM (.int 3)) (valA (cM (.int 3)) nilA))))) (tupM (consM (cM (.int 1)) (consM (cM (.int 1)) nilM)))))))))
theorem law_cut (n : Nat) : m_law n = seqM (forM (rng1I (consM (cM (.int 2)) nilM)) (nameG 1) (bodyL n)) (tailL n) := rfl
def yes : Option Out → Bool
  | some (.rt (.bl true) _) => true
  | _ => false
theorem yes_some {x : Option Out} (h : yes x = true) : ∃ e, x = some (.rt (.bl true) e) := by
  unfold yes at h
  split at h
  · exact ⟨_, rfl⟩
  · cases h
theorem tail_yes (A x1 x3 x4 : D) (o : OD) : yes (tailL 2000000000000000000 [.fro A, .fro x1, .own o, .fro x3, .fro x4, .nn, .nn]) = true := by kernel_rfl
end N66

set_option Elab.async false
set_option linter.all false
set_option maxRecDepth 100000
set_option maxHeartbeats 2000000
namespace N66
open PySem PySem.Spec PyProof.Rows L2 Evl WS Mir Poly
section
variable {n b w l g T m : Nat} {o : OD}
def LE (ns : List Int) (i : Nat) (o : OD) (s3 s4 : SD) : SDs := [.fro (.scr (ns.map D.int)), .fro (nat i), .own o, s3, s4, .nn, .nn]
theorem draw2 {k : Nat} (hg : GS b o) (hb : b ≤ 1000000000) (h1 : 1 ≤ k) (hk : k ≤ 100) : ∃ z o', z < k ∧ GS (b + 100) o' ∧ ∀ (x y : SD) (r : SDs), callM (F__law_random n) (sloA 2 (valA (cM (nat k)) nilA)) (x :: y :: .own o :: r) = some (nat z, x :: y :: .own o' :: r) := by
  obtain ⟨z, o', h, l, g⟩ := rnd2 (n := n) (bound := k) hg hb h1 (Nat.le_trans (nb_le.mpr (show k < 2 ^ 7 by omega)) (by decide))
  refine ⟨z, o', l, g, fun x y r => ?_⟩
  have q : sloA 2 (valA (cM (nat k)) nilA) (x :: y :: .own o :: r) = some ([.inr 2, .inl (nat k)], x :: y :: .own o :: r) := rfl
  rw [e_callM, q, bnd_s]
  exact h x y r
def widB (n K : Nat) : MS := asM (nameG 3) (opM addD (cM (nat 1)) (callM (F__law_random n) (sloA 2 (valA (cM (nat K)) nilA))))
def lowW (n : Nat) : MS := asM (nameG 4) (callM (F__law_drawn n) (sloA 2 (valA (varM 3) nilA)))
def callB (n K : Nat) (F : Nat → MF) : MS := ifS (notM (truM (callM (F n) (sloA 2 (valA (makeM 0 (F_Check___init__ n) (consM (varM 3) (consM (varM 4) nilM))) (valA (opM addD (opM shlD (cM (.int 1)) (varM 3)) (varM 4)) (valA (callM (F__law_random n) (sloA 2 (valA (cM (nat K)) nilA))) nilA))))))) (retM (cM (.bl false))) nxM
theorem body_cut (n : Nat) : bodyL n = seqM (owM 2 (callF (F__law_generator n) (consM (varM 0) (consM (varM 1) nilM)))) (seqM (widB n 4) (seqM (lowW n) (seqM (callB n 9 F__law_small_right) (seqM (widB n 8) (seqM (lowW n) (callB n 41 F__law_great_right)))))) := rfl
theorem wid_nat {ns : List Int} {i K : Nat} {s3 s4 : SD} (hg : GS b o) (hb : b ≤ 900000000) (hK : 1 ≤ K) (hK2 : K ≤ 16) (h3 : Sc s3) : ∃ w o', 1 ≤ w ∧ w ≤ K ∧ widB n K (LE ns i o s3 s4) = some (.nx (LE ns i o' (.fro (nat w)) s4)) ∧ GS (b + 100) o' := by
  obtain ⟨z, o', lz, g, r⟩ := draw2 (n := n) (k := K) hg (by omega) hK (by omega)
  refine ⟨1 + z, o', by omega, by omega, ?_, g⟩
  have c : callM (F__law_random n) (sloA 2 (valA (cM (nat K)) nilA)) (LE ns i o s3 s4) = some (nat z, LE ns i o' s3 s4) := r _ _ _
  unfold widB
  rw [e_asM, e_opM, e_cM, bnd_s, c, bnd_s, e_addN]
  show (setS 3 _ (LE ns i o' s3 s4)).map Out.nx = _
  unfold LE
  rw [sc_set (s := s3) rfl h3]
  rfl
theorem low_nat2 {ns : List Int} {i w : Nat} {s4 : SD} (hg : GS b o) (hb : b ≤ 900000000) (h1 : 1 ≤ w) (h2 : w ≤ 16) (h4 : Sc s4) : ∃ l o', G w l (2 ^ w + l) ∧ lowW n (LE ns i o (.fro (nat w)) s4) = some (.nx (LE ns i o' (.fro (nat w)) (.fro (nat l)))) ∧ GS (b + 100) o' := by
  obtain ⟨l, o', h, k, g⟩ := drawn_nat (n := n) hg (by omega) h1 h2
  refine ⟨l, o', k, ?_, g⟩
  let e := LE ns i o (.fro (nat w)) s4
  have q : sloA 2 (valA (varM 3) nilA) e = some ([.inr 2, .inl (nat w)], e) := rfl
  have c : callM (F__law_drawn n) (sloA 2 (valA (varM 3) nilA)) e = some (nat l, LE ns i o' (.fro (nat w)) s4) := by
    rw [e_callM, q, bnd_s]
    exact call_own (e := e) (x := .own o) (i := 2) (ds := [nat w]) rfl rfl h
  show lowW n e = _
  unfold lowW
  rw [e_asM, c]
  show (setS 4 _ (LE ns i o' (.fro (nat w)) s4)).map Out.nx = _
  unfold LE
  rw [sc_set (s := s4) rfl h4]
  rfl
theorem call_nat {ns : List Int} {i K w l : Nat} {F : Nat → MF} (hg : GS b o) (hb : b ≤ 700000000) (k : G w l (2 ^ w + l)) (hK : 1 ≤ K) (hK2 : K ≤ 60)
    (hF : ∀ b o m, GS b o → b ≤ 800000000 → m < K → ∃ o', F n [.bor o, .fro (Ck w l), .fro (nat (2 ^ w + l)), .fro (nat m)] = some (.bl true, [.bor o', .fro (Ck w l), .fro (nat (2 ^ w + l)), .fro (nat m)]) ∧ GS (b + 1000) o') :
    ∃ o', callB n K F (LE ns i o (.fro (nat w)) (.fro (nat l))) = some (.nx (LE ns i o' (.fro (nat w)) (.fro (nat l)))) ∧ GS (b + 1100) o' := by
  have w2 := k.w2
  obtain ⟨z, o1, lz, g1, r⟩ := draw2 (n := n) (k := K) hg (by omega) hK (by omega)
  obtain ⟨o2, h, g2⟩ := hF _ o1 z g1 (by omega) lz
  let e := LE ns i o (.fro (nat w)) (.fro (nat l))
  let e1 := LE ns i o1 (.fro (nat w)) (.fro (nat l))
  refine ⟨o2, ?_, g2.mono (by omega)⟩
  have v3 : varM 3 e = some (nat w, e) := rfl
  have v4 : varM 4 e = some (nat l, e) := rfl
  have mk : makeM 0 (F_Check___init__ n) (consM (varM 3) (consM (varM 4) nilM)) e = some (Ck w l, e) := e_make k v3 v4
  have wh : opM addD (opM shlD (cM (.int 1)) (varM 3)) (varM 4) e = some (nat (2 ^ w + l), e) := by
    rw [e_opM, e_opM, e_cM, bnd_s, v3, bnd_s, e_1shl (by omega), rsl_s, bnd_s, v4, bnd_s, e_addN]
    rfl
  have rn : callM (F__law_random n) (sloA 2 (valA (cM (nat K)) nilA)) e = some (nat z, e1) := r _ _ _
  have q : sloA 2 (valA (makeM 0 (F_Check___init__ n) (consM (varM 3) (consM (varM 4) nilM))) (valA (opM addD (opM shlD (cM (.int 1)) (varM 3)) (varM 4)) (valA (callM (F__law_random n) (sloA 2 (valA (cM (nat K)) nilA))) nilA))) e = some ([.inr 2, .inl (Ck w l), .inl (nat (2 ^ w + l)), .inl (nat z)], e1) := by
    have va : valA (makeM 0 (F_Check___init__ n) (consM (varM 3) (consM (varM 4) nilM))) (valA (opM addD (opM shlD (cM (.int 1)) (varM 3)) (varM 4)) (valA (callM (F__law_random n) (sloA 2 (valA (cM (nat K)) nilA))) nilA)) e = some ([.inl (Ck w l), .inl (nat (2 ^ w + l)), .inl (nat z)], e1) := by
      rw [e_valA, mk, bnd_s, e_valA, wh, bnd_s, e_valA, rn]
      rfl
    show bnd (valA _ _ e) (fun as e2 => some (Sum.inr 2 :: as, e2)) = _
    rw [va]
    rfl
  have c : callM (F n) (sloA 2 (valA (makeM 0 (F_Check___init__ n) (consM (varM 3) (consM (varM 4) nilM))) (valA (opM addD (opM shlD (cM (.int 1)) (varM 3)) (varM 4)) (valA (callM (F__law_random n) (sloA 2 (valA (cM (nat K)) nilA))) nilA)))) e = some (.bl true, LE ns i o2 (.fro (nat w)) (.fro (nat l))) := by
    rw [e_callM, q, bnd_s]
    exact call_own (e := e1) (x := .own o1) (i := 2) (ds := [Ck w l, nat (2 ^ w + l), nat z]) rfl rfl h
  show callB n K F e = _
  unfold callB
  rw [e_ifS, e_notM, e_truM, c]
  rfl
theorem turn_nat {ns : List Int} {i : Nat} {s2 s3 s4 : SD} (hl : ns.length ≤ 63) (hi : i ≤ 1000) (hn : 2 ^ 45 ≤ n) (n2 : Nb s2) (h3 : Sc s3) (h4 : Sc s4) :
    ∃ o' x3 x4, bodyL n [.fro (.scr (ns.map D.int)), .fro (nat i), s2, s3, s4, .nn, .nn] = some (.nx (LE ns i o' (.fro x3) (.fro x4))) := by
  let A : SD := .fro (.scr (ns.map D.int))
  let I : SD := .fro (nat i)
  obtain ⟨o, es, hgen, g0⟩ := gen_nat (n := n) hl hi
  have f1 : owM 2 (callF (F__law_generator n) (consM (varM 0) (consM (varM 1) nilM))) [A, I, s2, s3, s4, .nn, .nn] = some (.nx (LE ns i o s3 s4)) := by
    have h1 : callF (F__law_generator n) (consM (varM 0) (consM (varM 1) nilM)) [A, I, s2, s3, s4, .nn, .nn] = some (o, [A, I, s2, s3, s4, .nn, .nn]) := by
      show (match F__law_generator n [.fro (.scr (ns.map D.int)), .fro (nat i)] with | some (o, _) => some (o, [A, I, s2, s3, s4, .nn, .nn]) | none => none) = _
      rw [hgen]
    unfold owM
    rw [h1, bnd_s, set_nb (s := s2) rfl n2]
    rfl
  obtain ⟨w, o1, w1, w2, f2, g1⟩ := wid_nat (n := n) (K := 4) (ns := ns) (i := i) (s4 := s4) g0 (by omega) (by decide) (by decide) h3
  obtain ⟨l, o2, k, f3, g2⟩ := low_nat2 (n := n) (ns := ns) (i := i) g1 (by omega) w1 (by omega) h4
  obtain ⟨T, od⟩ := od_ex k.ok k.podd
  obtain ⟨o3, f4, g3⟩ := call_nat (n := n) (ns := ns) (i := i) (K := 9) (F := F__law_small_right) g2 (by omega) k (by decide) (by decide) fun b o m hg hb hm => small_right_nat k od (by omega) (by omega) hg hb hn
  obtain ⟨v, o4, v1, v2, f5, g4⟩ := wid_nat (n := n) (K := 8) (ns := ns) (i := i) (s4 := .fro (nat l)) g3 (by omega) (by decide) (by decide) (.inr ⟨_, rfl⟩)
  obtain ⟨l', o5, k', f6, g5⟩ := low_nat2 (n := n) (ns := ns) (i := i) g4 (by omega) v1 (by omega) (.inr ⟨_, rfl⟩)
  obtain ⟨T', od'⟩ := od_ex k'.ok k'.podd
  obtain ⟨o6, f7, g6⟩ := call_nat (n := n) (ns := ns) (i := i) (K := 41) (F := F__law_great_right) g5 (by omega) k' (by decide) (by decide) fun b o m hg hb hm => great_right_nat k' od' (by omega) (by omega) hg hb hn
  refine ⟨o6, nat v, nat l', ?_⟩
  rw [body_cut, e_seqN f1, e_seqN f2, e_seqN f3, e_seqN f4, e_seqN f5, e_seqN f6]
  exact f7
end
theorem law_true {ns : List Int} (hl : ns.length ≤ 63) : ∃ n e', F_law n [.fro (.scr (ns.map D.int))] = some (.bl true, e') := by
  let n := 2000000000000000000
  let A : D := .scr (ns.map D.int)
  have hn : 2 ^ 45 ≤ n := by decide
  obtain ⟨oa, a3, a4, t1⟩ := turn_nat (n := n) (ns := ns) (i := 0) hl (by decide) hn nb_nn (.inl rfl) (.inl rfl)
  obtain ⟨ob, b3, b4, t2⟩ := turn_nat (n := n) (ns := ns) (i := 1) (s3 := .fro a3) (s4 := .fro a4) hl (by decide) hn (nb_own (d := oa)) (.inr ⟨_, rfl⟩) (.inr ⟨_, rfl⟩)
  obtain ⟨e1, hy⟩ := yes_some (tail_yes A (nat 1) b3 b4 ob)
  let e0 : SDs := [.fro A, .nn, .nn, .nn, .nn, .nn, .nn]
  have l0 : rng1I (consM (cM (.int 2)) nilM) e0 = some ([nat 0, nat 1], e0) := e_rng1 (k := 2) rfl (by decide)
  have lp : forM (rng1I (consM (cM (.int 2)) nilM)) (nameG 1) (bodyL n) e0 = some (.nx (LE ns 1 ob (.fro b3) (.fro b4))) := by
    rw [e_forM, l0, bnd_s, for_step (e1 := [.fro A, .fro (nat 0), .nn, .nn, .nn, .nn, .nn]) rfl t1, for_step (e1 := [.fro A, .fro (nat 1), .own oa, .fro a3, .fro a4, .nn, .nn]) rfl t2]
    rfl
  have hm : m_law n ([.fro A] ++ List.replicate (7 - 1) .nn) = some (.rt (.bl true) e1) := by
    rw [law_cut]
    show seqM _ _ e0 = _
    rw [e_seqN lp]
    exact hy
  obtain ⟨es, h1, _⟩ := Ret.of (n := 1) (N := 7) (ms := m_law n) (ds := [A]) rfl hm
  exact ⟨n, es, h1⟩
end N66

set_option Elab.async false
set_option linter.all false
set_option maxRecDepth 100000
set_option maxHeartbeats 4000000
namespace N66
open PySem PySem.Spec PyProof.Rows L2 Evl WS Mir
section
variable {P : Program} {w : World} {K : PySem.W.Frag} {mg : Str → Option Value} {base : Heap}
theorem fin_law (T : Tx K mg) : FnOk P w K mg base CX0 10 T.a_law T.d_law ["_law_script"] (spLaw K) := law_ok (cm := cmT T) (F := F_law) (fun ns hl => law_true hl) (ok_law T)
end
theorem all_mk {l : PySem.W.OpenLaw} {w : World} {K : PySem.W.Frag} {h : Heap} {mg : Str → Option Value} {fa f1 f2 f3 f4 f5 f6 f7 f8 f9 f10 f11 f12 f13 f14 f15 f16 f17 f18 f19 f20 f21 f22 f23 f24 f25 f26 f27 f28 f29 f30 f31 f32 f33 f34 f35 f36 f37 f38 C_Check : Addr} (X : K.In h) (G : h.Ns mainGlobals mg) (hfa : mg "law" = some (.ref fa))
    {X_SoundError X_InvalidNumber X_InvalidCheck fi_InvalidNumber fi_InvalidCheck : Addr} {nm0 qq0 nm1 qq1 : Str} {N0 tD0 N1 tD1 : Addr} {bs0 bm0 su0 bs1 bm1 su1 : List Value} {sn0 sn1 : List Str} {ab0 ab1 : Bool} {co0 co1 : Option Bool} {dd0 odi0 odt0 ani0 dd1 odi1 odt1 ani1 : Option Addr} {m00 m10 m20 m30 m50 m01 m11 m21 m31 m51 : Option Value} {sli0 slt0 sli1 slt1 : Array (Option Value)} {oci0 oct0 kVi0 dci0 pmi0 cdi0 cti0 oci1 oct1 kVi1 dci1 pmi1 cdi1 cti1 : Value} {mt0 mt1 : Nat}
    {od1 an1 od2 an2 od3 an3 od4 an4 od5 an5 od6 an6 od7 an7 od8 an8 od9 an9 od10 an10 od11 an11 od12 an12 od13 an13 od14 an14 od15 an15 od16 an16 od17 an17 od18 an18 od19 an19 od20 an20 od21 an21 od22 an22 od23 an23 od24 an24 od25 an25 od26 an26 od27 an27 od28 an28 od29 an29 od30 an30 od31 an31 od32 an32 od33 an33 od34 an34 od35 an35 od36 an36 od37 an37 od38 an38 : Option Addr} {sl1 sl2 sl3 sl4 sl5 sl6 sl7 sl8 sl9 sl10 sl11 sl12 sl13 sl14 sl15 sl16 sl17 sl18 sl19 sl20 sl21 sl22 sl23 sl24 sl25 sl26 sl27 sl28 sl29 sl30 sl31 sl32 sl33 sl34 sl35 sl36 sl37 sl38 : Array (Option Value)} {oc1 kV1 dc1 pm1 cd1 ct1 oc2 kV2 dc2 pm2 cd2 ct2 oc3 kV3 dc3 pm3 cd3 ct3 oc4 kV4 dc4 pm4 cd4 ct4 oc5 kV5 dc5 pm5 cd5 ct5 oc6 kV6 dc6 pm6 cd6 ct6 oc7 kV7 dc7 pm7 cd7 ct7 oc8 kV8 dc8 pm8 cd8 ct8 oc9 kV9 dc9 pm9 cd9 ct9 oc10 kV10 dc10 pm10 cd10 ct10 oc11 kV11 dc11 pm11 cd11 ct11 oc12 kV12 dc12 pm12 cd12 ct12 oc13 kV13 dc13 pm13 cd13 ct13 oc14 kV14 dc14 pm14 cd14 ct14 oc15 kV15 dc15 pm15 cd15 ct15 oc16 kV16 dc16 pm16 cd16 ct16 oc17 kV17 dc17 pm17 cd17 ct17 oc18 kV18 dc18 pm18 cd18 ct18 oc19 kV19 dc19 pm19 cd19 ct19 oc20 kV20 dc20 pm20 cd20 ct20 oc21 kV21 dc21 pm21 cd21 ct21 oc22 kV22 dc22 pm22 cd22 ct22 oc23 kV23 dc23 pm23 cd23 ct23 oc24 kV24 dc24 pm24 cd24 ct24 oc25 kV25 dc25 pm25 cd25 ct25 oc26 kV26 dc26 pm26 cd26 ct26 oc27 kV27 dc27 pm27 cd27 ct27 oc28 kV28 dc28 pm28 cd28 ct28 oc29 kV29 dc29 pm29 cd29 ct29 oc30 kV30 dc30 pm30 cd30 ct30 oc31 kV31 dc31 pm31 cd31 ct31 oc32 kV32 dc32 pm32 cd32 ct32 oc33 kV33 dc33 pm33 cd33 ct33 oc34 kV34 dc34 pm34 cd34 ct34 oc35 kV35 dc35 pm35 cd35 ct35 oc36 kV36 dc36 pm36 cd36 ct36 oc37 kV37 dc37 pm37 cd37 ct37 oc38 kV38 dc38 pm38 cd38 ct38 : Value}
    {p6 p7 : Addr} {rs6 rs7 : List Value}
    {t_GREATEST_WIDTH t_GREATEST_PLACE t_GREATEST_COUNTED t_MOST_FEW t_MOST_CHANCES t_GREATEST_CHANCE : Tok}
    (gC_Check : PySem.W.nsIn K mainGlobals "Check" = some (some (.ref C_Check)))
    (pg_Check : PySem.W.plainGet K C_Check Str.empty = true)
    (hd_Check : PySem.W.hasDictIn K C_Check = true)
    (po_Check : PySem.W.plainOver K C_Check = true)
    (sa_Check : PySem.W.findIn K (.ref C_Check) "__setattr__" = some (some (.builtin "object.__setattr__")))
    (mk_Check : PySem.W.makesIn K C_Check = true)
    (kc_Check : PySem.W.keepIn K (.ref C_Check) = true)
    (ha_Check : PySem.W.findIn K (.ref C_Check) "__class__" = some (some (.builtin "object.__class__")))
    (hn_Check : PySem.W.specialIn K (.builtin "object.__class__") "__get__" = some (some (.builtin "getset_descriptor.__get__")))
    (ht_Check : PySem.W.takesIn K (.builtin "object.__class__") = some true)
    (hm_Check : PySem.W.mroIn K C_Check (.type "object") = some true)
    (n_Check__width : PySem.W.findIn K (.ref C_Check) "_width" = some none)
    (n_Check__low : PySem.W.findIn K (.ref C_Check) "_low" = some none)
    (ne_Check : PySem.W.findIn K (.ref C_Check) "__ne__" = some (some (.builtin "object.__ne__")))
    (ty_Check : PySem.W.typeIn K (.ref C_Check) = some (.type "type"))
    (a1 : PySem.W.nsIn K mainGlobals "is_number" = some (some (.ref f1)))
    (l1 : K.lookup f1 = some ⟨oc1, od1, .func (PySem.W.fnOf "is_number" "is_number" (defArgs s_is_number) (defBody s_is_number) (defScope s_is_number) .none kV1 dc1 pm1 an1 cd1 ct1), sl1⟩)
    (e1 : PySem.W.codeIn K cd1 "is_number" = true)
    (k1 : PySem.W.keepIn K (.ref f1) = true)
    (a2 : PySem.W.nsIn K mainGlobals "is_within" = some (some (.ref f2)))
    (l2 : K.lookup f2 = some ⟨oc2, od2, .func (PySem.W.fnOf "is_within" "is_within" (defArgs s_is_within) (defBody s_is_within) (defScope s_is_within) .none kV2 dc2 pm2 an2 cd2 ct2), sl2⟩)
    (e2 : PySem.W.codeIn K cd2 "is_within" = true)
    (k2 : PySem.W.keepIn K (.ref f2) = true)
    (a3 : PySem.W.nsIn K mainGlobals "check_within" = some (some (.ref f3)))
    (l3 : K.lookup f3 = some ⟨oc3, od3, .func (PySem.W.fnOf "check_within" "check_within" (defArgs s_check_within) (defBody s_check_within) (defScope s_check_within) .none kV3 dc3 pm3 an3 cd3 ct3), sl3⟩)
    (e3 : PySem.W.codeIn K cd3 "check_within" = true)
    (k3 : PySem.W.keepIn K (.ref f3) = true)
    (a4 : PySem.W.nsIn K mainGlobals "bits_of" = some (some (.ref f4)))
    (l4 : K.lookup f4 = some ⟨oc4, od4, .func (PySem.W.fnOf "bits_of" "bits_of" (defArgs s_bits_of) (defBody s_bits_of) (defScope s_bits_of) .none kV4 dc4 pm4 an4 cd4 ct4), sl4⟩)
    (e4 : PySem.W.codeIn K cd4 "bits_of" = true)
    (k4 : PySem.W.keepIn K (.ref f4) = true)
    (a5 : PySem.W.findIn K (.ref C_Check) "__init__" = some (some (.ref f5)))
    (i5 : PySem.W.isFn K (.ref f5) = true)
    (l5 : K.lookup f5 = some ⟨oc5, od5, .func (PySem.W.fnOf "__init__" "Check.__init__" (defArgs s_Check___init__) (defBody s_Check___init__) (defScope s_Check___init__) .none kV5 dc5 pm5 an5 cd5 ct5), sl5⟩)
    (e5 : PySem.W.codeIn K cd5 "Check.__init__" = true)
    (k5 : PySem.W.keepIn K (.ref f5) = true)
    (a6 : PySem.W.findIn K (.ref C_Check) "width" = some (some (.ref p6)))
    (g6 : PySem.W.specialIn K (.ref p6) "__get__" = some (some (.builtin "property.__get__")))
    (t6 : PySem.W.takesIn K (.ref p6) = some true)
    (r6 : PySem.W.recIn K p6 "property" = some (.ref f6 :: rs6))
    (l6 : K.lookup f6 = some ⟨oc6, od6, .func (PySem.W.fnOf "width" "Check.width" (defArgs s_Check_width) (defBody s_Check_width) (defScope s_Check_width) .none kV6 dc6 pm6 an6 cd6 ct6), sl6⟩)
    (e6 : PySem.W.codeIn K cd6 "Check.width" = true)
    (k6 : PySem.W.keepIn K (.ref f6) = true)
    (a7 : PySem.W.findIn K (.ref C_Check) "low" = some (some (.ref p7)))
    (g7 : PySem.W.specialIn K (.ref p7) "__get__" = some (some (.builtin "property.__get__")))
    (t7 : PySem.W.takesIn K (.ref p7) = some true)
    (r7 : PySem.W.recIn K p7 "property" = some (.ref f7 :: rs7))
    (l7 : K.lookup f7 = some ⟨oc7, od7, .func (PySem.W.fnOf "low" "Check.low" (defArgs s_Check_low) (defBody s_Check_low) (defScope s_Check_low) .none kV7 dc7 pm7 an7 cd7 ct7), sl7⟩)
    (e7 : PySem.W.codeIn K cd7 "Check.low" = true)
    (k7 : PySem.W.keepIn K (.ref f7) = true)
    (a8 : PySem.W.findIn K (.ref C_Check) "bits" = some (some (.ref f8)))
    (i8 : PySem.W.isFn K (.ref f8) = true)
    (l8 : K.lookup f8 = some ⟨oc8, od8, .func (PySem.W.fnOf "bits" "Check.bits" (defArgs s_Check_bits) (defBody s_Check_bits) (defScope s_Check_bits) .none kV8 dc8 pm8 an8 cd8 ct8), sl8⟩)
    (e8 : PySem.W.codeIn K cd8 "Check.bits" = true)
    (k8 : PySem.W.keepIn K (.ref f8) = true)
    (a9 : PySem.W.findIn K (.ref C_Check) "__eq__" = some (some (.ref f9)))
    (i9 : PySem.W.isFn K (.ref f9) = true)
    (l9 : K.lookup f9 = some ⟨oc9, od9, .func (PySem.W.fnOf "__eq__" "Check.__eq__" (defArgs s_Check___eq__) (defBody s_Check___eq__) (defScope s_Check___eq__) .none kV9 dc9 pm9 an9 cd9 ct9), sl9⟩)
    (e9 : PySem.W.codeIn K cd9 "Check.__eq__" = true)
    (k9 : PySem.W.keepIn K (.ref f9) = true)
    (a10 : PySem.W.nsIn K mainGlobals "check_check" = some (some (.ref f10)))
    (l10 : K.lookup f10 = some ⟨oc10, od10, .func (PySem.W.fnOf "check_check" "check_check" (defArgs s_check_check) (defBody s_check_check) (defScope s_check_check) .none kV10 dc10 pm10 an10 cd10 ct10), sl10⟩)
    (e10 : PySem.W.codeIn K cd10 "check_check" = true)
    (k10 : PySem.W.keepIn K (.ref f10) = true)
    (a11 : PySem.W.nsIn K mainGlobals "sum_of" = some (some (.ref f11)))
    (l11 : K.lookup f11 = some ⟨oc11, od11, .func (PySem.W.fnOf "sum_of" "sum_of" (defArgs s_sum_of) (defBody s_sum_of) (defScope s_sum_of) .none kV11 dc11 pm11 an11 cd11 ct11), sl11⟩)
    (e11 : PySem.W.codeIn K cd11 "sum_of" = true)
    (k11 : PySem.W.keepIn K (.ref f11) = true)
    (a12 : PySem.W.nsIn K mainGlobals "risen" = some (some (.ref f12)))
    (l12 : K.lookup f12 = some ⟨oc12, od12, .func (PySem.W.fnOf "risen" "risen" (defArgs s_risen) (defBody s_risen) (defScope s_risen) .none kV12 dc12 pm12 an12 cd12 ct12), sl12⟩)
    (e12 : PySem.W.codeIn K cd12 "risen" = true)
    (k12 : PySem.W.keepIn K (.ref f12) = true)
    (a13 : PySem.W.nsIn K mainGlobals "order_of" = some (some (.ref f13)))
    (l13 : K.lookup f13 = some ⟨oc13, od13, .func (PySem.W.fnOf "order_of" "order_of" (defArgs s_order_of) (defBody s_order_of) (defScope s_order_of) .none kV13 dc13 pm13 an13 cd13 ct13), sl13⟩)
    (e13 : PySem.W.codeIn K cd13 "order_of" = true)
    (k13 : PySem.W.keepIn K (.ref f13) = true)
    (a14 : PySem.W.nsIn K mainGlobals "order" = some (some (.ref f14)))
    (l14 : K.lookup f14 = some ⟨oc14, od14, .func (PySem.W.fnOf "order" "order" (defArgs s_order) (defBody s_order) (defScope s_order) .none kV14 dc14 pm14 an14 cd14 ct14), sl14⟩)
    (e14 : PySem.W.codeIn K cd14 "order" = true)
    (k14 : PySem.W.keepIn K (.ref f14) = true)
    (a15 : PySem.W.nsIn K mainGlobals "first_powers" = some (some (.ref f15)))
    (l15 : K.lookup f15 = some ⟨oc15, od15, .func (PySem.W.fnOf "first_powers" "first_powers" (defArgs s_first_powers) (defBody s_first_powers) (defScope s_first_powers) .none kV15 dc15 pm15 an15 cd15 ct15), sl15⟩)
    (e15 : PySem.W.codeIn K cd15 "first_powers" = true)
    (k15 : PySem.W.keepIn K (.ref f15) = true)
    (a16 : PySem.W.nsIn K mainGlobals "all_odd" = some (some (.ref f16)))
    (l16 : K.lookup f16 = some ⟨oc16, od16, .func (PySem.W.fnOf "all_odd" "all_odd" (defArgs s_all_odd) (defBody s_all_odd) (defScope s_all_odd) .none kV16 dc16 pm16 an16 cd16 ct16), sl16⟩)
    (e16 : PySem.W.codeIn K cd16 "all_odd" = true)
    (k16 : PySem.W.keepIn K (.ref f16) = true)
    (a17 : PySem.W.nsIn K mainGlobals "fraction" = some (some (.ref f17)))
    (l17 : K.lookup f17 = some ⟨oc17, od17, .func (PySem.W.fnOf "fraction" "fraction" (defArgs s_fraction) (defBody s_fraction) (defScope s_fraction) .none kV17 dc17 pm17 an17 cd17 ct17), sl17⟩)
    (e17 : PySem.W.codeIn K cd17 "fraction" = true)
    (k17 : PySem.W.keepIn K (.ref f17) = true)
    (a18 : PySem.W.nsIn K mainGlobals "check_narrow" = some (some (.ref f18)))
    (l18 : K.lookup f18 = some ⟨oc18, od18, .func (PySem.W.fnOf "check_narrow" "check_narrow" (defArgs s_check_narrow) (defBody s_check_narrow) (defScope s_check_narrow) .none kV18 dc18 pm18 an18 cd18 ct18), sl18⟩)
    (e18 : PySem.W.codeIn K cd18 "check_narrow" = true)
    (k18 : PySem.W.keepIn K (.ref f18) = true)
    (a19 : PySem.W.nsIn K mainGlobals "places_by_rest" = some (some (.ref f19)))
    (l19 : K.lookup f19 = some ⟨oc19, od19, .func (PySem.W.fnOf "places_by_rest" "places_by_rest" (defArgs s_places_by_rest) (defBody s_places_by_rest) (defScope s_places_by_rest) .none kV19 dc19 pm19 an19 cd19 ct19), sl19⟩)
    (e19 : PySem.W.codeIn K cd19 "places_by_rest" = true)
    (k19 : PySem.W.keepIn K (.ref f19) = true)
    (a20 : PySem.W.nsIn K mainGlobals "odd_places" = some (some (.ref f20)))
    (l20 : K.lookup f20 = some ⟨oc20, od20, .func (PySem.W.fnOf "odd_places" "odd_places" (defArgs s_odd_places) (defBody s_odd_places) (defScope s_odd_places) .none kV20 dc20 pm20 an20 cd20 ct20), sl20⟩)
    (e20 : PySem.W.codeIn K cd20 "odd_places" = true)
    (k20 : PySem.W.keepIn K (.ref f20) = true)
    (a21 : PySem.W.nsIn K mainGlobals "signed_choices" = some (some (.ref f21)))
    (l21 : K.lookup f21 = some ⟨oc21, od21, .func (PySem.W.fnOf "signed_choices" "signed_choices" (defArgs s_signed_choices) (defBody s_signed_choices) (defScope s_signed_choices) .none kV21 dc21 pm21 an21 cd21 ct21), sl21⟩)
    (e21 : PySem.W.codeIn K cd21 "signed_choices" = true)
    (k21 : PySem.W.keepIn K (.ref f21) = true)
    (a22 : PySem.W.nsIn K mainGlobals "how_many_unseen" = some (some (.ref f22)))
    (l22 : K.lookup f22 = some ⟨oc22, od22, .func (PySem.W.fnOf "how_many_unseen" "how_many_unseen" (defArgs s_how_many_unseen) (defBody s_how_many_unseen) (defScope s_how_many_unseen) .none kV22 dc22 pm22 an22 cd22 ct22), sl22⟩)
    (e22 : PySem.W.codeIn K cd22 "how_many_unseen" = true)
    (k22 : PySem.W.keepIn K (.ref f22) = true)
    (a23 : PySem.W.nsIn K mainGlobals "first_products" = some (some (.ref f23)))
    (l23 : K.lookup f23 = some ⟨oc23, od23, .func (PySem.W.fnOf "first_products" "first_products" (defArgs s_first_products) (defBody s_first_products) (defScope s_first_products) .none kV23 dc23 pm23 an23 cd23 ct23), sl23⟩)
    (e23 : PySem.W.codeIn K cd23 "first_products" = true)
    (k23 : PySem.W.keepIn K (.ref f23) = true)
    (a24 : PySem.W.nsIn K mainGlobals "chance" = some (some (.ref f24)))
    (l24 : K.lookup f24 = some ⟨oc24, od24, .func (PySem.W.fnOf "chance" "chance" (defArgs s_chance) (defBody s_chance) (defScope s_chance) .none kV24 dc24 pm24 an24 cd24 ct24), sl24⟩)
    (e24 : PySem.W.codeIn K cd24 "chance" = true)
    (k24 : PySem.W.keepIn K (.ref f24) = true)
    (a25 : PySem.W.nsIn K mainGlobals "_law_hash" = some (some (.ref f25)))
    (l25 : K.lookup f25 = some ⟨oc25, od25, .func (PySem.W.fnOf "_law_hash" "_law_hash" (defArgs s__law_hash) (defBody s__law_hash) (defScope s__law_hash) .none kV25 dc25 pm25 an25 cd25 ct25), sl25⟩)
    (e25 : PySem.W.codeIn K cd25 "_law_hash" = true)
    (k25 : PySem.W.keepIn K (.ref f25) = true)
    (a26 : PySem.W.nsIn K mainGlobals "_law_random" = some (some (.ref f26)))
    (l26 : K.lookup f26 = some ⟨oc26, od26, .func (PySem.W.fnOf "_law_random" "_law_random" (defArgs s__law_random) (defBody s__law_random) (defScope s__law_random) .none kV26 dc26 pm26 an26 cd26 ct26), sl26⟩)
    (e26 : PySem.W.codeIn K cd26 "_law_random" = true)
    (k26 : PySem.W.keepIn K (.ref f26) = true)
    (a27 : PySem.W.nsIn K mainGlobals "_law_cell" = some (some (.ref f27)))
    (l27 : K.lookup f27 = some ⟨oc27, od27, .func (PySem.W.fnOf "_law_cell" "_law_cell" (defArgs s__law_cell) (defBody s__law_cell) (defScope s__law_cell) .none kV27 dc27 pm27 an27 cd27 ct27), sl27⟩)
    (e27 : PySem.W.codeIn K cd27 "_law_cell" = true)
    (k27 : PySem.W.keepIn K (.ref f27) = true)
    (a28 : PySem.W.nsIn K mainGlobals "_law_generator" = some (some (.ref f28)))
    (l28 : K.lookup f28 = some ⟨oc28, od28, .func (PySem.W.fnOf "_law_generator" "_law_generator" (defArgs s__law_generator) (defBody s__law_generator) (defScope s__law_generator) .none kV28 dc28 pm28 an28 cd28 ct28), sl28⟩)
    (e28 : PySem.W.codeIn K cd28 "_law_generator" = true)
    (k28 : PySem.W.keepIn K (.ref f28) = true)
    (a29 : PySem.W.nsIn K mainGlobals "_law_rest" = some (some (.ref f29)))
    (l29 : K.lookup f29 = some ⟨oc29, od29, .func (PySem.W.fnOf "_law_rest" "_law_rest" (defArgs s__law_rest) (defBody s__law_rest) (defScope s__law_rest) .none kV29 dc29 pm29 an29 cd29 ct29), sl29⟩)
    (e29 : PySem.W.codeIn K cd29 "_law_rest" = true)
    (k29 : PySem.W.keepIn K (.ref f29) = true)
    (a30 : PySem.W.nsIn K mainGlobals "_law_drawn" = some (some (.ref f30)))
    (l30 : K.lookup f30 = some ⟨oc30, od30, .func (PySem.W.fnOf "_law_drawn" "_law_drawn" (defArgs s__law_drawn) (defBody s__law_drawn) (defScope s__law_drawn) .none kV30 dc30 pm30 an30 cd30 ct30), sl30⟩)
    (e30 : PySem.W.codeIn K cd30 "_law_drawn" = true)
    (k30 : PySem.W.keepIn K (.ref f30) = true)
    (a31 : PySem.W.nsIn K mainGlobals "_law_places" = some (some (.ref f31)))
    (l31 : K.lookup f31 = some ⟨oc31, od31, .func (PySem.W.fnOf "_law_places" "_law_places" (defArgs s__law_places) (defBody s__law_places) (defScope s__law_places) .none kV31 dc31 pm31 an31 cd31 ct31), sl31⟩)
    (e31 : PySem.W.codeIn K cd31 "_law_places" = true)
    (k31 : PySem.W.keepIn K (.ref f31) = true)
    (a32 : PySem.W.nsIn K mainGlobals "_law_lowest" = some (some (.ref f32)))
    (l32 : K.lookup f32 = some ⟨oc32, od32, .func (PySem.W.fnOf "_law_lowest" "_law_lowest" (defArgs s__law_lowest) (defBody s__law_lowest) (defScope s__law_lowest) .none kV32 dc32 pm32 an32 cd32 ct32), sl32⟩)
    (e32 : PySem.W.codeIn K cd32 "_law_lowest" = true)
    (k32 : PySem.W.keepIn K (.ref f32) = true)
    (a33 : PySem.W.nsIn K mainGlobals "_law_raised" = some (some (.ref f33)))
    (l33 : K.lookup f33 = some ⟨oc33, od33, .func (PySem.W.fnOf "_law_raised" "_law_raised" (defArgs s__law_raised) (defBody s__law_raised) (defScope s__law_raised) .none kV33 dc33 pm33 an33 cd33 ct33), sl33⟩)
    (e33 : PySem.W.codeIn K cd33 "_law_raised" = true)
    (k33 : PySem.W.keepIn K (.ref f33) = true)
    (a34 : PySem.W.nsIn K mainGlobals "_law_small_right" = some (some (.ref f34)))
    (l34 : K.lookup f34 = some ⟨oc34, od34, .func (PySem.W.fnOf "_law_small_right" "_law_small_right" (defArgs s__law_small_right) (defBody s__law_small_right) (defScope s__law_small_right) .none kV34 dc34 pm34 an34 cd34 ct34), sl34⟩)
    (e34 : PySem.W.codeIn K cd34 "_law_small_right" = true)
    (k34 : PySem.W.keepIn K (.ref f34) = true)
    (a35 : PySem.W.nsIn K mainGlobals "_law_threes" = some (some (.ref f35)))
    (l35 : K.lookup f35 = some ⟨oc35, od35, .func (PySem.W.fnOf "_law_threes" "_law_threes" (defArgs s__law_threes) (defBody s__law_threes) (defScope s__law_threes) .none kV35 dc35 pm35 an35 cd35 ct35), sl35⟩)
    (e35 : PySem.W.codeIn K cd35 "_law_threes" = true)
    (k35 : PySem.W.keepIn K (.ref f35) = true)
    (a36 : PySem.W.nsIn K mainGlobals "_law_pairs" = some (some (.ref f36)))
    (l36 : K.lookup f36 = some ⟨oc36, od36, .func (PySem.W.fnOf "_law_pairs" "_law_pairs" (defArgs s__law_pairs) (defBody s__law_pairs) (defScope s__law_pairs) .none kV36 dc36 pm36 an36 cd36 ct36), sl36⟩)
    (e36 : PySem.W.codeIn K cd36 "_law_pairs" = true)
    (k36 : PySem.W.keepIn K (.ref f36) = true)
    (a37 : PySem.W.nsIn K mainGlobals "_law_great_right" = some (some (.ref f37)))
    (l37 : K.lookup f37 = some ⟨oc37, od37, .func (PySem.W.fnOf "_law_great_right" "_law_great_right" (defArgs s__law_great_right) (defBody s__law_great_right) (defScope s__law_great_right) .none kV37 dc37 pm37 an37 cd37 ct37), sl37⟩)
    (e37 : PySem.W.codeIn K cd37 "_law_great_right" = true)
    (k37 : PySem.W.keepIn K (.ref f37) = true)
    (a38 : PySem.W.nsIn K mainGlobals "law" = some (some (.ref f38)))
    (l38 : K.lookup f38 = some ⟨oc38, od38, .func (PySem.W.fnOf "law" "law" (defArgs s_law) (defBody s_law) (defScope s_law) .none kV38 dc38 pm38 an38 cd38 ct38), sl38⟩)
    (e38 : PySem.W.codeIn K cd38 "law" = true)
    (k38 : PySem.W.keepIn K (.ref f38) = true)
    (c_GREATEST_WIDTH : PySem.W.nsIn K mainGlobals "GREATEST_WIDTH" = some (some (.int 16 t_GREATEST_WIDTH)))
    (c_GREATEST_PLACE : PySem.W.nsIn K mainGlobals "GREATEST_PLACE" = some (some (.int 1000000000000000000 t_GREATEST_PLACE)))
    (c_GREATEST_COUNTED : PySem.W.nsIn K mainGlobals "GREATEST_COUNTED" = some (some (.int 10 t_GREATEST_COUNTED)))
    (c_MOST_FEW : PySem.W.nsIn K mainGlobals "MOST_FEW" = some (some (.int 8 t_MOST_FEW)))
    (c_MOST_CHANCES : PySem.W.nsIn K mainGlobals "MOST_CHANCES" = some (some (.int 60 t_MOST_CHANCES)))
    (c_GREATEST_CHANCE : PySem.W.nsIn K mainGlobals "GREATEST_CHANCE" = some (some (.int 1000 t_GREATEST_CHANCE)))
    (z_abs : PySem.W.nsIn K mainGlobals "abs" = some none)
    (z_bool : PySem.W.nsIn K mainGlobals "bool" = some none)
    (z_enumerate : PySem.W.nsIn K mainGlobals "enumerate" = some none)
    (z_int : PySem.W.nsIn K mainGlobals "int" = some none)
    (z_isinstance : PySem.W.nsIn K mainGlobals "isinstance" = some none)
    (z_len : PySem.W.nsIn K mainGlobals "len" = some none)
    (z_max : PySem.W.nsIn K mainGlobals "max" = some none)
    (z_range : PySem.W.nsIn K mainGlobals "range" = some none)
    (z_reversed : PySem.W.nsIn K mainGlobals "reversed" = some none)
    (z_sum : PySem.W.nsIn K mainGlobals "sum" = some none)
    (y_comb : PySem.W.nsIn K mainGlobals "comb" = some (some (.builtin "math.comb")))
    (y_gcd : PySem.W.nsIn K mainGlobals "gcd" = some (some (.builtin "math.gcd")))
    (gX_SoundError : PySem.W.nsIn K mainGlobals "SoundError" = some (some (.ref X_SoundError)))
    (hdX_SoundError : PySem.W.hasDictIn K X_SoundError = true)
    (tyX_SoundError : PySem.W.typeIn K (.ref X_SoundError) = some (.type "type"))
    (bsX_SoundError : PySem.W.subIn K (.ref X_SoundError) (.type "BaseException") = some true)
    (gX_InvalidNumber : PySem.W.nsIn K mainGlobals "InvalidNumber" = some (some (.ref X_InvalidNumber)))
    (hdX_InvalidNumber : PySem.W.hasDictIn K X_InvalidNumber = true)
    (tyX_InvalidNumber : PySem.W.typeIn K (.ref X_InvalidNumber) = some (.type "type"))
    (bsX_InvalidNumber : PySem.W.subIn K (.ref X_InvalidNumber) (.type "BaseException") = some true)
    (gX_InvalidCheck : PySem.W.nsIn K mainGlobals "InvalidCheck" = some (some (.ref X_InvalidCheck)))
    (hdX_InvalidCheck : PySem.W.hasDictIn K X_InvalidCheck = true)
    (tyX_InvalidCheck : PySem.W.typeIn K (.ref X_InvalidCheck) = some (.type "type"))
    (bsX_InvalidCheck : PySem.W.subIn K (.ref X_InvalidCheck) (.type "BaseException") = some true)
    (hnX : PySem.W.specialIn K (.builtin "object.__class__") "__get__" = some (some (.builtin "getset_descriptor.__get__")))
    (htX : PySem.W.takesIn K (.builtin "object.__class__") = some true)
    (lX_InvalidNumber : K.lookup X_InvalidNumber = some (excClassObj nm0 qq0 X_InvalidNumber N0 bs0 bm0 true sn0 su0 ab0 co0 dd0 m00 m10 m20 m30 m50 "ValueError.__new__"))
    (bm_InvalidNumber : PySem.HandSPX.refsVE bm0 = true)
    (saX_InvalidNumber : PySem.W.findIn K (.ref X_InvalidNumber) "__setattr__" = some (some (.builtin "object.__setattr__")))
    (kcX_InvalidNumber : PySem.W.keepIn K (.ref X_InvalidNumber) = true)
    (gaX_InvalidNumber : PySem.W.findIn K (.ref X_InvalidNumber) "__getattribute__" = some (some (.builtin "BaseException.__getattribute__")))
    (ggX_InvalidNumber : PySem.W.findIn K (.ref X_InvalidNumber) "__getattr__" = some none)
    (haX_InvalidNumber : PySem.W.findIn K (.ref X_InvalidNumber) "__class__" = some (some (.builtin "object.__class__")))
    (hmX_InvalidNumber : PySem.W.mroIn K X_InvalidNumber (.type "object") = some true)
    (nvX_InvalidNumber : PySem.W.findIn K (.ref X_InvalidNumber) "value" = some none)
    (iniX_InvalidNumber : PySem.W.findIn K (.ref X_InvalidNumber) "__init__" = some (some (.ref fi_InvalidNumber)))
    (tiX_InvalidNumber : PySem.W.typeIn K (.ref fi_InvalidNumber) = some (.type "function"))
    (liX_InvalidNumber : K.lookup fi_InvalidNumber = some ⟨oci0, odi0, .func (PySem.W.fnOf "__init__" "InvalidNumber.__init__" (defArgs s_InvalidNumber___init__) (defBody s_InvalidNumber___init__) (defScope s_InvalidNumber___init__) (.ref tD0) kVi0 dci0 pmi0 ani0 cdi0 cti0), sli0⟩)
    (eiX_InvalidNumber : PySem.W.codeIn K cdi0 "InvalidNumber.__init__" = true)
    (tdX_InvalidNumber : K.lookup tD0 = some ⟨oct0, odt0, .seq #[.none] mt0, slt0⟩)
    (lX_InvalidCheck : K.lookup X_InvalidCheck = some (excClassObj nm1 qq1 X_InvalidCheck N1 bs1 bm1 true sn1 su1 ab1 co1 dd1 m01 m11 m21 m31 m51 "ValueError.__new__"))
    (bm_InvalidCheck : PySem.HandSPX.refsVE bm1 = true)
    (saX_InvalidCheck : PySem.W.findIn K (.ref X_InvalidCheck) "__setattr__" = some (some (.builtin "object.__setattr__")))
    (kcX_InvalidCheck : PySem.W.keepIn K (.ref X_InvalidCheck) = true)
    (gaX_InvalidCheck : PySem.W.findIn K (.ref X_InvalidCheck) "__getattribute__" = some (some (.builtin "BaseException.__getattribute__")))
    (ggX_InvalidCheck : PySem.W.findIn K (.ref X_InvalidCheck) "__getattr__" = some none)
    (haX_InvalidCheck : PySem.W.findIn K (.ref X_InvalidCheck) "__class__" = some (some (.builtin "object.__class__")))
    (hmX_InvalidCheck : PySem.W.mroIn K X_InvalidCheck (.type "object") = some true)
    (nvX_InvalidCheck : PySem.W.findIn K (.ref X_InvalidCheck) "value" = some none)
    (iniX_InvalidCheck : PySem.W.findIn K (.ref X_InvalidCheck) "__init__" = some (some (.ref fi_InvalidCheck)))
    (tiX_InvalidCheck : PySem.W.typeIn K (.ref fi_InvalidCheck) = some (.type "function"))
    (liX_InvalidCheck : K.lookup fi_InvalidCheck = some ⟨oci1, odi1, .func (PySem.W.fnOf "__init__" "InvalidCheck.__init__" (defArgs s_InvalidCheck___init__) (defBody s_InvalidCheck___init__) (defScope s_InvalidCheck___init__) (.ref tD1) kVi1 dci1 pmi1 ani1 cdi1 cti1), sli1⟩)
    (eiX_InvalidCheck : PySem.W.codeIn K cdi1 "InvalidCheck.__init__" = true)
    (tdX_InvalidCheck : K.lookup tD1 = some ⟨oct1, odt1, .seq #[.none] mt1, slt1⟩) :
    ∃ fd : FuncData, (∀ (s : Shared) (v : Value), BindsTo s fd ⟨[v], []⟩ [("_law_script", v)]) ∧ ∀ base : Heap, K.In base → base.Ns mainGlobals mg → FnOk l.prog w K mg base CX0 10 fa fd ["_law_script"] (spLaw K) := by
  have e := hfa.symm.trans (PySem.W.mg_of X G a38)
  cases e
  have F1 := fun_mk (st := s_is_number) l1 e1 k1
  have b1 := F1.binds (ps := ["value"]) fun _ _ _ _ _ _ us hl => match us, hl with | [_], _ => rfl
  have F2 := fun_mk (st := s_is_within) l2 e2 k2
  have b2 := F2.binds (ps := ["value", "low", "high"]) fun _ _ _ _ _ _ us hl => match us, hl with | [_, _, _], _ => rfl
  have F3 := fun_mk (st := s_check_within) l3 e3 k3
  have b3 := F3.binds (ps := ["number", "low", "high"]) fun _ _ _ _ _ _ us hl => match us, hl with | [_, _, _], _ => rfl
  have F4 := fun_mk (st := s_bits_of) l4 e4 k4
  have b4 := F4.binds (ps := ["number", "many"]) fun _ _ _ _ _ _ us hl => match us, hl with | [_, _], _ => rfl
  have F5 := fun_mk (st := s_Check___init__) l5 e5 k5
  have b5 := F5.binds (ps := ["self", "width", "low"]) fun _ _ _ _ _ _ us hl => match us, hl with | [_, _, _], _ => rfl
  have F6 := fun_mk (st := s_Check_width) l6 e6 k6
  have b6 := F6.binds (ps := ["self"]) fun _ _ _ _ _ _ us hl => match us, hl with | [_], _ => rfl
  have F7 := fun_mk (st := s_Check_low) l7 e7 k7
  have b7 := F7.binds (ps := ["self"]) fun _ _ _ _ _ _ us hl => match us, hl with | [_], _ => rfl
  have F8 := fun_mk (st := s_Check_bits) l8 e8 k8
  have b8 := F8.binds (ps := ["self"]) fun _ _ _ _ _ _ us hl => match us, hl with | [_], _ => rfl
  have F9 := fun_mk (st := s_Check___eq__) l9 e9 k9
  have b9 := F9.binds (ps := ["self", "other"]) fun _ _ _ _ _ _ us hl => match us, hl with | [_, _], _ => rfl
  have F10 := fun_mk (st := s_check_check) l10 e10 k10
  have b10 := F10.binds (ps := ["check"]) fun _ _ _ _ _ _ us hl => match us, hl with | [_], _ => rfl
  have F11 := fun_mk (st := s_sum_of) l11 e11 k11
  have b11 := F11.binds (ps := ["check"]) fun _ _ _ _ _ _ us hl => match us, hl with | [_], _ => rfl
  have F12 := fun_mk (st := s_risen) l12 e12 k12
  have b12 := F12.binds (ps := ["number", "check", "many"]) fun _ _ _ _ _ _ us hl => match us, hl with | [_, _, _], _ => rfl
  have F13 := fun_mk (st := s_order_of) l13 e13 k13
  have b13 := F13.binds (ps := ["check"]) fun _ _ _ _ _ _ us hl => match us, hl with | [_], _ => rfl
  have F14 := fun_mk (st := s_order) l14 e14 k14
  have b14 := F14.binds (ps := ["check"]) fun _ _ _ _ _ _ us hl => match us, hl with | [_], _ => rfl
  have F15 := fun_mk (st := s_first_powers) l15 e15 k15
  have b15 := F15.binds (ps := ["check", "many"]) fun _ _ _ _ _ _ us hl => match us, hl with | [_, _], _ => rfl
  have F16 := fun_mk (st := s_all_odd) l16 e16 k16
  have b16 := F16.binds (ps := ["check"]) fun _ _ _ _ _ _ us hl => match us, hl with | [_], _ => rfl
  have F17 := fun_mk (st := s_fraction) l17 e17 k17
  have b17 := F17.binds (ps := ["top", "under"]) fun _ _ _ _ _ _ us hl => match us, hl with | [_, _], _ => rfl
  have F18 := fun_mk (st := s_check_narrow) l18 e18 k18
  have b18 := F18.binds (ps := ["check"]) fun _ _ _ _ _ _ us hl => match us, hl with | [_], _ => rfl
  have F19 := fun_mk (st := s_places_by_rest) l19 e19 k19
  have b19 := F19.binds (ps := ["check", "many"]) fun _ _ _ _ _ _ us hl => match us, hl with | [_, _], _ => rfl
  have F20 := fun_mk (st := s_odd_places) l20 e20 k20
  have b20 := F20.binds (ps := ["check", "many"]) fun _ _ _ _ _ _ us hl => match us, hl with | [_, _], _ => rfl
  have F21 := fun_mk (st := s_signed_choices) l21 e21 k21
  have b21 := F21.binds (ps := ["odd", "even", "few"]) fun _ _ _ _ _ _ us hl => match us, hl with | [_, _, _], _ => rfl
  have F22 := fun_mk (st := s_how_many_unseen) l22 e22 k22
  have b22 := F22.binds (ps := ["check", "many", "few"]) fun _ _ _ _ _ _ us hl => match us, hl with | [_, _, _], _ => rfl
  have F23 := fun_mk (st := s_first_products) l23 e23 k23
  have b23 := F23.binds (ps := ["number", "most"]) fun _ _ _ _ _ _ us hl => match us, hl with | [_, _], _ => rfl
  have F24 := fun_mk (st := s_chance) l24 e24 k24
  have b24 := F24.binds (ps := ["check", "many", "top", "under"]) fun _ _ _ _ _ _ us hl => match us, hl with | [_, _, _, _], _ => rfl
  have F25 := fun_mk (st := s__law_hash) l25 e25 k25
  have b25 := F25.binds (ps := ["_law_seed", "_law_index"]) fun _ _ _ _ _ _ us hl => match us, hl with | [_, _], _ => rfl
  have F26 := fun_mk (st := s__law_random) l26 e26 k26
  have b26 := F26.binds (ps := ["_law_generator_here", "_law_bound"]) fun _ _ _ _ _ _ us hl => match us, hl with | [_, _], _ => rfl
  have F27 := fun_mk (st := s__law_cell) l27 e27 k27
  have b27 := F27.binds (ps := ["_law_script", "_law_index"]) fun _ _ _ _ _ _ us hl => match us, hl with | [_, _], _ => rfl
  have F28 := fun_mk (st := s__law_generator) l28 e28 k28
  have b28 := F28.binds (ps := ["_law_script", "_law_index"]) fun _ _ _ _ _ _ us hl => match us, hl with | [_, _], _ => rfl
  have F29 := fun_mk (st := s__law_rest) l29 e29 k29
  have b29 := F29.binds (ps := ["_law_whole", "_law_number"]) fun _ _ _ _ _ _ us hl => match us, hl with | [_, _], _ => rfl
  have F30 := fun_mk (st := s__law_drawn) l30 e30 k30
  have b30 := F30.binds (ps := ["_law_generator_here", "_law_width"]) fun _ _ _ _ _ _ us hl => match us, hl with | [_, _], _ => rfl
  have F31 := fun_mk (st := s__law_places) l31 e31 k31
  have b31 := F31.binds (ps := ["_law_number"]) fun _ _ _ _ _ _ us hl => match us, hl with | [_], _ => rfl
  have F32 := fun_mk (st := s__law_lowest) l32 e32 k32
  have b32 := F32.binds (ps := ["_law_top", "_law_under"]) fun _ _ _ _ _ _ us hl => match us, hl with | [_, _], _ => rfl
  have F33 := fun_mk (st := s__law_raised) l33 e33 k33
  have b33 := F33.binds (ps := ["_law_base", "_law_many"]) fun _ _ _ _ _ _ us hl => match us, hl with | [_, _], _ => rfl
  have F34 := fun_mk (st := s__law_small_right) l34 e34 k34
  have b34 := F34.binds (ps := ["_law_generator_here", "_law_check", "_law_whole", "_law_many"]) fun _ _ _ _ _ _ us hl => match us, hl with | [_, _, _, _], _ => rfl
  have F35 := fun_mk (st := s__law_threes) l35 e35 k35
  have b35 := F35.binds (ps := ["_law_whole", "_law_many"]) fun _ _ _ _ _ _ us hl => match us, hl with | [_, _], _ => rfl
  have F36 := fun_mk (st := s__law_pairs) l36 e36 k36
  have b36 := F36.binds (ps := ["_law_many", "_law_step"]) fun _ _ _ _ _ _ us hl => match us, hl with | [_, _], _ => rfl
  have F37 := fun_mk (st := s__law_great_right) l37 e37 k37
  have b37 := F37.binds (ps := ["_law_generator_here", "_law_check", "_law_whole", "_law_many"]) fun _ _ _ _ _ _ us hl => match us, hl with | [_, _, _, _], _ => rfl
  have F38 := fun_mk (st := s_law) l38 e38 k38
  have b38 := F38.binds (ps := ["_law_script"]) fun _ _ _ _ _ _ us hl => match us, hl with | [_], _ => rfl
  have FX0 := funA_mk (st := s_InvalidNumber___init__) liX_InvalidNumber eiX_InvalidNumber
  have bX0 := errBinds (x := "__init__") (qual := "InvalidNumber.__init__") (st := s_InvalidNumber___init__) (kV := kVi0) (doc := dci0) (pm := pmi0) (an := ani0) (cdv := cdi0) (ct := cti0) tdX_InvalidNumber fun _ _ => ⟨_, rfl, rfl⟩
  have FX1 := funA_mk (st := s_InvalidCheck___init__) liX_InvalidCheck eiX_InvalidCheck
  have bX1 := errBinds (x := "__init__") (qual := "InvalidCheck.__init__") (st := s_InvalidCheck___init__) (kV := kVi1) (doc := dci1) (pm := pmi1) (an := ani1) (cdv := cdi1) (ct := cti1) tdX_InvalidCheck fun _ _ => ⟨_, rfl, rfl⟩
  exact ⟨_, fun s v => .of_eq rfl, fun base _ _ => fin_law { C_Check := C_Check, cl_Check := ⟨pg_Check, hd_Check, po_Check, sa_Check⟩, gC_Check := PySem.W.mg_of X G gC_Check, is_Check := ⟨ha_Check, hn_Check, ht_Check, hm_Check⟩, n_Check__width := n_Check__width, n_Check__low := n_Check__low, ne_Check := ne_Check, ty_Check := ty_Check, a_is_number := f1, d_is_number := _, f_is_number := F1, b_is_number := b1, g_is_number := PySem.W.mg_of X G a1, a_is_within := f2, d_is_within := _, f_is_within := F2, b_is_within := b2, g_is_within := PySem.W.mg_of X G a2, a_check_within := f3, d_check_within := _, f_check_within := F3, b_check_within := b3, g_check_within := PySem.W.mg_of X G a3, a_bits_of := f4, d_bits_of := _, f_bits_of := F4, b_bits_of := b4, g_bits_of := PySem.W.mg_of X G a4, a_Check___init__ := f5, d_Check___init__ := _, f_Check___init__ := F5, b_Check___init__ := b5, mk_Check := ⟨mk_Check, a5, i5, kc_Check⟩, a_Check_width := f6, d_Check_width := _, f_Check_width := F6, b_Check_width := b6, p_Check_width := p6, pr_Check_width := ⟨a6, g6, t6, rs6, r6⟩, a_Check_low := f7, d_Check_low := _, f_Check_low := F7, b_Check_low := b7, p_Check_low := p7, pr_Check_low := ⟨a7, g7, t7, rs7, r7⟩, a_Check_bits := f8, d_Check_bits := _, f_Check_bits := F8, b_Check_bits := b8, me_Check_bits := ⟨a8, i8, k8⟩, a_Check___eq__ := f9, d_Check___eq__ := _, f_Check___eq__ := F9, b_Check___eq__ := b9, q_Check := ⟨a9, i9⟩, a_check_check := f10, d_check_check := _, f_check_check := F10, b_check_check := b10, g_check_check := PySem.W.mg_of X G a10, a_sum_of := f11, d_sum_of := _, f_sum_of := F11, b_sum_of := b11, g_sum_of := PySem.W.mg_of X G a11, a_risen := f12, d_risen := _, f_risen := F12, b_risen := b12, g_risen := PySem.W.mg_of X G a12, a_order_of := f13, d_order_of := _, f_order_of := F13, b_order_of := b13, g_order_of := PySem.W.mg_of X G a13, a_order := f14, d_order := _, f_order := F14, b_order := b14, g_order := PySem.W.mg_of X G a14, a_first_powers := f15, d_first_powers := _, f_first_powers := F15, b_first_powers := b15, g_first_powers := PySem.W.mg_of X G a15, a_all_odd := f16, d_all_odd := _, f_all_odd := F16, b_all_odd := b16, g_all_odd := PySem.W.mg_of X G a16, a_fraction := f17, d_fraction := _, f_fraction := F17, b_fraction := b17, g_fraction := PySem.W.mg_of X G a17, a_check_narrow := f18, d_check_narrow := _, f_check_narrow := F18, b_check_narrow := b18, g_check_narrow := PySem.W.mg_of X G a18, a_places_by_rest := f19, d_places_by_rest := _, f_places_by_rest := F19, b_places_by_rest := b19, g_places_by_rest := PySem.W.mg_of X G a19, a_odd_places := f20, d_odd_places := _, f_odd_places := F20, b_odd_places := b20, g_odd_places := PySem.W.mg_of X G a20, a_signed_choices := f21, d_signed_choices := _, f_signed_choices := F21, b_signed_choices := b21, g_signed_choices := PySem.W.mg_of X G a21, a_how_many_unseen := f22, d_how_many_unseen := _, f_how_many_unseen := F22, b_how_many_unseen := b22, g_how_many_unseen := PySem.W.mg_of X G a22, a_first_products := f23, d_first_products := _, f_first_products := F23, b_first_products := b23, g_first_products := PySem.W.mg_of X G a23, a_chance := f24, d_chance := _, f_chance := F24, b_chance := b24, g_chance := PySem.W.mg_of X G a24, a__law_hash := f25, d__law_hash := _, f__law_hash := F25, b__law_hash := b25, g__law_hash := PySem.W.mg_of X G a25, a__law_random := f26, d__law_random := _, f__law_random := F26, b__law_random := b26, g__law_random := PySem.W.mg_of X G a26, a__law_cell := f27, d__law_cell := _, f__law_cell := F27, b__law_cell := b27, g__law_cell := PySem.W.mg_of X G a27, a__law_generator := f28, d__law_generator := _, f__law_generator := F28, b__law_generator := b28, g__law_generator := PySem.W.mg_of X G a28, a__law_rest := f29, d__law_rest := _, f__law_rest := F29, b__law_rest := b29, g__law_rest := PySem.W.mg_of X G a29, a__law_drawn := f30, d__law_drawn := _, f__law_drawn := F30, b__law_drawn := b30, g__law_drawn := PySem.W.mg_of X G a30, a__law_places := f31, d__law_places := _, f__law_places := F31, b__law_places := b31, g__law_places := PySem.W.mg_of X G a31, a__law_lowest := f32, d__law_lowest := _, f__law_lowest := F32, b__law_lowest := b32, g__law_lowest := PySem.W.mg_of X G a32, a__law_raised := f33, d__law_raised := _, f__law_raised := F33, b__law_raised := b33, g__law_raised := PySem.W.mg_of X G a33, a__law_small_right := f34, d__law_small_right := _, f__law_small_right := F34, b__law_small_right := b34, g__law_small_right := PySem.W.mg_of X G a34, a__law_threes := f35, d__law_threes := _, f__law_threes := F35, b__law_threes := b35, g__law_threes := PySem.W.mg_of X G a35, a__law_pairs := f36, d__law_pairs := _, f__law_pairs := F36, b__law_pairs := b36, g__law_pairs := PySem.W.mg_of X G a36, a__law_great_right := f37, d__law_great_right := _, f__law_great_right := F37, b__law_great_right := b37, g__law_great_right := PySem.W.mg_of X G a37, a_law := fa, d_law := _, f_law := F38, b_law := b38, g_law := PySem.W.mg_of X G a38, t_GREATEST_WIDTH := t_GREATEST_WIDTH, c_GREATEST_WIDTH := PySem.W.mg_of X G c_GREATEST_WIDTH, t_GREATEST_PLACE := t_GREATEST_PLACE, c_GREATEST_PLACE := PySem.W.mg_of X G c_GREATEST_PLACE, t_GREATEST_COUNTED := t_GREATEST_COUNTED, c_GREATEST_COUNTED := PySem.W.mg_of X G c_GREATEST_COUNTED, t_MOST_FEW := t_MOST_FEW, c_MOST_FEW := PySem.W.mg_of X G c_MOST_FEW, t_MOST_CHANCES := t_MOST_CHANCES, c_MOST_CHANCES := PySem.W.mg_of X G c_MOST_CHANCES, t_GREATEST_CHANCE := t_GREATEST_CHANCE, c_GREATEST_CHANCE := PySem.W.mg_of X G c_GREATEST_CHANCE, m_abs := PySem.W.mg_none_of X G z_abs, m_bool := PySem.W.mg_none_of X G z_bool, m_enumerate := PySem.W.mg_none_of X G z_enumerate, m_int := PySem.W.mg_none_of X G z_int, m_isinstance := PySem.W.mg_none_of X G z_isinstance, m_len := PySem.W.mg_none_of X G z_len, m_max := PySem.W.mg_none_of X G z_max, m_range := PySem.W.mg_none_of X G z_range, m_reversed := PySem.W.mg_none_of X G z_reversed, m_sum := PySem.W.mg_none_of X G z_sum, mt_comb := PySem.W.mg_of X G y_comb, mt_gcd := PySem.W.mg_of X G y_gcd, X_SoundError := X_SoundError, gX_SoundError := PySem.W.mg_of X G gX_SoundError, hdX_SoundError := hdX_SoundError, tyX_SoundError := tyX_SoundError, bsX_SoundError := bsX_SoundError, X_InvalidNumber := X_InvalidNumber, gX_InvalidNumber := PySem.W.mg_of X G gX_InvalidNumber, hdX_InvalidNumber := hdX_InvalidNumber, tyX_InvalidNumber := tyX_InvalidNumber, bsX_InvalidNumber := bsX_InvalidNumber, X_InvalidCheck := X_InvalidCheck, gX_InvalidCheck := PySem.W.mg_of X G gX_InvalidCheck, hdX_InvalidCheck := hdX_InvalidCheck, tyX_InvalidCheck := tyX_InvalidCheck, bsX_InvalidCheck := bsX_InvalidCheck, ai_InvalidNumber := fi_InvalidNumber, di_InvalidNumber := _, fa_InvalidNumber := FX0, er_InvalidNumber := ⟨⟨⟨⟨_, _, _, _, _, _, _, _, _, _, _, _, _, _, _, lX_InvalidNumber, bm_InvalidNumber⟩, saX_InvalidNumber, bsX_InvalidNumber, tyX_InvalidNumber, kcX_InvalidNumber⟩, ⟨gaX_InvalidNumber, ggX_InvalidNumber, bsX_InvalidNumber, hdX_InvalidNumber, haX_InvalidNumber, hnX, htX, hmX_InvalidNumber⟩, nvX_InvalidNumber⟩, PySem.W.mg_of X G gX_InvalidNumber, iniX_InvalidNumber, tiX_InvalidNumber, bX0⟩, ai_InvalidCheck := fi_InvalidCheck, di_InvalidCheck := _, fa_InvalidCheck := FX1, er_InvalidCheck := ⟨⟨⟨⟨_, _, _, _, _, _, _, _, _, _, _, _, _, _, _, lX_InvalidCheck, bm_InvalidCheck⟩, saX_InvalidCheck, bsX_InvalidCheck, tyX_InvalidCheck, kcX_InvalidCheck⟩, ⟨gaX_InvalidCheck, ggX_InvalidCheck, bsX_InvalidCheck, hdX_InvalidCheck, haX_InvalidCheck, hnX, htX, hmX_InvalidCheck⟩, nvX_InvalidCheck⟩, PySem.W.mg_of X G gX_InvalidCheck, iniX_InvalidCheck, tiX_InvalidCheck, bX1⟩ }⟩
end N66
open PySem PySem.W PyProof.Rows
set_option maxHeartbeats 0 in
theorem PySem.Challenge.cw_wholesound_k66_whole_counts_of_the_unsee_holds : PySem.Challenge.rw_wholesound_k66_whole_counts_of_the_unsee.Holds := by
  w_on; o_law; k_head; (case hw => w_witness2)
  k_fill
  refine L2.walk_of (l := PySem.Challenge.rw_wholesound_k66_whole_counts_of_the_unsee) (n := 63) (k := 10) (x := "_law_script") (CX := fun _ => L2.CX0) (sp := fun w => Mir.spLaw _) rfl (by decide) rfl ⟨rfl, by decide, by decide⟩ (fun w h Y => PySem.W.kIn_of Y) ?F (fun _ _ a ns hl _ hS => ⟨a, ns, rfl, hS, hl, fun _ => rfl⟩) (fun _ _ _ _ _ h => h)
  case F =>
    intro w mg fa h KX G hmg
    refine' N66.all_mk KX G hmg ?gC_Check ?pg_Check ?hd_Check ?po_Check ?sa_Check ?mk_Check ?kc_Check ?ha_Check ?hn_Check ?ht_Check ?hm_Check ?n_Check__width ?n_Check__low ?ne_Check ?ty_Check ?a1 ?l1 ?e1 ?k1 ?a2 ?l2 ?e2 ?k2 ?a3 ?l3 ?e3 ?k3 ?a4 ?l4 ?e4 ?k4 ?a5 ?i5 ?l5 ?e5 ?k5 ?a6 ?g6 ?t6 ?r6 ?l6 ?e6 ?k6 ?a7 ?g7 ?t7 ?r7 ?l7 ?e7 ?k7 ?a8 ?i8 ?l8 ?e8 ?k8 ?a9 ?i9 ?l9 ?e9 ?k9 ?a10 ?l10 ?e10 ?k10 ?a11 ?l11 ?e11 ?k11 ?a12 ?l12 ?e12 ?k12 ?a13 ?l13 ?e13 ?k13 ?a14 ?l14 ?e14 ?k14 ?a15 ?l15 ?e15 ?k15 ?a16 ?l16 ?e16 ?k16 ?a17 ?l17 ?e17 ?k17 ?a18 ?l18 ?e18 ?k18 ?a19 ?l19 ?e19 ?k19 ?a20 ?l20 ?e20 ?k20 ?a21 ?l21 ?e21 ?k21 ?a22 ?l22 ?e22 ?k22 ?a23 ?l23 ?e23 ?k23 ?a24 ?l24 ?e24 ?k24 ?a25 ?l25 ?e25 ?k25 ?a26 ?l26 ?e26 ?k26 ?a27 ?l27 ?e27 ?k27 ?a28 ?l28 ?e28 ?k28 ?a29 ?l29 ?e29 ?k29 ?a30 ?l30 ?e30 ?k30 ?a31 ?l31 ?e31 ?k31 ?a32 ?l32 ?e32 ?k32 ?a33 ?l33 ?e33 ?k33 ?a34 ?l34 ?e34 ?k34 ?a35 ?l35 ?e35 ?k35 ?a36 ?l36 ?e36 ?k36 ?a37 ?l37 ?e37 ?k37 ?a38 ?l38 ?e38 ?k38 ?c_GREATEST_WIDTH ?c_GREATEST_PLACE ?c_GREATEST_COUNTED ?c_MOST_FEW ?c_MOST_CHANCES ?c_GREATEST_CHANCE ?z_abs ?z_bool ?z_enumerate ?z_int ?z_isinstance ?z_len ?z_max ?z_range ?z_reversed ?z_sum ?y_comb ?y_gcd ?gX_SoundError ?hdX_SoundError ?tyX_SoundError ?bsX_SoundError ?gX_InvalidNumber ?hdX_InvalidNumber ?tyX_InvalidNumber ?bsX_InvalidNumber ?gX_InvalidCheck ?hdX_InvalidCheck ?tyX_InvalidCheck ?bsX_InvalidCheck ?hnX ?htX ?lX_InvalidNumber ?bm_InvalidNumber ?saX_InvalidNumber ?kcX_InvalidNumber ?gaX_InvalidNumber ?ggX_InvalidNumber ?haX_InvalidNumber ?hmX_InvalidNumber ?nvX_InvalidNumber ?iniX_InvalidNumber ?tiX_InvalidNumber ?liX_InvalidNumber ?eiX_InvalidNumber ?tdX_InvalidNumber ?lX_InvalidCheck ?bm_InvalidCheck ?saX_InvalidCheck ?kcX_InvalidCheck ?gaX_InvalidCheck ?ggX_InvalidCheck ?haX_InvalidCheck ?hmX_InvalidCheck ?nvX_InvalidCheck ?iniX_InvalidCheck ?tiX_InvalidCheck ?liX_InvalidCheck ?eiX_InvalidCheck ?tdX_InvalidCheck
    (case gC_Check => k_is); (case pg_Check => k_is); (case hd_Check => k_is); (case po_Check => k_is); (case sa_Check => k_is); (case mk_Check => k_is)
    (case kc_Check => k_is); (case ha_Check => k_is); (case hn_Check => k_is); (case ht_Check => k_is); (case hm_Check => k_is); (case n_Check__width => k_is)
    (case n_Check__low => k_is); (case ne_Check => k_is); (case ty_Check => k_is); (case a1 => k_is); (case l1 => k_is); (case e1 => k_is)
    (case k1 => k_is); (case a2 => k_is); (case l2 => k_is); (case e2 => k_is); (case k2 => k_is); (case a3 => k_is)
    (case l3 => k_is); (case e3 => k_is); (case k3 => k_is); (case a4 => k_is); (case l4 => k_is); (case e4 => k_is)
    (case k4 => k_is); (case a5 => k_is); (case i5 => k_is); (case l5 => k_is); (case e5 => k_is); (case k5 => k_is)
    (case a6 => k_is); (case g6 => k_is); (case t6 => k_is); (case r6 => k_is); (case l6 => k_is); (case e6 => k_is)
    (case k6 => k_is); (case a7 => k_is); (case g7 => k_is); (case t7 => k_is); (case r7 => k_is); (case l7 => k_is)
    (case e7 => k_is); (case k7 => k_is); (case a8 => k_is); (case i8 => k_is); (case l8 => k_is); (case e8 => k_is)
    (case k8 => k_is); (case a9 => k_is); (case i9 => k_is); (case l9 => k_is); (case e9 => k_is); (case k9 => k_is)
    (case a10 => k_is); (case l10 => k_is); (case e10 => k_is); (case k10 => k_is); (case a11 => k_is); (case l11 => k_is)
    (case e11 => k_is); (case k11 => k_is); (case a12 => k_is); (case l12 => k_is); (case e12 => k_is); (case k12 => k_is)
    (case a13 => k_is); (case l13 => k_is); (case e13 => k_is); (case k13 => k_is); (case a14 => k_is); (case l14 => k_is)
    (case e14 => k_is); (case k14 => k_is); (case a15 => k_is); (case l15 => k_is); (case e15 => k_is); (case k15 => k_is)
    (case a16 => k_is); (case l16 => k_is); (case e16 => k_is); (case k16 => k_is); (case a17 => k_is); (case l17 => k_is)
    (case e17 => k_is); (case k17 => k_is); (case a18 => k_is); (case l18 => k_is); (case e18 => k_is); (case k18 => k_is)
    (case a19 => k_is); (case l19 => k_is); (case e19 => k_is); (case k19 => k_is); (case a20 => k_is); (case l20 => k_is)
    (case e20 => k_is); (case k20 => k_is); (case a21 => k_is); (case l21 => k_is); (case e21 => k_is); (case k21 => k_is)
    (case a22 => k_is); (case l22 => k_is); (case e22 => k_is); (case k22 => k_is); (case a23 => k_is); (case l23 => k_is)
    (case e23 => k_is); (case k23 => k_is); (case a24 => k_is); (case l24 => k_is); (case e24 => k_is); (case k24 => k_is)
    (case a25 => k_is); (case l25 => k_is); (case e25 => k_is); (case k25 => k_is); (case a26 => k_is); (case l26 => k_is)
    (case e26 => k_is); (case k26 => k_is); (case a27 => k_is); (case l27 => k_is); (case e27 => k_is); (case k27 => k_is)
    (case a28 => k_is); (case l28 => k_is); (case e28 => k_is); (case k28 => k_is); (case a29 => k_is); (case l29 => k_is)
    (case e29 => k_is); (case k29 => k_is); (case a30 => k_is); (case l30 => k_is); (case e30 => k_is); (case k30 => k_is)
    (case a31 => k_is); (case l31 => k_is); (case e31 => k_is); (case k31 => k_is); (case a32 => k_is); (case l32 => k_is)
    (case e32 => k_is); (case k32 => k_is); (case a33 => k_is); (case l33 => k_is); (case e33 => k_is); (case k33 => k_is)
    (case a34 => k_is); (case l34 => k_is); (case e34 => k_is); (case k34 => k_is); (case a35 => k_is); (case l35 => k_is)
    (case e35 => k_is); (case k35 => k_is); (case a36 => k_is); (case l36 => k_is); (case e36 => k_is); (case k36 => k_is)
    (case a37 => k_is); (case l37 => k_is); (case e37 => k_is); (case k37 => k_is); (case a38 => k_is); (case l38 => k_is)
    (case e38 => k_is); (case k38 => k_is); (case c_GREATEST_WIDTH => k_is); (case c_GREATEST_PLACE => k_is); (case c_GREATEST_COUNTED => k_is); (case c_MOST_FEW => k_is)
    (case c_MOST_CHANCES => k_is); (case c_GREATEST_CHANCE => k_is); (case z_abs => k_is); (case z_bool => k_is); (case z_enumerate => k_is); (case z_int => k_is)
    (case z_isinstance => k_is); (case z_len => k_is); (case z_max => k_is); (case z_range => k_is); (case z_reversed => k_is); (case z_sum => k_is)
    (case y_comb => k_is); (case y_gcd => k_is); (case gX_SoundError => k_is); (case hdX_SoundError => k_is); (case tyX_SoundError => k_is); (case bsX_SoundError => k_is)
    (case gX_InvalidNumber => k_is); (case hdX_InvalidNumber => k_is); (case tyX_InvalidNumber => k_is); (case bsX_InvalidNumber => k_is); (case gX_InvalidCheck => k_is); (case hdX_InvalidCheck => k_is)
    (case tyX_InvalidCheck => k_is); (case bsX_InvalidCheck => k_is); (case hnX => k_is); (case htX => k_is); (case lX_InvalidNumber => k_is); (case bm_InvalidNumber => first | rfl | decide | decide +kernel | k_is)
    (case saX_InvalidNumber => k_is); (case kcX_InvalidNumber => k_is); (case gaX_InvalidNumber => k_is); (case ggX_InvalidNumber => k_is); (case haX_InvalidNumber => k_is); (case hmX_InvalidNumber => k_is)
    (case nvX_InvalidNumber => k_is); (case iniX_InvalidNumber => k_is); (case tiX_InvalidNumber => k_is); (case liX_InvalidNumber => k_is); (case eiX_InvalidNumber => k_is); (case tdX_InvalidNumber => k_is)
    (case lX_InvalidCheck => k_is); (case bm_InvalidCheck => first | rfl | decide | decide +kernel | k_is); (case saX_InvalidCheck => k_is); (case kcX_InvalidCheck => k_is); (case gaX_InvalidCheck => k_is); (case ggX_InvalidCheck => k_is)
    (case haX_InvalidCheck => k_is); (case hmX_InvalidCheck => k_is); (case nvX_InvalidCheck => k_is); (case iniX_InvalidCheck => k_is); (case tiX_InvalidCheck => k_is); (case liX_InvalidCheck => k_is)
    (case eiX_InvalidCheck => k_is); (case tdX_InvalidCheck => k_is)
