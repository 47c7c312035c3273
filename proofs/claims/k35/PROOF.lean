import PyProof.Rows.All
import Wide.All
import OpenK.AllK
import Wide.FinOn
import HandS.ForMost
import HandS.More
import HandS.Codes
import HandS.Zip
import HandS.CallLocal
import HandS.Walk
import HandS.Defaults
import KE.GoesEnum
import HandS.RaiseMore
import HandS.Steps
import HandS.TupSets
import PyProof.SetRoads
import HandS.Strs
import HandS.Evl
import PyProof.StrOps2
import KE.KDictPairs
import HandS.Lambda
import KE.SortKeyHeap
import KE.KSortKey
import HandS.HeadHook4
import HandS.TupAny
import HandS.Deep
import HandS.Wide
import HandS.Style
import KE.KMinKey
import HandS.SortKw
import HandS.Star
import HandS.HeadEnd
import PySem.Challenge.RW_edgeshop_k35_fewest_by_all_runs
import KE.KStateDown
import Lean
import HandS.Head0
import HandS.Head1
import HandS.Head2
section
set_option Elab.async false
set_option linter.all false
set_option maxRecDepth 100000
set_option maxHeartbeats 4000000
namespace U
open PySem PySem.Spec PyProof.Rows L2
theorem OpR.of {X : Cx} {f : Value → Value → Sem Value} {r r' : R2} (h : OpR X f r) (i : ∀ x y H Q, r' x y H Q → r x y H Q) : OpR X f r' :=
  fun pins s σ H x y v u Q I rx ry q => h pins s σ H x y v u Q I rx ry (i x y H Q q)
inductive AddU (K : PySem.W.Frag) (x y : V) (H : Hp) (Q : VK) : Prop where
  | int {i j : Int} (ex : x = .int i) (ey : y = .int j) (q : Q (.int (i + j)) H)
  | str {i j : Str} (ex : x = .str i) (ey : y = .str j) (hl : i.length + j.length ≤ sizeLine) (q : Q (.str (i ++ j)) H)
  | lst {l b : Addr} {xs zs : List V} (ex : x = .ref l) (ey : y = .ref b) (h1 : H l = some (.lst xs)) (h2 : H b = some (.lst zs)) (hl : xs.length + zs.length ≤ sizeLine) (q : ∀ p, H p = none → Q (.ref p) (upd H p (.lst (xs ++ zs))))
  | tup (q : rCatT K x y H Q)
def rAdd (K : PySem.W.Frag) : R2 := fun x y H Q => AddU K x y H Q
inductive MulU (x y : V) (H : Hp) (Q : VK) : Prop where
  | int {i j : Int} (ex : x = .int i) (ey : y = .int j) (c : CMul i j) (q : Q (.int (i * j)) H)
  | rep (q : rRep x y H Q)
def rMul : R2 := fun x y H Q => MulU x y H Q
/-- == of two flat things, of data -/
inductive EqU (K : PySem.W.Frag) (neg : Bool) (x y : V) (H : Hp) (Q : VK) : Prop where
  | scal (h : scal x y = true) (q : Q (.bl (if neg then !decide (x = y) else decide (x = y))) H)
  | data {d e : PyData} (h1 : Dp K H x d) (h2 : Dp K H y e) (s1 : SeqAt.shaped d = true) (s2 : SeqAt.shaped e = true) (q : Q (.bl (if neg then !PyData.eqv d e else PyData.eqv d e)) H)
def rEqU (K : PySem.W.Frag) (neg : Bool) : R2 := fun x y H Q => EqU K neg x y H Q
inductive CmpU (p : Int → Int → Bool) (ps : List Nat → List Nat → Bool) (x y : V) (H : Hp) (Q : VK) : Prop where
  | int {i j : Int} (ex : x = .int i) (ey : y = .int j) (q : Q (.bl (p i j)) H)
  | str {i j : Str} (ex : x = .str i) (ey : y = .str j) (q : Q (.bl (ps i.cps.toList j.cps.toList)) H)
def rLtU : R2 := fun x y H Q => CmpU (fun i j => decide (i < j)) (fun a b => decide (a < b)) x y H Q
def rLeU : R2 := fun x y H Q => CmpU (fun i j => decide (i ≤ j)) (fun a b => !decide (b < a)) x y H Q
def rGtU : R2 := fun x y H Q => CmpU (fun i j => decide (j < i)) (fun a b => decide (b < a)) x y H Q
def rGeU : R2 := fun x y H Q => CmpU (fun i j => decide (j ≤ i)) (fun a b => !decide (a < b)) x y H Q
inductive IsU (neg : Bool) (x y : V) (H : Hp) (Q : VK) : Prop where
  | non (ey : y = .non) (q : Q (.bl (if neg then !decide (x = .non) else decide (x = .non))) H)
  | ty {a b : String} (ex : x = .ty a) (ey : y = .ty b) (q : Q (.bl (if neg then !decide (a = b) else decide (a = b))) H)
def rIsU (neg : Bool) : R2 := fun x y H Q => IsU neg x y H Q
inductive InU (K : PySem.W.Frag) (w : World) (neg : Bool) (x y : V) (H : Hp) (Q : VK) : Prop where
  | seq {p : Addr} {xs : List V} (ey : y = .ref p) (h : SqL K H p xs ∨ SqT K H p xs) (fx : flatV x = true) (fs : xs.all flatV = true) (q : Q (.bl (if neg then !inV x xs else inV x xs)) H)
  | dic {a : Addr} {o : Option V} (ey : y = .ref a) (h : DGet H a x o) (q : Q (.bl (if neg then !o.isSome else o.isSome)) H)
  | kdic {d : Addr} {es : Array DictEntry} {n : Nat} {z : Str} {r : Option Value} (D : KDict K w d es n) (ex : x = .str z) (ey : y = .ref d) (h : PySem.W.nsIn K d z = some r) (q : Q (.bl (if neg then !r.isSome else r.isSome)) H)
def rInU (K : PySem.W.Frag) (w : World) (neg : Bool) : R2 := fun x y H Q => InU K w neg x y H Q
inductive IxU (K : PySem.W.Frag) (w : World) (x y : V) (H : Hp) (Q : VK) : Prop where
  | lst {p : Addr} {xs : List V} {i : Int} {v : V} (ex : x = .ref p) (ey : y = .int i) (h : SqL K H p xs) (a : atI xs i = some v) (q : Q v H)
  | tup {p : Addr} {xs : List V} {i : Int} {v : V} (ex : x = .ref p) (ey : y = .int i) (h : SqT K H p xs) (a : atI xs i = some v) (q : Q v H)
  | str {z : Str} {i : Int} {c : Nat} (ex : x = .str z) (ey : y = .int i) (hl : z.length ≤ sizeLine) (a : atI z.cps.toList i = some c) (q : Q (.str ⟨#[c]⟩) H)
  | kdic {p : Addr} {z : Str} {v : V} (ex : x = .ref p) (ey : y = .str z) (h : KDct K w p z v) (q : Q v H)
  | dic {a : Addr} {v : V} (ex : x = .ref a) (g : DGet H a y (some v)) (q : Q v H)
def rIxU (K : PySem.W.Frag) (w : World) : R2 := fun x y H Q => IxU K w x y H Q
/-- a slice of a text, a tuple, a list -/
inductive SlU (K : PySem.W.Frag) (x : V) (lo hi : Option Int) (H : Hp) (Q : VK) : Prop where
  | str {z : Str} (ex : x = .str z) (hl : z.length ≤ sizeLine) (q : Q (.str (cutS z lo hi)) H)
  | lst {a : Addr} {xs : List V} (ex : x = .ref a) (h : SqL K H a xs) (q : ∀ p, H p = none → Q (.ref p) (upd H p (.lst (cutV xs lo hi))))
  | tup (q : rSlT K x lo hi H Q)
def rSlU (K : PySem.W.Frag) : V → Option Int → Option Int → Hp → VK → Prop := fun x lo hi H Q => SlU K x lo hi H Q
/-- o[i] = v: a list, a dict -/
inductive SetU (o i v : V) (H : Hp) (Q : Hp → Prop) : Prop where
  | lst {p : Addr} {xs : List V} {k : Int} {j : Nat} (eo : o = .ref p) (ei : i = .int k) (h : H p = some (.lst xs)) (hx : ixN xs.length k = some j) (q : Q (upd H p (.lst (xs.set j v))))
  | dic {a : Addr} {H' : Hp} (eo : o = .ref a) (h : DPut H a i v H') (q : Q H')
def rSetU : V → V → V → Hp → (Hp → Prop) → Prop := fun o i v H Q => SetU o i v H Q
/-- len -/
def rLenU (K : PySem.W.Frag) : List V → Hp → VK → Prop := fun xs H Q => ∃ x n, xs = [x] ∧ LenV K x H n ∧ Q (.int n) H
section
variable {X : Cx}
theorem op_addU : OpR X (binaryOp .Add) (rAdd X.K) := by
  refine OpR.of (op_add.or (op_add_str.or (op_cat.or op_catT))) fun x y H Q q => ?_
  cases q with
  | int ex ey q => exact .inl ⟨_, _, ex, ey, q⟩
  | str ex ey hl q => exact .inr (.inl ⟨_, _, ex, ey, hl, q⟩)
  | lst ex ey h1 h2 hl q => exact .inr (.inr (.inl ⟨_, _, _, _, ex, ey, h1, h2, hl, q⟩))
  | tup q => exact .inr (.inr (.inr q))
theorem op_mulU : OpR X (binaryOp .Mult) rMul := by
  refine OpR.of (op_mul.or op_rep) fun x y H Q q => ?_
  cases q with
  | int ex ey c q => exact .inl ⟨_, _, ex, ey, c, q⟩
  | rep q => exact .inr q
theorem op_eqU (hu : X.A.units + 64 < cLine) : OpR X (compareOp .Eq) (rEqU X.K false) := by
  refine OpR.of (op_eq.or (op_eqD hu)) fun x y H Q q => ?_
  cases q with
  | scal h q => exact .inl ⟨h, q⟩
  | data h1 h2 s1 s2 q => exact .inr ⟨_, _, h1, h2, s1, s2, q⟩
theorem op_neU (hu : X.A.units + 64 < cLine) : OpR X (compareOp .NotEq) (rEqU X.K true) := by
  refine OpR.of (op_ne.or (op_neD hu)) fun x y H Q q => ?_
  cases q with
  | scal h q => exact .inl ⟨h, q⟩
  | data h1 h2 s1 s2 q => exact .inr ⟨_, _, h1, h2, s1, s2, q⟩
theorem op_ltU : OpR X (compareOp .Lt) rLtU := by
  refine OpR.of (op_lt.or op_lt_str) fun x y H Q q => ?_
  cases q with
  | int ex ey q => exact .inl ⟨_, _, ex, ey, q⟩
  | str ex ey q => exact .inr ⟨_, _, ex, ey, q⟩
theorem op_leU : OpR X (compareOp .LtE) rLeU := by
  refine OpR.of (op_le.or op_le_str) fun x y H Q q => ?_
  cases q with
  | int ex ey q => exact .inl ⟨_, _, ex, ey, q⟩
  | str ex ey q => exact .inr ⟨_, _, ex, ey, q⟩
theorem op_gtU : OpR X (compareOp .Gt) rGtU := by
  refine OpR.of (op_gt.or op_gt_str) fun x y H Q q => ?_
  cases q with
  | int ex ey q => exact .inl ⟨_, _, ex, ey, q⟩
  | str ex ey q => exact .inr ⟨_, _, ex, ey, q⟩
theorem op_geU : OpR X (compareOp .GtE) rGeU := by
  refine OpR.of (op_ge.or op_ge_str) fun x y H Q q => ?_
  cases q with
  | int ex ey q => exact .inl ⟨_, _, ex, ey, q⟩
  | str ex ey q => exact .inr ⟨_, _, ex, ey, q⟩
theorem op_isU : OpR X (compareOp .Is) (rIsU false) := by
  refine OpR.of (op_isN.or op_isTyB) fun x y H Q q => ?_
  cases q with
  | non ey q => exact .inl ⟨ey, q⟩
  | ty ex ey q => exact .inr ⟨_, _, ex, ey, q⟩
theorem op_isnotU : OpR X (compareOp .IsNot) (rIsU true) := by
  refine OpR.of (op_notN.or op_notTyB) fun x y H Q q => ?_
  cases q with
  | non ey q => exact .inl ⟨ey, q⟩
  | ty ex ey q => exact .inr ⟨_, _, ex, ey, q⟩
theorem op_inU (hu : X.A.units + 1 < cLine) : OpR X (compareOp .In) (rInU X.K X.w false) := by
  intro pins s σ H x y v u Q I rx ry q
  cases q with
  | seq ey h fx fs q => exact op_in_seq pins s σ H x y v u Q I rx ry ⟨_, _, ey, h, fx, fs, q⟩
  | @dic a o ey h q =>
    subst ey
    cases ry
    exact d_in hu I h rx fun s' I' => ⟨.bl o.isSome, H, I', rfl, q⟩
  | kdic D ex ey h q => exact op_in_kd D pins s σ H x y v u Q I rx ry ⟨_, _, ex, ey, h, q⟩
theorem op_notinU (hu : X.A.units + 1 < cLine) : OpR X (compareOp .NotIn) (rInU X.K X.w true) := by
  intro pins s σ H x y v u Q I rx ry q
  cases q with
  | seq ey h fx fs q => exact op_notIn_seq pins s σ H x y v u Q I rx ry ⟨_, _, ey, h, fx, fs, q⟩
  | @dic a o ey h q =>
    subst ey
    cases ry
    exact d_notIn hu I h rx fun s' I' => ⟨.bl (!o.isSome), H, I', rfl, q⟩
  | kdic D ex ey h q => exact op_notIn_kd D pins s σ H x y v u Q I rx ry ⟨_, _, ex, ey, h, q⟩
theorem ix_dict (hu : X.A.units + 1 < cLine) : IxR X (fun x y H Q => ∃ a v, x = .ref a ∧ DGet H a y (some v) ∧ Q v H) := by
  intro value slice pins s σ H x y v u Q I rx ry h hs
  obtain ⟨a, r, rfl, g, q⟩ := h
  obtain rfl : v = Value.ref a := rx
  exact tail_any (dict_typeIs I g) PySem.F.slot_dict_getitem.lookup (d_getItem hu I g ry fun w' s' I' rw' => ⟨r, H, I', rw', q⟩) hs
theorem ixU (hu : X.A.units + 1 < cLine) : IxR X (rIxU X.K X.w) := by
  intro value slice pins s σ H x y v u Q I rx ry q hs
  cases q with
  | lst ex ey h a q => exact ix_list value slice pins s σ H x y v u Q I rx ry ⟨_, _, _, _, ex, ey, h, a, q⟩ hs
  | tup ex ey h a q => exact ix_tup value slice pins s σ H x y v u Q I rx ry ⟨_, _, _, _, ex, ey, h, a, q⟩ hs
  | str ex ey hl a q => exact ix_str value slice pins s σ H x y v u Q I rx ry ⟨_, _, _, ex, ey, hl, a, q⟩ hs
  | kdic ex ey h q => exact ix_kdict value slice pins s σ H x y v u Q I rx ry ⟨_, _, _, ex, ey, h, q⟩ hs
  | dic ex g q => exact ix_dict hu value slice pins s σ H x y v u Q I rx ry ⟨_, _, ex, g, q⟩ hs
theorem slU : SlR X (rSlU X.K) := by
  intro pins s σ H x v vl vu lo hi sl Q I rx hs pl pu q
  cases q with
  | str ex hl q => exact sl_str pins s σ H x v vl vu lo hi sl Q I rx hs pl pu ⟨_, ex, hl, q⟩
  | lst ex h q => exact sl_list pins s σ H x v vl vu lo hi sl Q I rx hs pl pu ⟨_, _, ex, h, q⟩
  | tup q => exact sl_tup pins s σ H x v vl vu lo hi sl Q I rx hs pl pu q
theorem setU (hu : X.A.units + 1 < cLine) : PSet X rSetU := by
  intro pins s σ H o i v ov iv u Q I ro ri rv q
  cases q with
  | lst eo ei h hx q => exact set_list pins s σ H o i v ov iv u Q I ro ri rv ⟨_, _, _, _, eo, ei, h, hx, q⟩
  | dic eo h q =>
    subst eo
    cases ro
    exact d_setItem hu I h ri rv fun s' I' => ⟨_, I', q⟩
theorem hu64 {k : Nat} {A : Around} (hr : Room k A) : A.units + 64 < cLine := hr.units
end
end U
end
section
set_option Elab.async false
set_option linter.all false
set_option maxRecDepth 100000
set_option maxHeartbeats 4000000
namespace U
open PySem PySem.Spec PyProof.Rows L2
open Sem (wp)
theorem enum_made {v : Value} {o : Obj} {G : Heap → Prop} (B : Begins v o G) : Meets (Builtin.«enumerate.__new__» ⟨[.type "enumerate", v], []⟩) (fun _ R s => G s.heap ∧
      R (.ok (.ret (.ref (s.heap.push o).objs.size))) { s with heap := (s.heap.push o).push { cls := .type "enumerate", data := .fields #[.none, .bool false, .ref s.heap.objs.size, rawInt 0, .none, .none] } }) :=
  .of_wp fun P' w' A' R s h => by
    obtain ⟨hp, g, d, tk, os⟩ := s; obtain ⟨hg, hr⟩ := h; have hsub := sub_enumerate
    have itq : ∀ {A2 : Around} {E2 : Value → Shared → Prop} {Q2 : Value → Shared → Prop}, Q2 (.ref hp.objs.size) ⟨hp.push o, g, d, tk, os⟩ → wpAny (model P' w') A2 (pyIter v) Q2 E2 ⟨hp, g, d, tk, os⟩ :=
      fun z => B.iter P' w' _ _ ⟨hp, g, d, tk, os⟩ _ hg z
    wp_walk using itq
    refine wpAny_stack_any fun sk => wpAny_pure ?_
    split
    · rename_i c _ _ _ _ _; cases (c == Value.type "enumerate") <;> (wp_walk using itq; exact ⟨_, rfl, hr⟩)
    · wp_walk using itq; exact ⟨_, rfl, hr⟩
section
variable {prog : Program} {w : World} {A : Around} {E : Value → Shared → Prop} {s : Shared}
theorem call_enum {v : Value} {o : Obj} {G : Heap → Prop} {Q : Value → Shared → Prop} (B : Begins v o G) (hg : G s.heap)
    (k : ∀ h', IsEnum h' (s.heap.objs.size + 1) s.heap.objs.size 0 .none → h'.get? s.heap.objs.size = some o → h'.objs.size = s.heap.objs.size + 2 →
      (∀ b u, s.heap.get? b = some u → h'.get? b = some u) → Q (.ref (s.heap.objs.size + 1)) { s with heap := h' }) :
    wpAny (model prog w) A (call (.type "enumerate") [v]) Q E s := by
  have hz : (s.heap.push o).objs.size = s.heap.objs.size + 1 := Heap.size_push ..
  refine callType_new F.called_enumerate (by decide) (F.typeCall_enumerate_1 _) (F.newCall_enumerate_1 _) (fun obj => F.args_object_init_2 obj _) F.entry_enumerate_new (enum_made B) ⟨hg, ?_⟩
  show _ ∧ _
  rw [hz]
  have he : IsEnum ((s.heap.push o).push { cls := .type "enumerate", data := .fields #[.none, .bool false, .ref s.heap.objs.size, rawInt 0, .none, .none] }) (s.heap.objs.size + 1) s.heap.objs.size 0 .none := by
    have q := Heap.get?_push_size (s.heap.push o) (o := { cls := .type "enumerate", data := .fields #[.none, .bool false, .ref s.heap.objs.size, rawInt 0, .none, .none] }) rfl
    rw [hz] at q; exact q
  exact ⟨⟨_, he, rfl⟩, k _ he (Heap.get?_push_of_some _ (Heap.get?_push_size _ B.free)) (by rw [Heap.size_push, hz]) fun b u x => Heap.get?_push_of_some _ (Heap.get?_push_of_some _ x)⟩
end
/-- the tuple at a, each item in a new pair -/
def IteT (K : PySem.W.Frag) (a : Addr) : It :=
  ⟨fun i H => ∃ (xs : List V) (x : V), SqT K H a xs ∧ xs[i]? = some x, fun i H v H' => ∃ T x, v = .ref T ∧ H T = none ∧ H' = upd H T (.tup [.int (i : Nat), x]) ∧ ∀ xs, SqT K H a xs → xs[i]? = some x, fun i H => ∃ xs : List V, SqT K H a xs ∧ xs.length = i⟩
theorem turn_enumT {P : Program} {w : World} {K : PySem.W.Frag} {elts : List Expr} {kk : Nat} {tpos : Pos} (a e it : Addr) :
    Turn P w K (.Tuple elts kk tpos) (IteT K a) [e, it] e (fun i h => (∃ old, IsEnum h e it ((i : Nat) : Int) old) ∧ h.IsTupleIter it a i ∧ e ≠ it ∧ e ≠ a ∧ a ≠ it) where
  mem := by simp
  obj := fun i h st b hb => by
    obtain ⟨⟨old, he⟩, ⟨o, ho, hc, hd⟩, _⟩ := st
    rcases (by simpa using hb : b = e ∨ b = it) with z | z
    · rw [z]; exact ⟨_, he, fun v q => nomatch q⟩
    · rw [z]; exact ⟨o, ho, fun v q => by rw [hd] at q; cases q⟩
  keep := fun i h h' st k => let ⟨⟨old, he⟩, hi, hne⟩ := st; ⟨⟨old, k e (by simp) _ he⟩, hi.at fun o q => k it (by simp) o q, hne⟩
  item := by
    intro X hP hw hK hc i pins s σ H E I hf st hg
    subst hP hw hK
    obtain ⟨⟨old, he⟩, hit, hne, hea, hai⟩ := st
    obtain ⟨xs, x, hq, hx⟩ := hg
    obtain ⟨its, rv, p, hz⟩ := I.tuple hq
    obtain ⟨u, hu, ru⟩ := rv.get hx
    have pT : s.heap.IsTuple a its.toArray := p
    have hin : i < its.toArray.size := by
      have q1 := (List.getElem?_eq_some_iff.mp hu).1
      simpa using q1
    have hel : e < s.heap.objs.size := Heap.lt_size he
    have hil : it < s.heap.objs.size := by obtain ⟨_, q, _⟩ := hit; exact Heap.lt_size q
    refine wpAny_pyNext_enum_itemC (Draws.tuple (A := X.A.in1) (I.ok.hd hc) it a hai its.toArray) he (show _ ∧ _ from ⟨hit, pT⟩) hin hne (by simp [hne, hea]) fun y h' tk hy ho hst hT hsz hk => ?_
    have hyu : y = u := Option.some.inj (hy.symm.trans (by simpa using hu))
    subst hyu
    refine ⟨_, rfl, wpAny_letOwnedTupleGo_enum (s := { s with heap := h', toks := tk + 1 }) ho fun h'' he' sb => ?_⟩
    have hT2 : h''.get? s.heap.objs.size = some { cls := .type "tuple", data := .seq #[.int i tk, y] } := (sb.2 _ (Nat.ne_of_gt hel)).trans hT
    have new : ObjOk X.prog X.w (upd H s.heap.objs.size (.tup [.int (i : Nat), x])) h'' s.heap.objs.size (.tup [.int (i : Nat), x]) :=
      ⟨by show 2 ≤ sizeLine; decide, [.int i tk, y], .cons ⟨_, rfl⟩ (.cons ru .nil), ⟨_, hT2, rfl, _, rfl⟩⟩
    have I1 : Inv X pins σ (upd H s.heap.objs.size (.tup [.int (i : Nat), x])) { s with heap := h'', toks := tk + 1 } :=
      I.turnedNew (ch := [e, it]) (fun b ob hb q => (sb.2 b (fun z => hb (by simp [z]))).trans (hk b ob (fun z => hb (by simp [z])) (fun z => hb (by simp [z])) q)) hf (Nat.le_refl _) new
    refine ⟨.ref s.heap.objs.size, _, I1, rfl, ⟨_, x, rfl, I.hok.fresh (Nat.le_refl _), rfl, fun ys hy => by rw [I.tuple_inj hy hq]; exact hx⟩, ⟨⟨y, ?_⟩, hst.1.at fun o q => (sb.2 it (Ne.symm hne)).trans q, hne, hea, hai⟩, fun b hb => ?_⟩
    · rw [show ((i + 1 : Nat) : Int) = (i : Int) + 1 by omega]; exact he'
    · have hb' : b < s.heap.objs.size := by
        rcases (by simpa using hb : b = e ∨ b = it) with z | z
        · rw [z]; exact hel
        · rw [z]; exact hil
      rw [upd_ne (Nat.ne_of_lt hb')]; exact (hf b hb).1
  done := by
    intro X hP hw hK hc i pins s σ H E I hf st hg
    subst hP hw hK
    obtain ⟨⟨old, he⟩, hit, hne, hea, hai⟩ := st
    obtain ⟨xs, hq, hx⟩ := hg
    obtain ⟨its, rv, p, hz⟩ := I.tuple hq
    have pT : s.heap.IsTuple a its.toArray := p
    obtain ⟨f0, f1, f2, f3, f4, f5⟩ := hf it (by simp)
    have hl := rv.length
    have ei : i = its.toArray.size := by rw [← hx]; simpa using hl
    subst ei
    exact wpAny_pyNext_enum_endD (Draws.tuple (A := X.A.in1) (I.ok.hd hc) it a hai its.toArray) he (show _ ∧ _ from ⟨hit, pT⟩) fun h' eb => ⟨rfl, I.turned (t' := s.toks) (fun b o hb q => eb b o hb q) f0 f1 f3 f4 f5⟩
  self := fun A i s Q E st h => let ⟨⟨_, he⟩, _⟩ := st; wpAny_pyIter_enum he h
def iEnumT (K : PySem.W.Frag) (ta : TA) : TI := fun σ H R => ta σ H fun vs H1 => ∃ a xs, vs = [.ref a] ∧ SqT K H1 a xs ∧ R (IteT K a) H1
theorem pi_enumT {X : Cx} {e : Expr} {ta : TA} {p pos tpos : Pos} {elts : List Expr} {kk : Nat} (hg : Gl X "enumerate") (hm : X.mg "enumerate" = none) (ha : PA X [e] ta) (hs : starEach [e] X.env = [(false, eval e X.env)] := by rfl) :
    PI X (.Tuple elts kk tpos) (.Call (.Name "enumerate" p) [e] [] pos) (iEnumT X.K ta) := by
  refine ⟨fun pins s σ H R I h => Call_ (ld_blt I hg hm boot_enumerate (PyProof.Rows.callWith_type1 (thn (ha.run pos pins s σ H _ I h) fun us s1 ⟨vs, H1, I1, r1, q1⟩ => ?_) hs rfl))⟩
  obtain ⟨a, xs, ex, hq, q⟩ := q1
  subst ex
  cases r1 with
  | cons r rr =>
    cases rr; cases r
    obtain ⟨its, rv, pT, hz⟩ := I1.tuple hq
    have pT2 : s1.heap.IsTuple a its.toArray := pT
    have hal : a < s1.heap.objs.size := by obtain ⟨o, z, _⟩ := pT; exact Heap.lt_size z
    refine call_enum (begins_tuple a its.toArray) pT2 fun h' he hit hsz hk => wpAny_pyIter_enum he ?_
    have I2 : Inv X pins σ H1 { s1 with heap := h' } := I1.kept (t' := s1.toks) hk
    refine ⟨s1.heap.objs.size + 1, [s1.heap.objs.size + 1, s1.heap.objs.size], _, _, H1, rfl, I2, turn_enumT a (s1.heap.objs.size + 1) s1.heap.objs.size, ⟨⟨.none, he⟩, ⟨_, hit, rfl, rfl⟩, Nat.succ_ne_self _, Nat.ne_of_gt (Nat.lt_succ_of_lt hal), Nat.ne_of_lt hal⟩, fun b hb => ?_, q⟩
    have hle : s1.heap.objs.size ≤ b := by
      rcases (by simpa using hb : b = s1.heap.objs.size + 1 ∨ b = s1.heap.objs.size) with z | z
      · rw [z]; exact Nat.le_succ _
      · rw [z]; exact Nat.le_refl _
    exact I1.fpOk hle (I1.hok.fresh hle)
theorem walk_enumT {K : PySem.W.Frag} {a : Addr} {xs : List V} : Walk (IteT K a) xs.length (fun H => SqT K H a xs) (YPair (fun i => some (.int (i : Nat))) (fun i => xs[i]?)) := by
  refine ⟨fun i _ hi q => ⟨xs, xs[i], q, by simp [hi]⟩, fun _ q => ⟨xs, q, rfl⟩, fun i H v H' _ q y => ?_⟩
  obtain ⟨T, x, h1, h2, h3, h4⟩ := y
  exact ⟨T, .int (i : Nat), x, h1, h2, h3, rfl, h4 xs q⟩
theorem PI.or {X : Cx} {tg it : Expr} {w1 w2 : TI} (h1 : PI X tg it w1) (h2 : PI X tg it w2) : PI X tg it (fun σ H R => w1 σ H R ∨ w2 σ H R) :=
  ⟨fun pins s σ H R I h => h.elim (h1.run pins s σ H R I) (h2.run pins s σ H R I)⟩
def iAny (K : PySem.W.Frag) (te : TE) : TI := fun σ H R => iList K te σ H R ∨ iTup K te σ H R ∨ iStr te σ H R
theorem pi_any {X : Cx} {tg e : Expr} {te : TE} (he : PE X e te) : PI X tg e (iAny X.K te) := PI.or (pi_list he) (PI.or (pi_tup he) (pi_str he))
def iEnumU (K : PySem.W.Frag) (ta : TA) : TI := fun σ H R => iEnum K ta σ H R ∨ iEnumT K ta σ H R
theorem pi_enumU {X : Cx} {e : Expr} {ta : TA} {p pos tpos : Pos} {elts : List Expr} {kk : Nat} (hg : Gl X "enumerate") (hm : X.mg "enumerate" = none) (ha : PA X [e] ta) (hs : starEach [e] X.env = [(false, eval e X.env)] := by rfl) :
    PI X (.Tuple elts kk tpos) (.Call (.Name "enumerate" p) [e] [] pos) (iEnumU X.K ta) := PI.or (pi_enum hg hm ha hs) (pi_enumT hg hm ha hs)
end U
end
section
set_option Elab.async false
set_option linter.all false
set_option maxRecDepth 100000
set_option maxHeartbeats 4000000
namespace U
open PySem PySem.Spec PyProof.Rows L2
abbrev rSub : R2 := rI0 fun i j => .int (i - j)
abbrev rMod : R2 := rI (fun _ j => 0 < j) fun i j => .int (i % j)
abbrev rDiv : R2 := rI CDiv fun i j => .int (i / j)
abbrev rPow : R2 := rI CPow fun i j => .int (i ^ j.toNat)
abbrev rNeg : V → Hp → VK → Prop := rU fun i => .int (-i)
section
variable {X : Cx}
theorem op_subU : OpR X (binaryOp .Sub) rSub := op_sub
theorem op_modU : OpR X (binaryOp .Mod) rMod := op_mod
theorem op_divU : OpR X (binaryOp .FloorDiv) rDiv := op_fdiv
theorem op_powU : OpR X (binaryOp .Pow) rPow := op_pow
theorem un_negU : UnR X (unaryOp .USub) rNeg := un_neg
end
def tChT (r r' : R2) (ta tb tc : TE) : TT := tTest (tChain r r' ta tb tc)
/-- min, max of two ints, of a list of ints -/
inductive MmU (K : PySem.W.Frag) (mn : Bool) (xs : List V) (H : Hp) (Q : VK) : Prop where
  | two {i j : Int} (e : xs = [.int i, .int j]) (q : Q (.int (if mn then (if j < i then j else i) else (if j > i then j else i))) H)
  | lst {a : Addr} {ns : List Int} (e : xs = [.ref a]) (h : SqL K H a (ns.map V.int)) (hn : 0 < ns.length) (q : ∀ m, m ∈ ns → (∀ y, y ∈ ns → if mn then m ≤ y else y ≤ m) → Q (.int m) H)
def rMinU (K : PySem.W.Frag) : List V → Hp → VK → Prop := fun xs H Q => MmU K true xs H Q
def rMaxU (K : PySem.W.Frag) : List V → Hp → VK → Prop := fun xs H Q => MmU K false xs H Q
def rInt1 : List V → Hp → VK → Prop := fun xs H Q => (∃ i, xs = [.int i] ∧ Q (.int i) H) ∨ ∃ k, xs = [.bl k] ∧ Q (.int (if k then 1 else 0)) H
inductive TupOf (K : PySem.W.Frag) (xs : List V) (H : Hp) (Q : VK) : Prop where
  | lst {p : Addr} {ys : List V} (e : xs = [.ref p]) (h : SqL K H p ys) (q : ∀ l, H l = none → Q (.ref l) (upd H l (.tup ys)))
  | tup {p : Addr} {ys : List V} (e : xs = [.ref p]) (h : SqT K H p ys) (q : Q (.ref p) H)
def rTupOf (K : PySem.W.Frag) : List V → Hp → VK → Prop := fun xs H Q => TupOf K xs H Q
def rListOf (K : PySem.W.Frag) : List V → Hp → VK → Prop := fun xs H Q => ∃ p ys, xs = [.ref p] ∧ (SqL K H p ys ∨ SqT K H p ys) ∧ ∀ l, H l = none → Q (.ref l) (upd H l (.lst ys))
def rDictP (K : PySem.W.Frag) : List V → Hp → VK → Prop := fun xs H Q => ∃ (a : Addr) (ps : List Addr) (kvs : List (Key × V)), xs = [.ref a] ∧ SqL K H a (ps.map V.ref) ∧ Paired (fun p kv => SqT K H p [kV kv.1, kv.2]) ps kvs ∧ ps.length ≤ 10000 ∧
  ∀ p, H p = none → Q (.ref p) (upd H p (.dK (mergeK [] kvs)))
/-- repr of an int -/
def rRepr (K : PySem.W.Frag) : List V → Hp → VK → Prop := fun xs H Q => ∃ i, xs = [.int i] ∧ i.natAbs.log2 < 1920 ∧ Q (.str (toString i)) H
def rInsert : V → List V → Hp → VK → Prop := fun x vs H Q => ∃ (l : Addr) (xs : List V) (i : Int) (y : V), x = .ref l ∧ vs = [.int i, y] ∧ H l = some (.lst xs) ∧ xs.length < sizeLine ∧ 0 ≤ i ∧ i < 2 ^ 63 ∧ Q .non (upd H l (.lst (xs.take i.toNat ++ [y] ++ xs.drop i.toNat)))
def rSplit : V → List V → Hp → VK → Prop := fun x xs H Q => ∃ a b, x = .str a ∧ xs = [.str b] ∧ (b.length == 0) = false ∧ a.length + 2 ≤ sizeLine ∧ rNewStrs (Txt.split a b) H Q
def rJoin (K : PySem.W.Frag) : V → List V → Hp → VK → Prop := fun x xs H Q => ∃ a p, ∃ ys : List Str, x = .str a ∧ xs = [.ref p] ∧ (SqL K H p (ys.map V.str) ∨ SqT K H p (ys.map V.str)) ∧ (ys.map (·.length)).sum + ys.length * a.length ≤ 16777216 ∧ Q (.str (Txt.join a ys)) H
section
variable {X : Cx}
theorem cr_minU (hc : X.calm = true) : CallR X (.builtin "min") (rMinU X.K) := by
  intro pins s σ H xs us Q I r q
  cases q with
  | two e q => exact call_min2 hc pins s σ H xs us Q I r ⟨_, _, e, by simpa using q⟩
  | lst e h hn q => exact cr_min hc pins s σ H xs us Q I r ⟨_, _, e, h, hn, fun m hm hy => q m hm fun y z => by simpa using hy y z⟩
theorem cr_maxU (hc : X.calm = true) : CallR X (.builtin "max") (rMaxU X.K) := by
  intro pins s σ H xs us Q I r q
  cases q with
  | two e q => exact call_max2 hc pins s σ H xs us Q I r ⟨_, _, e, by simpa using q⟩
  | lst e h hn q => exact cr_max hc pins s σ H xs us Q I r ⟨_, _, e, h, hn, fun m hm hy => q m hm fun y z => by simpa using hy y z⟩
theorem cr_int1 : CallR X (.type "int") rInt1 := call_int1
theorem cr_tupOf : CallR X (.type "tuple") (rTupOf X.K) := by
  intro pins s σ H xs us Q I r q
  cases q with
  | lst e h q => exact call_tuple_of pins s σ H xs us Q I r ⟨_, _, e, .inl ⟨h, q⟩⟩
  | tup e h q => exact call_tuple_of pins s σ H xs us Q I r ⟨_, _, e, .inr ⟨h, q⟩⟩
theorem cr_listOf : CallR X (.type "list") (rListOf X.K) := call_list_of
theorem cr_repr : CallR X (.builtin "repr") (rRepr X.K) := SkE.call_repr_int
theorem mt_insertU : MtR X "list.insert" rInsert := mt_insert
variable {o e : Expr} {to te : TE} {apos pos : Pos}
theorem pe_joinU (ho : PE X o to) (he : PE X e te) (hs : starEach [e] X.env = [(false, eval e X.env)] := by rfl) (hbase : attributeBase o "join" X.env (eval o X.env) = eval o X.env := by rfl) (hline : (apos.endLine == pos.line) = true := by rfl) :
    PE X (.Call (.Attribute o "join" apos) [e] [] pos) (tM1 (rJoin X.K) to te) := pe_join ho he hs hbase hline
theorem pe_splitU (ho : PE X o to) (he : PE X e te) (hs : starEach [e] X.env = [(false, eval e X.env)] := by rfl) (hbase : attributeBase o "split" X.env (eval o X.env) = eval o X.env := by rfl) (hline : (apos.endLine == pos.line) = true := by rfl) :
    PE X (.Call (.Attribute o "split" apos) [e] [] pos) (tM1 rSplit to te) := pe_split ho he hs hbase hline
theorem pe_ty {n : String} {x : Str} {q : Pos} (hg : Gl X x) (hm : X.mg x = none) (hv : bootBuiltins x = some (.type n)) (hn : x ≠ "__name__" := by decide) (hd : (x == ("__debug__" : Str)) = false := by decide) : PE X (.Name x q) (tC (.ty n)) :=
  pe_bltn hg hm hv rfl hn hd
theorem gv (i : Nat) {x : Str} {q : Pos} (nd : X.N.Nodup) (hi : X.N[i]? = some x := by rfl) (hx : Loc X.env.scope x := by first | exact Or.inl rfl | exact Or.inr rfl) (hf : X.fn x = true ∨ X.env.scope.names.lookup x = some .local := by first | exact .inl rfl | exact .inr rfl) :
    PG X (.Name x q) (gName i) := pg_name nd hi hx hf
theorem gvB (i : Nat) {x : Str} {q : Pos} (nd : X.N.Nodup) (hi : X.N[i]? = some x := by rfl) (hx : Loc X.env.scope x := by first | exact Or.inl rfl | exact Or.inr rfl) (hf : X.fn x = true ∨ X.env.scope.names.lookup x = some .local := by first | exact .inr rfl | exact .inl rfl) :
    PG X (.Name x q) (gName i) := pg_name nd hi hx hf
theorem sv (i : Nat) {x : Str} {q : Pos} (nd : X.N.Nodup) (he : PE X e te) (hi : X.N[i]? = some x := by rfl) (hx : Loc X.env.scope x := by first | exact Or.inl rfl | exact Or.inr rfl) (hs : swapsWith e (some (.Name x q)) pos.line X.env = pure false := by rfl)
    (hf : X.fn x = true ∨ X.env.scope.names.lookup x = some .local := by first | exact .inl rfl | exact .inr rfl) : PS X (.Assign [.Name x q] e pos) (tAsg te (gName i)) := ps_set nd hi hx he hs hf
/-- o[i] = e -/
def sSetU (td ty tv : TE) : TS := fun D σ H => tv σ H fun v H1 => td σ H1 fun x H2 => ty σ H2 fun y H3 => rSetU x y v H3 fun H4 => D.nx σ H4
theorem ps_setU {i value : Expr} {td ty tv : TE} {pos' : Pos} (hu : X.A.units + 1 < cLine) (ho : PE X o td) (hi : PE X i ty) (hv : PE X value tv) (hs : swapsWith value (some (.Subscript o i pos')) pos.line X.env = pure false) :
    PS X (.Assign [.Subscript o i pos'] value pos) (sSetU td ty tv) := by
  refine ⟨fun pins s σ H D I h => wpAny_Assign_Subscript (thn (hv.run pins s σ H _ I h) fun r s1 ⟨v, H1, I1, rv, q1⟩ => thn (ho.run pins s1 σ H1 _ I1 q1) fun u s2 ⟨x, H2, I2, rx, q2⟩ => thn (hi.run pins s2 σ H2 _ I2 q2) fun iv s3 ⟨y, H3, I3, ry, q3⟩ => ?_) hs⟩
  exact thn (setU hu pins s3 σ H3 x y v u iv r _ I3 rx ry rv q3) fun _ s4 ⟨H4, I4, q4⟩ => ⟨σ, H4, I4, q4⟩
end
theorem scope_by {N P : List Str} {sc : Scope} (h : C8.scC N P sc = true) : FnScope N P sc := C8.fnScope_by h
/-- the def of the text at st, as it stands behind the top under the name x, without defaults -/
structure Fn (K : PySem.W.Frag) (mg : Str → Option Value) (x : Str) (st : Stmt) : Prop where
  ex : ∃ (f : Addr) (fd : FuncData), FunD K x x (defArgs st) (defBody st) (defScope st) [] [] f fd ∧ mg x = some (.ref f)
theorem cal_of {P : Program} {w : World} {K : PySem.W.Frag} {mg : Str → Option Value} {base : Heap} {x : Str} {st : Stmt} {N ps : List Str} {k : Nat} {sp : Sp} (F : Fn K mg x st) (S : FnScope N ps (defScope st))
    (hb : ∀ (kV doc pm : Value) (an : Option Addr) (cdv ct : Value) (us : List Value), us.length = ps.length → bindArgs (PySem.W.fnOf x x (defArgs st) (defBody st) (defScope st) .none kV doc pm an cdv ct) ⟨us, []⟩ = pure (ps.zip us))
    (len : ∀ vs H Q E, sp vs H Q E → vs.length = ps.length)
    (hbody : ∀ (f : Addr) (cdv : Value) (A : Around) (outer : List Env) (s : Shared) (H : Hp) (vs : List V) (Q : VK) (E : XK), Room k (A.deeper (envOfC x (defScope st) s.heap.objs.size f cdv)) → sp vs H Q E →
      ∃ t, PSs (cxOf C8.CX0 P w K mg base N x (defScope st) f cdv A outer s H E).nox (defBody st) t ∧ t { nx := fun _ H' => Q .non H', rt := Q } (start N vs) H) : C8.Cal P w K mg base (k + 1) x sp [] := by
  obtain ⟨f, fd, F1, hm⟩ := F.ex
  refine ⟨f, fd, ps, [], F1.ok S len fun cdv A outer s H vs Q E hr h => ?_, hm, F1.kp, F1.bindsN hb, .nil⟩
  obtain ⟨t, h1, h2⟩ := hbody f cdv A outer s H vs Q E hr h
  exact ⟨t, h1.nox, h2⟩
/-- none of these names is the module's: each is the built-in -/
structure Bl (mg : Str → Option Value) : Prop where
  len_ : mg "len" = none
  type_ : mg "type" = none
  int_ : mg "int" = none
  str_ : mg "str" = none
  tuple_ : mg "tuple" = none
  list_ : mg "list" = none
  dict_ : mg "dict" = none
  all_ : mg "all" = none
  min_ : mg "min" = none
  max_ : mg "max" = none
  range_ : mg "range" = none
  enumerate_ : mg "enumerate" = none
  repr_ : mg "repr" = none
  set_ : mg "set" = none
  sorted_ : mg "sorted" = none
  isinstance_ : mg "isinstance" = none
  any_ : mg "any" = none
  zip_ : mg "zip" = none
  sum_ : mg "sum" = none
  bool_ : mg "bool" = none
  reversed_ : mg "reversed" = none
  abs_ : mg "abs" = none
  ord_ : mg "ord" = none
def sp1 (P : V → Hp → VK → Prop) : Sp := fun vs H Q _ => ∃ a, vs = [a] ∧ P a H Q
def sp2 (P : V → V → Hp → VK → Prop) : Sp := fun vs H Q _ => ∃ a b, vs = [a, b] ∧ P a b H Q
def sp3 (P : V → V → V → Hp → VK → Prop) : Sp := fun vs H Q _ => ∃ a b c, vs = [a, b, c] ∧ P a b c H Q
def sp4 (P : V → V → V → V → Hp → VK → Prop) : Sp := fun vs H Q _ => ∃ a b c d, vs = [a, b, c, d] ∧ P a b c d H Q
theorem len1 {P : V → Hp → VK → Prop} {vs : List V} {H : Hp} {Q : VK} {E : XK} (h : sp1 P vs H Q E) : vs.length = 1 := by obtain ⟨a, rfl, _⟩ := h; rfl
theorem len2 {P : V → V → Hp → VK → Prop} {vs : List V} {H : Hp} {Q : VK} {E : XK} (h : sp2 P vs H Q E) : vs.length = 2 := by obtain ⟨a, b, rfl, _⟩ := h; rfl
theorem len3 {P : V → V → V → Hp → VK → Prop} {vs : List V} {H : Hp} {Q : VK} {E : XK} (h : sp3 P vs H Q E) : vs.length = 3 := by obtain ⟨a, b, c, rfl, _⟩ := h; rfl
theorem len4 {P : V → V → V → V → Hp → VK → Prop} {vs : List V} {H : Hp} {Q : VK} {E : XK} (h : sp4 P vs H Q E) : vs.length = 4 := by obtain ⟨a, b, c, d, rfl, _⟩ := h; rfl
end U
end
section
set_option Elab.async false
set_option linter.all false
set_option maxRecDepth 100000
set_option maxHeartbeats 4000000
namespace U
open PySem PySem.Spec PyProof.Rows L2
abbrev KeysAt (P : Program) (w : World) (h : Heap) (k : List Key) (b : Addr) : Prop := IsTupleKey (mixKind P w) h k b
abbrev kh (P : Program) (w : World) (k : List Key) : Int := tupleKeyHash (mixKind P w) k
/-- the probe behind c steps -/
abbrev pr (m : Nat) (h : Int) (c : Nat) : SetTable.Probe := nth m (runAt m (SetTable.bits h % (m + 1)) (SetTable.bits h)) c
def Flat (v : Value) : Prop := (∃ i t, v = Value.int i t) ∨ ∃ z t, v = Value.str z t
section
variable {P : Program} {w : World} {A : Around} {E : Value → Shared → Prop} {s : Shared} {k : List Key} {b : Addr}
theorem flat_items {vs : List Value} (h : ItemsAre (mixKind P w) k vs) : ∀ v ∈ vs, Flat v := by
  induction h with
  | nil => intro v hv; cases hv
  | @cons k0 u ks us h1 _ ih =>
    intro v hv
    rcases List.mem_cons.mp hv with e | hv
    · subst e
      rcases keyIs_shape (show keyIs k0 v = true from h1) with ⟨i, t, _, e2⟩ | ⟨z, t, _, e2⟩
      · exact .inl ⟨i, t, e2⟩
      · exact .inr ⟨z, t, e2⟩
    · exact ih v hv
theorem flat_class {v : Value} (h : Flat v) (n : Nat) : ofAClassStatement n v = pure false := by
  rcases h with ⟨i, t, rfl⟩ | ⟨z, t, rfl⟩ <;> cases n <;> rfl
theorem flat_hash {v : Value} (h : Flat v) (n : Nat) : ∃ r, hashByValue n v = pure r := by
  rcases h with ⟨i, t, rfl⟩ | ⟨z, t, rfl⟩
  · exact ⟨true, by cases n <;> rfl⟩
  · exact ⟨false, by cases n <;> rfl⟩
theorem class_keys {Q : Bool → Shared → Prop} (hk : KeysAt P w s.heap k b) (q : Q false s) : wpAny (model P w) A (ofAClassStatement 8 (.ref b)) Q E s := by
  have ty := hk.typeIs
  obtain ⟨o, items, n, e1, _, e2, its⟩ := hk
  unfold ofAClassStatement
  refine wpAny_bind (wpAny_typeOf ty ?_)
  dsimp only
  have e : (("tuple" : String) == "tuple") = true := by decide
  simp only [e, if_true, Bool.not_true, Bool.false_eq_true, if_false]
  try refine wpAny_bind (wpAny_pure ?_)
  try simp only [Bool.not_true, Bool.false_eq_true, if_false]
  show wpAny _ _ (seqItems? (.ref b) >>= _) _ _ s
  refine wpAny_bind (wpAny_seqItems e1 e2 ?_)
  dsimp only
  refine wpAny_bind ?_
  show wpAny _ _ (forIn items _ _) _ _ s
  rw [← Array.forIn_toList]
  refine wpAny_forIn_list _ (fun left r s' => (r.1 = none ∧ s' = s) ∧ ∀ v ∈ left, Flat v) _ ?_ ?_ _ _ ⟨⟨rfl, rfl⟩, flat_items its⟩
  · rintro v left r s' ⟨⟨hr, rfl⟩, fl⟩
    rw [flat_class (fl v List.mem_cons_self)]
    refine wpAny_bind (wpAny_pure ?_)
    simp only [Bool.false_eq_true, if_false]
    exact wpAny_pure ⟨⟨rfl, rfl⟩, fun u hu => fl u (List.mem_cons_of_mem _ hu)⟩
  · rintro ⟨r1, r2⟩ s' ⟨⟨hr, rfl⟩, _⟩
    simp only at hr
    subst hr
    exact wpAny_pure q
theorem hash_keys {Q : Bool → Shared → Prop} (hk : KeysAt P w s.heap k b) (q : ∀ r, Q r s) : wpAny (model P w) A (hashByValue 8 (.ref b)) Q E s := by
  have ty := hk.typeIs
  obtain ⟨o, items, n, e1, _, e2, its⟩ := hk
  unfold hashByValue
  refine wpAny_bind (wpAny_specialOf ty F.slot_tuple_hash.lookup ?_)
  show wpAny _ _ (seqItems? (.ref b) >>= _) _ _ s
  refine wpAny_bind (wpAny_seqItems e1 e2 ?_)
  refine wpAny_bind ?_
  show wpAny _ _ (forIn items _ _) _ _ s
  rw [← Array.forIn_toList]
  refine wpAny_forIn_list _ (fun left r s' => (r.1 = none ∧ s' = s) ∧ ∀ v ∈ left, Flat v) _ ?_ ?_ _ _ ⟨⟨rfl, rfl⟩, flat_items its⟩
  · rintro v left r s' ⟨⟨hr, rfl⟩, fl⟩
    obtain ⟨z, ez⟩ := flat_hash (fl v List.mem_cons_self) 7
    rw [ez]
    refine wpAny_bind (wpAny_pure ?_)
    cases z
    · simp only [Bool.not_false, if_true]
      exact wpAny_pure (wpAny_pure (q false))
    · simp only [Bool.not_true, Bool.false_eq_true, if_false]
      exact wpAny_pure ⟨⟨rfl, rfl⟩, fun u hu => fl u (List.mem_cons_of_mem _ hu)⟩
  · rintro ⟨r1, r2⟩ s' ⟨⟨hr, rfl⟩, _⟩
    simp only at hr
    subst hr
    exact wpAny_pure (q true)
/-- nobody sees a search among such tuples -/
theorem unseen {Q : Bool → Shared → Prop} (hk : KeysAt P w s.heap k b) {ys : List Value} (hy : ∀ y ∈ ys, ∃ j c, y = Value.ref c ∧ KeysAt P w s.heap j c) (q : Q false s) : wpAny (model P w) A (searchCouldBeSeen (.ref b) ys) Q E s := by
  unfold searchCouldBeSeen
  refine wpAny_bind ?_
  refine wpAny_forIn_list _ (fun left r s' => (r.1 = none ∧ s' = s) ∧ ∀ y ∈ left, ∃ j c, y = Value.ref c ∧ KeysAt P w s.heap j c) _ ?_ ?_ _ _ ⟨⟨rfl, rfl⟩, hy⟩
  · rintro v left r s' ⟨⟨hr, rfl⟩, fl⟩
    obtain ⟨j, c, rfl, hc⟩ := fl v List.mem_cons_self
    dsimp only
    by_cases hv : (b == c || (carriedByValue (.ref b) && carriedByValue (.ref c))) = true
    · refine wp_if_pos hv (wpAny_pure ⟨⟨rfl, rfl⟩, fun u hu => fl u (List.mem_cons_of_mem _ hu)⟩)
    · refine wp_if_neg hv (wpAny_bind (wpAny_eqIsQuiet_tuple hk ?_))
      simp only [Bool.not_true, Bool.false_eq_true, if_false]
      refine wpAny_bind (wpAny_eqIsQuiet_tuple hc ?_)
      simp only [Bool.not_true, Bool.false_eq_true, if_false]
      refine wpAny_bind (class_keys hk ?_)
      simp only [Bool.false_eq_true, if_false]
      refine wpAny_bind (class_keys hc ?_)
      simp only [Bool.false_eq_true, if_false]
      exact wpAny_pure ⟨⟨rfl, rfl⟩, fun u hu => fl u (List.mem_cons_of_mem _ hu)⟩
  · rintro ⟨r1, r2⟩ s' ⟨⟨hr, rfl⟩, _⟩
    simp only at hr
    subst hr
    exact wpAny_pure q
end
abbrev El : Type := Addr × List Key
def rowF (P : Program) (w : World) (p : El) : Int × Value := (kh P w p.2, Value.ref p.1)
structure MSet (P : Program) (w : World) (h : Heap) (a : Addr) (L : List El) (es : Array (Int × Value)) (ep : Nat) (t : SetTable) : Prop where
  ob : ∃ o, h.get? a = some o ∧ o.ExactSet ∧ o.data = .set es ep t
  rows : es.toList = L.map (rowF P w)
  tab : TabOk t (L.map fun p => kh P w p.2)
  nd : (L.map (·.2)).Nodup
  keys : ∀ p ∈ L, KeysAt P w h p.2 p.1
  led : w.params.followText "set-order" = true ∨ t.led = true
  room : L.length * 5 < t.mask * 3
  few : L.length < 64
section
variable {P : Program} {w : World} {A : Around} {E : Value → Shared → Prop} {s : Shared} {k : List Key} {x : Addr} {a : Addr} {L : List El} {es : Array (Int × Value)} {ep : Nat} {t : SetTable}
theorem rows_size (h : es.toList = L.map (rowF P w)) : es.size = L.length := by
  rw [← Array.length_toList, h, List.length_map]
theorem rows_at (h : es.toList = L.map (rowF P w)) (i : Nat) : es[i]? = (L[i]?).map (rowF P w) := by
  rw [← Array.getElem?_toList, h, List.getElem?_map]
theorem tab_fits {n : Nat} (sz : t.place.size = n) (dm : t.dummies = #[]) (le : n ≤ t.mask) : t.fits n = true := by
  unfold SetTable.fits SetTable.fill
  rw [dm, Bool.and_eq_true, beq_iff_eq, decide_eq_true_eq]
  show t.place.size = n ∧ t.place.size + 0 ≤ t.mask
  omega
theorem MSet.fits (R : MSet P w s.heap a L es ep t) : t.fits es.size = true := by
  have z := R.tab.sz
  rw [List.length_map] at z
  have r := R.room
  exact tab_fits (by rw [z, rows_size R.rows]) R.tab.dm (by rw [rows_size R.rows]; omega)
theorem probe_clean (m : Nat) (h : Int) (c : Nat) : (pr m h c).dummy = none := by
  have key : ∀ (n : Nat) (p : SetTable.Probe), p.dummy = none → (nth m p n).dummy = none := by
    intro n
    induction n with
    | zero => exact fun p z => z
    | succ n ih =>
      intro p z
      refine ih (adv m p) ?_
      unfold adv
      split <;> exact z
  exact key c _ rfl
theorem pr_add (m : Nat) (h : Int) (c q : Nat) : nth m (pr m h c) q = pr m h (c + q) := (nth_add m c _ q).symm
/-- THE SEARCH from the c-th step on; add: as adding asks -/
theorem seek (R : MSet P w s.heap a L es ep t) (hx : KeysAt P w s.heap k x) (hu : A.units < cLine) (add : Bool) {K : Nat} (hf0 : K < 10 * SetTable.turns t.mask)
    (hK : way t.mask (kh P w k) K ∉ t.place.toList) (hb : ∀ c, c < K → way t.mask (kh P w k) c ∈ t.place.toList) {Q : SetFound → Shared → Prop}
    (yes : k ∈ L.map (·.2) → ∀ i, (add = true → i = none) → (add = false → i.isSome = true) → Q (.there i) s) (no : k ∉ L.map (·.2) → Q (.free (way t.mask (kh P w k) K) false) s) :
    ∀ (f c : Nat) (st : Option SetTable.Probe), st.getD (t.probeStart (kh P w k)) = pr t.mask (kh P w k) c → c ≤ K → K - c < f →
      (∀ (i : Nat) p, L[i]? = some p → p.2 = k → ∃ c', c ≤ c' ∧ c' < K ∧ t.place.toList[i]? = some (way t.mask (kh P w k) c')) →
      wpAny (model P w) A (setSearchFrom a (.ref x) (kh P w k) add f st) Q E s
  | 0, c, st, _, _, hf, _ => absurd hf (Nat.not_lt_zero _)
  | f + 1, c, st, hst, hc, hf, hre => by
    obtain ⟨o, ho, hex, hd⟩ := R.ob
    have hmo : ¬ t.gaveWay = true := by
      unfold SetTable.gaveWay
      rw [mask_odd R.tab.mok]
      decide
    rw [setSearchFrom_succ]
    refine wpAny_bind (wpAny_setState_of ho hd R.fits ?_)
    dsimp only
    refine wp_if_neg hmo ?_
    try refine wpAny_bind (wpAny_pure ?_)
    have ej : ∀ q, (nth t.mask (pr t.mask (kh P w k) c) q).j = way t.mask (kh P w k) (c + q) := fun q => congrArg SetTable.Probe.j (pr_add t.mask (kh P w k) c q)
    have hcK : c + (K - c) = K := by omega
    have spec := go_spec t R.tab.ris R.tab.dm (fun i => (es[i]?.map (·.1)).getD 0) (kh P w k) (10 * SetTable.turns t.mask) (K - c) (pr t.mask (kh P w k) c) (probe_clean _ _ _) (by omega)
      (fun q hq => by rw [ej]; exact hb (c + q) (by omega)) (by rw [ej, hcK]; exact hK)
    have hashAt : ∀ (i : Nat) p, L[i]? = some p → (es[i]?.map (·.1)).getD 0 = kh P w p.2 := fun i p hp => by rw [rows_at R.rows, hp]; rfl
    rcases spec with ⟨q, i, hq, hi, hh, hno, hgo⟩ | ⟨hno, hgo⟩
    · have hprobe : t.probe (fun i => (es[i]?.map (·.1)).getD 0) (kh P w k) (st.getD (t.probeStart (kh P w k))) = some (.candidate (way t.mask (kh P w k) (c + q)) i (pr t.mask (kh P w k) (c + (q + 1)))) := by
        rw [hst, ← ej, ← pr_add]
        exact hgo
      rw [hprobe]
      dsimp only
      rw [ej] at hi
      have hil : i < L.length := by
        have z := R.tab.sz
        rw [List.length_map] at z
        have y := (List.getElem?_eq_some_iff.mp hi).1
        rw [Array.length_toList] at y
        omega
      obtain ⟨p, hp⟩ : ∃ p, L[i]? = some p := ⟨L[i], List.getElem?_eq_getElem hil⟩
      have hin : p ∈ L := List.mem_of_getElem? hp
      have hent : es[i]? = some (kh P w p.2, Value.ref p.1) := by rw [rows_at R.rows, hp]; rfl
      have hsl : t.slot (way t.mask (kh P w k) (c + q)) = .live i := slot_live R.tab.ris hi
      have rest : wpAny (model P w) A (searchRest a (.ref x) (kh P w k) add f es t (way t.mask (kh P w k) (c + q)) i (pr t.mask (kh P w k) (c + (q + 1)))) Q E s := by
        unfold searchRest
        rw [hent]
        dsimp only
        refine wpAny_bind (wpAny_holding (wpAny_eqBool_tuple hu (R.keys p hin) hx ?_))
        refine wpAny_bind (wpAny_setState_of ho hd R.fits ?_)
        dsimp only
        have more : ¬ p.2 = k → wpAny (model P w) A (setSearchFrom a (.ref x) (kh P w k) add f (some (pr t.mask (kh P w k) (c + (q + 1))))) Q E s := fun hne => by
          refine seek R hx hu add hf0 hK hb yes no f (c + (q + 1)) _ rfl (by omega) (by omega) fun i0 p0 h0 e0 => ?_
          obtain ⟨c', a1, a2, a3⟩ := hre i0 p0 h0 e0
          refine ⟨c', ?_, a2, a3⟩
          rcases Nat.lt_or_ge (c + q) c' with y | y
          · omega
          · exfalso
            by_cases z : c' = c + q
            · rw [z] at a3
              have s0 := slot_live R.tab.ris a3
              rw [hsl] at s0
              injection s0 with s0
              rw [← s0, hp] at h0
              exact hne ((congrArg Prod.snd (Option.some.inj h0)).trans e0)
            · refine hno (c' - c) i0 (by omega) (by rw [ej, show c + (c' - c) = c' by omega]; exact a3) ?_
              exact (hashAt i0 p0 h0).trans (congrArg (kh P w) e0)
        by_cases hkk : p.2 = k
        · have hmem : k ∈ L.map (·.2) := List.mem_map.mpr ⟨p, hin, hkk⟩
          cases add with
          | true =>
            refine wp_if_pos (by simp [hkk]) ?_
            exact wpAny_pure (yes hmem none (fun _ => rfl) (fun z => by cases z))
          | false =>
            refine wp_if_neg (by simp) ?_
            try refine wpAny_bind (wpAny_pure ?_)
            rw [sameMem]
            dsimp only
            simp only [if_true, hsl, hent]
            refine wpAny_bind (wpAny_isSame_ref_self (wpAny_bind (wpAny_pure ?_)))
            simp only [if_true]
            refine wp_if_pos (by simp [hkk]) ?_
            exact wpAny_pure (yes hmem (some i) (fun z => by cases z) (fun _ => rfl))
        · refine wp_if_neg (by simp [hkk]) ?_
          try refine wpAny_bind (wpAny_pure ?_)
          rw [sameMem]
          dsimp only
          simp only [if_true, hsl, hent]
          refine wpAny_bind (wpAny_isSame_ref_self (wpAny_bind (wpAny_pure ?_)))
          simp only [if_true]
          refine wp_if_neg (by simp [hkk]) ?_
          exact more hkk
      by_cases hl : t.led = true
      · refine wp_if_neg (by simp [hl]) ?_
        try refine wpAny_bind (wpAny_pure ?_)
        exact rest
      · refine wp_if_pos (by simp [hl]) ?_
        refine wpAny_bind (unseen hx (fun y hy => ?_) ?_)
        · obtain ⟨e, he, rfl⟩ := List.mem_map.mp hy
          have he2 : e ∈ es.toList := by
            have z : e ∈ es ∧ e.1 = kh P w k := by simpa using he
            simpa using z.1
          rw [R.rows] at he2
          obtain ⟨p2, hp2, rfl⟩ := List.mem_map.mp he2
          exact ⟨p2.2, p2.1, rfl, R.keys p2 hp2⟩
        · refine wp_if_neg (by decide) ?_
          try refine wpAny_bind (wpAny_pure ?_)
          exact rest
    · have hprobe : t.probe (fun i => (es[i]?.map (·.1)).getD 0) (kh P w k) (st.getD (t.probeStart (kh P w k))) = some (.empty (way t.mask (kh P w k) K) none) := by
        have e2 : way t.mask (kh P w k) K = (nth t.mask (pr t.mask (kh P w k) c) (K - c)).j := by rw [ej, hcK]
        rw [hst, e2]
        exact hgo
      rw [hprobe]
      dsimp only
      refine wpAny_pure (no fun hm => ?_)
      obtain ⟨p0, h0, e0⟩ := List.mem_map.mp hm
      obtain ⟨i0, h00⟩ := List.mem_iff_getElem?.mp h0
      obtain ⟨c', a1, a2, a3⟩ := hre i0 p0 h00 e0
      refine hno (c' - c) i0 (by omega) (by rw [ej, show c + (c' - c) = c' by omega]; exact a3) ?_
      exact (hashAt i0 p0 h00).trans (congrArg (kh P w) e0)
theorem seek_start (R : MSet P w s.heap a L es ep t) (hx : KeysAt P w s.heap k x) (hu : A.units < cLine) (add : Bool) {Q : SetFound → Shared → Prop}
    (yes : k ∈ L.map (·.2) → ∀ i, (add = true → i = none) → (add = false → i.isSome = true) → Q (.there i) s)
    (no : ∀ K, k ∉ L.map (·.2) → way t.mask (kh P w k) K ∉ t.place.toList → (∀ c, c < K → way t.mask (kh P w k) c ∈ t.place.toList) → Q (.free (way t.mask (kh P w k) K) false) s) :
    wpAny (model P w) A (setSearch a (.ref x) (kh P w k) add) Q E s := by
  have hr := R.room
  obtain ⟨K, hf0, hK, hb⟩ := R.tab.first (by rw [List.length_map]; omega) (kh P w k)
  have few : 10 * SetTable.turns t.mask ≤ 1420 := by
    unfold SetTable.turns
    rcases R.tab.mok with e | e | e <;> omega
  unfold setSearch
  refine seek R hx hu add hf0 hK hb yes (fun hn => no K hn hK hb) 100000 0 none rfl (Nat.zero_le _) (by omega) fun i p hp he => ?_
  have hi : (L.map fun p => kh P w p.2)[i]? = some (kh P w k) := by rw [List.getElem?_map, hp, ← he]; rfl
  have hil : i < t.place.toList.length := by
    have z := R.tab.sz
    rw [List.length_map] at z
    have y : i < L.length := (List.getElem?_eq_some_iff.mp hp).1
    rw [Array.length_toList]
    omega
  have hj := List.getElem?_eq_getElem hil
  obtain ⟨c, hc, e⟩ := R.tab.before hK hi hj
  exact ⟨c, Nat.zero_le _, hc, by rw [hj, e]⟩
theorem no_scan {x : Addr} : ¬ byScan (.ref x) es = true := by simp [byScan, Value.scannable]
def hasK (L : List El) (k : List Key) : Bool := L.any fun p => decide (p.2 = k)
theorem hasK_true (h : k ∈ L.map (·.2)) : hasK L k = true := by
  obtain ⟨p, h1, h2⟩ := List.mem_map.mp h
  exact List.any_eq_true.mpr ⟨p, h1, decide_eq_true h2⟩
theorem hasK_false (h : k ∉ L.map (·.2)) : hasK L k = false := by
  cases e : hasK L k with
  | false => rfl
  | true =>
    obtain ⟨p, h1, h2⟩ := List.any_eq_true.mp e
    exact absurd (List.mem_map.mpr ⟨p, h1, of_decide_eq_true h2⟩) h
/-- asked -/
theorem ask_find (R : MSet P w s.heap a L es ep t) (hx : KeysAt P w s.heap k x) (hu : A.units < cLine) {Q : Option Nat → Shared → Prop}
    (h : ∀ r : Option Nat, r.isSome = hasK L k → Q r s) : wpAny (model P w) A (setFind a (.ref x) (kh P w k)) Q E s := by
  obtain ⟨o, ho, hex, hd⟩ := R.ob
  unfold setFind
  rw [show (100000 : Nat) = 99999 + 1 from rfl]
  unfold setFindIn
  refine wpAny_bind (wpAny_setState_of ho hd R.fits ?_)
  dsimp only
  refine wp_if_neg no_scan ?_
  try refine wpAny_bind (wpAny_pure ?_)
  refine wpAny_bind (seek_start R hx hu false (fun hm i _ hi => ?_) fun K hm _ _ => ?_)
  · dsimp only
    exact wpAny_pure (h i (by rw [hi rfl, hasK_true hm]))
  · dsimp only
    exact wpAny_pure (h none (by rw [hasK_false hm]; rfl))
theorem keys_same {h h' : Heap} {b : Addr} {o : Obj} (hb : KeysAt P w h k b) (ho : h.get? a = some o) (hd : o.data = .set es ep t) (hs : Heap.SameBut a h h') : KeysAt P w h' k b := by
  obtain ⟨o', items, n, e1, e2, e3, its⟩ := hb
  have ne : b ≠ a := fun z => by
    rw [z, ho] at e1
    rw [← Option.some.inj e1, hd] at e3
    cases e3
  exact ⟨o', items, n, (hs.2 b ne).trans e1, e2, e3, its⟩
theorem order_any {α : Type} (L : List α) (f : α → Int × Value) (es : Array (Int × Value)) (hr : es.toList = L.map f) : ∀ l : List Nat, (∀ i ∈ l, i < L.length) →
    l.filterMap (fun i => es[i]?) = (l.filterMap fun i => L[i]?).map f ∧ ((l.filterMap fun i => L[i]?).map fun p => (f p).1) = l.map fun i => (es.map (·.1)).getD i 0
  | [], _ => ⟨rfl, rfl⟩
  | i :: l, hl => by
    obtain ⟨h1, h2⟩ := order_any L f es hr l fun j hj => hl j (List.mem_cons_of_mem _ hj)
    have hi := hl i List.mem_cons_self
    have e0 : es[i]? = some (f L[i]) := by rw [← Array.getElem?_toList, hr, List.getElem?_map, List.getElem?_eq_getElem hi]; rfl
    have e1 : L[i]? = some L[i] := List.getElem?_eq_getElem hi
    rw [List.filterMap_cons_some e0, List.filterMap_cons_some e1, h1]
    refine ⟨rfl, ?_⟩
    rw [List.map_cons, List.map_cons, h2]
    have e4 : (es.map (·.1)).getD i 0 = (f L[i]).1 := by
      have e5 : (es.map (·.1))[i]? = some (f L[i]).1 := by rw [Array.getElem?_map, e0]; rfl
      simp [Array.getD_eq_getD_getElem?, e5]
    rw [e4]
theorem perm_all {α : Type} (L : List α) {l : List Nat} (hp : l.Perm (List.range L.length)) : (l.filterMap fun i => L[i]?).Perm L := by
  have h1 := hp.filterMap fun i => L[i]?
  have key : ∀ n, n ≤ L.length → (List.range n).filterMap (fun i => L[i]?) = L.take n := by
    intro n
    induction n with
    | zero => exact fun _ => rfl
    | succ n ih =>
      intro hn
      rw [List.range_succ, List.filterMap_append, ih (Nat.le_of_lt hn), List.filterMap_cons_some (List.getElem?_eq_getElem hn)]
      exact List.take_append_getElem hn
  rw [key L.length (Nat.le_refl _), List.take_length] at h1
  exact h1
theorem relaid_keys {o : Obj} (ho : s.heap.get? a = some o) (hex : o.ExactSet) (hd : o.data = .set es ep t) (rows : es.toList = L.map (rowF P w)) (sz : t.place.size = es.size) (dm : t.dummies = #[]) (le : es.size ≤ t.mask)
    (nd : (L.map (·.2)).Nodup) (keys : ∀ p ∈ L, KeysAt P w s.heap p.2 p.1) (led : w.params.followText "set-order" = true ∨ t.led = true) (few : L.length < 64) {want M : Nat}
    (hw : SetTable.sizeAbove want - 1 = M) (hM : MaskOk M) (hw2 : SetTable.sizeAbove want ≤ 128) (room : L.length * 5 < M * 3) {Q : Unit → Shared → Prop}
    (q : ∀ h' L' es' ep' t', Heap.SameBut a s.heap h' → MSet P w h' a L' es' ep' t' → L'.Perm L → Q () { s with heap := h' }) : wpAny (model P w) A (setRelay a want) Q E s := by
  have hsl := rows_size rows
  obtain ⟨t', order, e, pm, T, em, el, _, ed⟩ := relaid_ok t (hs := es.map (·.1)) (wanted := want) hw hM (by rw [Array.size_map, hsl]; omega)
  rw [Array.size_map, hsl] at pm
  obtain ⟨r1, r3⟩ := order_any L (rowF P w) es rows order.toList fun i hi => List.mem_range.mp (pm.mem_iff.mp hi)
  have r2 := perm_all L pm
  generalize (order.toList.filterMap fun i => L[i]?) = L2 at r1 r2 r3
  rw [← r3] at T
  have r1' : (order.filterMap (es[·]?)).toList = L2.map (rowF P w) := by
    rw [← r1]
    first | rw [Array.toList_filterMap] | simp
  have hs2 : (order.filterMap (es[·]?)).size = es.size := by rw [rows_size r1', r2.length_eq, hsl]
  rw [setRelay_eq]
  refine wpAny_bind (wpAny_setState_of ho hd (tab_fits sz dm le) ?_)
  dsimp only
  refine wp_if_neg (by rw [sizeLine_eq]; omega) ?_
  try refine wpAny_bind (wpAny_pure ?_)
  rw [e]
  dsimp only
  refine wpAny_bind ?_
  refine wp_if_neg (by rw [hs2]; simp) ?_
  try refine wpAny_bind (wpAny_pure ?_)
  refine wpAny_pure ?_
  dsimp only
  refine wpAny_storeSet_of ho hd ?_ (by rw [hs2, hsl, sizeLine_eq]; omega)
  have sb : Heap.SameBut a s.heap (s.heap.update a (Obj.putSet (order.filterMap (es[·]?)) t')) := Heap.SameBut.update ..
  refine q _ L2 _ (ep + 1) t' sb ⟨⟨_, store_at ho hd, ⟨hex.1, hex.2.1, hex.2.2⟩, rfl⟩, r1', T, (r2.map (·.2)).nodup_iff.mpr nd, fun p hp => keys_same (keys p (r2.mem_iff.mp hp)) ho hd sb, by rw [el]; exact led, by rw [r2.length_eq, em]; exact room, by rw [r2.length_eq]; exact few⟩ r2
/-- ADDED -/
theorem add_keys (R : MSet P w s.heap a L es ep t) (hx : KeysAt P w s.heap k x) (hu : A.units < cLine) (few : L.length + 1 < 64) {Q : Bool → Shared → Prop}
    (q : ∀ b h' L' es' ep' t', Heap.SameBut a s.heap h' → MSet P w h' a L' es' ep' t' → (k ∈ L.map (·.2) → L' = L) → (k ∉ L.map (·.2) → L'.Perm ((x, k) :: L)) → Q b { s with heap := h' }) :
    wpAny (model P w) A (setAddHashed a (.ref x) (kh P w k)) Q E s := by
  obtain ⟨o, ho, hex, hd⟩ := R.ob
  have hsl := rows_size R.rows
  have hroom := R.room
  unfold setAddHashed
  refine wpAny_holding ?_
  rw [show (100000 : Nat) = 99999 + 1 from rfl, setAddHashedIn_succ]
  refine wpAny_bind (wpAny_setState_of ho hd R.fits ?_)
  dsimp only
  refine wp_if_neg no_scan ?_
  try refine wpAny_bind (wpAny_pure ?_)
  refine wpAny_bind (seek_start R hx hu true (fun hm i _ _ => ?_) fun K hm hK hb => ?_)
  · dsimp only
    exact wpAny_pure (q false s.heap L es ep t (Heap.SameBut.refl a s.heap) R (fun _ => rfl) fun z => absurd hm z)
  dsimp only
  refine wpAny_bind (wpAny_setState_of ho hd R.fits ?_)
  dsimp only
  obtain ⟨q1, q2, q3, q4, q5, q6, q7, q8, q9⟩ := R.tab.put hK hb
  generalize hpt : t.put (way t.mask (kh P w k) K) = pt at q1 q3 q4 q5 q6 q7 q8 q9 ⊢
  obtain ⟨t1, p⟩ := pt
  dsimp only at q1 q3 q4 q5 q6 q7 q8 q9 ⊢
  subst q1
  -- whether it is plain is all the same
  have next : ∀ r : Bool, wpAny (model P w) A (do
      storeSet a (SetTable.insertAt es (SetTable.below t.place (way t.mask (kh P w k) K)) (kh P w k, Value.ref x)) (if r = true then t1 else { t1 with plain := false })
      if (!false && (if r = true then t1 else { t1 with plain := false }).tooFull) = true then setRelay a (SetTable.grown (es.size + 1))
      return true) Q E s := by
    intro r
    have hin : (SetTable.insertAt es (SetTable.below t.place (way t.mask (kh P w k) K)) (kh P w k, Value.ref x)).toList = (L.take (SetTable.below t.place (way t.mask (kh P w k) K)) ++ (x, k) :: L.drop (SetTable.below t.place (way t.mask (kh P w k) K))).map (rowF P w) := by
      rw [SetTable.toList_insertAt, R.rows, List.map_append, List.map_cons, List.map_take, List.map_drop]
      rfl
    have hhs : (L.take (SetTable.below t.place (way t.mask (kh P w k) K)) ++ (x, k) :: L.drop (SetTable.below t.place (way t.mask (kh P w k) K))).map (fun p => kh P w p.2) = (L.map fun p => kh P w p.2).take (SetTable.below t.place (way t.mask (kh P w k) K)) ++ kh P w k :: (L.map fun p => kh P w p.2).drop (SetTable.below t.place (way t.mask (kh P w k) K)) := by
      rw [List.map_append, List.map_cons, List.map_take, List.map_drop]
    rw [← hhs] at q3
    have q3' : TabOk (if r = true then t1 else { t1 with plain := false }) ((L.take (SetTable.below t.place (way t.mask (kh P w k) K)) ++ (x, k) :: L.drop (SetTable.below t.place (way t.mask (kh P w k) K))).map fun p => kh P w p.2) := by
      cases r
      · exact ⟨q3.ris, q3.dm, q3.sz, q3.mok, q3.bd, q3.reach⟩
      · exact q3
    have e4 : (if r = true then t1 else { t1 with plain := false }).mask = t.mask := by cases r <;> exact q4
    have e5 : (if r = true then t1 else { t1 with plain := false }).led = t.led := by cases r <;> exact q5
    have e9 : (if r = true then t1 else { t1 with plain := false }).fill = (L.map fun p => kh P w p.2).length + 1 := by cases r <;> exact q9
    generalize (if r = true then t1 else { t1 with plain := false }) = t2 at q3' e4 e5 e9 ⊢
    generalize SetTable.below t.place (way t.mask (kh P w k) K) = p at q2 hin q3' ⊢
    have pm := put_perm L p (x, k)
    have hlen : (L.take p ++ (x, k) :: L.drop p).length = L.length + 1 := pm.length_eq
    have nd1 : ((L.take p ++ (x, k) :: L.drop p).map (·.2)).Nodup := by
      refine (pm.map (·.2)).nodup_iff.mpr ?_
      rw [List.map_cons]
      exact List.nodup_cons.mpr ⟨hm, R.nd⟩
    have hes := rows_size hin
    rw [hlen] at hes
    generalize SetTable.insertAt es p (kh P w k, Value.ref x) = es1 at hin hes ⊢
    generalize L.take p ++ (x, k) :: L.drop p = L1 at pm hlen q3' nd1 hin
    refine wpAny_bind (wpAny_storeSet_of ho hd ?_ (by rw [hes, sizeLine_eq]; omega))
    have sb : Heap.SameBut a s.heap (s.heap.update a (Obj.putSet es1 t2)) := Heap.SameBut.update ..
    have ho1 := store_at (es' := es1) (t' := t2) ho hd
    generalize s.heap.update a (Obj.putSet es1 t2) = h1 at sb ho1 ⊢
    have keys1 : ∀ p ∈ L1, KeysAt P w h1 p.2 p.1 := fun p hp => by
      rcases List.mem_cons.mp (pm.mem_iff.mp hp) with e | hp
      · rw [e]; exact keys_same hx ho hd sb
      · exact keys_same (R.keys p hp) ho hd sb
    have led1 : w.params.followText "set-order" = true ∨ t2.led = true := by rw [e5]; exact R.led
    by_cases hf : t2.tooFull = true
    · have hfull : (L.length + 1) * 5 ≥ t2.mask * 3 := by
        have h := hf
        unfold SetTable.tooFull at h
        rw [decide_eq_true_eq, e9, List.length_map] at h
        exact h
      rw [e4] at hfull
      have two : (t.mask = 7 ∧ L.length = 4) ∨ (t.mask = 31 ∧ L.length = 18) := by
        rcases R.tab.mok with e | e | e <;> rw [e] at hfull hroom
        · exact .inl ⟨e, by omega⟩
        · exact .inr ⟨e, by omega⟩
        · omega
      have hsz1 : t2.place.size = es1.size := by
        have h := q3'.sz
        rw [List.length_map, hlen] at h
        rw [h, hes]
      have go : ∀ M, SetTable.sizeAbove (SetTable.grown (L.length + 1)) - 1 = M → MaskOk M → SetTable.sizeAbove (SetTable.grown (L.length + 1)) ≤ 128 → (L.length + 1) * 5 < M * 3 →
          wpAny (model P w) A (setRelay a (SetTable.grown (L.length + 1))) (fun _ s' => wpAny (model P w) A (pure true) Q E s') E { s with heap := h1 } := fun M g1 g2 g3 g4 =>
        relaid_keys (s := { s with heap := h1 }) ho1 ⟨hex.1, hex.2.1, hex.2.2⟩ rfl hin hsz1 q3'.dm (by rw [hes, e4]; rcases two with ⟨y, z⟩ | ⟨y, z⟩ <;> omega) nd1 keys1 led1 (by rw [hlen]; exact few) g1 g2 g3 (by rw [hlen]; exact g4)
          fun h2 L2 es2 ep2 u2 sb2 R2 pm2 => wpAny_pure (q true h2 L2 es2 ep2 u2 (sb.trans sb2) R2 (fun z => absurd z hm) fun _ => pm2.trans pm)
      rw [hsl]
      have goal : wpAny (model P w) A (setRelay a (SetTable.grown (L.length + 1))) (fun _ s' => wpAny (model P w) A (pure true) Q E s') E { s with heap := h1 } := by
        rcases two with ⟨_, e2⟩ | ⟨_, e2⟩
        · exact go 31 (by rw [e2, size_20]) (.inr (.inl rfl)) (by rw [e2, size_20]; decide) (by omega)
        · exact go 127 (by rw [e2, size_76]) (.inr (.inr rfl)) (by rw [e2, size_76]; decide) (by omega)
      first
        | (refine wpAny_bind ?_; refine wp_if_pos (by simp [hf]) ?_; exact goal)
        | (refine wp_if_pos (by simp [hf]) ?_; exact wpAny_bind goal)
    · have fin : wpAny (model P w) A (pure true) Q E { s with heap := h1 } := by
        refine wpAny_pure (q true h1 L1 es1 (ep + 1) t2 sb ⟨⟨_, ho1, ⟨hex.1, hex.2.1, hex.2.2⟩, rfl⟩, hin, q3', nd1, keys1, led1, ?_, by rw [hlen]; exact few⟩ (fun z => absurd z hm) fun _ => pm)
        have h := hf
        unfold SetTable.tooFull at h
        rw [decide_eq_true_eq, e9, List.length_map] at h
        rw [hlen]
        omega
      first
        | (refine wp_if_neg (by simp [hf]) ?_; exact fin)
        | (refine wpAny_bind ?_; refine wp_if_neg (by simp [hf]) ?_; exact wpAny_pure fin)
  by_cases hp : t1.plain = true
  · first
      | (refine wpAny_bind ?_; refine wp_if_pos hp ?_; exact hash_keys hx fun r => next r)
      | exact wp_if_pos hp (wpAny_bind (hash_keys hx fun r => next r))
  · first
      | (refine wpAny_bind ?_; refine wp_if_neg hp ?_; exact wpAny_pure (next true))
      | exact wp_if_neg hp (wpAny_bind (wpAny_pure (next true)))
end
end U
end
section
set_option Elab.async false
set_option linter.all false
set_option maxRecDepth 100000
set_option maxHeartbeats 4000000
namespace U
open PySem PySem.Spec PyProof.Rows L2
def khW (w : World) (k : List Key) : Int := reduceHash (Builtin.Tuple.tupleHashOf (k.map (keyH w)))
/-- the set at a, its members' tuples told elsewhere -/
def MS0 (w : World) (h : Heap) (a : Addr) (L : List El) : Prop := ∃ es ep t, (∃ o, h.get? a = some o ∧ o.ExactSet ∧ o.data = .set es ep t) ∧ es.toList = L.map (fun p => (khW w p.2, Value.ref p.1)) ∧ TabOk t (L.map fun p => khW w p.2) ∧ (L.map (·.2)).Nodup ∧
  (w.params.followText "set-order" = true ∨ t.led = true) ∧ L.length * 5 < t.mask * 3 ∧ L.length < 64
theorem MS0.full {P : Program} {w : World} {h : Heap} {a : Addr} {L : List El} (R : MS0 w h a L) (ht : ∀ p ∈ L, KeysAt P w h p.2 p.1) : ∃ es ep t, MSet P w h a L es ep t := by
  obtain ⟨es, ep, t, h1, h2, h3, h4, h5, h6, h7⟩ := R
  exact ⟨es, ep, t, h1, h2, h3, h4, ht, h5, h6, h7⟩
theorem MSet.less {P : Program} {w : World} {h : Heap} {a : Addr} {L : List El} {es ep t} (R : MSet P w h a L es ep t) : MS0 w h a L := ⟨es, ep, t, R.ob, R.rows, R.tab, R.nd, R.led, R.room, R.few⟩
def MSetO (w : World) (a : Addr) (L : List El) : HO := .ext fun h => MS0 w h a L
theorem msetO_ok {P : Program} {w : World} {H : Hp} {h : Heap} {a : Addr} {L : List El} (R : MS0 w h a L) : ObjOk P w H h a (MSetO w a L) := by
  have R2 := R
  obtain ⟨es, ep, t, ⟨o, ho, _⟩, _⟩ := R2
  refine ⟨R, ⟨o, ho⟩, fun h1 h2 r k => ?_⟩
  obtain ⟨es, ep, t, ⟨o, ho, z⟩, rest⟩ := r
  exact ⟨es, ep, t, ⟨o, k _ ho, z⟩, rest⟩
theorem mset_fresh {w : World} {h : Heap} {a : Addr} (ho : h.get? a = some { cls := .type "set", dict := none, data := .set #[] 0 (.fresh 0 0 (!w.params.followText "set-order")) }) : MS0 w h a [] := by
  refine ⟨#[], 0, _, ⟨_, ho, ⟨rfl, rfl, rfl⟩, rfl⟩, rfl, ⟨List.Pairwise.nil, rfl, rfl, .inl rfl, fun x hx => (by cases hx), fun i h j hi => (by simp at hi)⟩, List.nodup_nil, ?_, (show 0 * 5 < 7 * 3 by decide), (show 0 < 64 by decide)⟩
  show _ ∨ (!w.params.followText "set-order") = true
  cases w.params.followText "set-order"
  · exact .inr rfl
  · exact .inl rfl
theorem items_keys {P : Program} {w : World} : ∀ {k : List Key} {us : List Value}, Vals (k.map kV) us → ItemsAre (mixKind P w) k us
  | [], _, .nil => .nil
  | _ :: _, _, .cons r t => .cons (kV_is (P := P) (w := w) r) (items_keys t)
/-- set() -/
def rSetNew (w : World) : List V → Hp → VK → Prop := fun xs H Q => xs = [] ∧ ∀ p, H p = none → Q (.ref p) (upd H p (MSetO w p []))
/-- x in s, x a tuple of texts and ints -/
def rInM (K : PySem.W.Frag) (w : World) (neg : Bool) : R2 := fun x y H Q => ∃ (t a : Addr) (k : List Key) (L : List El), x = .ref t ∧ y = .ref a ∧ H a = some (MSetO w a L) ∧ SqT K H t (k.map kV) ∧ (∀ p ∈ L, SqT K H p.1 (p.2.map kV)) ∧ Q (.bl (if neg then !hasK L k else hasK L k)) H
inductive InU2 (K : PySem.W.Frag) (w : World) (neg : Bool) (x y : V) (H : Hp) (Q : VK) : Prop where
  | one (q : rInU K w neg x y H Q)
  | set (q : rInM K w neg x y H Q)
def rIn2 (K : PySem.W.Frag) (w : World) (neg : Bool) : R2 := fun x y H Q => InU2 K w neg x y H Q
/-- s.add(x) -/
def rAddM (K : PySem.W.Frag) (w : World) : V → List V → Hp → VK → Prop := fun x xs H Q => ∃ (t a : Addr) (k : List Key) (L : List El), x = .ref a ∧ xs = [.ref t] ∧ H a = some (MSetO w a L) ∧ SqT K H t (k.map kV) ∧ (∀ p ∈ L, SqT K H p.1 (p.2.map kV)) ∧ L.length + 1 < 64 ∧
  ∀ L', (k ∈ L.map (·.2) → L' = L) → (k ∉ L.map (·.2) → L'.Perm ((t, k) :: L)) → Q .non (upd H a (MSetO w a L'))
def tAddM (K : PySem.W.Frag) (w : World) (to : TE) (t : TA) : TE := fun σ H Q => to σ H fun x H1 => (∃ a L, x = V.ref a ∧ H1 a = some (MSetO w a L)) ∧ t σ H1 fun xs H2 => rAddM K w x xs H2 Q
section
variable {X : Cx}
theorem key_tup {pins : List (Addr × Obj)} {σ : L2.St} {H : Hp} {s : Shared} {t : Addr} {k : List Key} (I : Inv X pins σ H s) (h : SqT X.K H t (k.map kV)) : KeysAt X.prog X.w s.heap k t := by
  obtain ⟨its, r, ⟨o, ho, hc, n, hd⟩, _⟩ := I.tuple h
  exact ⟨o, its.toArray, n, ho, hc, hd, by simpa using items_keys r⟩
theorem cr_setNew : CallR X (.type "set") (rSetNew X.w) := by
  intro pins s σ H xs us Q I r h
  obtain ⟨rfl, q⟩ := h
  cases r
  refine setR_new fun _ => ?_
  exact ⟨.ref _, upd H s.heap.objs.size (MSetO X.w s.heap.objs.size []), I.laid (t' := s.toks) (fun b u e => Heap.get?_push_of_some _ e) (Nat.le_refl _) (msetO_ok (mset_fresh (Heap.get?_push_size _ rfl))), rfl, q _ (I.hok.fresh (Nat.le_refl _))⟩
theorem has_set {P : Program} {w : World} {A : Around} {E : Value → Shared → Prop} {s : Shared} {a t : Addr} {k : List Key} {L : List El} {es ep tb} {Q : Bool → Shared → Prop} (R : MSet P w s.heap a L es ep tb) (hx : KeysAt P w s.heap k t) (hu : A.units + 16 < cLine)
    (q : ∀ tk, Q (hasK L k) { s with toks := tk }) : wpAny (model P w) A (contains (.ref a) (.ref t)) Q E s := by
  have ty : s.TypeIs (.ref a) "set" := let ⟨o, ho, hc, _⟩ := R.ob; ⟨o, ho, hc.1⟩
  unfold contains
  try with_reducible refine wpAny_holding ?_
  refine wpAny_bind (wpAny_specialOf ty F.slot_set_contains.lookup ?_)
  show wpAny _ _ (if (some (Value.builtin "set.__contains__") == some Value.none) = true then _ else _) _ E s
  rw [if_neg (by rw [beq_builtin_none]; exact Bool.false_ne_true)]
  refine wpAny_bind (wpAny_callSpecialUnlessNone?_slot (name := Str.ofString "__contains__") ty F.slot_set_contains
    (wpAny_call_entry F.slot_set_contains ty entry_set_contains ?_ (F.args_set_contains_2 _ _)))
  unfold Builtin.«frozenset.__contains__» Builtin.Frozenset.oneOther
  simp only [List.isEmpty_nil, bind_assoc]
  unfold Builtin.Frozenset.addrOf Builtin.Frozenset.withSetAsKey setContains
  refine wpAny_bind (wpAny_pure ?_)
  try dsimp only
  refine wpAny_bind (wpAny_pure ?_)
  try dsimp only
  refine wpAny_bind (wpAny_tryCatch ?_)
  refine wpAny_holding ?_
  refine wpAny_bind (wpAny_pyHash_tuple ?_ hx ?_)
  · show A.units + 1 < cLine
    omega
  refine wpAny_bind (ask_find (s := { s with toks := s.toks + (k.length + 1) }) R hx ?_ fun r hr => ?_)
  · show A.units + 1 < cLine
    omega
  refine wpAny_pure ?_
  show wpAny _ _ (ret (Value.bool r.isSome)) _ _ _
  rw [hr]
  exact wpAny_pure ⟨_, rfl, wpAny_truthy_bool (q _)⟩
theorem op_inM (hu : X.A.units + 64 < cLine) : OpR X (compareOp .In) (rInM X.K X.w false) := by
  intro pins s σ H x y v u Q I rx ry h
  obtain ⟨t, a, k, L, rfl, rfl, ha, ht, hL, q⟩ := h
  cases rx
  cases ry
  have R0 : MS0 X.w s.heap a L := (I.hok a _ ha).1
  obtain ⟨es, ep, tb, R⟩ := R0.full fun p hp => key_tup I (hL p hp)
  show wpAny _ _ (do return Value.bool (← contains (.ref a) (.ref t))) _ _ s
  exact wpAny_bind (has_set R (key_tup I ht) (by omega) fun tk => wpAny_pure ⟨.bl (hasK L k), H, I.kept (t' := tk) (fun _ _ z => z), rfl, q⟩)
theorem op_notinM (hu : X.A.units + 64 < cLine) : OpR X (compareOp .NotIn) (rInM X.K X.w true) := by
  intro pins s σ H x y v u Q I rx ry h
  obtain ⟨t, a, k, L, rfl, rfl, ha, ht, hL, q⟩ := h
  cases rx
  cases ry
  have R0 : MS0 X.w s.heap a L := (I.hok a _ ha).1
  obtain ⟨es, ep, tb, R⟩ := R0.full fun p hp => key_tup I (hL p hp)
  show wpAny _ _ (do return Value.bool (!(← contains (.ref a) (.ref t)))) _ _ s
  exact wpAny_bind (has_set R (key_tup I ht) (by omega) fun tk => wpAny_pure ⟨.bl (!hasK L k), H, I.kept (t' := tk) (fun _ _ z => z), rfl, q⟩)
theorem op_in2 (hu : X.A.units + 64 < cLine) : OpR X (compareOp .In) (rIn2 X.K X.w false) := by
  intro pins s σ H x y v u Q I rx ry q
  cases q with
  | one q => exact op_inU (by omega) pins s σ H x y v u Q I rx ry q
  | set q => exact op_inM hu pins s σ H x y v u Q I rx ry q
theorem op_notin2 (hu : X.A.units + 64 < cLine) : OpR X (compareOp .NotIn) (rIn2 X.K X.w true) := by
  intro pins s σ H x y v u Q I rx ry q
  cases q with
  | one q => exact op_notinU (by omega) pins s σ H x y v u Q I rx ry q
  | set q => exact op_notinM hu pins s σ H x y v u Q I rx ry q
theorem mt_addM (hu : X.A.units + 64 < cLine) : MtR X "set.add" (rAddM X.K X.w) := by
  intro pins s σ H x xs v us Q I rx rxs h
  obtain ⟨t, a, k, L, rfl, rfl, ha, ht, hL, few, q⟩ := h
  cases rx
  obtain ⟨u, rfl, ru⟩ := vals1 rxs
  cases ru
  have R0 : MS0 X.w s.heap a L := (I.hok a _ ha).1
  obtain ⟨es, ep, tb, R⟩ := R0.full fun p hp => key_tup I (hL p hp)
  have ty : s.TypeIs (.ref a) "set" := let ⟨o, ho, hc, _⟩ := R.ob; ⟨o, ho, hc.1⟩
  refine wpAny_call_entry F.slot_set_add ty F.entry_set_add ?_ (F.args_set_add_2 _ _)
  unfold Builtin.«set.add» Builtin.Frozenset.oneOther
  simp only [List.isEmpty_nil, bind_assoc]
  unfold Builtin.Frozenset.addrOf setAdd
  refine wpAny_bind (wpAny_pure ?_)
  try dsimp only
  refine wpAny_bind (wpAny_pure ?_)
  try dsimp only
  refine wpAny_bind ?_
  refine wpAny_holding ?_
  refine wpAny_bind (wpAny_pyHash_tuple (by show X.A.units + 1 < cLine; omega) (key_tup I ht) ?_)
  refine add_keys (s := { s with toks := s.toks + (k.length + 1) }) R (show KeysAt X.prog X.w s.heap k t from key_tup I ht) (by show X.A.units + 1 < cLine; omega) few fun b h' L' es' ep' t' sb R' h1 h2 => ?_
  show wpAny _ _ (ret Value.none) _ _ _
  have he : ∃ u, h'.get? a = some u := by
    obtain ⟨o, ho, _⟩ := R'.ob
    exact ⟨o, ho⟩
  exact wpAny_pure ⟨_, rfl, ⟨.non, upd H a (MSetO X.w a L'), I.write (e := a) (t' := s.toks + (k.length + 1)) (by rw [ha]; trivial) (.inl rfl) (fun b u hb hu => (sb.2 b hb).trans hu) he (msetO_ok R'.less), rfl, q L' h1 h2⟩⟩
variable {o e : Expr} {es : List Expr} {to : TE} {t : TA} {apos cpos : Pos}
theorem pe_addM (hu : X.A.units + 64 < cLine) (ho : PE X o to) (ha : PA X (e :: es) t)
    (hbase : attributeBase o "add" X.env (eval o X.env) = eval o X.env := by rfl)
    (hfew : ((backTo cpos (starEach (e :: es) X.env)).all (fun x => !x.1) && (backToKw cpos (keywordEach [] X.env)).all (fun x => x.1.isSome) && decide ((e :: es).length + ([] : List Keyword).length + (if ([] : List Keyword).isEmpty then 0 else 1) < 30)) = true := by rfl)
    (hline : (apos.endLine == cpos.line) = true := by rfl) (hs : starEach (e :: es) X.env = (false, eval e X.env) :: starEach es X.env := by rfl) (hplain : (backTo cpos (starEach es X.env)).any (·.1) = false := by rfl) :
    PE X (.Call (.Attribute o "add" apos) (e :: es) [] cpos) (tAddM X.K X.w to t) := by
  refine ⟨fun pins s σ H Q I h => ?_⟩
  refine wpAny_Call_method_late hbase hfew hline rfl (thn (ho.run pins s σ H _ I h) fun v s1 ⟨x, H1, I1, r1, ty, q1⟩ => ?_)
  obtain ⟨a, L, rfl, hka⟩ := ty
  have R0 : MS0 X.w s1.heap a L := (I1.hok a _ hka).1
  obtain ⟨_, _, _, ⟨ob, hob, hex, _⟩, _⟩ := R0
  cases r1
  refine ⟨"set", "set.add", F.plainAttrs_set, F.slot_set_add, F.type_set_add, ⟨ob, hob, hex.1⟩, fun b e => ?_, ?_⟩
  · cases e
    exact ⟨ob, hob, hex.2.1⟩
  have hA := ha.run cpos pins s1 σ H1 _ I1 q1
  rw [hs] at hA ⊢
  refine Calls.callWith_builtin (by show (false || (backTo cpos (starEach es X.env)).any (·.1)) = false; rw [hplain] <;> rfl) (Calls.evalArgs_plain ?_)
  exact thn hA fun us s2 ⟨vs, H2, I2, r2, q2⟩ => mt_addM hu pins s2 σ H2 (.ref a) vs (.ref a) us Q I2 rfl r2 q2
end
end U
end
section
set_option Elab.async false
set_option linter.all false
set_option maxRecDepth 100000
set_option maxHeartbeats 4000000
namespace U
open PySem PySem.Spec PyProof.Rows L2
abbrev TxK (P : Program) (w : World) := PySem.strKind P w
/-- the first i of them -/
def inT (xs : List Str) (i : Nat) (k : Str) : Bool := (xs.take i).any (· == k)
theorem inT_next {xs : List Str} {i : Nat} (nd : xs.Nodup) (h : i < xs.length) : inT xs i xs[i] = false ∧ ∀ k, inT xs (i + 1) k = (inT xs i k || decide (k = xs[i])) := by
  constructor
  · cases e : inT xs i xs[i] with
    | false => rfl
    | true =>
      obtain ⟨y, hy, e2⟩ := List.any_eq_true.mp e
      have e3 : y = xs[i] := by simpa using e2
      obtain ⟨j, hj, ej⟩ := List.getElem_of_mem hy
      rw [List.length_take] at hj
      rw [List.getElem_take, e3] at ej
      exact absurd ej (List.pairwise_iff_getElem.mp nd j i (by omega) h (by omega))
  · intro k
    unfold inT
    rw [← List.take_append_getElem h, List.any_append]
    congr 1
    by_cases e : k = xs[i]
    · rw [e]; simp
    · rw [decide_eq_false e]
      have e' : (xs[i] == k) = false := by simpa [beq_iff_eq] using fun z : xs[i] = k => e z.symm
      simp [e']
section
variable {P : Program} {w : World} {A : Around} {I : Addr} {fp wr : List Addr} {G : Array GenState → Array GenState → Prop} {n : Nat} {Pv : Nat → Value → Prop} {St : Nat → Shared → Prop}
theorem fill_texts (W : WalksS P w A.in1 I fp wr G n Pv St) {S : Addr} (hS : S ∉ fp) {xs : List Str} (hl : xs.length = n) (nd : xs.Nodup) (hn : n + 1 < scanBound) (hv : ∀ i v, Pv i v → ∃ t, v = .str (xs.getD i Str.empty) t) {R : Result → Shared → Prop} :
    ∀ (m i : Nat) (s : Shared), i + m = n → St i s → s.heap.SetOf (TxK P w) S (inT xs i) i → (∀ s', Moved (S :: wr) G s s' → s'.heap.SetOf (TxK P w) S (inT xs n) n → R (.ok (.ret .none)) s') →
      codeAny (model P w) A (.builtin "set.update.loop" ⟨[.ref S, .ref I], []⟩) R s
  | 0, i, s, hi, st, so, q => by
    have e : i = n := by omega
    subst e
    refine codeAny_builtin PyProof.Rows.F.entry_set_update_loop ?_
    rw [Around.under_plainId PyProof.Rows.F.plain_set_update_loop _]
    show wpAny _ A.in1 (pyNext (.ref I) >>= _) _ _ s
    refine wpAny_bind (W.done s _ _ st fun s' mv => ?_)
    refine wpAny_pure (q s' (mv.mono fun b hb => List.mem_cons_of_mem _ hb) ?_)
    obtain ⟨o, es, ep, t, ho, more⟩ := so
    exact ⟨o, es, ep, t, mv.heap S _ (fun z => hS (W.sub _ z)) ho, more⟩
  | m + 1, i, s, hi, st, so, q => by
    have lt : i < n := by omega
    have lx : i < xs.length := by omega
    refine codeAny_builtin PyProof.Rows.F.entry_set_update_loop ?_
    rw [Around.under_plainId PyProof.Rows.F.plain_set_update_loop _]
    show wpAny _ A.in1 (pyNext (.ref I) >>= _) _ _ s
    refine wpAny_bind (W.item i s _ _ lt st fun v s1 hp st1 mv => ?_)
    obtain ⟨t, rfl⟩ := hv i v hp
    have ex : xs.getD i Str.empty = xs[i] := by simp [List.getD, List.getElem?_eq_getElem lx]
    rw [ex]
    have so1 : s1.heap.SetOf (TxK P w) S (inT xs i) i := by
      obtain ⟨o, es, ep, t, ho, more⟩ := so
      exact ⟨o, es, ep, t, mv.heap S _ (fun z => hS (W.sub _ z)) ho, more⟩
    show wpAny _ A.in1 (holding [Value.str xs[i] t] (setAdd S (.str xs[i] t)) >>= _) _ _ s1
    refine wpAny_bind (wpAny_holding ?_)
    unfold setAdd
    refine wpAny_holding (wpAny_bind ((TxK P w).pyHash (k := xs[i]) (strKind_is _ _ _ _) ?_))
    refine wpAny_setAddHashed_of (knd := TxK P w) (s := { s1 with toks := s1.toks + 1 }) (strKind_is _ _ _ _) rfl so1 (by omega) fun h' sb so2 => ?_
    obtain ⟨n1, n2⟩ := inT_next nd lx
    have so3 : h'.SetOf (TxK P w) S (inT xs (i + 1)) (i + 1) := SetOf_congr so2 (fun k => (n2 k).symm) (by rw [n1]; rfl)
    refine wpAny_pure ⟨plainId_quiet PyProof.Rows.F.plain_set_update_loop _, fill_texts W hS hl nd hn hv m (i + 1) _ (by omega) (W.frame _ s1 _ _ st1 (Nat.le_succ _) fun b hb o e => ?_) so3 fun s2 mv2 so4 => ?_⟩
    · exact (sb.2 b fun z => hS (z ▸ hb)).trans e
    · refine q s2 (Moved.trans W.gtrans ((mv.mono fun b hb => List.mem_cons_of_mem _ hb).then_heap (Nat.le_succ _) fun b o hb e => ?_) mv2) so4
      exact (sb.2 b fun z => hb (z ▸ List.mem_cons_self)).trans e
end
section
variable {P : Program} {w : World} {A : Around} {E : Value → Shared → Prop} {s : Shared}
/-- set(t), t a tuple of unlike texts -/
theorem set_of_tuple {l : Addr} {its : Array Value} {xs : List Str} {Q : Value → Shared → Prop} (hh : A.handled = none) (ht : s.heap.IsTuple l its) (hi : PyProof.Rows.StrsAre its.toList xs) (nd : xs.Nodup) (few : xs.length + 1 < scanBound)
    (q : ∀ (h' : Heap) (tk : Nat), h'.SetOf (TxK P w) s.heap.objs.size (inT xs xs.length) xs.length → (∀ b o, s.heap.get? b = some o → h'.get? b = some o) → Q (.ref s.heap.objs.size) { s with heap := h', toks := tk }) :
    wpAny (model P w) A (call (.type "set") [.ref l]) Q E s := by
  obtain ⟨c, tl, hmro⟩ := PySem.F.called_set.mro
  have hmade := PySem.F.called_set.made
  have hsub := PySem.F.called_set.sub
  refine wpAny_call (codeAny_of_tree ?_)
  show wpAny _ _ (callAny (.type "set") _) _ _ _
  refine wpAny_pure ⟨Code.quiet_builtin _ (by decide +kernel), codeAny_builtin PySem.F.entry_type_call ?_⟩
  rw [Around.under_plain (weight_type_call_type "set" [.ref l] []) rfl]
  have c1 := PySem.F.called_set.notType
  have c2 := PySem.F.called_set.canCreate
  have c3 := PySem.F.typeCall_set_1 (.ref l)
  repeat (any_goals (first | assumption | wp_step))
  refine codeAny_mono (code_set_new_1 (.ref l) (E := E) (Q₁ := fun obj s₁ => ∃ led : Bool, obj = .ref s.heap.objs.size ∧ s₁ = { s with heap := s.heap.push { cls := .type "set", dict := none, data := .set #[] 0 (.fresh 0 0 led) } }) fun led => ⟨led, rfl, rfl⟩) fun r s₁ hr => ?_
  cases r with
  | error e => exact hr
  | ok fl =>
    cases fl with
    | ret obj =>
      obtain ⟨led, rfl, rfl⟩ := hr
      have new : (s.heap.push { cls := .type "set", dict := none, data := .set #[] 0 (.fresh 0 0 led) }).get? s.heap.objs.size = some { cls := .type "set", dict := none, data := .set #[] 0 (.fresh 0 0 led) } := Heap.get?_push_size _ rfl
      have ty : Shared.TypeIs { s with heap := s.heap.push { cls := .type "set", dict := none, data := .set #[] 0 (.fresh 0 0 led) } } (.ref s.heap.objs.size) "set" := ⟨_, new, rfl⟩
      have hli := PySem.F.called_set.init.lookup
      have hbi := PySem.F.called_set.init.bind (.ref s.heap.objs.size)
      repeat (any_goals (first | assumption | wp_step))
      refine codeAny_mono (codeAny_call_builtin (R := wants (fun r s₂ => r = .none ∧ ∃ h' tk, s₂ = { s with heap := h', toks := tk } ∧ h'.SetOf (TxK P w) s.heap.objs.size (inT xs xs.length) xs.length ∧ ∀ b o, s.heap.get? b = some o → h'.get? b = some o) E) PySem.F.called_set.init.plain PySem.F.entry_set_init (check_set_init_1 ty ?_)) fun r₂ s₂ hr₂ => ?_
      · obtain ⟨ol, hol, hcl, nl, hdl⟩ := ht
        obtain ⟨ocls, odict, odata, oslots⟩ := ol
        simp only at hcl hdl
        subst hcl; subst hdl
        have hol' : (s.heap.push { cls := .type "set", dict := none, data := .set #[] 0 (.fresh 0 0 led) }).get? l = some { cls := .type "tuple", dict := odict, data := .seq its nl, slots := oslots } := Heap.get?_push_of_some _ hol
        have s1 := PySem.F.sub_tuple_set
        have s2 := PySem.F.sub_tuple_frozenset
        have s3 : (Value.type "tuple" == Value.type "dict") = false := by decide
        have tup : (s.heap.push { cls := .type "set", dict := none, data := .set #[] 0 (.fresh 0 0 led) }).IsTuple l its := ⟨_, hol', rfl, nl, rfl⟩
        unfold Builtin.«set.__init__» noKeywords Builtin.Frozenset.updateFrom
        generalize hPI : pyIter = PI
        wp_walk
        subst hPI
        refine wpAny_pyIter_tuple tup ?_
        refine wpAny_bind (wpAny_runValue ?_)
        have lt := Heap.lt_size hol
        have sz : (s.heap.push { cls := .type "set", dict := none, data := .set #[] 0 (.fresh 0 0 led) }).objs.size = s.heap.objs.size + 1 := Heap.size_push ..
        have len : xs.length = its.size := by rw [← StrsAre.len_eq hi, Array.length_toList]
        have lt2 : l < s.heap.objs.size := lt
        have a1 : l ≠ (s.heap.push { cls := .type "set", dict := none, data := .set #[] 0 (.fresh 0 0 led) }).objs.size := by
          rw [sz]; exact Nat.ne_of_lt (Nat.lt_succ_of_lt lt2)
        have a2 : s.heap.objs.size ∉ [(s.heap.push { cls := .type "set", dict := none, data := .set #[] 0 (.fresh 0 0 led) }).objs.size, l] := by
          rw [sz]
          intro z
          rcases List.mem_cons.mp z with z | z
          · exact absurd z (Nat.ne_of_lt (Nat.lt_succ_self _))
          · exact absurd (List.mem_singleton.mp z) (Nat.ne_of_gt lt2)
        refine fill_texts ((Walks.tuple (by simp [hh]) _ l a1 its).toS) (S := s.heap.objs.size) a2 len nd (by omega) (fun i v hv => SS.strs_at hi i v (by rw [Array.getElem?_toList]; exact hv)) its.size 0 _ (by omega)
          ⟨⟨_, Heap.get?_push_size _ rfl, rfl, rfl⟩, (tup.push _)⟩ ?_ fun s' mv so => ?_
        · exact SetOf_congr ((PyProof.Rows.setObjOf_fresh (knd := TxK P w) led).setOf (Heap.get?_push_of_some _ new) (by unfold scanBound; omega)) (fun _ => rfl) rfl
        · obtain ⟨h', g', d', tk', os'⟩ := s'
          obtain rfl : g' = s.gens := mv.gens
          obtain rfl : d' = s.drawn := mv.drawn
          obtain rfl : os' = s.os := mv.os
          show wpAny _ _ _ _ _ _
          refine wpAny_pure ?_
          show wpAny _ _ (ret Value.none) _ _ _
          rw [← len] at so
          refine wpAny_pure ⟨rfl, h', tk', rfl, so, fun b o e => ?_⟩
          have lb := Heap.lt_size e
          have b1 : b ∉ [s.heap.objs.size, (s.heap.push { cls := .type "set", dict := none, data := .set #[] 0 (.fresh 0 0 led) }).objs.size] := by
            rw [sz]
            intro z
            rcases List.mem_cons.mp z with z | z
            · exact absurd z (Nat.ne_of_lt lb)
            · exact absurd (List.mem_singleton.mp z) (Nat.ne_of_lt (Nat.lt_succ_of_lt lb))
          exact mv.heap b o b1 (Heap.get?_push_of_some _ (Heap.get?_push_of_some _ e))
      · cases r₂ with
        | error e => exact hr₂
        | ok fl₂ =>
          cases fl₂ with
          | ret r =>
            obtain ⟨rfl, h', tk, rfl, so, kp⟩ := hr₂
            have z := q h' tk so kp
            repeat (any_goals (first | assumption | wp_step))
          | _ => exact hr₂.elim
    | _ => exact hr.elim
end
section
variable {X : Cx}
def tLenSetD (K : PySem.W.Frag) (ta : TE) : TE := fun σ H Q => ta σ H fun x H1 => ∃ (l : Addr) (xs : List Str), x = V.ref l ∧ SqT K H1 l (xs.map V.str) ∧ xs.Nodup ∧ xs.length ≤ 100 ∧ Q (.int xs.length) H1
theorem pe_lenSetD {a : Expr} {ta : TE} {p p2 q pos : Pos} (hc : X.calm = true) (hg : Gl X "len") (hm : X.mg "len" = none) (hg2 : Gl X "set") (hm2 : X.mg "set" = none) (ha : PE X a ta) (na : starEach [a] X.env = (false, eval a X.env) :: starEach [] X.env := by rfl) :
    PE X (.Call (.Name "len" p) [.Call (.Name "set" p2) [a] [] q] [] pos) (tLenSetD X.K ta) := by
  refine ⟨fun pins s σ H Q I h => Call_ (ld_blt I hg hm boot_len (callWith_builtin1 (args_cons (Call_ (ld_blt I hg2 hm2 boot_set (callWith_type1 (args_cons (thn (ha.run pins s σ H _ I h) fun v s1 ⟨x, H1, I1, r1, q1⟩ => args_nil ?_) na) na rfl))) rfl) rfl rfl))⟩
  obtain ⟨l, xs, rfl, hq, nd, few, q1⟩ := q1
  cases r1
  obtain ⟨its, r, tp, hz⟩ := I1.tuple hq
  refine set_of_tuple (I1.ok.hd hc) tp (by simpa using strsAre_of r) nd (by unfold scanBound; omega) fun h' tk so kp => ?_
  refine args_nil ?_
  obtain ⟨o, es, ep, t, ho, hex, hd, _, _, _, hf, hn⟩ := so
  have I2 : Inv X pins σ H1 { s1 with heap := h', toks := tk } := I1.kept kp
  refine call_len_set ho hex hd hf (by rw [hn]; omega) ⟨.int xs.length, H1, I2.tok _, ⟨_, by rw [hn]⟩, q1⟩
end
end U
end
section
set_option Elab.async false
set_option linter.all false
set_option maxRecDepth 100000
set_option maxHeartbeats 4000000
namespace U
open PySem PySem.Spec PyProof.Rows L2
section
variable {K : PySem.W.Frag} {w : World} {σ : L2.St} {H : Hp} {Q : VK} {D : Ends} {t u : TS} {c d : TT} {ta tb tc : TE} {ar : TA} {QT : Bool → Hp → Prop} {QA : List V → Hp → Prop} {r r' : R2} {v x y : V} {g : TG} {i : Nat} {b : Bool}
/-- a truth, and what follows -/
def BlP (P : Bool → Prop) (x : V) : Prop := ∃ c, x = .bl c ∧ P c
def TruP (K : PySem.W.Frag) (QT : Bool → Hp → Prop) (x : V) (H : Hp) : Prop := ∃ k, TruV K x H k ∧ QT k H
theorem x_seq (h : t { D with nx := u D } σ H) : tSeq t u D σ H := h
theorem x_ifS (h : c σ H fun b H1 => if b = true then t D σ H1 else u D σ H1) : tIfS c t u D σ H := h
theorem x_ret (h : ta σ H D.rt) : tRet ta D σ H := h
theorem x_asg (h : ta σ H fun x H1 => g x σ H1 D.nx) : tAsg ta g D σ H := h
theorem x_drop (h : ta σ H fun _ H1 => D.nx σ H1) : tDrop ta D σ H := h
theorem x_next (h : D.nx σ H) : tNext D σ H := h
theorem x_brk (h : D.bk σ H) : tBreak D σ H := h
theorem x_cont (h : D.ct σ H) : tCont D σ H := h
theorem x_var (h : σ[i]? = some (some v)) (q : Q v H) : tVar i σ H Q := ⟨v, h, q⟩
theorem x_c (q : Q v H) : tC v σ H Q := q
theorem x_op (h : ta σ H fun x H1 => tb σ H1 fun y H2 => r x y H2 Q) : tOp r ta tb σ H Q := h
theorem x_call {sp : Sp} {dvs : List V} {E : XK} (h : ar σ H fun vs H1 => sp (vs ++ dvs) H1 Q E) : tCall sp dvs E ar σ H Q := h
theorem x_cb {f : List V → Hp → VK → Prop} (h : ar σ H fun vs H1 => f vs H1 Q) : tCB f ar σ H Q := h
theorem x_nil (q : QA [] H) : tNil σ H QA := q
theorem x_cons (h : ta σ H fun v H1 => ar σ H1 fun vs H2 => QA (v :: vs) H2) : tCons ta ar σ H QA := h
theorem x_andV (h : ta σ H fun x H1 => BlP (fun c => if c = true then tb σ H1 Q else Q (.bl false) H1) x) : tAndV ta tb σ H Q := h
theorem x_orV (h : ta σ H fun x H1 => BlP (fun c => if c = true then Q (.bl true) H1 else tb σ H1 Q) x) : tOrV ta tb σ H Q := h
theorem x_notV (h : ta σ H fun x H1 => BlP (fun c => Q (.bl (!c)) H1) x) : tNotV ta σ H Q := h
theorem x_and (h : c σ H fun b H1 => if b = true then d σ H1 QT else QT false H1) : tAnd c d σ H QT := h
theorem x_or (h : c σ H fun b H1 => if b = true then QT true H1 else d σ H1 QT) : tOr c d σ H QT := h
theorem x_not (h : c σ H fun b H1 => QT (!b) H1) : tNot c σ H QT := h
theorem x_test (h : ta σ H fun x H' => BlP (fun k => QT k H') x) : tTest ta σ H QT := h
theorem x_tru (h : ta σ H fun x H' => TruP K QT x H') : tTru K ta σ H QT := h
theorem x_chain (h : ta σ H fun x H1 => tb σ H1 fun y H2 => r x y H2 fun z H3 => BlP (fun k => if k = true then tc σ H3 fun w' H4 => r' y w' H4 Q else Q (.bl false) H3) z) : tChain r r' ta tb tc σ H Q := h
theorem x_chT (h : tChain r r' ta tb tc σ H fun x H' => BlP (fun k => QT k H') x) : tChT r r' ta tb tc σ H QT := h
theorem x_if (h : c σ H fun b H1 => if b = true then ta σ H1 Q else tb σ H1 Q) : tIf c ta tb σ H Q := h
theorem x_tup (h : ar σ H fun xs H1 => xs.length ≤ sizeLine ∧ ∀ p, H1 p = none → Q (.ref p) (upd H1 p (.tup xs))) : tTup ar σ H Q := h
theorem x_lst (h : ar σ H fun xs H1 => xs.length ≤ sizeLine ∧ ∀ p, H1 p = none → Q (.ref p) (upd H1 p (.lst xs))) : tLst ar σ H Q := h
theorem x_gname {QS : L2.St → Hp → Prop} (h : QS (σ.set i (some v)) H) : gName i v σ H QS := h
theorem x_yes (q : QT true H) : tYes σ H QT := q
theorem iteNT {A B : Prop} (h : A) : if (!false) = true then A else B := h
theorem iteNF {A B : Prop} (h : B) : if (!true) = true then A else B := h
theorem x_addI {a b : Int} (q : Q (.int (a + b)) H) : rAdd K (.int a) (.int b) H Q := AddU.int rfl rfl q
theorem x_subI {a b : Int} (q : Q (.int (a - b)) H) : rSub (.int a) (.int b) H Q := ⟨a, b, rfl, rfl, q⟩
theorem x_mulI {a b : Int} (c : CMul a b) (q : Q (.int (a * b)) H) : rMul (.int a) (.int b) H Q := MulU.int rfl rfl c q
theorem x_modI {a b : Int} (c : 0 < b) (q : Q (.int (a % b)) H) : rMod (.int a) (.int b) H Q := ⟨a, b, rfl, rfl, c, q⟩
theorem x_divI {a b : Int} (c : CDiv a b) (q : Q (.int (a / b)) H) : rDiv (.int a) (.int b) H Q := ⟨a, b, rfl, rfl, c, q⟩
theorem x_leI {a b : Int} (q : Q (.bl (decide (a ≤ b))) H) : rLeU (.int a) (.int b) H Q := CmpU.int rfl rfl q
theorem x_ltI {a b : Int} (q : Q (.bl (decide (a < b))) H) : rLtU (.int a) (.int b) H Q := CmpU.int rfl rfl q
theorem x_gtI {a b : Int} (q : Q (.bl (decide (b < a))) H) : rGtU (.int a) (.int b) H Q := CmpU.int rfl rfl q
theorem x_geI {a b : Int} (q : Q (.bl (decide (b ≤ a))) H) : rGeU (.int a) (.int b) H Q := CmpU.int rfl rfl q
theorem x_leS {a b : Str} (q : Q (.bl (!decide (b.cps.toList < a.cps.toList))) H) : rLeU (.str a) (.str b) H Q := CmpU.str rfl rfl q
theorem x_eqI {a b : Int} (q : Q (.bl (decide (a = b))) H) : rEqU K false (.int a) (.int b) H Q := EqU.scal rfl (by
  have e : decide (V.int a = V.int b) = decide (a = b) := by simp
  show Q (.bl (decide (V.int a = V.int b))) H
  rw [e]; exact q)
theorem x_eqS {a b : Str} (q : Q (.bl (decide (a = b))) H) : rEqU K false (.str a) (.str b) H Q := EqU.scal rfl (by
  have e : decide (V.str a = V.str b) = decide (a = b) := by simp
  show Q (.bl (decide (V.str a = V.str b))) H
  rw [e]; exact q)
theorem x_neI {a b : Int} (q : Q (.bl (!decide (a = b))) H) : rEqU K true (.int a) (.int b) H Q := EqU.scal rfl (by
  have e : decide (V.int a = V.int b) = decide (a = b) := by simp
  show Q (.bl (!decide (V.int a = V.int b))) H
  rw [e]; exact q)
theorem x_neS {a b : Str} (q : Q (.bl (!decide (a = b))) H) : rEqU K true (.str a) (.str b) H Q := EqU.scal rfl (by
  have e : decide (V.str a = V.str b) = decide (a = b) := by simp
  show Q (.bl (!decide (V.str a = V.str b))) H
  rw [e]; exact q)
theorem x_isN (q : Q (.bl (decide (x = .non))) H) : rIsU false x .non H Q := IsU.non rfl q
theorem x_isnotN (q : Q (.bl (!decide (x = .non))) H) : rIsU true x .non H Q := IsU.non rfl q
theorem x_isT {a b : String} (q : Q (.bl (decide (a = b))) H) : rIsU false (.ty a) (.ty b) H Q := IsU.ty rfl rfl q
theorem x_isnotT {a b : String} (q : Q (.bl (!decide (a = b))) H) : rIsU true (.ty a) (.ty b) H Q := IsU.ty rfl rfl q
theorem x_typ {T : String} (h : TyB K H x T) (q : Q (.ty T) H) : rTyp K [x] H Q := ⟨x, T, rfl, h, q⟩
theorem x_ixT {p : Addr} {xs : List V} {j : Int} (h : SqT K H p xs) (a : atI xs j = some v) (q : Q v H) : rIxU K w (.ref p) (.int j) H Q := IxU.tup rfl rfl h a q
theorem x_ixL {p : Addr} {xs : List V} {j : Int} (h : SqL K H p xs) (a : atI xs j = some v) (q : Q v H) : rIxU K w (.ref p) (.int j) H Q := IxU.lst rfl rfl h a q
theorem x_lenT {p : Addr} {xs : List V} (h : SqT K H p xs) (q : Q (.int (xs.length : Nat)) H) : rLenU K [.ref p] H Q := ⟨_, xs.length, rfl, .inr ⟨xs, h, rfl⟩, q⟩
theorem x_lenL {p : Addr} {xs : List V} (h : SqL K H p xs) (q : Q (.int (xs.length : Nat)) H) : rLenU K [.ref p] H Q := ⟨_, xs.length, rfl, .inl ⟨xs, h, rfl⟩, q⟩
theorem x_lenS {z : Str} (h : z.length ≤ sizeLine) (q : Q (.int (z.length : Nat)) H) : rLenU K [.str z] H Q := ⟨_, z.length, rfl, ⟨h, rfl⟩, q⟩
theorem x_bl {k : Bool} {P : Bool → Prop} (q : P k) : BlP P (V.bl k) := ⟨k, rfl, q⟩
theorem x_trB {k : Bool} (q : QT k H) : TruP K QT (.bl k) H := ⟨k, rfl, q⟩
theorem x_trL {p : Addr} {xs : List V} (h : SqL K H p xs) (q : QT (!xs.isEmpty) H) : TruP K QT (.ref p) H := ⟨_, .inl ⟨xs, h, rfl⟩, q⟩
theorem x_trT {p : Addr} {xs : List V} (h : SqT K H p xs) (q : QT (!xs.isEmpty) H) : TruP K QT (.ref p) H := ⟨_, .inr (.inl ⟨xs, h, rfl⟩), q⟩
end
open Evl (Ex)
theorem SqT.ex {K : PySem.W.Frag} {H H' : Hp} {a : Addr} {xs : List V} (e : Ex H H') (h : SqT K H a xs) : SqT K H' a xs := Evl.ex_t e h
theorem SqL.ex {K : PySem.W.Frag} {H H' : Hp} {a : Addr} {xs : List V} (e : Ex H H') (h : SqL K H a xs) : SqL K H' a xs := Evl.ex_l e h
end U
end
section
set_option Elab.async false
set_option linter.all false
set_option maxRecDepth 100000
set_option maxHeartbeats 4000000
namespace U
open PySem PySem.Spec PyProof.Rows L2
open Evl (Ex)
section
variable {K : PySem.W.Frag} {H H' : Hp}
mutual
theorem dp_ex (e : Ex H H') : ∀ {v : V} {d : PyData}, Dp K H v d → Dp K H' v d
  | _, _, .non => .non
  | _, _, .bl b => .bl b
  | _, _, .int i => .int i
  | _, _, .str x => .str x
  | _, _, .lst h a => .lst (SqL.ex e h) (dpa_ex e a)
  | _, _, .tup h a => .tup (SqT.ex e h) (dpa_ex e a)
theorem dpa_ex (e : Ex H H') : ∀ {vs : List V} {ds : List PyData}, DpAll K H vs ds → DpAll K H' vs ds
  | _, _, .nil => .nil
  | _, _, .cons h a => .cons (dp_ex e h) (dpa_ex e a)
end
theorem dpa_len : ∀ {vs : List V} {ds : List PyData}, DpAll K H vs ds → vs.length = ds.length
  | _, _, .nil => rfl
  | _, _, .cons _ a => congrArg Nat.succ (dpa_len a)
theorem dpa_at : ∀ {vs : List V} {ds : List PyData} {i : Nat} {v : V}, DpAll K H vs ds → vs[i]? = some v → ∃ d, ds[i]? = some d ∧ Dp K H v d
  | _, _, 0, _, .cons h _, e => by simp at e; subst e; exact ⟨_, rfl, h⟩
  | _, _, i + 1, _, .cons _ a, e => by
    obtain ⟨d, h1, h2⟩ := dpa_at (i := i) a (by simpa using e)
    exact ⟨d, by simpa using h1, h2⟩
  | _, _, 0, _, .nil, e => by simp at e
  | _, _, i + 1, _, .nil, e => by simp at e
theorem dpa_snoc : ∀ {vs : List V} {ds : List PyData} {v : V} {d : PyData}, DpAll K H vs ds → Dp K H v d → DpAll K H (vs ++ [v]) (ds ++ [d])
  | _, _, _, _, .nil, h => .cons h .nil
  | _, _, _, _, .cons g a, h => .cons g (dpa_snoc a h)
/-- data that is a tuple stands at an address -/
theorem dp_tupE {v : V} {ds : List PyData} (h : Dp K H v (.tuple ds)) : ∃ p vs, v = .ref p ∧ SqT K H p vs ∧ DpAll K H vs ds := by
  cases h with
  | tup h a => exact ⟨_, _, rfl, h, a⟩
theorem dp_lstE {v : V} {ds : List PyData} (h : Dp K H v (.list ds)) : ∃ p vs, v = .ref p ∧ SqL K H p vs ∧ DpAll K H vs ds := by
  cases h with
  | lst h a => exact ⟨_, _, rfl, h, a⟩
theorem dp_strE {v : V} {x : Str} (h : Dp K H v (.str x)) : v = .str x := by cases h; rfl
theorem dp_intE {v : V} {x : Int} (h : Dp K H v (.int x)) : v = .int x := by cases h; rfl
theorem dpa_consE {vs : List V} {d : PyData} {ds : List PyData} (h : DpAll K H vs (d :: ds)) : ∃ v r, vs = v :: r ∧ Dp K H v d ∧ DpAll K H r ds := by
  cases h with
  | cons h a => exact ⟨_, _, rfl, h, a⟩
theorem dpa_nilE {vs : List V} (h : DpAll K H vs []) : vs = [] := by cases h; rfl
/-- the kind of data -/
def tyD : PyData → String
  | .none => "NoneType"
  | .bool _ => "bool"
  | .int _ => "int"
  | .str _ => "str"
  | .list _ => "list"
  | .tuple _ => "tuple"
  | .dict _ => "dict"
theorem dp_ty {v : V} {d : PyData} (h : Dp K H v d) : TyB K H v (tyD d) := by
  cases h with
  | non => exact .non
  | bl b => exact .bl b
  | int i => exact .int i
  | str x => exact .str x
  | lst h a => exact .lst h
  | tup h a => exact .tup h
end
theorem at0 {α : Type} {xs : List α} {v : α} (h : xs[0]? = some v) : atI xs 0 = some v := atI_nat (j := 0) h
theorem at1 {α : Type} {xs : List α} {v : α} (h : xs[1]? = some v) : atI xs 1 = some v := atI_nat (j := 1) h
theorem at2 {α : Type} {xs : List α} {v : α} (h : xs[2]? = some v) : atI xs 2 = some v := atI_nat (j := 2) h
theorem at3 {α : Type} {xs : List α} {v : α} (h : xs[3]? = some v) : atI xs 3 = some v := atI_nat (j := 3) h
theorem at4 {α : Type} {xs : List α} {v : α} (h : xs[4]? = some v) : atI xs 4 = some v := atI_nat (j := 4) h
theorem at5 {α : Type} {xs : List α} {v : α} (h : xs[5]? = some v) : atI xs 5 = some v := atI_nat (j := 5) h
theorem at6 {α : Type} {xs : List α} {v : α} (h : xs[6]? = some v) : atI xs 6 = some v := atI_nat (j := 6) h
theorem at7 {α : Type} {xs : List α} {v : α} (h : xs[7]? = some v) : atI xs 7 = some v := atI_nat (j := 7) h
def lowC (c : Nat) : Bool := decide (97 ≤ c) && decide (c ≤ 122)
def nameS (s : Str) : Bool := (decide (1 ≤ s.length) && decide (s.length ≤ 8)) && s.cps.toList.all lowC
def nmOf : PyData → Option Str
  | .tuple (.str n :: _) => some n
  | _ => none
/-- the first of the rows that begins with the name -/
def findV : List V → List PyData → Str → V
  | r :: rs, d :: ds, s => if nmOf d = some s then r else findV rs ds s
  | _, _, _ => .non
theorem findV_none : ∀ {vs : List V} {ds : List PyData} {s : Str}, vs.length = ds.length → (∀ d ∈ ds, nmOf d ≠ some s) → findV vs ds s = .non
  | [], [], _, _, _ => rfl
  | v :: vs, d :: ds, s, hl, h => by
    show (if nmOf d = some s then v else findV vs ds s) = .non
    rw [if_neg (h d (List.mem_cons_self ..))]
    exact findV_none (by simpa using hl) fun e he => h e (List.mem_cons_of_mem _ he)
  | [], _ :: _, _, hl, _ => by simp at hl
  | _ :: _, [], _, hl, _ => by simp at hl
theorem findV_some : ∀ {vs : List V} {ds : List PyData} {s : Str} {i : Nat} {d : PyData} {v : V}, vs.length = ds.length → (ds.map nmOf).Nodup → ds[i]? = some d → nmOf d = some s → vs[i]? = some v → findV vs ds s = v
  | [], [], _, i, _, _, _, _, h, _, _ => by simp at h
  | v :: vs, d :: ds, s, 0, d', v', hl, nd, h, hn, hv => by
    simp at h hv; subst h; subst hv
    show (if nmOf d = some s then v else findV vs ds s) = v
    rw [if_pos hn]
  | v :: vs, d :: ds, s, i + 1, d', v', hl, nd, h, hn, hv => by
    have nd2 : nmOf d ∉ ds.map nmOf ∧ (ds.map nmOf).Nodup := by simpa using nd
    have hm : d' ∈ ds := List.mem_of_getElem? (by simpa using h)
    show (if nmOf d = some s then v else findV vs ds s) = v'
    rw [if_neg (fun q => nd2.1 (by rw [q, ← hn]; exact List.mem_map_of_mem hm))]
    exact findV_some (i := i) (by simpa using hl) nd2.2 (by simpa using h) hn (by simpa using hv)
  | [], _ :: _, _, _, _, _, hl, _, _, _, _ => by simp at hl
  | _ :: _, [], _, _, _, _, hl, _, _, _, _ => by simp at hl
theorem findV_ty {K : PySem.W.Frag} {H : Hp} : ∀ {vs : List V} {ds : List PyData} {s : Str}, DpAll K H vs ds → findV vs ds s = .non ∨ ∃ d, d ∈ ds ∧ nmOf d = some s ∧ Dp K H (findV vs ds s) d
  | _, _, s, .nil => .inl rfl
  | v :: vs, d :: ds, s, .cons h a => by
    show (if nmOf d = some s then v else findV vs ds s) = .non ∨ _
    by_cases e : nmOf d = some s
    · right
      refine ⟨d, List.mem_cons_self .., e, ?_⟩
      show Dp K H (if nmOf d = some s then v else findV vs ds s) d
      rw [if_pos e]; exact h
    · rw [if_neg e]
      rcases findV_ty (s := s) a with q | ⟨d', h1, h2, h3⟩
      · exact .inl q
      · right
        refine ⟨d', List.mem_cons_of_mem _ h1, h2, ?_⟩
        show Dp K H (if nmOf d = some s then v else findV vs ds s) d'
        rw [if_neg e]; exact h3
end U
end
section
set_option Elab.async false
set_option linter.all false
set_option maxRecDepth 100000
set_option maxHeartbeats 4000000
namespace U
open PySem PySem.Spec PyProof.Rows L2
open Evl (Ex)
/-- a relation of heaps by which new objects may come, and lists and tuples stay -/
structure Rel (R : Hp → Hp → Prop) : Prop where
  refl : ∀ H, R H H
  trans : ∀ {H H1 H2}, R H H1 → R H1 H2 → R H H2
  chg : ∀ {H H' : Hp} {p : Addr} {o : HO}, R H H' → H p = none → R H (upd H' p o)
  lst : ∀ {H H' : Hp} {p : Addr} {xs : List V}, R H H' → H p = some (.lst xs) → H' p = some (.lst xs)
  tup : ∀ {H H' : Hp} {p : Addr} {xs : List V}, R H H' → H p = some (.tup xs) → H' p = some (.tup xs)
  frz : ∀ {H H' : Hp} {p : Addr} {ob : Obj} {u : HO}, R H H' → H p = some (.frz ob u) → H' p = some (.frz ob u)
  back : ∀ {H H' : Hp} {p : Addr}, R H H' → H' p = none → H p = none
theorem Rel.new {R : Hp → Hp → Prop} (r : Rel R) {H : Hp} {p : Addr} {o : HO} (h : H p = none) : R H (upd H p o) := r.chg (r.refl H) h
theorem Rel.sqL {R : Hp → Hp → Prop} (r : Rel R) {K : PySem.W.Frag} {H H' : Hp} {a : Addr} {xs : List V} (e : R H H') (h : SqL K H a xs) : SqL K H' a xs := by
  rcases h with (h | ⟨o, h⟩) | h
  · exact .inl (.inl (r.lst e h))
  · exact .inl (.inr ⟨o, r.frz e h⟩)
  · exact .inr h
theorem Rel.sqT {R : Hp → Hp → Prop} (r : Rel R) {K : PySem.W.Frag} {H H' : Hp} {a : Addr} {xs : List V} (e : R H H') (h : SqT K H a xs) : SqT K H' a xs := by
  rcases h with (h | ⟨o, h⟩) | h
  · exact .inl (.inl (r.tup e h))
  · exact .inl (.inr ⟨o, r.frz e h⟩)
  · exact .inr h
mutual
theorem Rel.dp {R : Hp → Hp → Prop} (r : Rel R) {K : PySem.W.Frag} {H H' : Hp} (e : R H H') : ∀ {v : V} {d : PyData}, Dp K H v d → Dp K H' v d
  | _, _, .non => .non
  | _, _, .bl b => .bl b
  | _, _, .int i => .int i
  | _, _, .str x => .str x
  | _, _, .lst h a => .lst (r.sqL e h) (Rel.dpa r e a)
  | _, _, .tup h a => .tup (r.sqT e h) (Rel.dpa r e a)
theorem Rel.dpa {R : Hp → Hp → Prop} (r : Rel R) {K : PySem.W.Frag} {H H' : Hp} (e : R H H') : ∀ {vs : List V} {ds : List PyData}, DpAll K H vs ds → DpAll K H' vs ds
  | _, _, .nil => .nil
  | _, _, .cons h a => .cons (Rel.dp r e h) (Rel.dpa r e a)
end
/-- tuples stay -/
structure TupEx (H H' : Hp) : Prop where
  tup : ∀ p xs, H p = some (.tup xs) → H' p = some (.tup xs)
  frz : ∀ p o u, H p = some (.frz o u) → H' p = some (.frz o u)
theorem Rel.tups {R : Hp → Hp → Prop} (r : Rel R) {H H' : Hp} (e : R H H') : TupEx H H' := ⟨fun _ _ h => r.tup e h, fun _ _ _ h => r.frz e h⟩
theorem TupEx.trans {H H1 H2 : Hp} (a : TupEx H H1) (b : TupEx H1 H2) : TupEx H H2 := ⟨fun p xs h => b.tup p xs (a.tup p xs h), fun p o u h => b.frz p o u (a.frz p o u h)⟩
theorem TupEx.chgL {H : Hp} {p : Addr} {xs : List V} {o : HO} (h : H p = some (.lst xs)) : TupEx H (upd H p o) :=
  ⟨fun b ys e => by rw [upd_ne (ne_of e h (fun z => nomatch z))]; exact e, fun b ob u e => by rw [upd_ne (ne_of e h (fun z => nomatch z))]; exact e⟩
theorem TupEx.sqT {K : PySem.W.Frag} {H H' : Hp} {a : Addr} {xs : List V} (e : TupEx H H') (h : SqT K H a xs) : SqT K H' a xs := by
  rcases h with (h | ⟨o, h⟩) | h
  · exact .inl (.inl (e.tup _ _ h))
  · exact .inl (.inr ⟨o, e.frz _ _ _ h⟩)
  · exact .inr h
mutual
def noL : PyData → Bool
  | .none => true
  | .bool _ => true
  | .int _ => true
  | .str _ => true
  | .tuple ds => noLs ds
  | .list _ => false
  | .dict _ => false
def noLs : List PyData → Bool
  | [] => true
  | d :: ds => noL d && noLs ds
end
mutual
theorem TupEx.dp {K : PySem.W.Frag} {H H' : Hp} (e : TupEx H H') : ∀ {v : V} {d : PyData}, Dp K H v d → noL d = true → Dp K H' v d
  | _, _, .non, _ => .non
  | _, _, .bl b, _ => .bl b
  | _, _, .int i, _ => .int i
  | _, _, .str x, _ => .str x
  | _, _, .tup h a, n => .tup (e.sqT h) (TupEx.dpa e a (by simpa [noL] using n))
  | _, _, .lst h a, n => by simp [noL] at n
theorem TupEx.dpa {K : PySem.W.Frag} {H H' : Hp} (e : TupEx H H') : ∀ {vs : List V} {ds : List PyData}, DpAll K H vs ds → noLs ds = true → DpAll K H' vs ds
  | _, _, .nil, _ => .nil
  | _, d :: ds, .cons h a, n => by
    have n2 : noL d = true ∧ noLs ds = true := by simpa [noLs] using n
    exact .cons (TupEx.dp e h n2.1) (TupEx.dpa e a n2.2)
end
theorem ex_rel : Rel Ex where
  refl := Ex.refl
  trans := Ex.trans
  chg := Ex.mut
  lst := fun e h => e _ _ h
  tup := fun e h => e _ _ h
  frz := fun e h => e _ _ h
  back := Evl.fresh_back
/-- a comprehension's turns from the walk J on, its new list at D -/
def LcOk (J : It) (g : TG) (tt : TT) (te : TE) (ix : List Nat) (σ : L2.St) (H : Hp) (D : Addr) (Q : VK) : Prop :=
    ∃ W : Nat → Nat → Hp → Prop, (∃ m, W 0 m (upd H D (.lst []))) ∧ ∀ i m H, W i m H →
      (J.stop i H ∧ Q (.ref D) H) ∨ (J.go i H ∧ ∃ Nx : Hp → Prop, (∀ H', Nx H' → ∃ m', m' < m ∧ W (i + 1) m' H') ∧ ∀ x H', J.yld i H x H' → g x (wipe σ ix) H' fun σ2 H2 => wipe σ2 ix = wipe σ ix ∧ tt σ2 H2 fun b H3 =>
        if b = true then te σ2 H3 fun y H4 => ∃ acc, H4 D = some (.lst acc) ∧ acc.length < sizeLine ∧ Nx (upd H4 D (.lst (acc ++ [y]))) else Nx H3)
theorem x_lc {wi : TI} {g : TG} {tt : TT} {te : TE} {ix : List Nat} {σ : L2.St} {H : Hp} {Q : VK} (h : wi σ H fun J H1 => ∀ D, H1 D = none → LcOk J g tt te ix σ H1 D Q) : tLc wi g tt te ix σ H Q := h
theorem x_anyL {K : PySem.W.Frag} {ta : TE} {σ : L2.St} {H : Hp} {R : It → Hp → Prop} (h : ta σ H fun x H1 => ∃ a, x = .ref a ∧ (∃ xs, SqL K H1 a xs) ∧ R (Itl K a) H1) : iAny K ta σ H R := .inl h
theorem x_anyT {K : PySem.W.Frag} {ta : TE} {σ : L2.St} {H : Hp} {R : It → Hp → Prop} (h : ta σ H fun x H1 => ∃ a, x = .ref a ∧ (∃ xs, SqT K H1 a xs) ∧ R (Itt K a) H1) : iAny K ta σ H R := .inr (.inl h)
theorem x_anyS {K : PySem.W.Frag} {ta : TE} {σ : L2.St} {H : Hp} {R : It → Hp → Prop} (h : ta σ H fun v H1 => ∃ x, v = .str x ∧ R (Its x) H1) : iAny K ta σ H R := .inr (.inr h)
def ForOk (J : It) (g : TG) (tb : TS) (D : Ends) (σ : L2.St) (H : Hp) : Prop :=
    ∃ W : Nat → Nat → L2.St → Hp → Prop, (∃ m, W 0 m σ H) ∧ ∀ i m σ H, W i m σ H →
      (J.stop i H ∧ D.nx σ H) ∨ (J.go i H ∧ ∃ N : L2.St → Hp → Prop, (∀ σ' H', N σ' H' → ∃ m', m' < m ∧ W (i + 1) m' σ' H') ∧ ∀ x H', J.yld i H x H' → g x σ H' fun σ2 H2 => tb { D with nx := N, ct := N, bk := D.nx } σ2 H2)
theorem x_forL {K : PySem.W.Frag} {ta : TE} {g : TG} {tb : TS} {D : Ends} {σ : L2.St} {H : Hp} (h : ta σ H fun x H1 => ∃ a, x = .ref a ∧ (∃ xs, SqL K H1 a xs) ∧ ForOk (Itl K a) g tb D σ H1) : tFor (iAny K ta) g tb D σ H := .inl h
theorem x_forT {K : PySem.W.Frag} {ta : TE} {g : TG} {tb : TS} {D : Ends} {σ : L2.St} {H : Hp} (h : ta σ H fun x H1 => ∃ a, x = .ref a ∧ (∃ xs, SqT K H1 a xs) ∧ ForOk (Itt K a) g tb D σ H1) : tFor (iAny K ta) g tb D σ H := .inr (.inl h)
theorem x_for {wi : TI} {g : TG} {tb : TS} {D : Ends} {σ : L2.St} {H : Hp} (h : wi σ H fun J H1 => ForOk J g tb D σ H1) : tFor wi g tb D σ H := h
section
variable {R : Hp → Hp → Prop} {J : It} {n : Nat} {G : Hp → Prop} {Y : Nat → Hp → V → Hp → Prop} {g : TG} {tt : TT} {te : TE} {σ : L2.St} {H : Hp} {Q : VK} {D : Addr}
/-- a comprehension: A i xs what is known of the items xs at turn i -/
theorem x_lcB (r : Rel R) (wk : Walk J n G Y) (ix : List Nat) (A : Nat → List V → Hp → Prop) (hD : H D = none) (hz : n < 1000000) (hG : ∀ H', R H H' → G H') (h0 : ∀ H', R H H' → A 0 [] H')
    (stab : ∀ i xs acc y H4, H4 D = some (.lst acc) → A i xs H4 → A i xs (upd H4 D (.lst (acc ++ [y]))))
    (he : ∀ (i : Nat) (x : V) (xs : List V) (H' H'' : Hp) (N : Hp → Prop) (Yk : V → Hp → Prop), i < n → R H H' → H' D = some (.lst xs) → xs.length ≤ i → A i xs H' → Y i H' x H'' →
      (∀ H4, R H' H4 → A (i + 1) xs H4 → N H4) → (∀ y H4, R H' H4 → A (i + 1) (xs ++ [y]) H4 → Yk y H4) →
      g x (wipe σ ix) H'' fun σ2 H2 => wipe σ2 ix = wipe σ ix ∧ tt σ2 H2 fun b H3 => if b = true then te σ2 H3 Yk else N H3)
    (q : ∀ xs H', R H H' → H' D = some (.lst xs) → xs.length ≤ n → A n xs H' → Q (.ref D) H') :
    LcOk J g tt te ix σ H D Q := by
  have hs : (1000000 : Nat) < sizeLine := by rw [sizeLine_eq]; decide
  refine lc_it wk (Qd := Q (.ref D)) (fun i H' => R H H' ∧ ∃ xs, H' D = some (.lst xs) ∧ xs.length ≤ i ∧ A i xs H') ⟨r.new hD, [], upd_same, Nat.le_refl _, h0 _ (r.new hD)⟩ (fun i H' _ p => hG H' p.1) ?_ ?_
  · rintro i x H' H'' hi ⟨e, xs, hx, hl, ha⟩ hy
    refine he i x xs H' H'' _ _ hi e hx hl ha hy (fun H4 e4 a4 => ⟨r.trans e e4, xs, r.lst e4 hx, Nat.le_succ_of_le hl, a4⟩) fun y H4 e4 a4 => ⟨xs, r.lst e4 hx, by omega, ?_⟩
    refine ⟨r.chg (r.trans e e4) hD, xs ++ [y], upd_same, by simp; omega, ?_⟩
    exact stab (i + 1) (xs ++ [y]) xs y H4 (r.lst e4 hx) a4
  · rintro H' ⟨e, xs, hx, hl, ha⟩
    exact q xs H' e hx hl ha
/-- .. where that hangs on tuples alone -/
theorem x_lcA (r : Rel R) (wk : Walk J n G Y) (ix : List Nat) (A : Nat → List V → Hp → Prop) (hD : H D = none) (hz : n < 1000000) (hG : ∀ H', R H H' → G H') (h0 : ∀ H', R H H' → A 0 [] H')
    (mono : ∀ i xs H1 H2, TupEx H1 H2 → A i xs H1 → A i xs H2)
    (he : ∀ (i : Nat) (x : V) (xs : List V) (H' H'' : Hp) (N : Hp → Prop) (Yk : V → Hp → Prop), i < n → R H H' → H' D = some (.lst xs) → xs.length ≤ i → A i xs H' → Y i H' x H'' →
      (∀ H4, R H' H4 → A (i + 1) xs H4 → N H4) → (∀ y H4, R H' H4 → A (i + 1) (xs ++ [y]) H4 → Yk y H4) →
      g x (wipe σ ix) H'' fun σ2 H2 => wipe σ2 ix = wipe σ ix ∧ tt σ2 H2 fun b H3 => if b = true then te σ2 H3 Yk else N H3)
    (q : ∀ xs H', R H H' → H' D = some (.lst xs) → xs.length ≤ n → A n xs H' → Q (.ref D) H') :
    LcOk J g tt te ix σ H D Q :=
  x_lcB r wk ix A hD hz hG h0 (fun i xs acc y H4 h4 ha => mono i xs H4 _ (TupEx.chgL h4) ha) he q
end
end U
namespace U
open PySem PySem.Spec PyProof.Rows L2
open Evl (Ex)
section
variable {R : Hp → Hp → Prop} {J : It} {n : Nat} {G : Hp → Prop} {Y : Nat → Hp → V → Hp → Prop} {g : TG} {te : TE} {σ : L2.St} {H : Hp} {Q : VK} {D : Addr}
/-- a comprehension without a test whose items are known ahead -/
theorem x_lcM (r : Rel R) (wk : Walk J n G Y) (ix : List Nat) (ys : List V) (hl : ys.length = n) (hD : H D = none) (hz : n < 1000000) (hG : ∀ H', R H H' → G H')
    (he : ∀ (i : Nat) (x y : V) (H' H'' : Hp) (Yk : V → Hp → Prop), ys[i]? = some y → R H H' → Y i H' x H'' → (∀ H4, R H' H4 → Yk y H4) → g x (wipe σ ix) H'' fun σ2 H2 => wipe σ2 ix = wipe σ ix ∧ te σ2 H2 Yk)
    (q : ∀ H', R H H' → H' D = some (.lst ys) → Q (.ref D) H') :
    LcOk J g tYes te ix σ H D Q := by
  refine x_lcA (tt := tYes) r wk ix (fun i xs _ => xs = ys.take i) hD hz hG (fun _ _ => by simp) (fun _ _ _ _ _ h => h) (fun i x xs H' H'' N Yk hi e _ _ ha hy _ hk => ?_) (fun xs H' e h hx ha => ?_)
  · have hi2 : i < ys.length := by omega
    have hyi : ys[i]? = some ys[i] := by simp [hi2]
    have z := he i x ys[i] H' H'' Yk hyi e hy fun H4 e4 => hk _ H4 e4 (by rw [ha]; exact (List.take_append_getElem hi2))
    exact z
  · have e2 : xs = ys := by rw [ha, ← hl, List.take_length]
    rw [e2] at h
    exact q H' e h
end
end U
namespace U
open PySem PySem.Spec PyProof.Rows L2
/-- a for over n turns, by its invariant -/
theorem forOk {J : It} {n : Nat} {G : Hp → Prop} {Y : Nat → Hp → V → Hp → Prop} (wk : Walk J n G Y) {g : TG} {tb : TS} {D : Ends} {σ : L2.St} {H : Hp} (Pv : Nat → L2.St → Hp → Prop) (h0 : Pv 0 σ H) (hG : ∀ i σ H, i ≤ n → Pv i σ H → G H)
    (hs : ∀ i x σ H H', i < n → Pv i σ H → Y i H x H' → g x σ H' fun σ2 H2 => tb { D with nx := Pv (i + 1), ct := Pv (i + 1), bk := D.nx } σ2 H2) (hd : ∀ σ H, Pv n σ H → D.nx σ H) : ForOk J g tb D σ H := for_it wk Pv h0 hG hs hd
end U
namespace U
open PySem PySem.Spec PyProof.Rows L2
section
variable {K : PySem.W.Frag} {σ : L2.St} {H : Hp} {ta : TA} {g : TG} {tb : TS} {D : Ends} {QS : L2.St → Hp → Prop}
theorem x_forEL (h : ta σ H fun vs H1 => ∃ a xs, vs = [.ref a] ∧ SqL K H1 a xs ∧ ForOk (Ite K a) g tb D σ H1) : tFor (iEnumU K ta) g tb D σ H := .inl h
theorem x_forET (h : ta σ H fun vs H1 => ∃ a xs, vs = [.ref a] ∧ SqT K H1 a xs ∧ ForOk (IteT K a) g tb D σ H1) : tFor (iEnumU K ta) g tb D σ H := .inr h
theorem x_gtup2 {T : Addr} {x y : V} {i j : Nat} (h : SqT K H T [x, y]) (q : QS ((σ.set i (some x)).set j (some y)) H) : gTup K 2 (gCons (gName i) (gCons (gName j) gNil)) (.ref T) σ H QS :=
  ⟨T, _, rfl, h, rfl, x, _, rfl, y, _, rfl, rfl, q⟩
theorem x_app {l : Addr} {xs : List V} {v : V} {QV : VK} (h : H l = some (.lst xs)) (hl : xs.length < sizeLine) (q : QV .non (upd H l (.lst (xs ++ [v])))) : rAppend (.ref l) [v] H QV := ⟨l, xs, v, rfl, rfl, h, hl, q⟩
theorem x_bm {T : String} {r : V → List V → Hp → VK → Prop} {to : TE} {t : TA} {Q : VK} (h : to σ H fun x H1 => tyV K T x H1 ∧ t σ H1 fun xs H2 => r x xs H2 Q) : tBM K T r to t σ H Q := h
theorem tyL {l : Addr} {xs : List V} (h : SqL K H l xs) : tyV K "list" (.ref l) H := .inl ⟨rfl, _, h⟩
end
end U
end
section
set_option Elab.async false
set_option linter.all false
set_option maxRecDepth 100000
set_option maxHeartbeats 4000000
namespace U
open PySem PySem.Spec PyProof.Rows L2
/-- a text of one sign, so many times -/
def timesS (c : Nat) (n : Nat) : Str := ⟨(List.replicate n c).toArray⟩
theorem foldl_rep1 (c : Nat) : ∀ (n : Nat) (a : Array Nat), (List.replicate n #[c]).foldl (· ++ ·) a = a ++ (List.replicate n c).toArray
  | 0, a => by simp
  | n + 1, a => by
    rw [List.replicate_succ, List.foldl_cons, foldl_rep1 c n]
    apply Array.toList_inj.mp
    simp [List.replicate_succ]
inductive MulS (x y : V) (H : Hp) (Q : VK) : Prop where
  | one (q : rMul x y H Q)
  | str {c n : Nat} (ex : x = .str ⟨#[c]⟩) (ey : y = .int ((n : Nat) : Int)) (h1 : 1 ≤ n) (h2 : n ≤ 1000) (q : Q (.str (timesS c n)) H)
def rMul2 : R2 := fun x y H Q => MulS x y H Q
theorem rMul_of {x y : V} {H : Hp} {Q : VK} (q : rMul x y H Q) : rMul2 x y H Q := .one q
def PlT (H : Hp) (a : Addr) (xs : List V) : Prop := ∃ o, H a = some (.frz o (.tup xs)) ∧ o.dict = none ∧ o.cls = .type "tuple"
inductive Tup2 (K : PySem.W.Frag) (xs : List V) (H : Hp) (Q : VK) : Prop where
  | lst {p : Addr} {ys : List V} (e : xs = [.ref p]) (h : SqL K H p ys) (q : ∀ l o, o.dict = none → o.cls = .type "tuple" → H l = none → Q (.ref l) (upd H l (.frz o (.tup ys))))
  | tup {p : Addr} {ys : List V} (e : xs = [.ref p]) (h : SqT K H p ys) (q : Q (.ref p) H)
def rTup2 (K : PySem.W.Frag) : List V → Hp → VK → Prop := fun xs H Q => Tup2 K xs H Q
inductive DictP2 (K : PySem.W.Frag) (xs : List V) (H : Hp) (Q : VK) : Prop where
  | mk {a : Addr} {ps : List Addr} {kvs : List (Key × V)} (e : xs = [.ref a]) (h : SqL K H a (ps.map V.ref) ∨ PlT H a (ps.map V.ref)) (hp : Paired (fun p kv => SqT K H p [kV kv.1, kv.2]) ps kvs)
      (q : ∀ p, H p = none → Q (.ref p) (upd H p (.dK (mergeK [] kvs))))
def rDict2 (K : PySem.W.Frag) : List V → Hp → VK → Prop := fun xs H Q => DictP2 K xs H Q
section
variable {X : Cx}
theorem op_mul2 : OpR X (binaryOp .Mult) rMul2 := by
  intro pins s σ H x y v u Q I rx ry q
  cases q with
  | one q => exact op_mulU pins s σ H x y v u Q I rx ry q
  | @str c n ex ey h1 h2 q =>
    subst ex; subst ey
    obtain ⟨t, rfl⟩ := rx
    obtain ⟨t2, rfl⟩ := ry
    have hl : (⟨#[c]⟩ : Str).length = 1 := rfl
    have eT : (⟨(List.replicate ((n : Nat) : Int).toNat (⟨#[c]⟩ : Str).cps).foldl (· ++ ·) #[]⟩ : Str) = timesS c n := by
      unfold timesS
      show (⟨(List.replicate ((n : Nat) : Int).toNat #[c]).foldl (· ++ ·) #[]⟩ : Str) = _
      rw [foldl_rep1, Int.toNat_natCast]
      simp
    refine PySem.P.mul_str (by rw [decide_eq_false (show ¬ ((n : Nat) : Int) < -(2 ^ 63 : Int) by omega), decide_eq_false (show ¬ ((n : Nat) : Int) ≥ 2 ^ 63 by omega)]; rfl) (fun _ _ => ?_) (fun _ _ => ?_) ?_
    · rw [hl]
      have : (2 ^ 63 - 1 : Int) / ((n : Nat) : Int) ≥ 1 := by
        apply Int.le_ediv_of_mul_le <;> omega
      omega
    · rw [hl, Int.toNat_natCast, Nat.one_mul]
      show decide (n > sizeLine) = false
      refine decide_eq_false ?_
      rw [sizeLine_eq]; omega
    · rw [if_neg (by omega)]
      by_cases e1 : n = 1
      · subst e1
        have e2 : ((((1 : Nat) : Int) == 1) || (⟨#[c]⟩ : Str).length == 0) = true := by simp
        rw [e2, if_pos rfl]
        exact ⟨.str ⟨#[c]⟩, H, I, ⟨t, rfl⟩, q⟩
      · have e2 : ((((n : Nat) : Int) == 1) || (⟨#[c]⟩ : Str).length == 0) = false := by
          rw [hl]
          have : ¬ ((n : Nat) : Int) = 1 := by omega
          simp [this]
        rw [e2, if_neg (by decide), eT]
        refine ⟨?_, .str (timesS c n), H, I.tok _, ⟨_, rfl⟩, q⟩
        show (timesS c n).length ≤ sizeLine
        have : (timesS c n).length = n := by show (List.replicate n c).toArray.size = n; simp
        rw [this, sizeLine_eq]; omega
theorem cr_tup2 : CallR X (.type "tuple") (rTup2 X.K) := by
  intro pins s σ H xs us Q I r h
  cases h with
  | tup e h q => exact call_tuple_of pins s σ H xs us Q I r ⟨_, _, e, .inr ⟨h, q⟩⟩
  | @lst p ys e hq q =>
    subst e
    obtain ⟨u, rfl, rx⟩ := vals1 r
    cases rx
    obtain ⟨its, r', pl, hz⟩ := I.list hq
    have hlen := r'.length
    refine call_tuple_list pl.isList (fun h' kp => ?_) (by simp only [List.size_toArray] <;> omega)
    have I1 : Inv X pins σ H { s with heap := h' } := I.kept (t' := s.toks) kp
    have I2 : Inv X pins σ (upd H h'.objs.size (.frz { cls := .type "tuple", data := .seq its.toArray } (.tup ys))) { s with heap := h'.push { cls := .type "tuple", data := .seq its.toArray } } :=
      I1.laid (t' := s.toks) (fun b o e => Heap.get?_push_of_some _ e) (Nat.le_refl _) (show ObjOk X.prog X.w _ _ _ (.frz _ (.tup ys)) from ⟨Heap.get?_push_size _ rfl, hz, its, r', IsTup.new _ _⟩)
    exact ⟨.ref h'.objs.size, _, I2, rfl, q _ _ rfl rfl (I1.hok.fresh (Nat.le_refl _))⟩
theorem pairs_ofV {pins : List (Addr × Obj)} {σ : L2.St} {H : Hp} {s : Shared} (I : Inv X pins σ H s) : ∀ {ps : List Addr} {kvs : List (Key × V)}, Paired (fun p kv => SqT X.K H p [kV kv.1, kv.2]) ps kvs →
    ∃ (prs : List (Key × Value)) (pv : List (Value × Value)), KV kvs prs ∧ prs.length = ps.length ∧ pv.length = ps.length ∧ ∀ (j : Nat) (k v : Value), pv[j]? = some (k, v) → ∃ (b : Addr) (key : Key), ps[j]? = some b ∧ IsTup s.heap b #[k, v] ∧ prs[j]? = some (key, v) ∧ keyIs key k = true
  | _, _, .nil => ⟨[], [], .nil, rfl, rfl, fun j k v e => by simp at e⟩
  | _, _, .cons (a := p) (b := kv) h t => by
    obtain ⟨prs, pv, r, hl, hv, hp⟩ := pairs_ofV I t
    obtain ⟨its, rv, ht, _⟩ := I.tuple h
    obtain ⟨u, y, ei, ru, ry⟩ := vals2 rv
    subst ei
    refine ⟨(kv.1, y) :: prs, (u, y) :: pv, .cons ⟨rfl, ry⟩ r, by rw [List.length_cons, List.length_cons, hl], by rw [List.length_cons, List.length_cons, hv], fun j k v e => ?_⟩
    cases j with
    | zero =>
      have e' : (u, y) = (k, v) := Option.some.inj e
      cases e'
      exact ⟨p, kv.1, rfl, ht, rfl, kV_is (P := X.prog) (w := X.w) ru⟩
    | succ j =>
      obtain ⟨b, key, e1, e2, e3, e4⟩ := hp j k v (by simpa using e)
      exact ⟨b, key, by simpa using e1, e2, by simpa using e3, e4⟩
theorem cr_dict2 (hcalm : X.calm = true) : CallR X (.type "dict") (rDict2 X.K) := by
  intro pins s σ H xs us Q I r h
  cases h with
  | @mk a ps kvs e h hp q =>
  rcases h with h | h
  · exact call_dictP hcalm pins s σ H xs us Q I r ⟨a, ps, kvs, e, h, hp, q⟩
  · subst e
    obtain ⟨u, eu, rx⟩ := vals1 r
    subst eu
    cases rx
    obtain ⟨o, ho, hd, hc⟩ := h
    obtain ⟨hg, hz, its, rv, ob, hob, hcb, nb, hdat⟩ := (show ObjOk X.prog X.w H s.heap a (.frz o (.tup (ps.map V.ref))) from I.hok a _ ho)
    have eo : ob = o := by rw [hg] at hob; exact (Option.some.inj hob).symm
    subst eo
    have ei := refs_at rv
    subst ei
    rw [List.length_map] at hz
    obtain ⟨prs, pv, rel, hl, hv, hpr⟩ := pairs_ofV I hp
    have hpi : PairItems s.heap (ps.map Value.ref).toArray (fun j => ps.getD j 0) pv := ⟨by simp [hv], fun j k v e => by
      obtain ⟨b, key, e1, e2, e3, e4⟩ := hpr j k v e
      refine ⟨by simp [e1], .inl ?_⟩
      have e5 : ps.getD j 0 = b := by simp [List.getD, e1]
      show s.heap.IsTuple (ps.getD j 0) #[k, v]
      rw [e5]; exact e2⟩
    refine call_dict_pairs (knd := mixKind X.prog X.w) (kvs := prs) (PairArg.tuple (prog := X.prog) (w := X.w) a (ps.map Value.ref).toArray (fun j => ps.getD j 0) pv) (I.ok.hd hcalm) ⟨⟨ob, _, hg, hc, hd, hdat⟩, hpi⟩ ⟨by rw [hl, hv], fun i key v e => ?_⟩ (by rw [hv]; exact hz) fun h' tk hd' k => ?_
    · obtain ⟨b, ky, e1, e2, e3, e4⟩ := hpr i key v e
      exact ⟨ky, e3, e4⟩
    · have hm : (s.heap.objs.size == sysModules) = false := beq_eq_false_iff_ne.mpr (Nat.ne_of_gt I.big)
      have hlen : (mergeK [] kvs).length ≤ sizeLine := by
        refine Nat.le_trans (length_mergeK kvs []) ?_
        rw [List.length_nil, Nat.zero_add, rel.length, hl]
        exact hz
      exact ⟨.ref s.heap.objs.size, upd H s.heap.objs.size (.dK (mergeK [] kvs)), I.laid (t' := tk) (fun b u e => k b u (fun z => nomatch z) e) (Nat.le_refl _) (show ObjOk X.prog X.w _ _ _ (.dK (mergeK [] kvs)) from ⟨hlen, hm, merged [] prs, KV.merge rel .nil, hd'⟩), rfl, q _ (I.hok.fresh (Nat.le_refl _))⟩
end
end U
end
section
set_option Elab.async false
set_option linter.all false
set_option maxRecDepth 100000
set_option maxHeartbeats 4000000
namespace U
open PySem PySem.Spec PyProof.Rows L2
open Evl (Ex)
/-- all but the dict at d stays; that one stays a dict -/
structure RD (d : Addr) (H H' : Hp) : Prop where
  o : ∀ a u, a ≠ d → H a = some u → H' a = some u
  d : H d = none ∨ H d = H' d ∨ ∃ k k' : List (Key × V), H d = some (.dK k) ∧ H' d = some (.dK k')
theorem RD.refl {d : Addr} (H : Hp) : RD d H H := ⟨fun _ _ _ e => e, .inr (.inl rfl)⟩
theorem RD.ex {d : Addr} {H H' : Hp} (e : Ex H H') : RD d H H' := ⟨fun a u _ h => e a u h, by
  cases h : H d with
  | none => exact .inl rfl
  | some u => exact .inr (.inl (e d u h).symm)⟩
theorem RD.trans {d : Addr} {H H1 H2 : Hp} (a : RD d H H1) (b : RD d H1 H2) : RD d H H2 := by
  refine ⟨fun x u n e => b.o x u n (a.o x u n e), ?_⟩
  rcases a.d with h | h | ⟨k, k', h, h'⟩
  · exact .inl h
  · rcases b.d with g | g | ⟨l, l', g, g'⟩
    · exact .inl (h.trans g)
    · exact .inr (.inl (h.trans g))
    · exact .inr (.inr ⟨l, l', h.trans g, g'⟩)
  · rcases b.d with g | g | ⟨l, l', g, g'⟩
    · rw [h'] at g; cases g
    · exact .inr (.inr ⟨k, k', h, g.symm.trans h'⟩)
    · exact .inr (.inr ⟨k, l', h, g'⟩)
theorem RD.rel (d : Addr) : Rel (RD d) where
  refl := RD.refl
  trans := RD.trans
  chg := fun {H H' p o} r h => by
    refine ⟨fun a u n e => ?_, ?_⟩
    · rw [upd_ne (fun z => by rw [z, h] at e; cases e)]; exact r.o a u n e
    · by_cases z : d = p
      · exact .inl (by rw [z]; exact h)
      · rw [upd_ne z]; exact r.d
  lst := fun {H H' p xs} r e => by
    by_cases z : p = d
    · subst z
      rcases r.d with g | g | ⟨k, k', g, g'⟩
      · rw [g] at e; cases e
      · rw [← g]; exact e
      · rw [g] at e; cases e
    · exact r.o p _ z e
  tup := fun {H H' p xs} r e => by
    by_cases z : p = d
    · subst z
      rcases r.d with g | g | ⟨k, k', g, g'⟩
      · rw [g] at e; cases e
      · rw [← g]; exact e
      · rw [g] at e; cases e
    · exact r.o p _ z e
  frz := fun {H H' p ob u} r e => by
    by_cases z : p = d
    · subst z
      rcases r.d with g | g | ⟨k, k', g, g'⟩
      · rw [g] at e; cases e
      · rw [← g]; exact e
      · rw [g] at e; cases e
    · exact r.o p _ z e
  back := fun {H H' p} r e => by
    cases h : H p with
    | none => rfl
    | some u =>
      by_cases z : p = d
      · subst z
        rcases r.d with g | g | ⟨k, k', g, g'⟩
        · rw [g] at h; cases h
        · rw [g, e] at h; cases h
        · rw [g'] at e; cases e
      · rw [r.o p u z h] at e; cases e
theorem RD.set {d : Addr} {H : Hp} {k k' : List (Key × V)} (h : H d = some (.dK k)) : RD d H (upd H d (.dK k')) :=
  ⟨fun a u n e => by rw [upd_ne n]; exact e, .inr (.inr ⟨k, k', h, upd_same⟩)⟩
section
variable {K : PySem.W.Frag} {w : World} {H : Hp} {Q : VK} {σ : L2.St} {D : Ends} {td ty tv : TE}
theorem x_mulB {a b : Int} (c : CMul a b) (q : Q (.int (a * b)) H) : rMul2 (.int a) (.int b) H Q := .one (x_mulI c q)
theorem x_powB {a b : Int} (c : CPow a b) (q : Q (.int (a ^ b.toNat)) H) : rPow (.int a) (.int b) H Q := ⟨a, b, rfl, rfl, c, q⟩
theorem x_ixK {p : Addr} {kvs : List (Key × V)} {z : Str} {v : V} (h : H p = some (.dK kvs)) (g : valV kvs (.inr z) = some v) (q : Q v H) : rIxU K w (.ref p) (.str z) H Q := by
  refine IxU.dic rfl ?_ q
  have e := DGet.k (k := .inr z) h
  rw [g] at e
  exact e
theorem x_setU (h : tv σ H fun v H1 => td σ H1 fun x H2 => ty σ H2 fun y H3 => rSetU x y v H3 fun H4 => D.nx σ H4) : sSetU td ty tv D σ H := h
theorem x_setK {p : Addr} {kvs : List (Key × V)} {z : Str} {v : V} {QH : Hp → Prop} (h : H p = some (.dK kvs)) (hl : kvs.length < sizeLine) (q : QH (upd H p (.dK (putK kvs (.inr z) v)))) : rSetU (.ref p) (.str z) v H QH :=
  SetU.dic rfl (DPut.k (k := .inr z) h hl) q
end
end U
end
section
set_option Elab.async false
set_option linter.all false
namespace U
open PySem PySem.Spec PyProof.Rows L2
theorem paired_mono {α β : Type} {F G : α → β → Prop} (f : ∀ a b, F a b → G a b) : ∀ {l : List α} {m : List β}, Paired F l m → Paired G l m
  | _, _, .nil => .nil
  | _, _, .cons h t => .cons (f _ _ h) (paired_mono f t)
theorem paired_snoc {α β : Type} {F : α → β → Prop} {a : α} {b : β} : ∀ {l : List α} {m : List β}, Paired F l m → F a b → Paired F (l ++ [a]) (m ++ [b])
  | _, _, .nil, h => .cons h .nil
  | _, _, .cons g t, h => .cons g (paired_snoc t h)
theorem paired_len {α β : Type} {F : α → β → Prop} : ∀ {l : List α} {m : List β}, Paired F l m → l.length = m.length
  | _, _, .nil => rfl
  | _, _, .cons _ t => congrArg Nat.succ (paired_len t)
theorem paired_at {α β : Type} {F : α → β → Prop} : ∀ {l : List α} {m : List β} {i : Nat} {b : β}, Paired F l m → m[i]? = some b → ∃ a, l[i]? = some a ∧ F a b
  | _, _, 0, _, .cons h _, e => by simp at e; subst e; exact ⟨_, rfl, h⟩
  | _, _, i + 1, _, .cons _ t, e => by
    obtain ⟨a, h1, h2⟩ := paired_at (i := i) t (by simpa using e)
    exact ⟨a, by simpa using h1, h2⟩
  | _, _, 0, _, .nil, e => by simp at e
  | _, _, i + 1, _, .nil, e => by simp at e
theorem paired_zip {α β : Type} {F : α → β → Prop} : ∀ {l : List α} {m : List β}, Paired F l m → ∃ z : List (α × β), z.map (·.1) = l ∧ z.map (·.2) = m ∧ ∀ p ∈ z, F p.1 p.2
  | _, _, .nil => ⟨[], rfl, rfl, fun p h => by cases h⟩
  | _, _, .cons (a := a) (b := b) h t => by
    obtain ⟨z, h1, h2, h3⟩ := paired_zip t
    refine ⟨(a, b) :: z, by rw [List.map_cons, h1], by rw [List.map_cons, h2], fun p hp => ?_⟩
    rcases List.mem_cons.mp hp with e | e
    · rw [e]; exact h
    · exact h3 p e
theorem zip_paired {α β : Type} {F : α → β → Prop} : ∀ {z : List (α × β)}, (∀ p ∈ z, F p.1 p.2) → Paired F (z.map (·.1)) (z.map (·.2))
  | [], _ => .nil
  | p :: z, h => .cons (h p (List.mem_cons_self ..)) (zip_paired fun x hx => h x (List.mem_cons_of_mem _ hx))
end U
end
section
set_option Elab.async false
set_option linter.all false
set_option maxRecDepth 100000
set_option maxHeartbeats 4000000
namespace U
open PySem PySem.Spec PyProof.Rows L2
open PySem.W (KeyPure)
/-- lambda x: x[i] -/
def lamBody (x : Str) (i : Int) (j : Nat) (p1 p2 p3 : Pos) : Expr := .Subscript (.Name x p1) (.Constant (.int i) j p2) p3
section
variable {P : Program} {w : World} {A : Around} {s : Shared}
theorem call_item {f c' t : Addr} {x q : Str} {params : Arguments} {scope : Scope} {pm ctv : Value} {j : Nat} {p1 p2 p3 : Pos} {its : Array Value} {i : Nat} {k : Int} {tk : Tok}
    (hf : s.heap.get? f = some (PySem.W.kla_obj "<lambda>" q params (lamBody x i j p1 p2 p3) scope [] pm c' ctv)) (hcd : s.heap.CodeRec (.ref c') q) (room : A.depth < recursionLimit) (lim : s.heap.NoLimit)
    (hco : scope.isCoroutine = false) (hgen : scope.isGenerator = false) (hk : scope.kind = .function) (hcell : ∀ y ∈ scope.names, y.2 ≠ .cell) (hx : scope.names.lookup x = some .local) (hd : (x == ("__debug__" : Str)) = false)
    (hbind : ∀ v, bindArgs (PySem.W.kla_fn "<lambda>" q params (lamBody x i j p1 p2 p3) scope [] pm (.ref c') ctv) ⟨[v], []⟩ = pure [(x, v)])
    (ht : IsTup s.heap t its) (hi : its[i]? = some (.int k tk)) (hi2 : i < 1000) :
    wpAny (model P w) A (call (.ref f) [.ref t]) (KeyPure (.int k) s) (fun _ _ => False) s := by
  refine wpAny_call (PySem.W.kla_callFunE room hf rfl hco hgen rfl hcd ?_)
  rw [hbind]
  refine wpAny_pure (wpAny_newFunctionEnv hcell (fun y hy => ?_) (fun h' hns sb => ⟨lim.fresh _ sb, PySem.W.kla_codeExpr ?_⟩) hk)
  · rw [List.mem_singleton.mp hy]; exact hx
  have kp : ∀ b o, s.heap.get? b = some o → h'.get? b = some o := fun b o e => sb.extBut b o (Nat.ne_of_lt (Heap.lt_size e)) (Heap.get?_push_of_some _ e)
  unfold lamBody
  refine Subscript_ (wpAny_Name (wpAny_loadName_local hk (show scope.names.lookup x = some .local from hx) hns (v := .ref t) ?_ ?_) hd)
  · show ([(x, Value.ref t)].reverse.lookup x) = some (.ref t)
    simp [List.lookup]
  refine wpAny_Constant_int ?_
  have tp : IsTup h' t its := ht.keeps kp
  have hl : i < its.size := (Array.getElem?_eq_some_iff.mp hi).1
  have fin : ∀ tk2, KeyPure (.int k) s (.int k tk) { s with heap := h', toks := tk2 } := fun tk2 => ⟨h', tk2, rfl, kp, .int k tk⟩
  refine subscriptTail_builtinR (x := .int k tk) tp.typeIs slot_tuple_getitem.lookup (getItem_tuple (j := i) tp (by omega) (by omega) ?_ hi ⟨rfl, ?_⟩) rfl
  · unfold seqIndex?
    have e : ¬ ((i : Int) < 0) := by omega
    simp only [e, if_false]
    rw [if_pos (by simp; omega)]
    simp
  · exact fin _
end
open LamX in
/-- the table at P as it is, or with one code object more -/
def Grows (P : Addr) (q : Str) (H H1 : Hp) : Prop := H1 = H ∨ ∃ (ps : Array Value) (c : Addr), H c = none ∧ (∃ qs, H P = some (.tbl qs)) ∧ H1 = upd (upd H P (.tbl ps)) c (CodeO c q)
open LamX in
theorem lam_make3 {X : Cx} {pins : List (Addr × Obj)} {σ : L2.St} {H : Hp} {s : Shared} {c Pt : Addr} {params : Arguments} {body : Expr} {scope : Scope} {pos : Pos} {E : Value → Shared → Prop} {Q : Value → Shared → Prop} (I : Inv X pins σ H s) (TB : TabB X.base X.mg c Pt) (hcode : X.env.code = .ref c)
    (hT : TabS H Pt (X.env.qual ++ "<lambda>")) (hdef : defaultsOf params X.env = ([], [])) (hfree : ∀ y ∈ scope.names, y.2 = .free → ∃ c, X.env.cells.lookup y.1 = some c)
    (h : ∀ (f c' : Addr) (pm ctv : Value) (H1 : Hp) (s' : Shared), Inv X pins σ H1 s' → Grows Pt (X.env.qual ++ "<lambda>") H H1 → TabS H1 Pt (X.env.qual ++ "<lambda>") →
      s'.heap.get? f = some (PySem.W.kla_obj "<lambda>" (X.env.qual ++ "<lambda>") params body scope (cloFrom X.env.cells scope.names []) pm c' ctv) → H1 f = none → H1 c' = some (CodeO c' (X.env.qual ++ "<lambda>")) → Q (.ref f) s') :
    wpAny (model X.prog X.w) X.A (eval (.Lambda params body scope pos) X.env) Q E s := by
  obtain ⟨ps, hP, ok, told⟩ := hT
  have at_ : s.heap.get? Pt = some { cls := .none, data := .fields ps } := I.hok Pt _ hP
  have bi : s.heap.BuiltinsAt X.mg Pt := TB.bm.keeps I.bk
  refine PySem.W.kla_eval hdef ?_
  cases hc : codeAmong pos ps.toList with
  | some cv =>
    obtain ⟨c', rfl, hco⟩ := told pos cv hc
    refine PySem.W.kla_makeFunctionHit (mg := X.mg) (c := c) (P := Pt) (ps := ps) (closure_ok hfree) I.ok.glob (I.mod.glob.keeps I.bk) hcode (TB.code.keeps I.bk) at_ ok hc bi fun ctv h' tk hx hsz => ?_
    exact h h'.objs.size c' _ ctv H _ (I.kept fun b o e => Heap.get?_push_of_some _ (hx b o e)) (.inl rfl) ⟨ps, hP, ok, told⟩ (Heap.get?_push_size _ rfl) (I.hok.fresh hsz) hco
  | none =>
    refine PySem.W.kla_makeFunction (mg := X.mg) (c := c) (P := Pt) (ps := ps) (closure_ok hfree) I.ok.glob (I.mod.glob.keeps I.bk) hcode (TB.code.keeps I.bk) at_ ok hc TB.gP bi fun c' ctv h' tk hx hge hlt hrec htb => ?_
    obtain ⟨c2, oc, cvs, t, e2, hoc, hd, hv⟩ := hrec
    cases e2
    have hsz : s.heap.objs.size ≤ h'.objs.size := Nat.le_trans hge (Nat.le_of_lt hlt)
    have nC : H c' = none := I.hok.fresh hge
    have J := inv_table (t' := tk) (more := #[rawInt pos.line, rawInt pos.col, .ref c']) (h' := h'.push (PySem.W.kla_obj "<lambda>" (X.env.qual ++ "<lambda>") params body scope (cloFrom X.env.cells scope.names []) ((X.mg "__name__").getD .none) c' ctv)) I hP
      (fun b o hb e => Heap.get?_push_of_some _ (hx b o hb e)) (Heap.get?_push_of_some _ htb) hge ⟨oc, cvs, t, Heap.get?_push_of_some _ hoc, hd, hv⟩
    have eL : (ps ++ #[rawInt pos.line, rawInt pos.col, .ref c']).toList = ps.toList ++ [rawInt pos.line, rawInt pos.col, .ref c'] := by simp
    have nP : c' ≠ Pt := fun z => by rw [z, hP] at nC; cases nC
    have nf : upd (upd H Pt (.tbl (ps ++ #[rawInt pos.line, rawInt pos.col, .ref c']))) c' (CodeO c' (X.env.qual ++ "<lambda>")) h'.objs.size = none := by
      rw [upd_ne (Nat.ne_of_gt hlt), upd_ne (Nat.ne_of_gt (Nat.lt_of_lt_of_le (Heap.lt_size at_) hsz))]
      exact I.hok.fresh hsz
    refine h h'.objs.size c' _ ctv _ _ J (.inr ⟨_, c', nC, ⟨ps, hP⟩, rfl⟩) ⟨_, by rw [upd_ne (Ne.symm nP), upd_same], by rw [eL]; exact PySem.TriplesOk_snoc _ _ _ _ ok, fun p' cv hcv => ?_⟩ (Heap.get?_push_size _ rfl) nf upd_same
    rw [eL] at hcv
    rcases among_app _ ok hcv with z | z
    · obtain ⟨c0, e1, e2⟩ := told p' cv z
      refine ⟨c0, e1, ?_⟩
      rw [upd_ne (ne_of_none e2 nC), upd_ne (fun y => codeO_ne ps (Option.some.inj (e2.symm.trans (by rw [y]; exact hP))))]
      exact e2
    · exact ⟨c', z, upd_same⟩
open LamX
/-- xs in the order of key, stably; the table of the maker's code object may grow -/
def SortQ (K : PySem.W.Frag) (Pt : Addr) (q : Str) (i : Nat) (Q : VK) (v : V) (H1 : Hp) : Prop := ∃ (l : Addr) (xs : List V) (key : V → Int), v = .ref l ∧ SqL K H1 l xs ∧ xs.length ≤ 1000 ∧ (∀ x ∈ xs, ∃ t ys, x = .ref t ∧ SqT K H1 t ys ∧ ys[i]? = some (.int (key x))) ∧ TabS H1 Pt q ∧
  ∀ H2 p, Grows Pt q H1 H2 → TabS H2 Pt q → H2 p = none → Q (.ref p) (upd H2 p (.lst (xs.mergeSort fun a b => decide (key a ≤ key b))))
def tSortBy (K : PySem.W.Frag) (Pt : Addr) (q : Str) (i : Nat) (te : TE) : TE := fun σ H Q => te σ H (SortQ K Pt q i Q)
theorem Grows.ext {P : Addr} {q : Str} {H H1 : Hp} (g : Grows P q H H1) : ExtN H H1 := by
  rcases g with rfl | ⟨ps, c, hc, ⟨qs, hP⟩, rfl⟩
  · exact ExtN.refl _
  · intro b o e n
    rw [upd_ne (ne_of_none e hc), upd_ne (fun z => n qs (Option.some.inj (e.symm.trans (by rw [z]; exact hP))))]
    exact e
def One (R : V → Hp → Prop) : List V → Hp → Prop
  | [v], H => R v H
  | _, _ => False
theorem extN_l {K : PySem.W.Frag} {H H' : Hp} {a : Addr} {xs : List V} (e : ExtN H H') (h : SqL K H a xs) : SqL K H' a xs := by
  rcases h with (h | ⟨o, h⟩) | h
  · exact .inl (.inl (e _ _ h fun ps z => by cases z))
  · exact .inl (.inr ⟨o, e _ _ h fun ps z => by cases z⟩)
  · exact .inr h
theorem extN_t {K : PySem.W.Frag} {H H' : Hp} {a : Addr} {xs : List V} (e : ExtN H H') (h : SqT K H a xs) : SqT K H' a xs := by
  rcases h with (h | ⟨o, h⟩) | h
  · exact .inl (.inl (e _ _ h fun ps z => by cases z))
  · exact .inl (.inr ⟨o, e _ _ h fun ps z => by cases z⟩)
  · exact .inr h
theorem each_vals : ∀ {xs : List V} {us : List Value}, Vals xs us → PySem.W.EachIs (fun (u : Value) (x : V) => RelV x u) us xs
  | _, _, .nil => .nil
  | _, _, .cons r t => .cons r (each_vals t)
theorem vals_each : ∀ {xs : List V} {us : List Value}, PySem.W.EachIs (fun (u : Value) (x : V) => RelV x u) us xs → Vals xs us
  | _, _, .nil => .nil
  | _, _, .cons r t => .cons r (vals_each t)
section
variable {X : Cx}
theorem pe_sortBy {c Pt : Addr} {q : Str} {e : Expr} {te : TE} {x : Str} {params : Arguments} {scope : Scope} {i j : Nat} {p p1 p2 p3 lp kp pos : Pos} (hr : Room 3 X.A) (hg : Gl X "sorted") (hm : X.mg "sorted" = none)
    (TB : LamX.TabB X.base X.mg c Pt) (hcode : X.env.code = .ref c) (hq : q = X.env.qual ++ "<lambda>") (he : PE X e te) (hi2 : i < 1000)
    (hdef : defaultsOf params X.env = ([], [])) (hco : scope.isCoroutine = false) (hgen : scope.isGenerator = false) (hk : scope.kind = .function) (hown : ∀ y ∈ scope.names, y.2 ≠ .cell ∧ y.2 ≠ .free) (hx : scope.names.lookup x = some .local) (hd : (x == ("__debug__" : Str)) = false)
    (hbind : ∀ (v pm ctv : Value) (c' : Addr), bindArgs (PySem.W.kla_fn "<lambda>" (X.env.qual ++ "<lambda>") params (lamBody x i j p1 p2 p3) scope [] pm (.ref c') ctv) ⟨[v], []⟩ = pure [(x, v)])
    (hclo : cloFrom X.env.cells scope.names [] = [])
    (ha : backTo pos (starEach [e] X.env) = (false, eval e X.env) :: backTo pos (starEach [] X.env) := by rfl) (hpl : (backTo pos (starEach [e] X.env)).any (·.1) = false := by rfl) (hs : starEach [e] X.env = (false, eval e X.env) :: starEach [] X.env := by rfl) :
    PE X (.Call (.Name "sorted" p) [e] [⟨some "key", .Lambda params (lamBody x i j p1 p2 p3) scope lp, kp⟩] pos) (tSortBy X.K Pt q i te) := by
  subst hq
  refine ⟨fun pins s σ H Q I h => ?_⟩
  refine wpAny_Call_Name_kw (ld_blt I hg hm boot_sorted ?_ (by decide) (by decide))
  have pa : PA X [e] (tCons te tNil) := pa_cons he pa_nil hs
  refine PyProof.Rows.callWith_kw (thn (pa.run pos pins s σ H (One (SortQ X.K Pt (X.env.qual ++ "<lambda>") i Q)) I (show te σ H (SortQ X.K Pt (X.env.qual ++ "<lambda>") i Q) from h)) fun us s1 ⟨vs, H1, I1, r1, q1⟩ => ?_) ha hpl rfl rfl
  obtain ⟨v, rfl⟩ : ∃ v, vs = [v] := by
    match vs, q1 with
    | [v], _ => exact ⟨v, rfl⟩
  obtain ⟨l, xs, key, rfl, hl, few, hx1, hT1, qq⟩ : SortQ X.K Pt (X.env.qual ++ "<lambda>") i Q v H1 := q1
  obtain ⟨u, rfl, ru⟩ := vals1 r1
  cases ru
  show wpAny _ _ (evalAll ((do let v ← eval (.Lambda params (lamBody x i j p1 p2 p3) scope lp) X.env; standAt pos; pure v) :: (backToKw pos (keywordEach [] X.env)).map (·.2))) _ _ s1
  refine wpAny_evalAll_cons (wpAny_bind (lam_make3 I1 TB hcode hT1 hdef (fun y hy e => absurd e (hown y hy).2) fun f c' pm ctv H2 s2 I2 gr hT2 hf nf hc => wpAny_bind (wpAny_standAt (wpAny_pure (wpAny_evalAll_nil ?_)))))
  show wpAny _ _ (call (.builtin "sorted") [Value.ref l] [(Str.ofString "key", Value.ref f)]) _ _ s2
  rw [hclo] at hf
  have ext := gr.ext
  obtain ⟨its, rv, pl, hz⟩ := I2.list (extN_l ext hl)
  obtain ⟨⟨oc, cvs, ct, hoc, hdc, hvc⟩, _, _⟩ := (show ObjOk X.prog X.w H2 s2.heap c' (CodeO c' (X.env.qual ++ "<lambda>")) from I2.hok c' _ hc)
  have r1' := hr.in1
  have r2' := r1'.in1
  have lim : s2.heap.NoLimit := I2.nolimit
  refine PySem.W.sorted_key_data (b := false) (R := fun (u : Value) (x : V) => RelV x u) (fun x : V => PyData.int (key x)) pl.isList (each_vals rv) (PySem.W.AllAlike.of fun _ _ => by simp [PySem.W.alike]) (PySem.W.Sortable.others (enc := fun x : V => PyData.int (key x)) fun b => ⟨(by intro z; cases z), (by intro ys z; cases z)⟩) hz
    (fun x _ => ?_) (PyProof.Rows.ksk_s1 _ _) (fun _ => PyProof.Rows.ksk_l1 _ _) (fun _ => PyProof.Rows.ksk_t1 _ _) (fun v y ru hy h tk kp => ?_) fun out cc h' tk kp hn hD hlen eo => ?_
  · have := hr.units
    show X.A.units + 2 + 0 < cLine
    omega
  · obtain ⟨t, ys, rfl, ht, hi⟩ := hx1 y hy
    cases ru
    obtain ⟨tis, rt, tp, _⟩ := I2.tuple (extN_t ext ht)
    obtain ⟨w', hw, rw'⟩ := rt.get hi
    obtain ⟨tk2, rfl⟩ := rw'
    exact call_item (s := { s2 with heap := h, toks := tk }) (kp _ _ hf) ⟨c', oc, cvs, ct, rfl, kp _ _ hoc, hdc, hvc⟩ r2'.depth (lim.keeps kp) hco hgen hk (fun y hy => (hown y hy).1) hx hd (fun v => hbind v pm ctv c') (tp.keeps kp) (by simpa using hw) hi2
  · rw [PySem.W.dataLe_int] at eo
    have rv2 := vals_each eo
    have len : (xs.mergeSort fun a b => decide (key a ≤ key b)).length ≤ sizeLine := by rw [List.length_mergeSort]; exact hz
    have hn2 : H2 (s2.heap.objs.size + 1) = none := I2.hok.fresh (Nat.le_succ _)
    exact ⟨.ref (s2.heap.objs.size + 1), upd H2 (s2.heap.objs.size + 1) (.lst _), I2.laid (t' := tk) kp (Nat.le_succ _) (show ObjOk X.prog X.w _ h' _ (.lst _) from ⟨len, out, cc, rv2, hD⟩), rfl, qq H2 _ gr hT2 hn2⟩
end
end U
end
section
set_option Elab.async false
set_option linter.all false
set_option maxRecDepth 100000
set_option maxHeartbeats 4000000
namespace M
open PySem PySem.Spec PyProof.Rows L2 U
open He (ga)
/-- a tuple without a dict, locked or written -/
def PT (K : PySem.W.Frag) (H : Hp) (a : Addr) (xs : List V) : Prop := PlT H a xs ∨ ∃ (o : Obj) (its : Array Value) (n : Nat), K.lookup a = some o ∧ o.cls = .type "tuple" ∧ o.dict = none ∧ o.data = .seq its n ∧ its.size ≤ sizeLine ∧ Vals xs its.toList
theorem PT.sq {K : PySem.W.Frag} {H : Hp} {a : Addr} {xs : List V} (h : PT K H a xs) : SqT K H a xs := by
  rcases h with ⟨o, h, _⟩ | ⟨o, its, n, h1, h2, _, h3⟩
  · exact .inl (.inr ⟨o, h⟩)
  · exact .inr ⟨o, its, n, h1, h2, h3⟩
/-- what is new -/
def NewT (H : Hp) (xs : List V) (Q : VK) : Prop := ∀ p o, o.dict = none → o.cls = .type "tuple" → H p = none → Q (.ref p) (upd H p (.frz o (.tup xs)))
theorem laid_tup {X : Cx} {pins : List (Addr × Obj)} {σ : L2.St} {H : Hp} {s : Shared} {xs : List V} {us : List Value} {Q : VK} (I : Inv X pins σ H s) (r : Vals xs us) (hz : xs.length ≤ sizeLine) (q : NewT H xs Q) :
    EP X pins σ Q (.ref s.heap.objs.size) { s with heap := s.heap.push { cls := .type "tuple", data := .seq us.toArray } } :=
  ⟨.ref s.heap.objs.size, _, I.laid (t' := s.toks) (o := .frz { cls := .type "tuple", data := .seq us.toArray } (.tup xs)) (fun b o e => Heap.get?_push_of_some _ e) (Nat.le_refl _) ⟨Heap.get?_push_size _ rfl, hz, us, r, IsTup.new _ _⟩, rfl, q _ _ rfl rfl (I.hok.fresh (Nat.le_refl _))⟩
def tTupP (t : TA) : TE := fun σ H Q => t σ H fun xs H1 => xs.length ≤ sizeLine ∧ NewT H1 xs Q
theorem pe_tupP {X : Cx} {es : List Expr} {t : TA} {x1 pos} (h : PA X es t) : PE X (.Tuple es x1 pos) (tTupP t) := by
  refine ⟨fun pins s σ H Q I hq => ?_⟩
  exact wpAny_Tuple_spliced (thn (h.run pos pins s σ H _ I hq) fun us s1 ⟨xs, H1, I1, r, z, q⟩ => ⟨by rw [← r.length]; exact z, laid_tup I1 r z q⟩)
/-- a sum -/
inductive Add2 (K : PySem.W.Frag) (x y : V) (H : Hp) (Q : VK) : Prop where
  | one (q : rAdd K x y H Q)
  | nil {a b : Addr} {ys : List V} (ex : x = .ref a) (ey : y = .ref b) (ha : SqT K H a []) (hb : SqT K H b ys) (q : Q (.ref b) H)
  | cat {a b : Addr} {xs ys : List V} (ex : x = .ref a) (ey : y = .ref b) (ha : SqT K H a xs) (hb : SqT K H b ys) (hx : xs ≠ []) (hz : xs.length + ys.length ≤ sizeLine) (q0 : ys = [] → Q (.ref a) H) (q : NewT H (xs ++ ys) Q)
def rAdd2 (K : PySem.W.Frag) : R2 := fun x y H Q => Add2 K x y H Q
theorem op_add2 {X : Cx} : OpR X (binaryOp .Add) (rAdd2 X.K) := by
  intro pins s σ H x y v u Q I rx ry q
  cases q with
  | one q => exact op_addU pins s σ H x y v u Q I rx ry q
  | @nil a b ys ex ey ha hb q =>
    subst ex; subst ey
    cases rx
    cases ry
    obtain ⟨its, r1, p1, _⟩ := I.tuple ha
    obtain ⟨its2, r2, p2, _⟩ := I.tuple hb
    cases r1
    exact cat_tup0 p1 p2 ⟨.ref b, H, I, rfl, q⟩
  | @cat a b xs ys ex ey ha hb hx hz q0 q =>
    subst ex; subst ey
    cases rx
    cases ry
    obtain ⟨its, r1, p1, _⟩ := I.tuple ha
    obtain ⟨its2, r2, p2, _⟩ := I.tuple hb
    exact HT.cat_tup p1 p2 (fun z => hx (r1.nil_iff.mp z)) (fun z => ⟨.ref a, H, I, rfl, q0 (r2.nil_iff.mp z)⟩) (fun z => laid_tup I (r1.append r2) (by rw [List.length_append]; exact hz) q) (by rw [← r1.length, ← r2.length]; exact hz)
/-- a slice -/
inductive SlP (K : PySem.W.Frag) (x : V) (lo hi : Option Int) (H : Hp) (Q : VK) : Prop where
  | str {z : Str} (ex : x = .str z) (hl : z.length ≤ sizeLine) (q : Q (.str (cutS z lo hi)) H)
  | lst {a : Addr} {xs : List V} (ex : x = .ref a) (h : SqL K H a xs) (q : ∀ p, H p = none → Q (.ref p) (upd H p (.lst (cutV xs lo hi))))
  | whole {a : Addr} {xs : List V} (ex : x = .ref a) (h : SqT K H a xs) (hw : HT.sIx xs.length 0 lo = 0 ∧ HT.sIx xs.length xs.length hi = xs.length) (q : Q (.ref a) H)
  | part {a : Addr} {xs : List V} (ex : x = .ref a) (h : SqT K H a xs) (hw : ¬ (HT.sIx xs.length 0 lo = 0 ∧ HT.sIx xs.length xs.length hi = xs.length)) (q : NewT H (cutV xs lo hi) Q)
def rSlP (K : PySem.W.Frag) : V → Option Int → Option Int → Hp → VK → Prop := fun x lo hi H Q => SlP K x lo hi H Q
theorem slP {X : Cx} : SlR X (rSlP X.K) := by
  intro pins s σ H x v vl vu lo hi sl Q I rx hs pl pu q
  cases q with
  | str ex hl q => exact sl_str pins s σ H x v vl vu lo hi sl Q I rx hs pl pu ⟨_, ex, hl, q⟩
  | lst ex h q => exact sl_list pins s σ H x v vl vu lo hi sl Q I rx hs pl pu ⟨_, _, ex, h, q⟩
  | @whole a xs ex h hw q =>
    subst ex
    cases rx
    obtain ⟨its, r, ht, hz⟩ := I.tuple h
    have hlen : its.toArray.size = xs.length := by rw [List.size_toArray]; exact r.length.symm
    exact ⟨"tuple", _, PyProof.Rows.slot_tuple_getitem.lookup, ht.typeIs, getItem_tuple_whole ht hs pl pu (by rw [hlen]; exact hw) ⟨.ref a, H, I, rfl, q⟩⟩
  | @part a xs ex h hw q =>
    subst ex
    cases rx
    obtain ⟨its, r, ht, hz⟩ := I.tuple h
    have hlen : its.toArray.size = xs.length := by rw [List.size_toArray]; exact r.length.symm
    refine ⟨"tuple", _, PyProof.Rows.slot_tuple_getitem.lookup, ht.typeIs, ?_⟩
    refine HT.getItem_tuple_cut ht hs pl pu (by rw [hlen]; exact hw) ?_ (by rw [hlen]; exact hz)
    rw [hlen]
    exact laid_tup I ((r.drop (HT.sIx xs.length 0 lo)).take (HT.sIx xs.length xs.length hi - HT.sIx xs.length 0 lo)) (Nat.le_trans (cutV_length xs lo hi) hz) q
/-- dict of pairs -/
inductive DictP3 (K : PySem.W.Frag) (xs : List V) (H : Hp) (Q : VK) : Prop where
  | mk {a : Addr} {ps : List Addr} {kvs : List (Key × V)} (e : xs = [.ref a]) (h : SqL K H a (ps.map V.ref) ∨ PT K H a (ps.map V.ref)) (hp : Paired (fun p kv => SqT K H p [kV kv.1, kv.2]) ps kvs)
      (q : ∀ p, H p = none → Q (.ref p) (upd H p (.dK (mergeK [] kvs))))
def rDict3 (K : PySem.W.Frag) : List V → Hp → VK → Prop := fun xs H Q => DictP3 K xs H Q
theorem cr_dict3 {X : Cx} (hcalm : X.calm = true) : CallR X (.type "dict") (rDict3 X.K) := by
  intro pins s σ H xs us Q I r h
  cases h with
  | @mk a ps kvs e h hp q =>
    rcases h with h | h | h
    · exact cr_dict2 hcalm pins s σ H xs us Q I r (.mk e (.inl h) hp q)
    · exact cr_dict2 hcalm pins s σ H xs us Q I r (.mk e (.inr h) hp q)
    · subst e
      obtain ⟨u, eu, rx⟩ := vals1 r
      subst eu
      cases rx
      obtain ⟨ob, its, nb, hk, hc, hd, hdat, hz, rv⟩ := h
      have hg : s.heap.get? a = some ob := I.kIn _ _ hk
      have ei := refs_at rv
      have hdat : ob.data = .seq (ps.map Value.ref).toArray nb := by rw [hdat, ← ei, Array.toArray_toList]
      have hz : ps.length ≤ sizeLine := by
        have := congrArg List.length ei
        rw [List.length_map, Array.length_toList] at this
        omega
      obtain ⟨prs, pv, rel, hl, hv, hpr⟩ := pairs_ofV I hp
      have hpi : PairItems s.heap (ps.map Value.ref).toArray (fun j => ps.getD j 0) pv := ⟨by simp [hv], fun j k v e => by
        obtain ⟨b, key, e1, e2, e3, e4⟩ := hpr j k v e
        refine ⟨by simp [e1], .inl ?_⟩
        have e5 : ps.getD j 0 = b := by simp [List.getD, e1]
        show s.heap.IsTuple (ps.getD j 0) #[k, v]
        rw [e5]; exact e2⟩
      refine call_dict_pairs (knd := mixKind X.prog X.w) (kvs := prs) (PairArg.tuple (prog := X.prog) (w := X.w) a (ps.map Value.ref).toArray (fun j => ps.getD j 0) pv) (I.ok.hd hcalm) ⟨⟨ob, _, hg, hc, hd, hdat⟩, hpi⟩ ⟨by rw [hl, hv], fun i key v e => ?_⟩ (by rw [hv]; exact hz) fun h' tk hd' k => ?_
      · obtain ⟨b, ky, e1, e2, e3, e4⟩ := hpr i key v e
        exact ⟨ky, e3, e4⟩
      · have hm : (s.heap.objs.size == sysModules) = false := beq_eq_false_iff_ne.mpr (Nat.ne_of_gt I.big)
        have hlen : (mergeK [] kvs).length ≤ sizeLine := by
          refine Nat.le_trans (length_mergeK kvs []) ?_
          rw [List.length_nil, Nat.zero_add, rel.length, hl]
          exact hz
        exact ⟨.ref s.heap.objs.size, upd H s.heap.objs.size (.dK (mergeK [] kvs)), I.laid (t' := tk) (fun b u e => k b u (fun z => nomatch z) e) (Nat.le_refl _) (show ObjOk X.prog X.w _ _ _ (.dK (mergeK [] kvs)) from ⟨hlen, hm, merged [] prs, KV.merge rel .nil, hd'⟩), rfl, q _ (I.hok.fresh (Nat.le_refl _))⟩
end M
end
section
set_option Elab.async false
set_option linter.all false
set_option maxRecDepth 100000
set_option maxHeartbeats 4000000
namespace M
open PySem PySem.Spec PyProof.Rows L2 U
open LamX (TabS)
open He (ga)
inductive D where
  | non
  | bl (b : Bool)
  | int (i : Int)
  | str (s : Str)
  | tup (xs : List D)
  | lst (xs : List D)
  | dK (kvs : List (Key × D))
  /-- a list that never changes (it is locked); a dict of the module's that never changes -/
  | scr (xs : List D)
  | dc (kvs : List (Key × D))
  /-- a def of the module's; a dict whose keys are tuples -/
  | fn (x : Str)
  | dT (kvs : List (List Key × D))
  /-- a tuple of a walk; what is owned with parts that are owned, these marked -/
  | pr (xs : List D)
  | dp (d : D)
  | own (d : D)
  | ov (d : D)
mutual
/-- without marks -/
def D.toD : D → D
  | .own d => d.toD
  | .ov d => d
  | .lst xs => .lst (D.toDs xs)
  | .dK xs => .dK (D.toDk xs)
  | .dT xs => .dT (D.toDt xs)
  | d => d
def D.toDs : List D → List D
  | [] => []
  | x :: xs => x.toD :: D.toDs xs
def D.toDk : List (Key × D) → List (Key × D)
  | [] => []
  | (k, x) :: xs => (k, x.toD) :: D.toDk xs
def D.toDt : List (List Key × D) → List (List Key × D)
  | [] => []
  | (k, x) :: xs => (k, x.toD) :: D.toDt xs
end
/-- a list that is locked or written -/
def FrL (K : PySem.W.Frag) (H : Hp) (a : Addr) (xs : List V) : Prop :=
  (∃ o, H a = some (.frz o (.lst xs))) ∨ ∃ (o : Obj) (its : Array Value) (n : Nat), K.lookup a = some o ∧ o.cls = .type "list" ∧ o.dict = none ∧ o.data = .seq its n ∧ its.size ≤ sizeLine ∧ Vals xs its.toList
theorem FrL.sq {K : PySem.W.Frag} {H : Hp} {a : Addr} {xs : List V} (h : FrL K H a xs) : SqL K H a xs := by
  rcases h with h | h
  · exact .inl (.inr h)
  · exact .inr h
/-- a dict of the module's with these entries alone -/
def KDc (K : PySem.W.Frag) (w : World) (a : Addr) (kvs : List (Key × V)) : Prop :=
  (a == sysModules) = false ∧ ∃ (es : Array DictEntry) (n : Nat), KDict K w a es n ∧ ∀ x : Str, match valV kvs (.inr x) with
    | some v => ∃ u, PySem.W.nsIn K a x = some (some u) ∧ RelV v u
    | none => PySem.W.nsIn K a x = some none
abbrev AS := Addr → Prop
mutual
/-- v stands for d in H, no list and no dict of it at an address of B -/
inductive Rp (K : PySem.W.Frag) (w : World) (B : AS) (H : Hp) : V → D → Prop
  | non : Rp K w B H .non .non
  | bl (b : Bool) : Rp K w B H (.bl b) (.bl b)
  | int (i : Int) : Rp K w B H (.int i) (.int i)
  | str (s : Str) : Rp K w B H (.str s) (.str s)
  | tup {a : Addr} {xs : List V} {ds : List D} : PT K H a xs → RpA K w B H xs ds → Rp K w B H (.ref a) (.tup ds)
  | pr {a : Addr} {xs : List V} {ds : List D} : SqT K H a xs → RpA K w B H xs ds → Rp K w B H (.ref a) (.pr ds)
  | lst {a : Addr} {xs : List V} {ds : List D} : H a = some (.lst xs) → ¬ B a → RpA K w B H xs ds → Rp K w B H (.ref a) (.lst ds)
  | dK {a : Addr} {kvs : List (Key × V)} {ds : List (Key × D)} : H a = some (.dK kvs) → ¬ B a → RpK K w B H kvs ds → Rp K w B H (.ref a) (.dK ds)
  | scr {a : Addr} {xs : List V} {ds : List D} : FrL K H a xs → RpA K w B H xs ds → Rp K w B H (.ref a) (.scr ds)
  | dc {a : Addr} {kvs : List (Key × V)} {ds : List (Key × D)} : KDc K w a kvs → RpK K w B H kvs ds → Rp K w B H (.ref a) (.dc ds)
  | fn (x : Str) : Rp K w B H (.ref (ga K x)) (.fn x)
  | dT {a : Addr} {kvs : List (List Key × V)} {ds : List (List Key × D)} : H a = some (.dT kvs) → ¬ B a → RpT K w B H kvs ds → Rp K w B H (.ref a) (.dT ds)
  | dp {a : Addr} {x : D} : Rp K w B H (.ref a) x.toD → Rp K w B H (.ref a) (.dp x)
inductive RpA (K : PySem.W.Frag) (w : World) (B : AS) (H : Hp) : List V → List D → Prop
  | nil : RpA K w B H [] []
  | cons {v : V} {vs : List V} {d : D} {ds : List D} : Rp K w B H v d → RpA K w B H vs ds → RpA K w B H (v :: vs) (d :: ds)
inductive RpK (K : PySem.W.Frag) (w : World) (B : AS) (H : Hp) : List (Key × V) → List (Key × D) → Prop
  | nil : RpK K w B H [] []
  | cons {k : Key} {v : V} {vs : List (Key × V)} {d : D} {ds : List (Key × D)} : Rp K w B H v d → RpK K w B H vs ds → RpK K w B H ((k, v) :: vs) ((k, d) :: ds)
inductive RpT (K : PySem.W.Frag) (w : World) (B : AS) (H : Hp) : List (List Key × V) → List (List Key × D) → Prop
  | nil : RpT K w B H [] []
  | cons {k : List Key} {v : V} {vs : List (List Key × V)} {d : D} {ds : List (List Key × D)} : Rp K w B H v d → RpT K w B H vs ds → RpT K w B H ((k, v) :: vs) ((k, d) :: ds)
end
/-- tables of code objects, with the names of what is in them -/
abbrev Tb : Type := List (Addr × Str)
def TbOk (tq : Tb) (H : Hp) : Prop := ∀ p ∈ tq, TabS H p.1 p.2
/-- new objects come, tables may grow -/
structure Xt (tq : Tb) (H H' : Hp) : Prop where
  keep : ∀ a o, H a = some o → (∀ ps, o ≠ .tbl ps) → H' a = some o
  tab : TbOk tq H → TbOk tq H'
  al : ∀ a, H' a = none → H a = none
theorem Xt.refl {tq : Tb} (H : Hp) : Xt tq H H := ⟨fun _ _ h _ => h, fun h => h, fun _ h => h⟩
theorem Xt.trans {tq : Tb} {H H1 H2 : Hp} (a : Xt tq H H1) (b : Xt tq H1 H2) : Xt tq H H2 := ⟨fun x o h n => b.keep x o (a.keep x o h n) n, fun h => b.tab (a.tab h), fun x h => a.al x (b.al x h)⟩
theorem Xt.of {tq : Tb} {H H' : Hp} (e : Evl.Ex H H') : Xt tq H H' := ⟨fun a o h _ => e a o h, fun t p hp => (t p hp).ext e, fun a h => Evl.fresh_back e h⟩
theorem Xt.new {tq : Tb} {H : Hp} {p : Addr} {o : HO} (h : H p = none) : Xt tq H (upd H p o) := .of (Evl.Ex.new h)
theorem Xt.lst {tq : Tb} {H H' : Hp} (e : Xt tq H H') {a : Addr} {xs : List V} (h : H a = some (.lst xs)) : H' a = some (.lst xs) := e.keep a _ h fun _ z => nomatch z
theorem Xt.tup {tq : Tb} {H H' : Hp} (e : Xt tq H H') {a : Addr} {xs : List V} (h : H a = some (.tup xs)) : H' a = some (.tup xs) := e.keep a _ h fun _ z => nomatch z
theorem Xt.dK {tq : Tb} {H H' : Hp} (e : Xt tq H H') {a : Addr} {xs : List (Key × V)} (h : H a = some (.dK xs)) : H' a = some (.dK xs) := e.keep a _ h fun _ z => nomatch z
theorem TbOk.xt {tq : Tb} {H H' : Hp} (t : TbOk tq H) (e : Xt tq H H') : TbOk tq H' := e.tab t
/-- a list or a dict is changed: tables stay -/
inductive Mu : HO → Prop
  | lst (xs : List V) : Mu (.lst xs)
  | dK (kvs : List (Key × V)) : Mu (.dK kvs)
  | dT (kvs : List (List Key × V)) : Mu (.dT kvs)
theorem tabS_upd {H : Hp} {p a : Addr} {u o : HO} {q : Str} (h : H p = some u) (hu : Mu u) (t : TabS H a q) : TabS (upd H p o) a q := by
  obtain ⟨ps, h1, h2, h3⟩ := t
  have ne : ∀ {b : Addr} {v : HO}, H b = some v → ¬ Mu v → b ≠ p := fun {b v} hb n1 z => by
    rw [z, h] at hb
    cases hb
    exact n1 hu
  refine ⟨ps, by rw [upd_ne (ne h1 fun z => nomatch z)]; exact h1, h2, fun pos cv hc => ?_⟩
  obtain ⟨c, e1, e2⟩ := h3 pos cv hc
  exact ⟨c, e1, by rw [upd_ne (ne e2 fun z => nomatch z)]; exact e2⟩
theorem Xt.mut {tq : Tb} {H H' : Hp} {p : Addr} {u o : HO} (e : Xt tq H H') (hp : H p = none) (h : H' p = some u) (hu : Mu u) : Xt tq H (upd H' p o) :=
  ⟨fun a v ha n => by rw [upd_ne (fun z => by rw [z, hp] at ha; cases ha)]; exact e.keep a v ha n, fun t p hp => tabS_upd h hu (e.tab t p hp), fun a z => by
    by_cases y : a = p
    · rw [y, upd_same] at z; cases z
    · rw [upd_ne y] at z; exact e.al a z⟩
/-- from heap to heap: what stands at none of the addresses of O stays, tuples and what is locked stay -/
structure Stp (tq : Tb) (O : AS) (H H' : Hp) : Prop where
  keep : ∀ a u, ¬ O a → H a = some u → (∀ ps, u ≠ .tbl ps) → H' a = some u
  tup : ∀ a xs, H a = some (.tup xs) → H' a = some (.tup xs)
  frz : ∀ a ob u, H a = some (.frz ob u) → H' a = some (.frz ob u)
  back : ∀ a, H' a = none → H a = none
  tab : TbOk tq H → TbOk tq H'
theorem Stp.refl {tq : Tb} (O : AS) (H : Hp) : Stp tq O H H := ⟨fun _ _ _ h _ => h, fun _ _ h => h, fun _ _ _ h => h, fun _ h => h, fun h => h⟩
theorem Stp.trans {tq : Tb} {O : AS} {H H1 H2 : Hp} (a : Stp tq O H H1) (b : Stp tq O H1 H2) : Stp tq O H H2 :=
  ⟨fun x u n h m => b.keep x u n (a.keep x u n h m) m, fun x u h => b.tup x u (a.tup x u h), fun x o u h => b.frz x o u (a.frz x o u h), fun x h => a.back x (b.back x h), fun h => b.tab (a.tab h)⟩
theorem Stp.ex {tq : Tb} {O : AS} {H H' : Hp} (e : Xt tq H H') : Stp tq O H H' := ⟨fun a u _ h m => e.keep a u h m, fun a u h => e.tup h, fun a o u h => e.keep a _ h (fun _ z => nomatch z), e.al, e.tab⟩
theorem Stp.mono {tq : Tb} {O O' : AS} {H H' : Hp} (i : ∀ a, O a → O' a) (s : Stp tq O H H') : Stp tq O' H H' := ⟨fun a u n h => s.keep a u (fun z => n (i a z)) h, s.tup, s.frz, s.back, s.tab⟩
/-- what is new in between may change as well -/
theorem Stp.trans' {tq : Tb} {O O' : AS} {H H1 H2 : Hp} (a : Stp tq O H H1) (b : Stp tq O' H1 H2) (i : ∀ x, O' x → O x ∨ H x = none) : Stp tq O H H2 :=
  ⟨fun x u n h m => b.keep x u (fun z => (i x z).elim n fun w => by rw [w] at h; cases h) (a.keep x u n h m) m, fun x u h => b.tup x u (a.tup x u h), fun x o u h => b.frz x o u (a.frz x o u h), fun x h => a.back x (b.back x h), fun h => b.tab (a.tab h)⟩
theorem Stp.toEx {tq : Tb} {O : AS} {H H' : Hp} (n : ∀ a, ¬ O a) (s : Stp tq O H H') : Xt tq H H' := ⟨fun a u h => s.keep a u (n a) h, s.tab, s.back⟩
theorem Stp.lst {tq : Tb} {O : AS} {H H' : Hp} (s : Stp tq O H H') {a : Addr} {xs : List V} (n : ¬ O a) (h : H a = some (.lst xs)) : H' a = some (.lst xs) := s.keep a _ n h fun _ z => nomatch z
theorem Stp.dK {tq : Tb} {O : AS} {H H' : Hp} (s : Stp tq O H H') {a : Addr} {xs : List (Key × V)} (n : ¬ O a) (h : H a = some (.dK xs)) : H' a = some (.dK xs) := s.keep a _ n h fun _ z => nomatch z
theorem Stp.dT {tq : Tb} {O : AS} {H H' : Hp} (s : Stp tq O H H') {a : Addr} {xs : List (List Key × V)} (n : ¬ O a) (h : H a = some (.dT xs)) : H' a = some (.dT xs) := s.keep a _ n h fun _ z => nomatch z
theorem Stp.frl {tq : Tb} {O : AS} {H H' : Hp} {K : PySem.W.Frag} {a : Addr} {xs : List V} (s : Stp tq O H H') (h : FrL K H a xs) : FrL K H' a xs := by
  rcases h with ⟨o, h⟩ | h
  · exact .inl ⟨o, s.frz a o _ h⟩
  · exact .inr h
theorem Stp.sqT {tq : Tb} {O : AS} {H H' : Hp} {K : PySem.W.Frag} {a : Addr} {xs : List V} (s : Stp tq O H H') (h : SqT K H a xs) : SqT K H' a xs := by
  rcases h with (h | ⟨o, h⟩) | h
  · exact .inl (.inl (s.tup a xs h))
  · exact .inl (.inr ⟨o, s.frz a o _ h⟩)
  · exact .inr h
theorem Stp.pt {tq : Tb} {O : AS} {H H' : Hp} {K : PySem.W.Frag} {a : Addr} {xs : List V} (s : Stp tq O H H') (h : PT K H a xs) : PT K H' a xs := by
  rcases h with ⟨o, h, r⟩ | h
  · exact .inl ⟨o, s.frz a o _ h, r⟩
  · exact .inr h
theorem Stp.chgL {tq : Tb} {O : AS} {H : Hp} {p : Addr} {u o : HO} (hO : O p) (h : H p = some u) (hu : Mu u) : Stp tq O H (upd H p o) := by
  refine ⟨fun a w n e _ => ?_, fun a xs e => ?_, fun a ob w e => ?_, fun a e => ?_, fun t p hp => tabS_upd h hu (t p hp)⟩
  · rw [upd_ne (fun z => n (by rw [z]; exact hO))]; exact e
  · rw [upd_ne (fun z => by rw [z, h] at e; cases e; exact nomatch hu)]; exact e
  · rw [upd_ne (fun z => by rw [z, h] at e; cases e; exact nomatch hu)]; exact e
  · by_cases z : a = p
    · rw [z, upd_same] at e; cases e
    · rw [upd_ne z] at e; exact e
section
variable {K : PySem.W.Frag} {w : World} {tq : Tb} {tb : Tb} {B B' O : AS} {H H' : Hp}
mutual
theorem Rp.stp {tq : Tb} (s : Stp tq O H H') (i : ∀ a, O a → B a) : ∀ {v : V} {d : D}, Rp K w B H v d → Rp K w B H' v d
  | _, _, .non => .non
  | _, _, .bl b => .bl b
  | _, _, .int b => .int b
  | _, _, .str b => .str b
  | _, _, .tup h a => .tup (s.pt h) (RpA.stp s i a)
  | _, _, .pr h a => .pr (s.sqT h) (RpA.stp s i a)
  | _, _, .lst h n a => .lst (s.lst (fun z => n (i _ z)) h) n (RpA.stp s i a)
  | _, _, .dK h n a => .dK (s.dK (fun z => n (i _ z)) h) n (RpK.stp s i a)
  | _, _, .scr h a => .scr (s.frl h) (RpA.stp s i a)
  | _, _, .dc h a => .dc h (RpK.stp s i a)
  | _, _, .fn x => .fn x
  | _, _, .dT h n a => .dT (s.dT (fun z => n (i _ z)) h) n (RpT.stp s i a)
  | _, _, .dp h => .dp (Rp.stp s i h)
theorem RpA.stp {tq : Tb} (s : Stp tq O H H') (i : ∀ a, O a → B a) : ∀ {v : List V} {d : List D}, RpA K w B H v d → RpA K w B H' v d
  | _, _, .nil => .nil
  | _, _, .cons h a => .cons (Rp.stp s i h) (RpA.stp s i a)
theorem RpK.stp {tq : Tb} (s : Stp tq O H H') (i : ∀ a, O a → B a) : ∀ {v : List (Key × V)} {d : List (Key × D)}, RpK K w B H v d → RpK K w B H' v d
  | _, _, .nil => .nil
  | _, _, .cons h a => .cons (Rp.stp s i h) (RpK.stp s i a)
theorem RpT.stp {tq : Tb} (s : Stp tq O H H') (i : ∀ a, O a → B a) : ∀ {v : List (List Key × V)} {d : List (List Key × D)}, RpT K w B H v d → RpT K w B H' v d
  | _, _, .nil => .nil
  | _, _, .cons h a => .cons (Rp.stp s i h) (RpT.stp s i a)
end
mutual
theorem Rp.anti (i : ∀ a, B' a → B a ∨ H a = none) : ∀ {v : V} {d : D}, Rp K w B H v d → Rp K w B' H v d
  | _, _, .non => .non
  | _, _, .bl b => .bl b
  | _, _, .int b => .int b
  | _, _, .str b => .str b
  | _, _, .tup h a => .tup h (RpA.anti i a)
  | _, _, .pr h a => .pr h (RpA.anti i a)
  | _, _, .lst h n a => .lst h (fun z => (i _ z).elim n fun w => by rw [w] at h; cases h) (RpA.anti i a)
  | _, _, .dK h n a => .dK h (fun z => (i _ z).elim n fun w => by rw [w] at h; cases h) (RpK.anti i a)
  | _, _, .scr h a => .scr h (RpA.anti i a)
  | _, _, .dc h a => .dc h (RpK.anti i a)
  | _, _, .fn x => .fn x
  | _, _, .dT h n a => .dT h (fun z => (i _ z).elim n fun w => by rw [w] at h; cases h) (RpT.anti i a)
  | _, _, .dp h => .dp (Rp.anti i h)
theorem RpA.anti (i : ∀ a, B' a → B a ∨ H a = none) : ∀ {v : List V} {d : List D}, RpA K w B H v d → RpA K w B' H v d
  | _, _, .nil => .nil
  | _, _, .cons h a => .cons (Rp.anti i h) (RpA.anti i a)
theorem RpK.anti (i : ∀ a, B' a → B a ∨ H a = none) : ∀ {v : List (Key × V)} {d : List (Key × D)}, RpK K w B H v d → RpK K w B' H v d
  | _, _, .nil => .nil
  | _, _, .cons h a => .cons (Rp.anti i h) (RpK.anti i a)
theorem RpT.anti (i : ∀ a, B' a → B a ∨ H a = none) : ∀ {v : List (List Key × V)} {d : List (List Key × D)}, RpT K w B H v d → RpT K w B' H v d
  | _, _, .nil => .nil
  | _, _, .cons h a => .cons (Rp.anti i h) (RpT.anti i a)
end
theorem RpT.ex {tq : Tb} (e : Xt tq H H') {v : List (List Key × V)} {d : List (List Key × D)} (h : RpT K w B H v d) : RpT K w B H' v d := h.stp (O := fun _ => False) (Stp.ex e) (fun _ z => z.elim)
theorem RpT.nw {p : Addr} {o : HO} (e : H p = none) {v : List (List Key × V)} {d : List (List Key × D)} (h : RpT K w B H v d) : RpT K w B (upd H p o) v d := h.ex (tq := []) (Xt.new e)
theorem RpT.len : ∀ {v : List (List Key × V)} {d : List (List Key × D)}, RpT K w B H v d → v.length = d.length
  | _, _, .nil => rfl
  | _, _, .cons _ a => congrArg Nat.succ (RpT.len a)
theorem Rp.ex {tq : Tb} (e : Xt tq H H') {v : V} {d : D} (h : Rp K w B H v d) : Rp K w B H' v d := h.stp (O := fun _ => False) (Stp.ex e) (fun _ z => z.elim)
theorem RpA.ex {tq : Tb} (e : Xt tq H H') {v : List V} {d : List D} (h : RpA K w B H v d) : RpA K w B H' v d := h.stp (O := fun _ => False) (Stp.ex e) (fun _ z => z.elim)
theorem RpK.ex {tq : Tb} (e : Xt tq H H') {v : List (Key × V)} {d : List (Key × D)} (h : RpK K w B H v d) : RpK K w B H' v d := h.stp (O := fun _ => False) (Stp.ex e) (fun _ z => z.elim)
theorem Rp.nw {p : Addr} {o : HO} (e : H p = none) {v : V} {d : D} (h : Rp K w B H v d) : Rp K w B (upd H p o) v d := h.ex (tq := []) (Xt.new e)
theorem RpA.nw {p : Addr} {o : HO} (e : H p = none) {v : List V} {d : List D} (h : RpA K w B H v d) : RpA K w B (upd H p o) v d := h.ex (tq := []) (Xt.new e)
theorem RpK.nw {p : Addr} {o : HO} (e : H p = none) {v : List (Key × V)} {d : List (Key × D)} (h : RpK K w B H v d) : RpK K w B (upd H p o) v d := h.ex (tq := []) (Xt.new e)
theorem RpA.len : ∀ {v : List V} {d : List D}, RpA K w B H v d → v.length = d.length
  | _, _, .nil => rfl
  | _, _, .cons _ a => congrArg Nat.succ (RpA.len a)
theorem RpK.len : ∀ {v : List (Key × V)} {d : List (Key × D)}, RpK K w B H v d → v.length = d.length
  | _, _, .nil => rfl
  | _, _, .cons _ a => congrArg Nat.succ (RpK.len a)
theorem RpA.at : ∀ {vs : List V} {ds : List D} {i : Nat} {d : D}, RpA K w B H vs ds → ds[i]? = some d → ∃ v, vs[i]? = some v ∧ Rp K w B H v d
  | _, _, 0, _, .cons h _, e => by simp at e; subst e; exact ⟨_, rfl, h⟩
  | _, _, i + 1, _, .cons _ a, e => by
    obtain ⟨v, h1, h2⟩ := RpA.at (i := i) a (by simpa using e)
    exact ⟨v, by simpa using h1, h2⟩
  | _, _, 0, _, .nil, e => by simp at e
  | _, _, i + 1, _, .nil, e => by simp at e
theorem RpA.atV : ∀ {vs : List V} {ds : List D} {i : Nat} {v : V}, RpA K w B H vs ds → vs[i]? = some v → ∃ d, ds[i]? = some d ∧ Rp K w B H v d
  | _, _, 0, _, .cons h _, e => by simp at e; subst e; exact ⟨_, rfl, h⟩
  | _, _, i + 1, _, .cons _ a, e => by
    obtain ⟨v, h1, h2⟩ := RpA.atV (i := i) a (by simpa using e)
    exact ⟨v, by simpa using h1, h2⟩
  | _, _, 0, _, .nil, e => by simp at e
  | _, _, i + 1, _, .nil, e => by simp at e
theorem RpA.app : ∀ {vs ws : List V} {ds es : List D}, RpA K w B H vs ds → RpA K w B H ws es → RpA K w B H (vs ++ ws) (ds ++ es)
  | _, _, _, _, .nil, h => h
  | _, _, _, _, .cons g a, h => .cons g (RpA.app a h)
theorem RpA.snoc {vs : List V} {v : V} {ds : List D} {d : D} (h : RpA K w B H vs ds) (g : Rp K w B H v d) : RpA K w B H (vs ++ [v]) (ds ++ [d]) := h.app (.cons g .nil)
theorem RpA.drop : ∀ {vs : List V} {ds : List D} (n : Nat), RpA K w B H vs ds → RpA K w B H (vs.drop n) (ds.drop n)
  | _, _, 0, h => h
  | _, _, n + 1, .nil => .nil
  | _, _, n + 1, .cons _ a => RpA.drop n a
theorem RpA.take : ∀ {vs : List V} {ds : List D} (n : Nat), RpA K w B H vs ds → RpA K w B H (vs.take n) (ds.take n)
  | _, _, 0, _ => .nil
  | _, _, n + 1, .nil => .nil
  | _, _, n + 1, .cons h a => .cons h (RpA.take n a)
theorem RpA.eraseIdx : ∀ {vs : List V} {ds : List D} (n : Nat), RpA K w B H vs ds → RpA K w B H (vs.eraseIdx n) (ds.eraseIdx n)
  | _, _, 0, .nil => .nil
  | _, _, 0, .cons _ a => a
  | _, _, n + 1, .nil => .nil
  | _, _, n + 1, .cons h a => .cons h (RpA.eraseIdx n a)
theorem RpA.set : ∀ {vs : List V} {ds : List D} (n : Nat) {v : V} {d : D}, RpA K w B H vs ds → Rp K w B H v d → RpA K w B H (vs.set n v) (ds.set n d)
  | _, _, 0, _, _, .nil, _ => .nil
  | _, _, 0, _, _, .cons _ a, g => .cons g a
  | _, _, n + 1, _, _, .nil, _ => .nil
  | _, _, n + 1, _, _, .cons h a, g => .cons h (RpA.set n a g)
theorem RpA.rev : ∀ {vs : List V} {ds : List D}, RpA K w B H vs ds → RpA K w B H vs.reverse ds.reverse
  | _, _, .nil => .nil
  | _, _, .cons h a => by rw [List.reverse_cons, List.reverse_cons]; exact (RpA.rev a).snoc h
theorem RpA.ints {ns : List Int} : RpA K w B H (ns.map V.int) (ns.map D.int) := by
  induction ns with
  | nil => exact .nil
  | cons n r ih => exact .cons (.int n) ih
theorem RpA.strs {ns : List Str} : RpA K w B H (ns.map V.str) (ns.map D.str) := by
  induction ns with
  | nil => exact .nil
  | cons n r ih => exact .cons (.str n) ih
end
mutual
def D.noL : D → Bool
  | .lst _ => false
  | .dK _ => false
  | .dT _ => false
  | .dp _ => false
  | .own _ => false
  | .ov _ => false
  | .tup xs => D.noLs xs
  | .pr xs => D.noLs xs
  | .scr xs => D.noLs xs
  | .dc xs => D.noLk xs
  | _ => true
def D.noLs : List D → Bool
  | [] => true
  | d :: ds => d.noL && D.noLs ds
def D.noLk : List (Key × D) → Bool
  | [] => true
  | (_, d) :: ds => d.noL && D.noLk ds
end
mutual
theorem Rp.any {K : PySem.W.Frag} {w : World} {B B' : AS} {H : Hp} : ∀ {v : V} {d : D}, Rp K w B H v d → d.noL = true → Rp K w B' H v d
  | _, _, .non, _ => .non
  | _, _, .bl b, _ => .bl b
  | _, _, .int b, _ => .int b
  | _, _, .str b, _ => .str b
  | _, _, .tup h a, n => .tup h (RpA.any a (by simpa [D.noL] using n))
  | _, _, .pr h a, n => .pr h (RpA.any a (by simpa [D.noL] using n))
  | _, _, .lst _ _ _, n => by simp [D.noL] at n
  | _, _, .dK _ _ _, n => by simp [D.noL] at n
  | _, _, .scr h a, n => .scr h (RpA.any a (by simpa [D.noL] using n))
  | _, _, .dc h a, n => .dc h (RpK.any a (by simpa [D.noL] using n))
  | _, _, .fn x, _ => .fn x
  | _, _, .dT _ _ _, n => by simp [D.noL] at n
  | _, _, .dp _, n => by simp [D.noL] at n
theorem RpA.any {K : PySem.W.Frag} {w : World} {B B' : AS} {H : Hp} : ∀ {v : List V} {d : List D}, RpA K w B H v d → D.noLs d = true → RpA K w B' H v d
  | _, _, .nil, _ => .nil
  | _, d :: ds, .cons h a, n => by
    have n2 : d.noL = true ∧ D.noLs ds = true := by simpa [D.noLs] using n
    exact .cons (Rp.any h n2.1) (RpA.any a n2.2)
theorem RpK.any {K : PySem.W.Frag} {w : World} {B B' : AS} {H : Hp} : ∀ {v : List (Key × V)} {d : List (Key × D)}, RpK K w B H v d → D.noLk d = true → RpK K w B' H v d
  | _, _, .nil, _ => .nil
  | _, (_, d) :: ds, .cons h a, n => by
    have n2 : d.noL = true ∧ D.noLk ds = true := by simpa [D.noLk] using n
    exact .cons (Rp.any h n2.1) (RpK.any a n2.2)
end
mutual
theorem rp_toD {K : PySem.W.Frag} {w : World} {B : AS} {H : Hp} : ∀ {v : V} {d : D}, Rp K w B H v d → d.toD = d
  | _, _, .non => rfl
  | _, _, .bl _ => rfl
  | _, _, .int _ => rfl
  | _, _, .str _ => rfl
  | _, _, .tup _ _ => rfl
  | _, _, .pr _ _ => rfl
  | _, _, .lst _ _ a => by rw [D.toD, rpa_toD a]
  | _, _, .dK _ _ a => by rw [D.toD, rpk_toD a]
  | _, _, .scr _ _ => rfl
  | _, _, .dc _ _ => rfl
  | _, _, .fn _ => rfl
  | _, _, .dT _ _ a => by rw [D.toD, rpt_toD a]
  | _, _, .dp _ => rfl
theorem rpa_toD {K : PySem.W.Frag} {w : World} {B : AS} {H : Hp} : ∀ {v : List V} {d : List D}, RpA K w B H v d → D.toDs d = d
  | _, _, .nil => rfl
  | _, _, .cons h a => by rw [D.toDs, rp_toD h, rpa_toD a]
theorem rpk_toD {K : PySem.W.Frag} {w : World} {B : AS} {H : Hp} : ∀ {v : List (Key × V)} {d : List (Key × D)}, RpK K w B H v d → D.toDk d = d
  | _, _, .nil => rfl
  | _, _, .cons h a => by rw [D.toDk, rp_toD h, rpk_toD a]
theorem rpt_toD {K : PySem.W.Frag} {w : World} {B : AS} {H : Hp} : ∀ {v : List (List Key × V)} {d : List (List Key × D)}, RpT K w B H v d → D.toDt d = d
  | _, _, .nil => rfl
  | _, _, .cons h a => by rw [D.toDt, rp_toD h, rpt_toD a]
end
mutual
/-- with its parts -/
inductive OwD (K : PySem.W.Frag) (w : World) (B : AS) (H : Hp) : V → D → List Addr → Prop
  | va {v : V} {d : D} : Rp K w B H v d → OwD K w B H v d []
  | vl {p : Addr} {xs : List V} {ds : List D} : H p = some (.lst xs) → RpA K w B H xs ds → OwD K w B H (.ref p) (.ov (.lst ds)) [p]
  | vk {p : Addr} {xs : List (Key × V)} {ds : List (Key × D)} : H p = some (.dK xs) → RpK K w B H xs ds → OwD K w B H (.ref p) (.ov (.dK ds)) [p]
  | vt {p : Addr} {xs : List (List Key × V)} {ds : List (List Key × D)} : H p = some (.dT xs) → RpT K w B H xs ds → OwD K w B H (.ref p) (.ov (.dT ds)) [p]
  | lst {p : Addr} {xs : List V} {ds : List D} {S : List Addr} : H p = some (.lst xs) → OwDs K w B H xs ds S → p ∉ S → OwD K w B H (.ref p) (.own (.lst ds)) (p :: S)
  | dK {p : Addr} {xs : List (Key × V)} {ds : List (Key × D)} {S : List Addr} : H p = some (.dK xs) → OwDk K w B H xs ds S → p ∉ S → OwD K w B H (.ref p) (.own (.dK ds)) (p :: S)
  | dT {p : Addr} {xs : List (List Key × V)} {ds : List (List Key × D)} {S : List Addr} : H p = some (.dT xs) → OwDt K w B H xs ds S → p ∉ S → OwD K w B H (.ref p) (.own (.dT ds)) (p :: S)
inductive OwDs (K : PySem.W.Frag) (w : World) (B : AS) (H : Hp) : List V → List D → List Addr → Prop
  | nil : OwDs K w B H [] [] []
  | cons {v : V} {vs : List V} {d : D} {ds : List D} {S T : List Addr} : OwD K w B H v d S → OwDs K w B H vs ds T → (∀ a ∈ S, a ∉ T) → OwDs K w B H (v :: vs) (d :: ds) (S ++ T)
inductive OwDk (K : PySem.W.Frag) (w : World) (B : AS) (H : Hp) : List (Key × V) → List (Key × D) → List Addr → Prop
  | nil : OwDk K w B H [] [] []
  | cons {k : Key} {v : V} {vs : List (Key × V)} {d : D} {ds : List (Key × D)} {S T : List Addr} : OwD K w B H v d S → OwDk K w B H vs ds T → (∀ a ∈ S, a ∉ T) → OwDk K w B H ((k, v) :: vs) ((k, d) :: ds) (S ++ T)
inductive OwDt (K : PySem.W.Frag) (w : World) (B : AS) (H : Hp) : List (List Key × V) → List (List Key × D) → List Addr → Prop
  | nil : OwDt K w B H [] [] []
  | cons {k : List Key} {v : V} {vs : List (List Key × V)} {d : D} {ds : List (List Key × D)} {S T : List Addr} : OwD K w B H v d S → OwDt K w B H vs ds T → (∀ a ∈ S, a ∉ T) → OwDt K w B H ((k, v) :: vs) ((k, d) :: ds) (S ++ T)
end
section
variable {K : PySem.W.Frag} {w : World} {tq : Tb} {tb : Tb} {B B' O : AS} {H H' : Hp}
mutual
theorem OwD.al : ∀ {v : V} {d : D} {S : List Addr}, OwD K w B H v d S → ∀ {a : Addr}, a ∈ S → H a ≠ none
  | _, _, _, .va _, a, h => absurd h List.not_mem_nil
  | _, _, _, .vl h _, a, ha => by rw [List.mem_singleton.mp ha, h]; exact fun z => nomatch z
  | _, _, _, .vk h _, a, ha => by rw [List.mem_singleton.mp ha, h]; exact fun z => nomatch z
  | _, _, _, .vt h _, a, ha => by rw [List.mem_singleton.mp ha, h]; exact fun z => nomatch z
  | _, _, _, .lst h c _, a, ha => (List.mem_cons.mp ha).elim (fun z => by rw [z, h]; exact fun z => nomatch z) (OwDs.al c)
  | _, _, _, .dK h c _, a, ha => (List.mem_cons.mp ha).elim (fun z => by rw [z, h]; exact fun z => nomatch z) (OwDk.al c)
  | _, _, _, .dT h c _, a, ha => (List.mem_cons.mp ha).elim (fun z => by rw [z, h]; exact fun z => nomatch z) (OwDt.al c)
theorem OwDs.al : ∀ {v : List V} {d : List D} {S : List Addr}, OwDs K w B H v d S → ∀ {a : Addr}, a ∈ S → H a ≠ none
  | _, _, _, .nil, a, h => absurd h List.not_mem_nil
  | _, _, _, .cons c r _, a, h => (List.mem_append.mp h).elim (OwD.al c) (OwDs.al r)
theorem OwDk.al : ∀ {v : List (Key × V)} {d : List (Key × D)} {S : List Addr}, OwDk K w B H v d S → ∀ {a : Addr}, a ∈ S → H a ≠ none
  | _, _, _, .nil, a, h => absurd h List.not_mem_nil
  | _, _, _, .cons c r _, a, h => (List.mem_append.mp h).elim (OwD.al c) (OwDk.al r)
theorem OwDt.al : ∀ {v : List (List Key × V)} {d : List (List Key × D)} {S : List Addr}, OwDt K w B H v d S → ∀ {a : Addr}, a ∈ S → H a ≠ none
  | _, _, _, .nil, a, h => absurd h List.not_mem_nil
  | _, _, _, .cons c r _, a, h => (List.mem_append.mp h).elim (OwD.al c) (OwDt.al r)
end
mutual
theorem OwD.stp (s : Stp tq O H H') (i : ∀ a, O a → B a) : ∀ {v : V} {d : D} {S : List Addr}, OwD K w B H v d S → (∀ a ∈ S, ¬ O a) → OwD K w B H' v d S
  | _, _, _, .va r, n => .va (r.stp s i)
  | _, _, _, .vl h c, n => .vl (s.lst (n _ (List.mem_cons_self ..)) h) (c.stp s i)
  | _, _, _, .vk h c, n => .vk (s.dK (n _ (List.mem_cons_self ..)) h) (c.stp s i)
  | _, _, _, .vt h c, n => .vt (s.dT (n _ (List.mem_cons_self ..)) h) (c.stp s i)
  | _, _, _, .lst h c q, n => .lst (s.lst (n _ (List.mem_cons_self ..)) h) (OwDs.stp s i c fun a z => n a (List.mem_cons_of_mem _ z)) q
  | _, _, _, .dK h c q, n => .dK (s.dK (n _ (List.mem_cons_self ..)) h) (OwDk.stp s i c fun a z => n a (List.mem_cons_of_mem _ z)) q
  | _, _, _, .dT h c q, n => .dT (s.dT (n _ (List.mem_cons_self ..)) h) (OwDt.stp s i c fun a z => n a (List.mem_cons_of_mem _ z)) q
theorem OwDs.stp (s : Stp tq O H H') (i : ∀ a, O a → B a) : ∀ {v : List V} {d : List D} {S : List Addr}, OwDs K w B H v d S → (∀ a ∈ S, ¬ O a) → OwDs K w B H' v d S
  | _, _, _, .nil, n => .nil
  | _, _, _, .cons c r q, n => .cons (OwD.stp s i c fun a z => n a (List.mem_append_left _ z)) (OwDs.stp s i r fun a z => n a (List.mem_append_right _ z)) q
theorem OwDk.stp (s : Stp tq O H H') (i : ∀ a, O a → B a) : ∀ {v : List (Key × V)} {d : List (Key × D)} {S : List Addr}, OwDk K w B H v d S → (∀ a ∈ S, ¬ O a) → OwDk K w B H' v d S
  | _, _, _, .nil, n => .nil
  | _, _, _, .cons c r q, n => .cons (OwD.stp s i c fun a z => n a (List.mem_append_left _ z)) (OwDk.stp s i r fun a z => n a (List.mem_append_right _ z)) q
theorem OwDt.stp (s : Stp tq O H H') (i : ∀ a, O a → B a) : ∀ {v : List (List Key × V)} {d : List (List Key × D)} {S : List Addr}, OwDt K w B H v d S → (∀ a ∈ S, ¬ O a) → OwDt K w B H' v d S
  | _, _, _, .nil, n => .nil
  | _, _, _, .cons c r q, n => .cons (OwD.stp s i c fun a z => n a (List.mem_append_left _ z)) (OwDt.stp s i r fun a z => n a (List.mem_append_right _ z)) q
end
mutual
theorem OwD.anti (i : ∀ a, B' a → B a ∨ H a = none) : ∀ {v : V} {d : D} {S : List Addr}, OwD K w B H v d S → OwD K w B' H v d S
  | _, _, _, .va r => .va (r.anti i)
  | _, _, _, .vl h c => .vl h (c.anti i)
  | _, _, _, .vk h c => .vk h (c.anti i)
  | _, _, _, .vt h c => .vt h (c.anti i)
  | _, _, _, .lst h c q => .lst h (OwDs.anti i c) q
  | _, _, _, .dK h c q => .dK h (OwDk.anti i c) q
  | _, _, _, .dT h c q => .dT h (OwDt.anti i c) q
theorem OwDs.anti (i : ∀ a, B' a → B a ∨ H a = none) : ∀ {v : List V} {d : List D} {S : List Addr}, OwDs K w B H v d S → OwDs K w B' H v d S
  | _, _, _, .nil => .nil
  | _, _, _, .cons c r q => .cons (OwD.anti i c) (OwDs.anti i r) q
theorem OwDk.anti (i : ∀ a, B' a → B a ∨ H a = none) : ∀ {v : List (Key × V)} {d : List (Key × D)} {S : List Addr}, OwDk K w B H v d S → OwDk K w B' H v d S
  | _, _, _, .nil => .nil
  | _, _, _, .cons c r q => .cons (OwD.anti i c) (OwDk.anti i r) q
theorem OwDt.anti (i : ∀ a, B' a → B a ∨ H a = none) : ∀ {v : List (List Key × V)} {d : List (List Key × D)} {S : List Addr}, OwDt K w B H v d S → OwDt K w B' H v d S
  | _, _, _, .nil => .nil
  | _, _, _, .cons c r q => .cons (OwD.anti i c) (OwDt.anti i r) q
end
mutual
theorem OwD.rp (i : ∀ a, B' a → B a) : ∀ {v : V} {d : D} {S : List Addr}, OwD K w B H v d S → (∀ a ∈ S, ¬ B' a) → Rp K w B' H v d.toD
  | _, _, _, .va r, n => by rw [rp_toD r]; exact r.anti fun a z => .inl (i a z)
  | _, _, _, .vl h c, n => .lst h (n _ (List.mem_cons_self ..)) (c.anti fun a z => .inl (i a z))
  | _, _, _, .vk h c, n => .dK h (n _ (List.mem_cons_self ..)) (c.anti fun a z => .inl (i a z))
  | _, _, _, .vt h c, n => .dT h (n _ (List.mem_cons_self ..)) (c.anti fun a z => .inl (i a z))
  | _, _, _, .lst h c _, n => .lst h (n _ (List.mem_cons_self ..)) (OwDs.rp i c fun a z => n a (List.mem_cons_of_mem _ z))
  | _, _, _, .dK h c _, n => .dK h (n _ (List.mem_cons_self ..)) (OwDk.rp i c fun a z => n a (List.mem_cons_of_mem _ z))
  | _, _, _, .dT h c _, n => .dT h (n _ (List.mem_cons_self ..)) (OwDt.rp i c fun a z => n a (List.mem_cons_of_mem _ z))
theorem OwDs.rp (i : ∀ a, B' a → B a) : ∀ {v : List V} {d : List D} {S : List Addr}, OwDs K w B H v d S → (∀ a ∈ S, ¬ B' a) → RpA K w B' H v (D.toDs d)
  | _, _, _, .nil, n => .nil
  | _, _, _, .cons c r _, n => .cons (OwD.rp i c fun a z => n a (List.mem_append_left _ z)) (OwDs.rp i r fun a z => n a (List.mem_append_right _ z))
theorem OwDk.rp (i : ∀ a, B' a → B a) : ∀ {v : List (Key × V)} {d : List (Key × D)} {S : List Addr}, OwDk K w B H v d S → (∀ a ∈ S, ¬ B' a) → RpK K w B' H v (D.toDk d)
  | _, _, _, .nil, n => .nil
  | _, _, _, .cons c r _, n => .cons (OwD.rp i c fun a z => n a (List.mem_append_left _ z)) (OwDk.rp i r fun a z => n a (List.mem_append_right _ z))
theorem OwDt.rp (i : ∀ a, B' a → B a) : ∀ {v : List (List Key × V)} {d : List (List Key × D)} {S : List Addr}, OwDt K w B H v d S → (∀ a ∈ S, ¬ B' a) → RpT K w B' H v (D.toDt d)
  | _, _, _, .nil, n => .nil
  | _, _, _, .cons c r _, n => .cons (OwD.rp i c fun a z => n a (List.mem_append_left _ z)) (OwDt.rp i r fun a z => n a (List.mem_append_right _ z))
end
end
inductive OwR (K : PySem.W.Frag) (w : World) (B : AS) (H : Hp) (p : Addr) : D → List Addr → Prop
  | lst {xs : List V} {ds : List D} : H p = some (.lst xs) → RpA K w B H xs ds → OwR K w B H p (.lst ds) [p]
  | dK {kvs : List (Key × V)} {ds : List (Key × D)} : H p = some (.dK kvs) → RpK K w B H kvs ds → OwR K w B H p (.dK ds) [p]
  | dT {kvs : List (List Key × V)} {ds : List (List Key × D)} : H p = some (.dT kvs) → RpT K w B H kvs ds → OwR K w B H p (.dT ds) [p]
  | dp {x : D} {S : List Addr} : OwD K w B H (.ref p) x S → p ∈ S → OwR K w B H p (.dp x) S
section
variable {K : PySem.W.Frag} {w : World} {tq : Tb} {tb : Tb} {B B' O : AS} {H H' : Hp} {p : Addr} {d : D} {S : List Addr}
theorem OwR.mem (h : OwR K w B H p d S) : p ∈ S := by cases h <;> first | exact List.mem_singleton.mpr rfl | assumption
theorem OwR.al (h : OwR K w B H p d S) {a : Addr} (ha : a ∈ S) : H a ≠ none := by
  cases h with
  | lst h _ => rw [List.mem_singleton.mp ha, h]; exact fun z => nomatch z
  | dK h _ => rw [List.mem_singleton.mp ha, h]; exact fun z => nomatch z
  | dT h _ => rw [List.mem_singleton.mp ha, h]; exact fun z => nomatch z
  | dp h _ => exact h.al ha
theorem OwR.stp (s : Stp tq O H H') (i : ∀ a, O a → B a) (n : ∀ a ∈ S, ¬ O a) (h : OwR K w B H p d S) : OwR K w B H' p d S := by
  cases h with
  | lst h a => exact .lst (s.lst (n _ (List.mem_singleton.mpr rfl)) h) (a.stp s i)
  | dK h a => exact .dK (s.dK (n _ (List.mem_singleton.mpr rfl)) h) (a.stp s i)
  | dT h a => exact .dT (s.dT (n _ (List.mem_singleton.mpr rfl)) h) (a.stp s i)
  | dp h q => exact .dp (h.stp s i n) q
theorem OwR.ex (e : Xt tq H H') (h : OwR K w B H p d S) : OwR K w B H' p d S := h.stp (O := fun _ => False) (Stp.ex e) (fun _ z => z.elim) (fun _ _ z => z)
theorem OwR.anti (i : ∀ a, B' a → B a ∨ H a = none) (h : OwR K w B H p d S) : OwR K w B' H p d S := by
  cases h with
  | lst h a => exact .lst h (a.anti i)
  | dK h a => exact .dK h (a.anti i)
  | dT h a => exact .dT h (a.anti i)
  | dp h q => exact .dp (h.anti i) q
/-- told by value -/
theorem OwR.rp (h : OwR K w B H p d S) (i : ∀ a, B' a → B a) (n : ∀ a ∈ S, ¬ B' a) : Rp K w B' H (.ref p) d := by
  have np := n p h.mem
  cases h with
  | lst h a => exact .lst h np (a.anti fun a z => .inl (i a z))
  | dK h a => exact .dK h np (a.anti fun a z => .inl (i a z))
  | dT h a => exact .dT h np (a.anti fun a z => .inl (i a z))
  | dp h q => exact .dp (h.rp i n)
/-- .. with its parts as values -/
def dpv : D → D
  | .dp x => x.toD
  | d => d
theorem rp_dpv {v : V} (h : Rp K w B H v d) : Rp K w B H v (dpv d) := by
  cases h with
  | dp h => exact h
  | _ => first | constructor <;> assumption | exact h
end
end M
end
section
set_option Elab.async false
set_option linter.all false
set_option maxRecDepth 100000
set_option maxHeartbeats 4000000
namespace M
open PySem PySem.Spec PyProof.Rows L2 U
open LamX (TabS)
/-- what is known of a slot: nothing; a value; an object that is the def's own (.. that was handed in, to be changed) -/
inductive Sl where
  | no
  | va (d : D)
  | ow (f : Bool) (d : D)
structure Ct where
  F : AS
  H0 : Hp
  O0 : AS
  ip : Addr
abbrev Foot := Nat → List Addr
def FtA (ρ : List Sl) (φ : Foot) : AS := fun a => ∃ (j : Nat) (f : Bool) (d : D), ρ[j]? = some (Sl.ow f d) ∧ a ∈ φ j
def Av (Γ : Ct) (ρ : List Sl) (φ : Foot) : AS := fun a => Γ.F a ∨ FtA ρ φ a
structure ER (K : PySem.W.Frag) (w : World) (tq : Tb) (Γ : Ct) (φ : Foot) (σ : L2.St) (H : Hp) (ρ : List Sl) : Prop where
  len : σ.length = ρ.length
  al : ∀ a, Γ.F a → H a ≠ none
  tbl : TbOk tq H
  va : ∀ (j : Nat) (d : D), ρ[j]? = some (Sl.va d) → ∃ v, σ[j]? = some (some v) ∧ Rp K w (Av Γ ρ φ) H v d
  ow : ∀ (j : Nat) (f : Bool) (d : D), ρ[j]? = some (Sl.ow f d) → ∃ p, σ[j]? = some (some (.ref p)) ∧ OwR K w (Av Γ ρ φ) H p d (φ j) ∧ (∀ a ∈ φ j, ¬ Γ.F a ∧ (Γ.O0 a ∨ Γ.H0 a = none)) ∧ (f = true → p = Γ.ip)
  dis : ∀ (j k : Nat) (f g : Bool) (d e : D) (a : Addr), ρ[j]? = some (Sl.ow f d) → ρ[k]? = some (Sl.ow g e) → a ∈ φ j → a ∈ φ k → j = k
  stp : Stp tq Γ.O0 Γ.H0 H
section
variable {K : PySem.W.Frag} {w : World} {tq : Tb} {Γ : Ct} {φ φ' : Foot} {σ σ' : L2.St} {H H' : Hp} {ρ ρ' : List Sl}
theorem ER.alA (E : ER K w tq Γ φ σ H ρ) : ∀ a, Av Γ ρ φ a → H a ≠ none := by
  rintro a (h | ⟨j, f, d, h1, h2⟩)
  · exact E.al a h
  · obtain ⟨p, _, o, _⟩ := E.ow j f d h1
    exact o.al h2
theorem ER.fO (E : ER K w tq Γ φ σ H ρ) : ∀ a, FtA ρ φ a → Γ.O0 a ∨ Γ.H0 a = none := by
  rintro a ⟨j, f, d, h1, h2⟩
  obtain ⟨p, _, o, h, _⟩ := E.ow j f d h1
  exact (h a h2).2
/-- new objects come -/
theorem ER.ex (E : ER K w tq Γ φ σ H ρ) (e : Xt tq H H') : ER K w tq Γ φ σ H' ρ where
  len := E.len
  al := fun a h => fun z => E.al a h ((Stp.ex (O := fun _ => False) e).back a z)
  tbl := E.tbl.xt e
  va := fun j d h => let ⟨v, h1, h2⟩ := E.va j d h; ⟨v, h1, h2.ex e⟩
  ow := fun j f d h => let ⟨p, h1, h2, h3⟩ := E.ow j f d h; ⟨p, h1, h2.ex e, h3⟩
  dis := E.dis
  stp := E.stp.trans (Stp.ex e)
/-- from here on -/
def Ct.re (Γ : Ct) (ρ : List Sl) (φ : Foot) (H : Hp) : Ct := ⟨Γ.F, H, FtA ρ φ, Γ.ip⟩
theorem ER.re (E : ER K w tq Γ φ σ H ρ) : ER K w tq (Γ.re ρ φ H) φ σ H ρ where
  len := E.len
  al := E.al
  tbl := E.tbl
  va := E.va
  ow := fun j f d h => let ⟨p, h1, h2, h3, h4⟩ := E.ow j f d h; ⟨p, h1, h2, fun a ha => ⟨(h3 a ha).1, .inl ⟨j, f, d, h, ha⟩⟩, h4⟩
  dis := E.dis
  stp := Stp.refl _ _
theorem ER.reO (E : ER K w tq Γ φ σ H ρ) {a : Addr} (h : (Γ.re ρ φ H).O0 a ∨ (Γ.re ρ φ H).H0 a = none) : Γ.O0 a ∨ Γ.H0 a = none := by
  rcases h with h | h
  · exact E.fO a h
  · exact .inr (E.stp.back a h)
theorem ER.back (E : ER K w tq Γ φ σ H ρ) (E' : ER K w tq (Γ.re ρ φ H) φ' σ' H' ρ') : ER K w tq Γ φ' σ' H' ρ' where
  len := E'.len
  al := E'.al
  tbl := E'.tbl
  va := E'.va
  ow := fun j f d h => let ⟨p, h1, h2, h3, h4⟩ := E'.ow j f d h; ⟨p, h1, h2, fun a ha => ⟨(h3 a ha).1, E.reO (h3 a ha).2⟩, h4⟩
  dis := E'.dis
  stp := E.stp.trans' E'.stp E.fO
end
/-- less is known, what is owned is told by value -/
def SubS : Sl → Sl → Prop
  | _, .no => True
  | .va d, .va e => d = e
  | .ow _ d, .va e => d = e ∨ e = dpv d
  | .ow f d, .ow g e => f = g ∧ d = e
  | _, _ => False
def Sub : List Sl → List Sl → Prop
  | [], [] => True
  | a :: r, b :: s => SubS a b ∧ Sub r s
  | _, _ => False
theorem SubS.refl : ∀ a, SubS a a
  | .no => trivial
  | .va _ => rfl
  | .ow _ _ => ⟨rfl, rfl⟩
theorem Sub.refl : ∀ r, Sub r r
  | [] => trivial
  | a :: r => ⟨SubS.refl a, Sub.refl r⟩
theorem Sub.len : ∀ {r s : List Sl}, Sub r s → r.length = s.length
  | [], [], _ => rfl
  | _ :: _, _ :: _, h => congrArg Nat.succ (Sub.len h.2)
theorem Sub.at : ∀ {r s : List Sl} {j : Nat} {b : Sl}, Sub r s → s[j]? = some b → ∃ a, r[j]? = some a ∧ SubS a b
  | [], [], j, _, _, e => by simp at e
  | a :: r, b :: s, 0, _, h, e => by simp at e; subst e; exact ⟨a, rfl, h.1⟩
  | a :: r, b :: s, j + 1, _, h, e => by
    obtain ⟨a', h1, h2⟩ := Sub.at (j := j) h.2 (by simpa using e)
    exact ⟨a', by simpa using h1, h2⟩
section
variable {K : PySem.W.Frag} {w : World} {tq : Tb} {Γ : Ct} {φ φ' : Foot} {σ σ' : L2.St} {H H' : Hp} {ρ ρ' : List Sl}
theorem Sub.ft (s : Sub ρ ρ') {a : Addr} (h : FtA ρ' φ a) : FtA ρ φ a := by
  obtain ⟨j, f, d, h1, h2⟩ := h
  obtain ⟨b, g1, g2⟩ := s.at h1
  cases b with
  | no => exact g2.elim
  | va _ => exact g2.elim
  | ow g e => exact ⟨j, g, e, g1, h2⟩
theorem Sub.av (s : Sub ρ ρ') {a : Addr} (h : Av Γ ρ' φ a) : Av Γ ρ φ a := h.elim .inl fun z => .inr (s.ft z)
theorem ER.sub (E : ER K w tq Γ φ σ H ρ) (s : Sub ρ ρ') : ER K w tq Γ φ σ H ρ' where
  len := E.len.trans s.len
  al := E.al
  tbl := E.tbl
  va := fun j d h => by
    obtain ⟨b, g1, g2⟩ := s.at h
    cases b with
    | no => exact g2.elim
    | va e =>
      cases g2
      obtain ⟨v, h1, h2⟩ := E.va j _ g1
      exact ⟨v, h1, h2.anti fun a z => .inl (s.av z)⟩
    | ow f e =>
      obtain ⟨p, h1, h2, h3, h4⟩ := E.ow j f _ g1
      have r : Rp K w (Av Γ ρ' φ) H (.ref p) e := h2.rp (fun a z => s.av z) fun q hq => by
        rintro (z | ⟨k, g, d', z1, z2⟩)
        · exact (h3 q hq).1 z
        · obtain ⟨b, y1, y2⟩ := s.at z1
          cases b with
          | no => exact y2.elim
          | va _ => exact y2.elim
          | ow g' e' =>
            have := E.dis j k _ _ _ _ q g1 y1 hq z2
            subst this
            rw [h] at z1
            cases z1
      rcases g2 with rfl | rfl
      · exact ⟨_, h1, r⟩
      · exact ⟨_, h1, rp_dpv r⟩
  ow := fun j f d h => by
    obtain ⟨b, g1, g2⟩ := s.at h
    cases b with
    | no => exact g2.elim
    | va _ => exact g2.elim
    | ow g e =>
      obtain ⟨z1, z2⟩ := g2
      cases z1; cases z2
      obtain ⟨p, h1, h2, h3⟩ := E.ow j _ _ g1
      exact ⟨p, h1, h2.anti fun a z => .inl (s.av z), h3⟩
  dis := fun j k f g d e a h1 h2 m1 m2 => by
    obtain ⟨b, x1, x2⟩ := s.at h1
    obtain ⟨c, y1, y2⟩ := s.at h2
    cases b with
    | no => exact x2.elim
    | va _ => exact x2.elim
    | ow _ _ =>
      cases c with
      | no => exact y2.elim
      | va _ => exact y2.elim
      | ow _ _ => exact E.dis j k _ _ _ _ a x1 y1 m1 m2
  stp := E.stp
end
/-- all that is owned by value -/
def frS : Sl → Sl
  | .ow _ d => .va d
  | s => s
def fr (ρ : List Sl) : List Sl := ρ.map frS
theorem fr_sub : ∀ ρ : List Sl, Sub ρ (fr ρ)
  | [] => trivial
  | a :: r => ⟨by cases a <;> first | exact trivial | exact rfl | exact .inl rfl, fr_sub r⟩
theorem fr_ft {ρ : List Sl} {φ : Foot} {a : Addr} : ¬ FtA (fr ρ) φ a := by
  rintro ⟨j, f, d, h, _⟩
  rw [fr, List.getElem?_map] at h
  cases z : ρ[j]? with
  | none => rw [z] at h; cases h
  | some b => rw [z] at h; cases b <;> cases h
def RunsE (K : PySem.W.Frag) (w : World) (tq : Tb) (te : TE) (ρ : List Sl) (c : Option D) : Prop :=
  ∀ (Γ : Ct) (φ : Foot) (σ : L2.St) (H : Hp) (Q : VK) (d : D), ER K w tq Γ φ σ H ρ → c = some d → (∀ v H', Xt tq H H' → Rp K w (Av Γ ρ φ) H' v d → Q v H') → te σ H Q
def RunsT (K : PySem.W.Frag) (w : World) (tq : Tb) (tt : TT) (ρ : List Sl) (c : Option Bool) : Prop :=
  ∀ (Γ : Ct) (φ : Foot) (σ : L2.St) (H : Hp) (Q : Bool → Hp → Prop) (b : Bool), ER K w tq Γ φ σ H ρ → c = some b → (∀ H', Xt tq H H' → Q b H') → tt σ H Q
def RunsA (K : PySem.W.Frag) (w : World) (tq : Tb) (ta : TA) (ρ : List Sl) (c : Option (List D)) : Prop :=
  ∀ (Γ : Ct) (φ : Foot) (σ : L2.St) (H : Hp) (Q : List V → Hp → Prop) (ds : List D), ER K w tq Γ φ σ H ρ → c = some ds → (∀ vs H', Xt tq H H' → RpA K w (Av Γ ρ φ) H' vs ds → Q vs H') → ta σ H Q
/-- a new object, the def's own -/
def NewR (K : PySem.W.Frag) (w : World) (B : AS) (H H' : Hp) (p : Addr) (d : D) : Prop := ∃ S : List Addr, (∀ a ∈ S, H a = none) ∧ OwR K w (fun a => B a ∨ a ∈ S) H' p d S
def RunsN (K : PySem.W.Frag) (w : World) (tq : Tb) (te : TE) (ρ : List Sl) (c : Option D) : Prop :=
  ∀ (Γ : Ct) (φ : Foot) (σ : L2.St) (H : Hp) (Q : VK) (d : D), ER K w tq Γ φ σ H ρ → c = some d → (∀ p H', Xt tq H H' → NewR K w (Av Γ ρ φ) H H' p d → Q (.ref p) H') → te σ H Q
/-- what is behind a step by which what is owned may change -/
structure Af (K : PySem.W.Frag) (w : World) (tq : Tb) (Γ : Ct) (φ : Foot) (σ : L2.St) (H : Hp) (ρ : List Sl) (φ' : Foot) (H' : Hp) (ρ' : List Sl) : Prop where
  er : ER K w tq Γ φ' σ H' ρ'
  st : Stp tq (FtA ρ φ) H H'
  ft : ∀ a, FtA ρ' φ' a → FtA ρ φ a ∨ H a = none
def RunsX {T : Type} (K : PySem.W.Frag) (w : World) (tq : Tb) (te : TE) (ρ : List Sl) (e : T → List Sl) (c : Option (D × T)) : Prop :=
  ∀ (Γ : Ct) (φ : Foot) (σ : L2.St) (H : Hp) (Q : VK) (d : D) (t : T), ER K w tq Γ φ σ H ρ → c = some (d, t) → (∀ v H' φ', Af K w tq Γ φ σ H ρ φ' H' (e t) → Rp K w (Av Γ (e t) φ') H' v d → Q v H') → te σ H Q
def RunsXT {T : Type} (K : PySem.W.Frag) (w : World) (tq : Tb) (tt : TT) (ρ : List Sl) (e : T → List Sl) (c : Option (Bool × T)) : Prop :=
  ∀ (Γ : Ct) (φ : Foot) (σ : L2.St) (H : Hp) (Q : Bool → Hp → Prop) (b : Bool) (t : T), ER K w tq Γ φ σ H ρ → c = some (b, t) → (∀ H' φ', Af K w tq Γ φ σ H ρ φ' H' (e t) → Q b H') → tt σ H Q
def RunsXA {T : Type} (K : PySem.W.Frag) (w : World) (tq : Tb) (ta : TA) (ρ : List Sl) (e : T → List Sl) (c : Option (List D × T)) : Prop :=
  ∀ (Γ : Ct) (φ : Foot) (σ : L2.St) (H : Hp) (Q : List V → Hp → Prop) (ds : List D) (t : T), ER K w tq Γ φ σ H ρ → c = some (ds, t) → (∀ vs H' φ', Af K w tq Γ φ σ H ρ φ' H' (e t) → RpA K w (Av Γ (e t) φ') H' vs ds → Q vs H') → ta σ H Q
inductive Fl (N L : Type) where
  | nx (n : N)
  | rt (d : D) (e : D)
  | bk (l : L)
  | ct (l : L)
/-- what is handed back: io: what was handed in to be changed, as it is then; md: a new object, the caller's own -/
structure RT (K : PySem.W.Frag) (w : World) (tq : Tb) (Γ : Ct) (io md : Bool) (v : V) (H : Hp) (d e : D) : Prop where
  stp : Stp tq Γ.O0 Γ.H0 H
  ex : ∃ Si Sr : List Addr, (∀ a ∈ Si, ¬ Γ.F a ∧ (Γ.O0 a ∨ Γ.H0 a = none)) ∧ (∀ a ∈ Sr, ¬ Γ.F a ∧ a ∉ Si ∧ (Γ.O0 a ∨ Γ.H0 a = none)) ∧
    (if io = true then OwR K w (fun a => Γ.F a ∨ a ∈ Si ∨ a ∈ Sr) H Γ.ip e Si else Si = []) ∧
    (if md = true then ∃ p, v = .ref p ∧ OwR K w (fun a => Γ.F a ∨ a ∈ Si ∨ a ∈ Sr) H p d Sr else Sr = [] ∧ Rp K w (fun a => Γ.F a ∨ a ∈ Si) H v d)
def Post {N L : Type} (K : PySem.W.Frag) (w : World) (tq : Tb) (io md : Bool) (Γ : Ct) (eN : N → List Sl) (eL : L → List Sl) (Dn : Ends) : Fl N L → Prop
  | .nx n => ∀ φ' σ' H', ER K w tq Γ φ' σ' H' (eN n) → Dn.nx σ' H'
  | .rt d e => ∀ v H', RT K w tq Γ io md v H' d e → Dn.rt v H'
  | .bk l => ∀ φ' σ' H', ER K w tq Γ φ' σ' H' (eL l) → Dn.bk σ' H'
  | .ct l => ∀ φ' σ' H', ER K w tq Γ φ' σ' H' (eL l) → Dn.ct σ' H'
def RunsS {N L : Type} (K : PySem.W.Frag) (w : World) (tq : Tb) (io md : Bool) (ts : TS) (ρ : List Sl) (eN : N → List Sl) (eL : L → List Sl) (c : Option (Fl N L)) : Prop :=
  ∀ (Γ : Ct) (φ : Foot) (σ : L2.St) (H : Hp) (Dn : Ends) (fl : Fl N L), ER K w tq Γ φ σ H ρ → c = some fl → Post K w tq io md Γ eN eL Dn fl → ts Dn σ H
inductive Pt where
  | nm (i : Nat)
  | tp (ps : List Pt)
mutual
def un : Pt → D → Option (List D)
  | .nm _, d => some [d]
  | .tp ps, .tup ds => uns ps ds
  | .tp ps, .pr ds => uns ps ds
  | .tp _, _ => none
def uns : List Pt → List D → Option (List D)
  | [], [] => some []
  | p :: ps, d :: ds => (un p d).bind fun a => (uns ps ds).bind fun b => some (a ++ b)
  | _, _ => none
end
mutual
def Pt.slots : Pt → List Nat
  | .nm i => [i]
  | .tp ps => Pt.slotss ps
def Pt.slotss : List Pt → List Nat
  | [] => []
  | p :: ps => p.slots ++ Pt.slotss ps
end
def setL : List Nat → List D → List Sl → List Sl
  | i :: is, d :: ds, ρ => setL is ds (ρ.set i (.va d))
  | _, _, ρ => ρ
/-- a slot may be set: it isn't what was handed in -/
def free (ρ : List Sl) (i : Nat) : Bool := match ρ[i]? with
  | some (Sl.ow true _) => false
  | some _ => true
  | none => false
def freeL : List Nat → List Sl → Bool
  | [], _ => true
  | i :: is, ρ => free ρ i && freeL is (ρ.set i .no)
def Bnd (K : PySem.W.Frag) (w : World) (tq : Tb) (g : TG) (p : Pt) : Prop :=
  ∀ (Γ : Ct) (φ : Foot) (σ : L2.St) (H : Hp) (ρ : List Sl) (v : V) (x : D) (ls : List D) (Q : L2.St → Hp → Prop), ER K w tq Γ φ σ H ρ → Rp K w (Av Γ ρ φ) H v x → un p x = some ls → freeL p.slots ρ = true →
    (∀ σ', ER K w tq Γ φ σ' H (setL p.slots ls ρ) → (∀ ix, (∀ i ∈ p.slots, i ∈ ix) → wipe σ' ix = wipe σ ix) → Q σ' H) → g v σ H Q
end M
end
section
set_option Elab.async false
set_option linter.all false
set_option maxRecDepth 100000
set_option maxHeartbeats 4000000
namespace M
open PySem PySem.Spec PyProof.Rows L2 U
open LamX (TabS)
section
variable {K : PySem.W.Frag} {w : World} {tq : Tb} {Γ : Ct} {φ φ' φ2 : Foot} {σ σ' : L2.St} {H H' H2 : Hp} {ρ ρ' ρ2 : List Sl}
theorem Af.up (a : Af K w tq Γ φ σ H ρ φ' H' ρ') {x : Addr} (h : Av Γ ρ' φ' x) : Av Γ ρ φ x ∨ H x = none := by
  rcases h with h | h
  · exact .inl (.inl h)
  · exact (a.ft x h).imp .inr id
theorem Af.rp (a : Af K w tq Γ φ σ H ρ φ' H' ρ') {v : V} {d : D} (h : Rp K w (Av Γ ρ φ) H v d) : Rp K w (Av Γ ρ' φ') H' v d := by
  have h1 : Rp K w (fun x => Av Γ ρ φ x ∨ Av Γ ρ' φ' x) H v d := h.anti fun x z => z.elim .inl fun z => a.up z
  have h2 := h1.stp (O := FtA ρ φ) a.st fun x z => .inl (.inr z)
  exact h2.anti fun x z => .inl (.inr z)
theorem Af.rpa (a : Af K w tq Γ φ σ H ρ φ' H' ρ') {v : List V} {d : List D} (h : RpA K w (Av Γ ρ φ) H v d) : RpA K w (Av Γ ρ' φ') H' v d := by
  have h1 : RpA K w (fun x => Av Γ ρ φ x ∨ Av Γ ρ' φ' x) H v d := h.anti fun x z => z.elim .inl fun z => a.up z
  have h2 := h1.stp (O := FtA ρ φ) a.st fun x z => .inl (.inr z)
  exact h2.anti fun x z => .inl (.inr z)
theorem Af.trans (a : Af K w tq Γ φ σ H ρ φ' H' ρ') (b : Af K w tq Γ φ' σ H' ρ' φ2 H2 ρ2) : Af K w tq Γ φ σ H ρ φ2 H2 ρ2 where
  er := b.er
  st := a.st.trans' b.st a.ft
  ft := fun x h => (b.ft x h).elim (a.ft x) fun z => .inr (a.st.back x z)
theorem Af.ex (E : ER K w tq Γ φ σ H ρ) (e : Xt tq H H') : Af K w tq Γ φ σ H ρ φ H' ρ := ⟨E.ex e, Stp.ex e, fun _ h => .inl h⟩
end
section
variable {K : PySem.W.Frag} {w : World} {tq : Tb} {ρ : List Sl} {te ta tb tc : TE} {c : Option D} {ca cb cc : Option D} {T U : Type} {e e1 e2 : T → List Sl}
theorem re_of_n (h : RunsN K w tq te ρ c) : RunsE K w tq te ρ c := fun Γ φ σ H Q d E hc k => h Γ φ σ H Q d E hc fun p H' ex n => by
  obtain ⟨S, h1, h2⟩ := n
  exact k _ _ ex (h2.rp (fun a z => .inl z) fun a ha z => E.alA a z (h1 a ha))
theorem rx_lift {t : T} (h : RunsE K w tq te (e t) c) : RunsX K w tq te (e t) e (c.map fun d => (d, t)) := fun Γ φ σ H Q d t' E hc k => by
  cases c with
  | none => cases hc
  | some d' =>
    cases hc
    exact h Γ φ σ H Q d E rfl fun v H' ex r => k v H' φ (Af.ex E ex) r
theorem re_none : RunsE K w tq te ρ none := fun _ _ _ _ _ _ _ h _ => nomatch h
theorem re_c {v : V} {d : D} (h : ∀ B H, Rp K w B H v d) : RunsE K w tq (tC v) ρ (some d) := fun Γ φ σ H Q d' E hc k => by cases hc; exact k v H (Xt.refl H) (h _ _)
theorem re_int {i : Int} : RunsE K w tq (tC (.int i)) ρ (some (.int i)) := re_c fun _ _ => .int i
theorem re_str {i : Str} : RunsE K w tq (tC (.str i)) ρ (some (.str i)) := re_c fun _ _ => .str i
theorem re_bl {i : Bool} : RunsE K w tq (tC (.bl i)) ρ (some (.bl i)) := re_c fun _ _ => .bl i
theorem re_non : RunsE K w tq (tC .non) ρ (some .non) := re_c fun _ _ => .non
theorem re_v {i : Nat} {d : D} (h : ρ[i]? = some (.va d)) : RunsE K w tq (tVar i) ρ (some d) := fun Γ φ σ H Q d' E hc k => by
  cases hc
  obtain ⟨v, h1, h2⟩ := E.va i _ h
  exact ⟨v, h1, k v H (Xt.refl H) h2⟩
/-- what is owned, looked at -/
def noLG (d : D) : Option D := if d.noL = true then some d else none
theorem re_pk (h : RunsE K w tq te (fr ρ) c) : RunsE K w tq te ρ (c.bind noLG) := fun Γ φ σ H Q d E hc k => by
  cases c with
  | none => cases hc
  | some d' =>
    have hd : d'.noL = true ∧ d' = d := by
      by_cases z : d'.noL = true
      · exact ⟨z, by simpa [noLG, z] using hc⟩
      · simp [noLG, z] at hc
    obtain ⟨hn, rfl⟩ := hd
    exact h Γ φ σ H Q d' (E.sub (fr_sub ρ)) rfl fun v H' ex r => k v H' ex (r.any hn)
theorem re_pkF {α : Type} {f : α → D} {c : Option α} (hf : ∀ x, (f x).noL = true) (h : RunsE K w tq te (fr ρ) (c.map f)) : RunsE K w tq te ρ (c.map f) := fun Γ φ σ H Q d E hc k => by
  cases c with
  | none => cases hc
  | some x =>
    cases hc
    exact h Γ φ σ H Q _ (E.sub (fr_sub ρ)) rfl fun v H' ex r => k v H' ex (r.any (hf x))
theorem rt_pk {tt : TT} {c : Option Bool} (h : RunsT K w tq tt (fr ρ) c) : RunsT K w tq tt ρ c := fun Γ φ σ H Q b E hc k => h Γ φ σ H Q b (E.sub (fr_sub ρ)) hc k
def Op2 (K : PySem.W.Frag) (w : World) (tq : Tb) (r : R2) (f : D → D → Option D) : Prop := ∀ (B : AS) (H : Hp) (x y : V) (a b d : D) (Q : VK), (∀ z, B z → H z ≠ none) → Rp K w B H x a → Rp K w B H y b → f a b = some d → (∀ v H', Xt tq H H' → Rp K w B H' v d → Q v H') → r x y H Q
def Op1 (K : PySem.W.Frag) (w : World) (tq : Tb) (r : V → Hp → VK → Prop) (f : D → Option D) : Prop := ∀ (B : AS) (H : Hp) (x : V) (a d : D) (Q : VK), (∀ z, B z → H z ≠ none) → Rp K w B H x a → f a = some d → (∀ v H', Xt tq H H' → Rp K w B H' v d → Q v H') → r x H Q
def OpL (K : PySem.W.Frag) (w : World) (tq : Tb) (r : List V → Hp → VK → Prop) (f : List D → Option D) : Prop := ∀ (B : AS) (H : Hp) (xs : List V) (as : List D) (d : D) (Q : VK), (∀ z, B z → H z ≠ none) → RpA K w B H xs as → f as = some d → (∀ v H', Xt tq H H' → Rp K w B H' v d → Q v H') → r xs H Q
theorem re_op {r : R2} {f : D → D → Option D} (o : Op2 K w tq r f) (ha : RunsE K w tq ta ρ ca) (hb : RunsE K w tq tb ρ cb) : RunsE K w tq (tOp r ta tb) ρ (ca.bind fun a => cb.bind fun b => f a b) := fun Γ φ σ H Q d E hc k => by
  cases ca with
  | none => cases hc
  | some a =>
    cases cb with
    | none => cases hc
    | some b =>
      refine ha Γ φ σ H _ a E rfl fun x H1 e1 r1 => ?_
      refine hb Γ φ σ H1 _ b (E.ex e1) rfl fun y H2 e2 r2 => ?_
      exact o _ H2 x y a b d Q (E.ex (e1.trans e2)).alA (r1.ex e2) r2 hc fun v H' ex rr => k v H' ((e1.trans e2).trans ex) rr
theorem re_un {r : V → Hp → VK → Prop} {f : D → Option D} (o : Op1 K w tq r f) (ha : RunsE K w tq ta ρ ca) : RunsE K w tq (tUn r ta) ρ (ca.bind f) := fun Γ φ σ H Q d E hc k => by
  cases ca with
  | none => cases hc
  | some a => exact ha Γ φ σ H _ a E rfl fun x H1 e1 r1 => o _ H1 x a d Q (E.ex e1).alA r1 hc fun v H' ex rr => k v H' (e1.trans ex) rr
theorem rx_op {r : R2} {f : D → D → Option D} {cx : Option (D × T)} {cy : T → Option (D × T)} (o : Op2 K w tq r f) (ha : RunsX K w tq ta ρ e cx) (hb : ∀ t, RunsX K w tq tb (e t) e (cy t)) :
    RunsX K w tq (tOp r ta tb) ρ e (cx.bind fun z => (cy z.2).bind fun y => (f z.1 y.1).map fun d => (d, y.2)) := fun Γ φ σ H Q d t E hc k => by
  cases cx with
  | none => cases hc
  | some z =>
    obtain ⟨a, t1⟩ := z
    have hc : ((cy t1).bind fun y => (f a y.1).map fun d => (d, y.2)) = some (d, t) := hc
    cases hy : cy t1 with
    | none => rw [hy] at hc; cases hc
    | some y =>
      obtain ⟨b, t2⟩ := y
      rw [hy] at hc
      have hc : ((f a b).map fun d => (d, t2)) = some (d, t) := hc
      cases hf : f a b with
      | none => rw [hf] at hc; cases hc
      | some d' =>
        rw [hf] at hc
        cases hc
        refine ha Γ φ σ H _ a t1 E rfl fun x H1 φ1 A1 r1 => ?_
        refine hb t1 Γ φ1 σ H1 _ b t A1.er hy fun y H2 φ2 A2 r2 => ?_
        refine o _ H2 x y a b d Q A2.er.alA (A2.rp r1) r2 hf fun v H' ex rr => ?_
        exact k v H' φ2 ((A1.trans A2).trans (Af.ex A2.er ex)) rr
theorem ra_nil : RunsA K w tq tNil ρ (some []) := fun Γ φ σ H Q ds E hc k => by cases hc; exact k [] H (Xt.refl H) .nil
theorem ra_cons {tr : TA} {cr : Option (List D)} (ha : RunsE K w tq ta ρ ca) (hr : RunsA K w tq tr ρ cr) : RunsA K w tq (tCons ta tr) ρ (ca.bind fun a => cr.bind fun r => some (a :: r)) := fun Γ φ σ H Q ds E hc k => by
  cases ca with
  | none => cases hc
  | some a =>
    cases cr with
    | none => cases hc
    | some r =>
      cases hc
      refine ha Γ φ σ H _ a E rfl fun x H1 e1 r1 => ?_
      exact hr Γ φ σ H1 _ r (E.ex e1) rfl fun xs H2 e2 r2 => k _ H2 (e1.trans e2) (.cons (r1.ex e2) r2)
theorem rxa_nil {t : T} : RunsXA K w tq tNil (e t) e (some ([], t)) := fun Γ φ σ H Q ds t' E hc k => by cases hc; exact k [] H φ (Af.ex E (Xt.refl H)) .nil
theorem rxa_cons {tr : TA} {cx : Option (D × T)} {cr : T → Option (List D × T)} (ha : RunsX K w tq ta ρ e cx) (hr : ∀ t, RunsXA K w tq tr (e t) e (cr t)) :
    RunsXA K w tq (tCons ta tr) ρ e (cx.bind fun z => (cr z.2).map fun y => (z.1 :: y.1, y.2)) := fun Γ φ σ H Q ds t E hc k => by
  cases cx with
  | none => cases hc
  | some z =>
    obtain ⟨a, t1⟩ := z
    have hc : ((cr t1).map fun y => (a :: y.1, y.2)) = some (ds, t) := hc
    cases hy : cr t1 with
    | none => rw [hy] at hc; cases hc
    | some y =>
      obtain ⟨r, t2⟩ := y
      rw [hy] at hc
      cases hc
      refine ha Γ φ σ H _ a t1 E rfl fun x H1 φ1 A1 r1 => ?_
      exact hr t1 Γ φ1 σ H1 _ r _ A1.er hy fun xs H2 φ2 A2 r2 => k _ H2 φ2 (A1.trans A2) (.cons (A2.rp r1) r2)
theorem re_cb {tr : TA} {cr : Option (List D)} {r : List V → Hp → VK → Prop} {f : List D → Option D} (o : OpL K w tq r f) (ha : RunsA K w tq tr ρ cr) : RunsE K w tq (tCB r tr) ρ (cr.bind f) := fun Γ φ σ H Q d E hc k => by
  cases cr with
  | none => cases hc
  | some as => exact ha Γ φ σ H _ as E rfl fun xs H1 e1 r1 => o _ H1 xs as d Q (E.ex e1).alA r1 hc fun v H' ex rr => k v H' (e1.trans ex) rr
theorem rx_cb {tr : TA} {cr : Option (List D × T)} {r : List V → Hp → VK → Prop} {f : List D → Option D} (o : OpL K w tq r f) (ha : RunsXA K w tq tr ρ e cr) : RunsX K w tq (tCB r tr) ρ e (cr.bind fun z => (f z.1).map fun d => (d, z.2)) := fun Γ φ σ H Q d t E hc k => by
  cases cr with
  | none => cases hc
  | some z =>
    obtain ⟨as, t1⟩ := z
    have hc : ((f as).map fun d => (d, t1)) = some (d, t) := hc
    cases hf : f as with
    | none => rw [hf] at hc; cases hc
    | some d' =>
      rw [hf] at hc
      cases hc
      exact ha Γ φ σ H _ as t E rfl fun xs H1 φ1 A1 r1 => o _ H1 xs as d Q A1.er.alA r1 hf fun v H' ex rr => k v H' φ1 (A1.trans (Af.ex A1.er ex)) rr
def szG (ds : List D) : Option (List D) := if ds.length ≤ 1000000 then some ds else none
theorem szG_ok {ds es : List D} (h : szG ds = some es) : es = ds ∧ ds.length ≤ sizeLine := by
  unfold szG at h
  split at h
  · cases h; exact ⟨rfl, by rw [sizeLine_eq]; omega⟩
  · cases h
theorem re_tup {tr : TA} {cr : Option (List D)} (ha : RunsA K w tq tr ρ cr) : RunsE K w tq (tTupP tr) ρ ((cr.bind szG).map D.tup) := fun Γ φ σ H Q d E hc k => by
  cases cr with
  | none => cases hc
  | some as =>
    cases hs : szG as with
    | none => rw [Option.bind_some, hs] at hc; cases hc
    | some es =>
      rw [Option.bind_some, hs] at hc
      cases hc
      obtain ⟨rfl, hl⟩ := szG_ok hs
      refine ha Γ φ σ H _ es E rfl fun xs H1 e1 r1 => ⟨by rw [r1.len]; exact hl, fun p o hd hcl hp => ?_⟩
      exact k _ _ (e1.trans (Xt.new hp)) (.tup (.inl ⟨o, upd_same, hd, hcl⟩) (r1.nw hp))
theorem rx_tup {tr : TA} {cr : Option (List D × T)} (ha : RunsXA K w tq tr ρ e cr) : RunsX K w tq (tTupP tr) ρ e (cr.bind fun z => (szG z.1).map fun ds => (D.tup ds, z.2)) := fun Γ φ σ H Q d t E hc k => by
  cases cr with
  | none => cases hc
  | some z =>
    obtain ⟨as, t1⟩ := z
    have hc : ((szG as).map fun ds => (D.tup ds, t1)) = some (d, t) := hc
    cases hs : szG as with
    | none => rw [hs] at hc; cases hc
    | some es =>
      rw [hs] at hc
      cases hc
      obtain ⟨rfl, hl⟩ := szG_ok hs
      refine ha Γ φ σ H _ es t E rfl fun xs H1 φ1 A1 r1 => ⟨by rw [r1.len]; exact hl, fun p o hd hcl hp => ?_⟩
      exact k _ _ φ1 (A1.trans (Af.ex A1.er (Xt.new hp))) (.tup (.inl ⟨o, upd_same, hd, hcl⟩) (r1.nw hp))
theorem new_lst {B : AS} {H H1 : Hp} {p : Addr} {xs : List V} {ds : List D} (e : Xt tq H H1) (hB : ∀ z, B z → H z ≠ none) (hp : H1 p = none) (r : RpA K w B H1 xs ds) : NewR K w B H (upd H1 p (.lst xs)) p (.lst ds) := by
  have hp0 : H p = none := (Stp.ex (O := fun _ => False) e).back p hp
  refine ⟨[p], fun a ha => by rw [List.mem_singleton.mp ha]; exact hp0, .lst upd_same ?_⟩
  refine (r.anti (B' := fun a => B a ∨ a ∈ [p]) fun a z => z.elim .inl fun z => .inr (by rw [List.mem_singleton.mp z]; exact hp)).nw hp
theorem rn_lst {tr : TA} {cr : Option (List D)} (ha : RunsA K w tq tr ρ cr) : RunsN K w tq (tLst tr) ρ ((cr.bind szG).map D.lst) := fun Γ φ σ H Q d E hc k => by
  cases cr with
  | none => cases hc
  | some as =>
    cases hs : szG as with
    | none => rw [Option.bind_some, hs] at hc; cases hc
    | some es =>
      rw [Option.bind_some, hs] at hc
      cases hc
      obtain ⟨rfl, hl⟩ := szG_ok hs
      exact ha Γ φ σ H _ es E rfl fun xs H1 e1 r1 => ⟨by rw [r1.len]; exact hl, fun p hp => k p _ (e1.trans (Xt.new hp)) (new_lst e1 E.alA hp r1)⟩
theorem re_lst {tr : TA} {cr : Option (List D)} (ha : RunsA K w tq tr ρ cr) : RunsE K w tq (tLst tr) ρ ((cr.bind szG).map D.lst) := re_of_n (rn_lst ha)
theorem rx_lst {tr : TA} {cr : Option (List D × T)} (ha : RunsXA K w tq tr ρ e cr) : RunsX K w tq (tLst tr) ρ e (cr.bind fun z => (szG z.1).map fun ds => (D.lst ds, z.2)) := fun Γ φ σ H Q d t E hc k => by
  cases cr with
  | none => cases hc
  | some z =>
    obtain ⟨as, t1⟩ := z
    have hc : ((szG as).map fun ds => (D.lst ds, t1)) = some (d, t) := hc
    cases hs : szG as with
    | none => rw [hs] at hc; cases hc
    | some es =>
      rw [hs] at hc
      cases hc
      obtain ⟨rfl, hl⟩ := szG_ok hs
      refine ha Γ φ σ H _ es t E rfl fun xs H1 φ1 A1 r1 => ⟨by rw [r1.len]; exact hl, fun p hp => ?_⟩
      exact k _ _ φ1 (A1.trans (Af.ex A1.er (Xt.new hp))) (.lst upd_same (fun z => A1.er.alA p z hp) (r1.nw hp))
def isBl : D → Option Bool
  | .bl b => some b
  | _ => none
theorem rp_bl {B : AS} {H : Hp} {v : V} {d : D} {b : Bool} (r : Rp K w B H v d) (h : isBl d = some b) : v = .bl b ∧ d = .bl b := by
  cases r with
  | bl b' => cases h; exact ⟨rfl, rfl⟩
  | _ => cases h
theorem rt_test (h : RunsE K w tq te ρ c) : RunsT K w tq (tTest te) ρ (c.bind isBl) := fun Γ φ σ H Q b E hc k => by
  cases c with
  | none => cases hc
  | some d => exact h Γ φ σ H _ d E rfl fun v H' ex r => ⟨b, (rp_bl r hc).1, k H' ex⟩
/-- truth -/
def tru : D → Option Bool
  | .non => some false
  | .bl b => some b
  | .int i => some (i != 0)
  | .str y => if y.length ≤ sizeLine then some ((y.length : Int) != 0) else none
  | .lst xs => some (!xs.isEmpty)
  | .tup xs => some (!xs.isEmpty)
  | .scr xs => some (!xs.isEmpty)
  | _ => none
theorem rpa_emp {B : AS} {H : Hp} {vs : List V} {ds : List D} (r : RpA K w B H vs ds) : vs.isEmpty = ds.isEmpty := by cases r <;> rfl
theorem tru_ok {B : AS} {H : Hp} {v : V} {d : D} {b : Bool} (r : Rp K w B H v d) (h : tru d = some b) : TruV K v H b := by
  cases r with
  | non => cases h; rfl
  | bl _ => cases h; rfl
  | int _ => cases h; rfl
  | str s =>
    have h : (if s.length ≤ sizeLine then some ((s.length : Int) != 0) else none) = some b := h
    split at h
    · rename_i z; cases h; exact ⟨z, rfl⟩
    · cases h
  | tup h1 r =>
    cases h
    exact .inr (.inl ⟨_, h1.sq, by rw [rpa_emp r]⟩)
  | lst h1 _ r =>
    cases h
    exact .inl ⟨_, .inl (.inl h1), by rw [rpa_emp r]⟩
  | dK _ _ _ => cases h
  | dc _ _ => cases h
  | fn _ => cases h
  | pr _ _ => cases h
  | dT _ _ _ => cases h
  | dp _ => cases h
  | scr h1 r =>
    cases h
    exact .inl ⟨_, h1.sq, by rw [rpa_emp r]⟩
theorem rt_tru (h : RunsE K w tq te ρ c) : RunsT K w tq (tTru K te) ρ (c.bind tru) := fun Γ φ σ H Q b E hc k => by
  cases c with
  | none => cases hc
  | some d => exact h Γ φ σ H _ d E rfl fun v H' ex r => ⟨b, tru_ok r hc, k H' ex⟩
variable {ct cu : Option Bool} {tt tu : TT}
theorem rt_not (h : RunsT K w tq tt ρ ct) : RunsT K w tq (tNot tt) ρ (ct.map (!·)) := fun Γ φ σ H Q b E hc k => by
  cases ct with
  | none => cases hc
  | some d => cases hc; exact h Γ φ σ H _ d E rfl fun H' ex => k H' ex
def andM (a b : Option Bool) : Option Bool := a.bind fun x => if x = true then b else some false
def orM (a b : Option Bool) : Option Bool := a.bind fun x => if x = true then some true else b
theorem rt_and (h : RunsT K w tq tt ρ ct) (g : RunsT K w tq tu ρ cu) : RunsT K w tq (tAnd tt tu) ρ (andM ct cu) := fun Γ φ σ H Q b E hc k => by
  cases ct with
  | none => cases hc
  | some x =>
    refine h Γ φ σ H _ x E rfl fun H' ex => ?_
    cases x with
    | true => exact g Γ φ σ H' _ b (E.ex ex) hc fun H2 ex2 => k H2 (ex.trans ex2)
    | false => cases hc; exact k H' ex
theorem rt_or (h : RunsT K w tq tt ρ ct) (g : RunsT K w tq tu ρ cu) : RunsT K w tq (tOr tt tu) ρ (orM ct cu) := fun Γ φ σ H Q b E hc k => by
  cases ct with
  | none => cases hc
  | some x =>
    refine h Γ φ σ H _ x E rfl fun H' ex => ?_
    cases x with
    | false => exact g Γ φ σ H' _ b (E.ex ex) hc fun H2 ex2 => k H2 (ex.trans ex2)
    | true => cases hc; exact k H' ex
theorem re_notV (h : RunsE K w tq te ρ c) : RunsE K w tq (tNotV te) ρ ((c.bind isBl).map fun b => .bl (!b)) := fun Γ φ σ H Q d E hc k => by
  cases c with
  | none => cases hc
  | some x =>
    cases hb : isBl x with
    | none => rw [Option.bind_some, hb] at hc; cases hc
    | some b =>
      rw [Option.bind_some, hb] at hc
      cases hc
      exact h Γ φ σ H _ x E rfl fun v H' ex r => ⟨b, (rp_bl r hb).1, k _ H' ex (.bl _)⟩
def andV (a b : Option D) : Option D := (a.bind isBl).bind fun x => if x = true then b else some (.bl false)
def orV (a b : Option D) : Option D := (a.bind isBl).bind fun x => if x = true then some (.bl true) else b
theorem re_andV (h : RunsE K w tq ta ρ ca) (g : RunsE K w tq tb ρ cb) : RunsE K w tq (tAndV ta tb) ρ (andV ca cb) := fun Γ φ σ H Q d E hc k => by
  cases ca with
  | none => cases hc
  | some x =>
    have hc : ((isBl x).bind fun x => if x = true then cb else some (.bl false)) = some d := hc
    cases hb : isBl x with
    | none => rw [hb] at hc; cases hc
    | some b =>
      rw [hb] at hc
      refine h Γ φ σ H _ x E rfl fun v H' ex r => ⟨b, (rp_bl r hb).1, ?_⟩
      cases b with
      | true => exact g Γ φ σ H' _ d (E.ex ex) hc fun v H2 ex2 r2 => k v H2 (ex.trans ex2) r2
      | false => cases hc; exact k _ H' ex (.bl _)
theorem re_orV (h : RunsE K w tq ta ρ ca) (g : RunsE K w tq tb ρ cb) : RunsE K w tq (tOrV ta tb) ρ (orV ca cb) := fun Γ φ σ H Q d E hc k => by
  cases ca with
  | none => cases hc
  | some x =>
    have hc : ((isBl x).bind fun x => if x = true then some (.bl true) else cb) = some d := hc
    cases hb : isBl x with
    | none => rw [hb] at hc; cases hc
    | some b =>
      rw [hb] at hc
      refine h Γ φ σ H _ x E rfl fun v H' ex r => ⟨b, (rp_bl r hb).1, ?_⟩
      cases b with
      | false => exact g Γ φ σ H' _ d (E.ex ex) hc fun v H2 ex2 r2 => k v H2 (ex.trans ex2) r2
      | true => cases hc; exact k _ H' ex (.bl _)
def iteM {α : Type} (c : Option Bool) (a b : Option α) : Option α := c.bind fun x => if x = true then a else b
theorem re_if (h : RunsT K w tq tt ρ ct) (ha : RunsE K w tq ta ρ ca) (hb : RunsE K w tq tb ρ cb) : RunsE K w tq (tIf tt ta tb) ρ (iteM ct ca cb) := fun Γ φ σ H Q d E hc k => by
  cases ct with
  | none => cases hc
  | some x =>
    refine h Γ φ σ H _ x E rfl fun H' ex => ?_
    cases x with
    | true => exact ha Γ φ σ H' _ d (E.ex ex) hc fun v H2 ex2 r2 => k v H2 (ex.trans ex2) r2
    | false => exact hb Γ φ σ H' _ d (E.ex ex) hc fun v H2 ex2 r2 => k v H2 (ex.trans ex2) r2
theorem re_chain {r r' : R2} {f f' : D → D → Option D} (o : Op2 K w tq r f) (o' : Op2 K w tq r' f') (ha : RunsE K w tq ta ρ ca) (hb : RunsE K w tq tb ρ cb) (hcc : RunsE K w tq tc ρ cc) :
    RunsE K w tq (tChain r r' ta tb tc) ρ (ca.bind fun a => cb.bind fun b => (((f a b).bind isBl).bind fun x => if x = true then cc.bind fun z => f' b z else some (.bl false))) := fun Γ φ σ H Q d E hc k => by
  cases ca with
  | none => cases hc
  | some a =>
    cases cb with
    | none => cases hc
    | some b =>
      have hc : (((f a b).bind isBl).bind fun x => if x = true then cc.bind fun z => f' b z else some (.bl false)) = some d := hc
      cases hf : f a b with
      | none => rw [hf] at hc; cases hc
      | some y =>
        rw [hf] at hc
        have hc : ((isBl y).bind fun x => if x = true then cc.bind fun z => f' b z else some (.bl false)) = some d := hc
        cases hy : isBl y with
        | none => rw [hy] at hc; cases hc
        | some x =>
          rw [hy] at hc
          refine ha Γ φ σ H _ a E rfl fun x1 H1 e1 r1 => ?_
          refine hb Γ φ σ H1 _ b (E.ex e1) rfl fun y1 H2 e2 r2 => ?_
          refine o _ H2 x1 y1 a b y _ (E.ex (e1.trans e2)).alA (r1.ex e2) r2 hf fun v H3 e3 r3 => ⟨x, (rp_bl r3 hy).1, ?_⟩
          cases x with
          | false => cases hc; exact k _ H3 ((e1.trans e2).trans e3) (.bl _)
          | true =>
            have hc : (cc.bind fun z => f' b z) = some d := hc
            cases cc with
            | none => cases hc
            | some z =>
              refine hcc Γ φ σ H3 _ z (E.ex ((e1.trans e2).trans e3)) rfl fun z1 H4 e4 r4 => ?_
              exact o' _ H4 y1 z1 b z d Q (E.ex (((e1.trans e2).trans e3).trans e4)).alA ((r2.ex e3).ex e4) r4 hc fun v H' ex rr => k v H' ((((e1.trans e2).trans e3).trans e4).trans ex) rr
theorem rt_chT {r r' : R2} {c : Option D} (h : RunsE K w tq (tChain r r' ta tb tc) ρ c) : RunsT K w tq (tChT r r' ta tb tc) ρ (c.bind isBl) := rt_test h
end
end M
end
section
set_option Elab.async false
set_option linter.all false
set_option maxRecDepth 100000
set_option maxHeartbeats 4000000
namespace M
open PySem PySem.Spec PyProof.Rows L2 U
open LamX (TabS)
open Classical in
noncomputable def gP {α : Type} (p : Prop) (x : Option α) : Option α := if p then x else none
theorem gP_ok {α : Type} {p : Prop} {x : Option α} {y : α} (h : gP p x = some y) : p ∧ x = some y := by
  unfold gP at h
  split at h
  · rename_i z; exact ⟨z, h⟩
  · cases h
theorem gP_pos {α : Type} {p : Prop} {x : Option α} (h : p) : gP p x = x := by unfold gP; rw [if_pos h]
noncomputable def addD : D → D → Option D
  | .int a, .int b => some (.int (a + b))
  | .str a, .str b => gP (a.length + b.length ≤ sizeLine) (some (.str (a ++ b)))
  | .lst a, .lst b => gP (a.length + b.length ≤ 1000000) (some (.lst (a ++ b)))
  | .tup a, .tup b => gP (a.length + b.length ≤ 1000000) (some (.tup (a ++ b)))
  | _, _ => none
def subD : D → D → Option D
  | .int a, .int b => some (.int (a - b))
  | _, _ => none
noncomputable def mulD : D → D → Option D
  | .int a, .int b => gP (CMul a b) (some (.int (a * b)))
  | .lst a, .int k => gP (-(2 ^ 63) ≤ k ∧ k < 2 ^ 63 ∧ a.length * k.toNat ≤ 1000000) (some (.lst (List.replicate k.toNat a).flatten))
  | .str a, .int n => gP (a.cps.size = 1 ∧ 1 ≤ n ∧ n ≤ 1000) (some (.str (timesS (a.cps.getD 0 0) n.toNat)))
  | _, _ => none
noncomputable def modD : D → D → Option D
  | .int a, .int b => gP (0 < b) (some (.int (a % b)))
  | _, _ => none
noncomputable def divD : D → D → Option D
  | .int a, .int b => gP (CDiv a b) (some (.int (a / b)))
  | _, _ => none
noncomputable def powD : D → D → Option D
  | .int a, .int b => gP (CPow a b) (some (.int (a ^ b.toNat)))
  | _, _ => none
def negD : D → Option D
  | .int a => some (.int (-a))
  | _ => none
section
variable {K : PySem.W.Frag} {w : World} {tq : Tb}
theorem o_add : Op2 K w tq (rAdd2 K) addD := fun B H x y a b d Q hB ra rb h k => by
  cases ra <;> cases rb <;> try (cases h)
  · exact .one (AddU.int rfl rfl (k _ H (Xt.refl H) (.int _)))
  · obtain ⟨hl, e⟩ := gP_ok h
    cases e
    exact .one (AddU.str rfl rfl hl (k _ H (Xt.refl H) (.str _)))
  · obtain ⟨h3, e⟩ := gP_ok h
    cases e
    rename_i a1 xs ds t1 r1 a2 ys es t2 r2
    cases r1 with
    | nil => exact .nil rfl rfl t1.sq t2.sq (k _ H (Xt.refl H) (.tup t2 r2))
    | @cons v vs d1 ds1 g r =>
      refine .cat rfl rfl t1.sq t2.sq (List.cons_ne_nil _ _) (by rw [List.length_cons, r.len, r2.len, sizeLine_eq]; rw [List.length_cons] at h3; omega) (fun z => ?_) fun p o hd hcl hp => ?_
      · subst z
        cases r2
        have e : (D.tup (d1 :: ds1 ++ [])) = D.tup (d1 :: ds1) := by rw [List.append_nil]
        exact k _ H (Xt.refl H) (e ▸ .tup t1 (.cons g r))
      · exact k _ _ (Xt.new hp) (.tup (.inl ⟨o, upd_same, hd, hcl⟩) (((RpA.cons g r).app r2).nw hp))
  · obtain ⟨h3, e⟩ := gP_ok h
    cases e
    rename_i a1 xs ds t1 n1 r1 a2 ys es t2 n2 r2
    refine .one (AddU.lst rfl rfl t1 t2 (by rw [r1.len, r2.len, sizeLine_eq]; omega) fun p hp => ?_)
    exact k _ _ (Xt.new hp) (.lst upd_same (fun z => hB p z hp) ((r1.app r2).nw hp))
theorem o_sub : Op2 K w tq U.rSub subD := fun B H x y a b d Q hB ra rb h k => by
  cases ra <;> cases rb <;> try (cases h)
  exact ⟨_, _, rfl, rfl, k _ H (Xt.refl H) (.int _)⟩
theorem o_mul : Op2 K w tq rMul2 mulD := fun B H x y a b d Q hB ra rb h k => by
  cases ra <;> cases rb <;> try (cases h)
  · obtain ⟨c, e⟩ := gP_ok h
    cases e
    exact .one (MulU.int rfl rfl c (k _ H (Xt.refl H) (.int _)))
  · obtain ⟨⟨h1, h2, h3⟩, e⟩ := gP_ok h
    cases e
    rename_i s i
    have es : s = ⟨#[s.cps.getD 0 0]⟩ := by
      obtain ⟨⟨l⟩⟩ := s
      match l, h1 with
      | [c], _ => rfl
    have ei : i = ((i.toNat : Nat) : Int) := by omega
    refine MulS.str (c := s.cps.getD 0 0) (n := i.toNat) (by rw [← es]) (by rw [← ei]) (by omega) (by omega) (k _ H (Xt.refl H) (.str _))
  · obtain ⟨⟨h1, h2, h3⟩, e⟩ := gP_ok h
    cases e
    rename_i a1 xs ds n1 z1 t1 i
    refine .one (MulU.rep ⟨a1, i, xs, rfl, rfl, n1, h1, h2, by rw [t1.len, sizeLine_eq]; omega, fun p hp => ?_⟩)
    refine k _ _ (Xt.new hp) (.lst upd_same (fun z => hB p z hp) (RpA.nw hp ?_))
    have : ∀ m : Nat, RpA K w B H (List.replicate m xs).flatten (List.replicate m ds).flatten := fun m => by
      induction m with
      | zero => exact .nil
      | succ m ih => rw [List.replicate_succ, List.replicate_succ, List.flatten_cons, List.flatten_cons]; exact t1.app ih
    exact this _
theorem o_mod : Op2 K w tq U.rMod modD := fun B H x y a b d Q hB ra rb h k => by
  cases ra <;> cases rb <;> try (cases h)
  obtain ⟨c, e⟩ := gP_ok h
  cases e
  exact ⟨_, _, rfl, rfl, c, k _ H (Xt.refl H) (.int _)⟩
theorem o_div : Op2 K w tq U.rDiv divD := fun B H x y a b d Q hB ra rb h k => by
  cases ra <;> cases rb <;> try (cases h)
  obtain ⟨c, e⟩ := gP_ok h
  cases e
  exact ⟨_, _, rfl, rfl, c, k _ H (Xt.refl H) (.int _)⟩
theorem o_pow : Op2 K w tq U.rPow powD := fun B H x y a b d Q hB ra rb h k => by
  cases ra <;> cases rb <;> try (cases h)
  obtain ⟨c, e⟩ := gP_ok h
  cases e
  exact ⟨_, _, rfl, rfl, c, k _ H (Xt.refl H) (.int _)⟩
theorem o_neg : Op1 K w tq U.rNeg negD := fun B H x a d Q hB ra h k => by
  cases ra <;> try (cases h)
  exact ⟨_, rfl, k _ H (Xt.refl H) (.int _)⟩
end
def cmpD (p : Int → Int → Bool) (ps : List Nat → List Nat → Bool) : D → D → Option D
  | .int a, .int b => some (.bl (p a b))
  | .str a, .str b => some (.bl (ps a.cps.toList b.cps.toList))
  | _, _ => none
def ltD : D → D → Option D := cmpD (fun i j => decide (i < j)) (fun a b => decide (a < b))
def leD : D → D → Option D := cmpD (fun i j => decide (i ≤ j)) (fun a b => !decide (b < a))
def gtD : D → D → Option D := cmpD (fun i j => decide (j < i)) (fun a b => decide (b < a))
def geD : D → D → Option D := cmpD (fun i j => decide (j ≤ i)) (fun a b => !decide (a < b))
section
variable {K : PySem.W.Frag} {w : World} {tq : Tb}
theorem o_cmp {p : Int → Int → Bool} {ps : List Nat → List Nat → Bool} : Op2 K w tq (fun x y H Q => CmpU p ps x y H Q) (cmpD p ps) := fun B H x y a b d Q hB ra rb h k => by
  cases ra <;> cases rb <;> try (cases h)
  · exact CmpU.int rfl rfl (k _ H (Xt.refl H) (.bl _))
  · exact CmpU.str rfl rfl (k _ H (Xt.refl H) (.bl _))
theorem o_lt : Op2 K w tq rLtU ltD := o_cmp
theorem o_le : Op2 K w tq rLeU leD := o_cmp
theorem o_gt : Op2 K w tq rGtU gtD := o_cmp
theorem o_ge : Op2 K w tq rGeU geD := o_cmp
end
mutual
/-- texts of a length that may be, no dict, not too deep -/
def okE : Nat → D → Bool
  | _, .non => true
  | _, .bl _ => true
  | _, .int _ => true
  | _, .str s => PyData.strOk s
  | 0, _ => false
  | n + 1, .tup xs => okEs n xs
  | n + 1, .lst xs => okEs n xs
  | n + 1, .scr xs => okEs n xs
  | _, _ => false
def okEs : Nat → List D → Bool
  | _, [] => true
  | n, d :: ds => okE n d && okEs n ds
end
mutual
def eqB : D → D → Bool
  | .non, .non => true
  | .bl a, .bl b => a == b
  | .bl a, .int j => (if a then 1 else 0) == j
  | .int i, .bl b => i == (if b then 1 else 0)
  | .int i, .int j => i == j
  | .str x, .str y => x == y
  | .tup xs, .tup ys => eqBs xs ys
  | .lst xs, .lst ys => eqBs xs ys
  | .lst xs, .scr ys => eqBs xs ys
  | .scr xs, .lst ys => eqBs xs ys
  | .scr xs, .scr ys => eqBs xs ys
  | _, _ => false
def eqBs : List D → List D → Bool
  | [], [] => true
  | x :: xs, y :: ys => eqB x y && eqBs xs ys
  | _, _ => false
end
mutual
def D.py : D → PyData
  | .non => .none
  | .bl b => .bool b
  | .int i => .int i
  | .str s => .str s
  | .tup xs => .tuple (D.pys xs)
  | .lst xs => .list (D.pys xs)
  | .scr xs => .list (D.pys xs)
  | .dK _ => .dict []
  | .dc _ => .dict []
  | .fn _ => .dict []
  | .dT _ => .dict []
  | .dp _ => .dict []
  | .pr _ => .dict []
  | .own _ => .dict []
  | .ov _ => .dict []
def D.pys : List D → List PyData
  | [] => []
  | d :: ds => d.py :: D.pys ds
end
mutual
theorem okE_py : ∀ (n : Nat) (d : D), okE n d = true → d.py.canLay0 = true ∧ d.py.depth ≤ n
  | n, .non, _ => ⟨rfl, Nat.zero_le _⟩
  | n, .bl _, _ => ⟨rfl, Nat.zero_le _⟩
  | n, .int _, _ => ⟨rfl, Nat.zero_le _⟩
  | n, .str s, h => ⟨by show PyData.strOk s = true; simpa [okE] using h, Nat.zero_le _⟩
  | 0, .tup xs, h => by simp [okE] at h
  | 0, .lst xs, h => by simp [okE] at h
  | 0, .scr xs, h => by simp [okE] at h
  | 0, .dK xs, h => by simp [okE] at h
  | 0, .dc xs, h => by simp [okE] at h
  | n + 1, .tup xs, h => let ⟨a, b⟩ := okEs_py n xs (by simpa [okE] using h); ⟨a, Nat.succ_le_succ b⟩
  | n + 1, .lst xs, h => let ⟨a, b⟩ := okEs_py n xs (by simpa [okE] using h); ⟨a, Nat.succ_le_succ b⟩
  | n + 1, .scr xs, h => let ⟨a, b⟩ := okEs_py n xs (by simpa [okE] using h); ⟨a, Nat.succ_le_succ b⟩
  | n + 1, .dK xs, h => by simp [okE] at h
  | n + 1, .dc xs, h => by simp [okE] at h
  | n, .fn xs, h => by cases n <;> simp [okE] at h
  | n, .dT xs, h => by cases n <;> simp [okE] at h
  | n, .dp xs, h => by cases n <;> simp [okE] at h
  | n, .pr xs, h => by cases n <;> simp [okE] at h
  | n, .own xs, h => by cases n <;> simp [okE] at h
  | n, .ov xs, h => by cases n <;> simp [okE] at h
theorem okEs_py : ∀ (n : Nat) (ds : List D), okEs n ds = true → PyData.canLayAll0 (D.pys ds) = true ∧ PyData.depthAll (D.pys ds) ≤ n
  | n, [], _ => ⟨rfl, Nat.zero_le _⟩
  | n, d :: ds, h => by
    have h2 : okE n d = true ∧ okEs n ds = true := by simpa [okEs] using h
    obtain ⟨a, b⟩ := okE_py n d h2.1
    obtain ⟨a', b'⟩ := okEs_py n ds h2.2
    exact ⟨by show (d.py.canLay0 && PyData.canLayAll0 (D.pys ds)) = true; rw [a, a']; rfl, Nat.max_le.mpr ⟨b, b'⟩⟩
end
theorem eqvAll_nil_cons {x : PyData} {xs : List PyData} : PyData.eqvAll [] (x :: xs) = false := rfl
mutual
theorem eqB_py : ∀ (a b : D) (n m : Nat), okE n a = true → okE m b = true → PyData.eqv a.py b.py = eqB a b
  | .tup xs, .tup ys, n + 1, m + 1, h, g => eqBs_py xs ys n m (by simpa [okE] using h) (by simpa [okE] using g)
  | .lst xs, .lst ys, n + 1, m + 1, h, g => eqBs_py xs ys n m (by simpa [okE] using h) (by simpa [okE] using g)
  | .lst xs, .scr ys, n + 1, m + 1, h, g => eqBs_py xs ys n m (by simpa [okE] using h) (by simpa [okE] using g)
  | .scr xs, .lst ys, n + 1, m + 1, h, g => eqBs_py xs ys n m (by simpa [okE] using h) (by simpa [okE] using g)
  | .scr xs, .scr ys, n + 1, m + 1, h, g => eqBs_py xs ys n m (by simpa [okE] using h) (by simpa [okE] using g)
  | .tup _, _, 0, _, h, _ => by simp [okE] at h
  | .lst _, _, 0, _, h, _ => by simp [okE] at h
  | .scr _, _, 0, _, h, _ => by simp [okE] at h
  | _, .tup _, _, 0, _, h => by simp [okE] at h
  | _, .lst _, _, 0, _, h => by simp [okE] at h
  | _, .scr _, _, 0, _, h => by simp [okE] at h
  | .dK _, _, n, _, h, _ => by cases n <;> simp [okE] at h
  | .dc _, _, n, _, h, _ => by cases n <;> simp [okE] at h
  | _, .dK _, _, n, _, h => by cases n <;> simp [okE] at h
  | _, .dc _, _, n, _, h => by cases n <;> simp [okE] at h
  | .fn _, _, n, _, h, _ => by cases n <;> simp [okE] at h
  | _, .fn _, _, n, _, h => by cases n <;> simp [okE] at h
  | .dT _, _, n, _, h, _ => by cases n <;> simp [okE] at h
  | _, .dT _, _, n, _, h => by cases n <;> simp [okE] at h
  | .pr _, _, n, _, h, _ => by cases n <;> simp [okE] at h
  | .dp _, _, n, _, h, _ => by cases n <;> simp [okE] at h
  | .own _, _, n, _, h, _ => by cases n <;> simp [okE] at h
  | _, .own _, _, n, _, h => by cases n <;> simp [okE] at h
  | .ov _, _, n, _, h, _ => by cases n <;> simp [okE] at h
  | _, .ov _, _, n, _, h => by cases n <;> simp [okE] at h
  | _, .pr _, _, n, _, h => by cases n <;> simp [okE] at h
  | _, .dp _, _, n, _, h => by cases n <;> simp [okE] at h
  | .non, .non, _, _, _, _ => rfl
  | .non, .bl _, _, _, _, _ => rfl
  | .non, .int _, _, _, _, _ => rfl
  | .non, .str _, _, _, _, _ => rfl
  | .non, .tup _, _, _, _, _ => rfl
  | .non, .lst _, _, _, _, _ => rfl
  | .non, .scr _, _, _, _, _ => rfl
  | .bl _, .non, _, _, _, _ => rfl
  | .bl _, .bl _, _, _, _, _ => rfl
  | .bl _, .int _, _, _, _, _ => rfl
  | .bl _, .str _, _, _, _, _ => rfl
  | .bl _, .tup _, _, _, _, _ => rfl
  | .bl _, .lst _, _, _, _, _ => rfl
  | .bl _, .scr _, _, _, _, _ => rfl
  | .int _, .non, _, _, _, _ => rfl
  | .int _, .bl _, _, _, _, _ => rfl
  | .int _, .int _, _, _, _, _ => rfl
  | .int _, .str _, _, _, _, _ => rfl
  | .int _, .tup _, _, _, _, _ => rfl
  | .int _, .lst _, _, _, _, _ => rfl
  | .int _, .scr _, _, _, _, _ => rfl
  | .str _, .non, _, _, _, _ => rfl
  | .str _, .bl _, _, _, _, _ => rfl
  | .str _, .int _, _, _, _, _ => rfl
  | .str _, .str _, _, _, _, _ => rfl
  | .str _, .tup _, _, _, _, _ => rfl
  | .str _, .lst _, _, _, _, _ => rfl
  | .str _, .scr _, _, _, _, _ => rfl
  | .tup _, .non, _, _, _, _ => rfl
  | .tup _, .bl _, _, _, _, _ => rfl
  | .tup _, .int _, _, _, _, _ => rfl
  | .tup _, .str _, _, _, _, _ => rfl
  | .tup _, .lst _, _, _, _, _ => rfl
  | .tup _, .scr _, _, _, _, _ => rfl
  | .lst _, .non, _, _, _, _ => rfl
  | .lst _, .bl _, _, _, _, _ => rfl
  | .lst _, .int _, _, _, _, _ => rfl
  | .lst _, .str _, _, _, _, _ => rfl
  | .lst _, .tup _, _, _, _, _ => rfl
  | .scr _, .non, _, _, _, _ => rfl
  | .scr _, .bl _, _, _, _, _ => rfl
  | .scr _, .int _, _, _, _, _ => rfl
  | .scr _, .str _, _, _, _, _ => rfl
  | .scr _, .tup _, _, _, _, _ => rfl
theorem eqBs_py : ∀ (a b : List D) (n m : Nat), okEs n a = true → okEs m b = true → PyData.eqvAll (D.pys a) (D.pys b) = eqBs a b
  | [], [], _, _, _, _ => rfl
  | [], _ :: _, _, _, _, _ => rfl
  | _ :: _, [], _, _, _, _ => rfl
  | x :: xs, y :: ys, n, m, h, g => by
    have h2 : okE n x = true ∧ okEs n xs = true := by simpa [okEs] using h
    have g2 : okE m y = true ∧ okEs m ys = true := by simpa [okEs] using g
    show (PyData.eqv x.py y.py && PyData.eqvAll (D.pys xs) (D.pys ys)) = (eqB x y && eqBs xs ys)
    rw [eqB_py x y n m h2.1 g2.1, eqBs_py xs ys n m h2.2 g2.2]
end
section
variable {K : PySem.W.Frag} {w : World} {tq : Tb} {B : AS} {H : Hp}
mutual
theorem rp_dp : ∀ {n : Nat} {v : V} {d : D}, Rp K w B H v d → okE n d = true → Dp K H v d.py
  | _, _, _, .non, _ => .non
  | _, _, _, .bl b, _ => .bl b
  | _, _, _, .int i, _ => .int i
  | _, _, _, .str i, _ => .str i
  | n + 1, _, _, .tup h a, g => .tup h.sq (rpa_dp (n := n) a (by simpa [okE] using g))
  | n + 1, _, _, .lst h _ a, g => .lst (.inl (.inl h)) (rpa_dp (n := n) a (by simpa [okE] using g))
  | n + 1, _, _, .scr h a, g => .lst h.sq (rpa_dp (n := n) a (by simpa [okE] using g))
  | 0, _, _, .tup _ _, g => by simp [okE] at g
  | 0, _, _, .lst _ _ _, g => by simp [okE] at g
  | 0, _, _, .scr _ _, g => by simp [okE] at g
  | n, _, _, .dK _ _ _, g => by cases n <;> simp [okE] at g
  | n, _, _, .dc _ _, g => by cases n <;> simp [okE] at g
  | n, _, _, .fn _, g => by cases n <;> simp [okE] at g
  | n, _, _, .dT _ _ _, g => by cases n <;> simp [okE] at g
  | n, _, _, .dp _, g => by cases n <;> simp [okE] at g
  | n, _, _, .pr _ _, g => by cases n <;> simp [okE] at g
theorem rpa_dp : ∀ {n : Nat} {v : List V} {d : List D}, RpA K w B H v d → okEs n d = true → DpAll K H v (D.pys d)
  | _, _, _, .nil, _ => .nil
  | n, _, d :: ds, .cons h a, g => by
    have h2 : okE n d = true ∧ okEs n ds = true := by simpa [okEs] using g
    exact .cons (rp_dp h h2.1) (rpa_dp a h2.2)
end
end
def scEq : D → D → Option Bool
  | .non, .non => some true
  | .non, .int _ => some false
  | .non, .str _ => some false
  | .int _, .non => some false
  | .str _, .non => some false
  | .non, .bl _ => some false
  | .bl _, .non => some false
  | .int a, .int b => some (decide (a = b))
  | .str a, .str b => some (decide (a = b))
  | .bl a, .bl b => some (decide (a = b))
  | .int _, .str _ => some false
  | .str _, .int _ => some false
  | .bl _, .str _ => some false
  | .str _, .bl _ => some false
  | _, _ => none
def eqT (a b : D) : Option Bool := match scEq a b with
  | some r => some r
  | none => if okE 60 a = true ∧ okE 60 b = true then some (eqB a b) else none
def eqD (a b : D) : Option D := (eqT a b).map D.bl
def neD (a b : D) : Option D := (eqT a b).map fun r => D.bl (!r)
section
variable {K : PySem.W.Frag} {w : World} {tq : Tb}
theorem scEq_ok {B : AS} {H : Hp} {x y : V} {a b : D} {r : Bool} (ra : Rp K w B H x a) (rb : Rp K w B H y b) (h : scEq a b = some r) : scal x y = true ∧ decide (x = y) = r := by
  cases ra <;> cases rb <;> first | (cases h; first | (refine ⟨rfl, ?_⟩; simp) | exact ⟨rfl, by simp⟩) | (cases h)
theorem o_eqN {n : Bool} : Op2 K w tq (rEqU K n) (fun a b => (eqT a b).map fun r => D.bl (if n then !r else r)) := fun B H x y a b d Q hB ra rb h k => by
  have h : ((eqT a b).map fun r => D.bl (if n then !r else r)) = some d := h
  cases ht : eqT a b with
  | none => rw [ht] at h; cases h
  | some r =>
    rw [ht] at h
    cases h
    unfold eqT at ht
    cases hs : scEq a b with
    | some r' =>
      rw [hs] at ht
      cases ht
      obtain ⟨h1, h2⟩ := scEq_ok ra rb hs
      refine EqU.scal h1 ?_
      rw [h2]
      exact k _ H (Xt.refl H) (.bl _)
    | none =>
      rw [hs] at ht
      have ht : (if okE 60 a = true ∧ okE 60 b = true then some (eqB a b) else none) = some r := ht
      split at ht
      · rename_i z
        cases ht
        have s1 : SeqAt.shaped a.py = true := by
          obtain ⟨h1, h2⟩ := okE_py 60 a z.1
          unfold SeqAt.shaped
          rw [h1, Bool.true_and]
          exact decide_eq_true (by omega)
        have s2 : SeqAt.shaped b.py = true := by
          obtain ⟨h1, h2⟩ := okE_py 60 b z.2
          unfold SeqAt.shaped
          rw [h1, Bool.true_and]
          exact decide_eq_true (by omega)
        refine EqU.data (rp_dp ra z.1) (rp_dp rb z.2) s1 s2 ?_
        rw [eqB_py a b 60 60 z.1 z.2]
        exact k _ H (Xt.refl H) (.bl _)
      · cases ht
theorem o_eq : Op2 K w tq (rEqU K false) eqD := o_eqN
theorem o_ne : Op2 K w tq (rEqU K true) neD := o_eqN (n := true)
end
end M
end
section
set_option Elab.async false
set_option linter.all false
set_option maxRecDepth 100000
set_option maxHeartbeats 4000000
namespace M
open PySem PySem.Spec PyProof.Rows L2 U
open LamX (TabS)
def flatD : D → Bool
  | .non => true
  | .bl _ => true
  | .int _ => true
  | .str _ => true
  | _ => false
/-- in, not in: the flat rule and the deep one -/
inductive InW (K : PySem.W.Frag) (w : World) (neg : Bool) (x y : V) (H : Hp) (Q : VK) : Prop where
  | u (q : rInU K w neg x y H Q)
  | d (q : (if neg then rNotInD K else rInD K) x y H Q)
def rInV (K : PySem.W.Frag) (w : World) (neg : Bool) : R2 := fun x y H Q => InW K w neg x y H Q
theorem op_inV {X : Cx} (hu : X.A.units + 65 < cLine) : OpR X (compareOp .In) (rInV X.K X.w false) := by
  intro pins s σ H x y v u Q I rx ry q
  cases q with
  | u q => exact op_inU (by omega) pins s σ H x y v u Q I rx ry q
  | d q => exact op_inD hu pins s σ H x y v u Q I rx ry q
theorem op_notinV {X : Cx} (hu : X.A.units + 65 < cLine) : OpR X (compareOp .NotIn) (rInV X.K X.w true) := by
  intro pins s σ H x y v u Q I rx ry q
  cases q with
  | u q => exact op_notinU (by omega) pins s σ H x y v u Q I rx ry q
  | d q => exact op_notInD hu pins s σ H x y v u Q I rx ry q
def keyD : D → Option Key
  | .int i => some (.inl i)
  | .str x => some (.inr x)
  | _ => none
def hasK (kvs : List (Key × D)) (k : Key) : Bool := kvs.any fun kv => decide (kv.1 = k)
def lookK (kvs : List (Key × D)) (k : Key) : Option D := (kvs.find? fun kv => decide (kv.1 = k)).map (·.2)
def inSeq (x : D) (ds : List D) : Option Bool :=
  if flatD x = true ∧ ds.all flatD = true then some (ds.any fun y => eqB y x)
  else none
def inT (x : D) : D → Option Bool
  | .tup ds => inSeq x ds
  | .scr ds => inSeq x ds
  | .lst ds => if flatD x = true ∧ ds.all flatD = true then some (ds.any fun y => eqB y x) else if okE 60 x = true ∧ okEs 59 ds = true then some (ds.any fun y => eqB y x) else none
  | .dK kvs => (keyD x).map fun k => (lookK kvs k).isSome
  | .dc kvs => match x with
    | .str s => some (lookK kvs (.inr s)).isSome
    | _ => none
  | _ => none
section
variable {K : PySem.W.Frag} {w : World} {tq : Tb} {B : AS} {H : Hp}
theorem rp_flat {x : V} {a : D} (r : Rp K w B H x a) (h : flatD a = true) : flatV x = true := by cases r <;> first | rfl | cases h
theorem rpa_flat {xs : List V} {as : List D} (r : RpA K w B H xs as) (h : as.all flatD = true) : xs.all flatV = true := by
  induction as generalizing xs with
  | nil => cases r; rfl
  | cons d ds ih =>
    cases r with
    | cons r1 r2 =>
      have h2 : flatD d = true ∧ ds.all flatD = true := by simpa using h
      rw [List.all_cons, rp_flat r1 h2.1, ih r2 h2.2]; rfl
theorem eqV_eqB {x y : V} {a b : D} (ra : Rp K w B H x a) (rb : Rp K w B H y b) (ha : flatD a = true) (hb : flatD b = true) : eqV x y = eqB a b := by
  cases ra <;> cases rb <;> first | (simp [flatD] at ha; done) | (simp [flatD] at hb; done) | (simp [eqV, eqB])
theorem any_eqB {xs : List V} {as : List D} {y : V} {b : D} (r : RpA K w B H xs as) (rb : Rp K w B H y b) (h : as.all flatD = true) (hb : flatD b = true) : inV y xs = as.any fun z => eqB z b := by
  induction as generalizing xs with
  | nil => cases r; rfl
  | cons d ds ih =>
    cases r with
    | cons r1 r2 =>
      have h2 : flatD d = true ∧ ds.all flatD = true := by simpa using h
      show (eqV _ y || inV y _) = _
      rw [eqV_eqB r1 rb h2.1 hb, ih r2 h2.2]; rfl
theorem lookK_rp {kvs : List (Key × V)} {ds : List (Key × D)} (r : RpK K w B H kvs ds) (k : Key) : (∃ v d, valV kvs k = some v ∧ lookK ds k = some d ∧ Rp K w B H v d) ∨ (valV kvs k = none ∧ lookK ds k = none) := by
  induction ds generalizing kvs with
  | nil => cases r; exact .inr ⟨rfl, rfl⟩
  | cons p ps ih =>
    cases r with
    | @cons k' v vs d _ r1 r2 =>
      by_cases e : k' = k
      · exact .inl ⟨v, d, valV_pos e, by simp [lookK, e], r1⟩
      · rw [valV_neg (p := (k', v)) e]
        have : lookK ((k', d) :: ps) k = lookK ps k := by simp [lookK, e]
        rw [this]
        exact ih r2
theorem keyD_rp {x : V} {a : D} {k : Key} (r : Rp K w B H x a) (h : keyD a = some k) : x = kV k := by cases r <;> cases h <;> rfl
theorem any_py {ds : List D} {b : D} {n m : Nat} (h : okEs n ds = true) (hb : okE m b = true) : ((D.pys ds).any fun z => PyData.eqv z b.py) = ds.any fun z => eqB z b := by
  induction ds with
  | nil => rfl
  | cons d ds ih =>
    have h2 : okE n d = true ∧ okEs n ds = true := by simpa [okEs] using h
    show (PyData.eqv d.py b.py || (D.pys ds).any _) = (eqB d b || ds.any _)
    rw [eqB_py d b n m h2.1 hb, ih h2.2]
theorem shaped_of {d : D} (h : okE 60 d = true) : SeqAt.shaped d.py = true := by
  obtain ⟨h1, h2⟩ := okE_py 60 d h
  unfold SeqAt.shaped
  rw [h1, Bool.true_and]
  exact decide_eq_true (by omega)
theorem shaped_l {ds : List D} (h : okEs 59 ds = true) : SeqAt.shaped (.list (D.pys ds)) = true := shaped_of (d := .lst ds) (by simpa [okE] using h)
theorem o_inN {n : Bool} : Op2 K w tq (rInV K w n) (fun a b => (inT a b).map fun r => D.bl (if n then !r else r)) := fun B H x y a b d Q hB ra rb h k => by
  have h : ((inT a b).map fun r => D.bl (if n then !r else r)) = some d := h
  cases ht : inT a b with
  | none => rw [ht] at h; cases h
  | some r =>
    rw [ht] at h
    cases h
    cases rb with
    | non => cases ht
    | bl _ => cases ht
    | int _ => cases ht
    | str _ => cases ht
    | tup h1 r1 =>
      rename_i ds
      have ht : inSeq a ds = some r := ht
      unfold inSeq at ht
      split at ht
      · rename_i z
        cases ht
        refine .u (.seq rfl (.inr h1.sq) (rp_flat ra z.1) (rpa_flat r1 z.2) ?_)
        rw [any_eqB r1 ra z.2 z.1]
        exact k _ H (Xt.refl H) (.bl _)
      · cases ht
    | scr h1 r1 =>
      rename_i ds
      have ht : inSeq a ds = some r := ht
      unfold inSeq at ht
      split at ht
      · rename_i z
        cases ht
        refine .u (.seq rfl (.inl h1.sq) (rp_flat ra z.1) (rpa_flat r1 z.2) ?_)
        rw [any_eqB r1 ra z.2 z.1]
        exact k _ H (Xt.refl H) (.bl _)
      · cases ht
    | lst h1 n1 r1 =>
      rename_i ds
      have ht : (if flatD a = true ∧ ds.all flatD = true then some (ds.any fun y => eqB y a) else if okE 60 a = true ∧ okEs 59 ds = true then some (ds.any fun y => eqB y a) else none) = some r := ht
      split at ht
      · rename_i z
        cases ht
        refine .u (.seq rfl (.inl (.inl (.inl h1))) (rp_flat ra z.1) (rpa_flat r1 z.2) ?_)
        rw [any_eqB r1 ra z.2 z.1]
        exact k _ H (Xt.refl H) (.bl _)
      · split at ht
        · rename_i z
          cases ht
          have e1 := rp_dp ra z.1
          have e2 : Dp K H (.ref _) (.list (D.pys ds)) := Dp.lst (.inl (.inl h1)) (rpa_dp r1 z.2)
          refine .d ?_
          have q := any_py z.2 z.1
          cases n with
          | false => exact ⟨_, _, e1, e2, shaped_of z.1, shaped_l z.2, by rw [q]; exact k _ H (Xt.refl H) (.bl _)⟩
          | true => exact ⟨_, _, e1, e2, shaped_of z.1, shaped_l z.2, by rw [q]; exact k _ H (Xt.refl H) (.bl _)⟩
        · cases ht
    | dK h1 n1 r1 =>
      rename_i a1 kvs ds
      have ht : ((keyD a).map fun k => (lookK ds k).isSome) = some r := ht
      cases hk : keyD a with
      | none => rw [hk] at ht; cases ht
      | some key =>
        rw [hk] at ht
        cases ht
        have ex := keyD_rp ra hk
        subst ex
        refine .u (.dic rfl (DGet.k h1) ?_)
        have e : (valV kvs key).isSome = (lookK ds key).isSome := by
          rcases lookK_rp r1 key with ⟨v, d, e1, e2, _⟩ | ⟨e1, e2⟩ <;> rw [e1, e2] <;> rfl
        rw [e]
        exact k _ H (Xt.refl H) (.bl _)
    | dc h1 r1 =>
      rename_i a1 kvs ds
      cases ra with
      | str s =>
        have ht : some (lookK ds (.inr s)).isSome = some r := ht
        cases ht
        obtain ⟨hm, es, n', hd, hf⟩ := h1
        have q := hf s
        rcases lookK_rp r1 (.inr s) with ⟨v, d, e1, e2, _⟩ | ⟨e1, e2⟩
        · rw [e1] at q
          obtain ⟨u, q1, q2⟩ := q
          refine .u (.kdic hd rfl rfl q1 ?_)
          have := k _ H (Xt.refl H) (.bl _)
          rw [e2] at this
          exact this
        · rw [e1] at q
          refine .u (.kdic hd rfl rfl q ?_)
          have := k _ H (Xt.refl H) (.bl _)
          rw [e2] at this
          exact this
      | _ => cases ht
    | fn _ => cases ht
    | pr _ _ => cases ht
    | dT _ _ _ => cases ht
    | dp _ => cases ht
def inD (a b : D) : Option D := (inT a b).map D.bl
def ninD (a b : D) : Option D := (inT a b).map fun r => D.bl (!r)
theorem o_in : Op2 K w tq (rInV K w false) inD := o_inN
theorem o_nin : Op2 K w tq (rInV K w true) ninD := o_inN (n := true)
end
def ixD : D → D → Option D
  | .lst ds, .int i => atI ds i
  | .tup ds, .int i => atI ds i
  | .scr ds, .int i => atI ds i
  | .str s, .int i => if s.length ≤ 1000000 then (atI s.cps.toList i).map fun c => .str ⟨#[c]⟩ else none
  | .dK kvs, k => (keyD k).bind fun k => lookK kvs k
  | .dc kvs, .str s => lookK kvs (.inr s)
  | _, _ => none
section
variable {K : PySem.W.Frag} {w : World} {tq : Tb}
theorem rpa_atI {B : AS} {H : Hp} {xs : List V} {ds : List D} {i : Int} {d : D} (r : RpA K w B H xs ds) (h : atI ds i = some d) : ∃ v, atI xs i = some v ∧ Rp K w B H v d := by
  unfold atI at h ⊢
  rw [r.len]
  cases e : ixN ds.length i with
  | none => rw [e] at h; cases h
  | some j =>
    rw [e] at h
    exact r.at h
theorem o_ix : Op2 K w tq (rIxU K w) ixD := fun B H x y a b d Q hB ra rb h k => by
  cases ra with
  | non => cases rb <;> cases h
  | bl _ => cases rb <;> cases h
  | int _ => cases rb <;> cases h
  | str s =>
    cases rb with
    | int i =>
      have h : (if s.length ≤ 1000000 then (atI s.cps.toList i).map fun c => D.str ⟨#[c]⟩ else none) = some d := h
      split at h
      · rename_i hl
        cases e : atI s.cps.toList i with
        | none => rw [e] at h; cases h
        | some c =>
          rw [e] at h
          cases h
          exact .str rfl rfl (by rw [sizeLine_eq]; omega) e (k _ H (Xt.refl H) (.str _))
      · cases h
    | _ => cases h
  | lst h1 n1 r1 =>
    cases rb with
    | int i =>
      obtain ⟨v, h2, h3⟩ := rpa_atI r1 h
      exact .lst rfl rfl (.inl (.inl h1)) h2 (k _ H (Xt.refl H) h3)
    | _ => cases h
  | scr h1 r1 =>
    cases rb with
    | int i =>
      obtain ⟨v, h2, h3⟩ := rpa_atI r1 h
      exact .lst rfl rfl h1.sq h2 (k _ H (Xt.refl H) h3)
    | _ => cases h
  | tup h1 r1 =>
    cases rb with
    | int i =>
      obtain ⟨v, h2, h3⟩ := rpa_atI r1 h
      exact .tup rfl rfl h1.sq h2 (k _ H (Xt.refl H) h3)
    | _ => cases h
  | dK h1 n1 r1 =>
    rename_i a1 kvs ds
    have h : ((keyD b).bind fun k => lookK ds k) = some d := by cases b <;> exact h
    cases hk : keyD b with
    | none => rw [hk] at h; cases h
    | some key =>
      rw [hk] at h
      have h : lookK ds key = some d := h
      have ex := keyD_rp rb hk
      subst ex
      rcases lookK_rp r1 key with ⟨v, d', e1, e2, r⟩ | ⟨e1, e2⟩
      · rw [e2] at h
        cases h
        have g := DGet.k (k := key) h1
        rw [e1] at g
        exact .dic rfl g (k _ H (Xt.refl H) r)
      · rw [e2] at h; cases h
  | dc h1 r1 =>
    rename_i a1 kvs ds
    cases rb with
    | str s =>
      have h : lookK ds (.inr s) = some d := h
      rcases lookK_rp r1 (.inr s) with ⟨v, d', e1, e2, r⟩ | ⟨e1, e2⟩
      · rw [e2] at h
        cases h
        obtain ⟨hm, es, n', hd, hf⟩ := h1
        have q := hf s
        rw [e1] at q
        obtain ⟨u, q1, q2⟩ := q
        exact .kdic rfl rfl ⟨es, n', u, hd.at_, hd.lit, q1, q2⟩ (k _ H (Xt.refl H) r)
      · rw [e2] at h; cases h
    | _ => cases h
  | fn _ => cases rb <;> cases h
  | pr _ _ => cases rb <;> cases h
  | dT _ _ _ => cases rb <;> cases h
  | dp _ => cases rb <;> cases h
end
end M
end
section
set_option Elab.async false
set_option linter.all false
set_option maxRecDepth 100000
set_option maxHeartbeats 4000000
namespace M
open PySem PySem.Spec PyProof.Rows L2 U
open LamX (TabS)
section
variable {K : PySem.W.Frag} {w : World} {tq : Tb} {ρ : List Sl} {te ta tb tc : TE} {c : Option D} {ca cb cc : Option D}
def cutD {α : Type} (xs : List α) (lo hi : Option Int) : List α := (xs.drop (HT.sIx xs.length 0 lo)).take (HT.sIx xs.length xs.length hi - HT.sIx xs.length 0 lo)
noncomputable def slD (x : D) (lo hi : Option Int) : Option D := match x with
  | .str z => gP (z.length ≤ sizeLine) (some (.str (cutS z lo hi)))
  | .lst xs => some (.lst (cutD xs lo hi))
  | .scr xs => some (.lst (cutD xs lo hi))
  | .tup xs => some (.tup (cutD xs lo hi))
  | _ => none
/-- a part of a slice: none, or a number -/
def RunsO (K : PySem.W.Frag) (w : World) (tq : Tb) (to : TO) (ρ : List Sl) (c : Option (Option Int)) : Prop :=
  ∀ (Γ : Ct) (φ : Foot) (σ : L2.St) (H : Hp) (Q : Option Int → Hp → Prop) (b : Option Int), ER K w tq Γ φ σ H ρ → c = some b → (∀ H', Xt tq H H' → Q b H') → to σ H Q
theorem ro_no : RunsO K w tq tNoPart ρ (some none) := fun Γ φ σ H Q b E hc k => by cases hc; exact k H (Xt.refl H)
def isInt : D → Option Int
  | .int i => some i
  | _ => none
theorem rp_int {B : AS} {H : Hp} {v : V} {d : D} {b : Int} (r : Rp K w B H v d) (h : isInt d = some b) : v = .int b ∧ d = .int b := by
  cases r with
  | int b' => cases h; exact ⟨rfl, rfl⟩
  | _ => cases h
theorem ro_some (h : RunsE K w tq te ρ c) : RunsO K w tq (tPart te) ρ ((c.bind isInt).map some) := fun Γ φ σ H Q b E hc k => by
  cases c with
  | none => cases hc
  | some d =>
    cases hi : isInt d with
    | none => rw [Option.bind_some, hi] at hc; cases hc
    | some i =>
      rw [Option.bind_some, hi] at hc
      cases hc
      exact h Γ φ σ H _ d E rfl fun v H' ex r => ⟨i, (rp_int r hi).1, k H' ex⟩
theorem rpa_cut {B : AS} {H : Hp} {xs : List V} {ds : List D} (r : RpA K w B H xs ds) (lo hi : Option Int) : RpA K w B H (cutV xs lo hi) (cutD ds lo hi) := by
  unfold cutV cutD
  rw [r.len]
  exact (r.drop _).take _
theorem re_sl {tl th : TO} {cl ch : Option (Option Int)} (h : RunsE K w tq te ρ c) (hl : RunsO K w tq tl ρ cl) (hh : RunsO K w tq th ρ ch) :
    RunsE K w tq (L2.tSl (rSlP K) te tl th) ρ (c.bind fun x => cl.bind fun lo => ch.bind fun hi => slD x lo hi) := fun Γ φ σ H Q d E hc k => by
  cases c with
  | none => cases hc
  | some x =>
    cases cl with
    | none => cases hc
    | some lo =>
      cases ch with
      | none => cases hc
      | some hi =>
        have hc : slD x lo hi = some d := hc
        refine h Γ φ σ H _ x E rfl fun v H1 e1 r1 => hl Γ φ σ H1 _ lo (E.ex e1) rfl fun H2 e2 => hh Γ φ σ H2 _ hi (E.ex (e1.trans e2)) rfl fun H3 e3 => ?_
        have e : Xt tq H H3 := (e1.trans e2).trans e3
        have r3 := (r1.ex e2).ex e3
        clear r1
        have hB := (E.ex e).alA
        cases r3 with
        | str z =>
          obtain ⟨hz, e'⟩ := gP_ok hc
          cases e'
          exact .str rfl hz (k _ H3 e (.str _))
        | lst h1 n1 r1 =>
          cases hc
          refine .lst rfl (.inl (.inl h1)) fun p hp => k _ _ (e.trans (Xt.new hp)) (.lst upd_same (fun z => hB p z hp) ((rpa_cut r1 lo hi).nw hp))
        | scr h1 r1 =>
          cases hc
          refine .lst rfl h1.sq fun p hp => k _ _ (e.trans (Xt.new hp)) (.lst upd_same (fun z => hB p z hp) ((rpa_cut r1 lo hi).nw hp))
        | @tup a0 xs0 ds0 h1 r1 =>
          have hd : D.tup (cutD ds0 lo hi) = d := Option.some.inj hc
          by_cases hw : HT.sIx xs0.length 0 lo = 0 ∧ HT.sIx xs0.length xs0.length hi = xs0.length
          · refine .whole rfl h1.sq hw ?_
            have e0 : cutD ds0 lo hi = ds0 := by
              unfold cutD
              rw [← r1.len, hw.1, hw.2, Nat.sub_zero, List.drop_zero, r1.len, List.take_length]
            rw [e0] at hd
            subst hd
            exact k _ H3 e (.tup h1 r1)
          · subst hd
            exact .part rfl h1.sq hw fun p o hdd hcl hp => k _ _ (e.trans (Xt.new hp)) (.tup (.inl ⟨o, upd_same, hdd, hcl⟩) ((rpa_cut r1 lo hi).nw hp))
        | _ => cases hc
def lenD : List D → Option D
  | [.str s] => if s.length ≤ 1000000 then some (.int (s.length : Nat)) else none
  | [.lst xs] => some (.int (xs.length : Nat))
  | [.tup xs] => some (.int (xs.length : Nat))
  | [.scr xs] => some (.int (xs.length : Nat))
  | _ => none
theorem rpa1 {B : AS} {H : Hp} {xs : List V} {d : D} (r : RpA K w B H xs [d]) : ∃ x, xs = [x] ∧ Rp K w B H x d := by
  cases r with
  | cons h t => cases t; exact ⟨_, rfl, h⟩
theorem rpa2 {B : AS} {H : Hp} {xs : List V} {d e : D} (r : RpA K w B H xs [d, e]) : ∃ x y, xs = [x, y] ∧ Rp K w B H x d ∧ Rp K w B H y e := by
  cases r with
  | cons h t =>
    obtain ⟨y, rfl, g⟩ := rpa1 t
    exact ⟨_, _, rfl, h, g⟩
def fn1 {α : Type} (f : D → Option α) : List D → Option α
  | [a] => f a
  | _ => none
def fn2 {α : Type} (f : D → D → Option α) : List D → Option α
  | [a, b] => f a b
  | _ => none
def fn3 {α : Type} (f : D → D → D → Option α) : List D → Option α
  | [a, b, c] => f a b c
  | _ => none
def fn4 {α : Type} (f : D → D → D → D → Option α) : List D → Option α
  | [a, b, c, d] => f a b c d
  | _ => none
def fn5 {α : Type} (f : D → D → D → D → D → Option α) : List D → Option α
  | [a, b, c, d, e] => f a b c d e
  | _ => none
theorem fn1_ok {α : Type} {f : D → Option α} {ds : List D} {y : α} (h : fn1 f ds = some y) : ∃ a, ds = [a] ∧ f a = some y := by
  match ds, h with
  | [a], h => exact ⟨a, rfl, h⟩
theorem fn2_ok {α : Type} {f : D → D → Option α} {ds : List D} {y : α} (h : fn2 f ds = some y) : ∃ a b, ds = [a, b] ∧ f a b = some y := by
  match ds, h with
  | [a, b], h => exact ⟨a, b, rfl, h⟩
theorem fn3_ok {α : Type} {f : D → D → D → Option α} {ds : List D} {y : α} (h : fn3 f ds = some y) : ∃ a b c, ds = [a, b, c] ∧ f a b c = some y := by
  match ds, h with
  | [a, b, c], h => exact ⟨a, b, c, rfl, h⟩
theorem fn4_ok {α : Type} {f : D → D → D → D → Option α} {ds : List D} {y : α} (h : fn4 f ds = some y) : ∃ a b c d, ds = [a, b, c, d] ∧ f a b c d = some y := by
  match ds, h with
  | [a, b, c, d], h => exact ⟨a, b, c, d, rfl, h⟩
theorem fn5_ok {α : Type} {f : D → D → D → D → D → Option α} {ds : List D} {y : α} (h : fn5 f ds = some y) : ∃ a b c d e, ds = [a, b, c, d, e] ∧ f a b c d e = some y := by
  match ds, h with
  | [a, b, c, d, e], h => exact ⟨a, b, c, d, e, rfl, h⟩
theorem o_len : OpL K w tq (rLenU K) lenD := fun B H xs as d Q hB r h k => by
  match as, h with
  | [.str s], h =>
    obtain ⟨x, rfl, r1⟩ := rpa1 r
    have h : (if s.length ≤ 1000000 then some (D.int (s.length : Nat)) else none) = some d := h
    split at h
    · rename_i z
      cases h
      cases r1
      exact ⟨_, s.length, rfl, ⟨by rw [sizeLine_eq]; omega, rfl⟩, k _ H (Xt.refl H) (.int _)⟩
    · cases h
  | [.lst ds], h =>
    obtain ⟨x, rfl, r1⟩ := rpa1 r
    cases h
    cases r1 with
    | lst h1 n1 r1 => exact ⟨_, ds.length, rfl, .inl ⟨_, .inl (.inl h1), r1.len.symm⟩, k _ H (Xt.refl H) (.int _)⟩
  | [.scr ds], h =>
    obtain ⟨x, rfl, r1⟩ := rpa1 r
    cases h
    cases r1 with
    | scr h1 r1 => exact ⟨_, ds.length, rfl, .inl ⟨_, h1.sq, r1.len.symm⟩, k _ H (Xt.refl H) (.int _)⟩
  | [.tup ds], h =>
    obtain ⟨x, rfl, r1⟩ := rpa1 r
    cases h
    cases r1 with
    | tup h1 r1 => exact ⟨_, ds.length, rfl, .inr ⟨_, h1.sq, r1.len.symm⟩, k _ H (Xt.refl H) (.int _)⟩
/-- ints of a list -/
def intsD : List D → Option (List Int)
  | [] => some []
  | .int i :: r => (intsD r).map (i :: ·)
  | _ => none
theorem ints_rp {B : AS} {H : Hp} : ∀ {ds : List D} {xs : List V} {ns : List Int}, RpA K w B H xs ds → intsD ds = some ns → xs = ns.map V.int
  | [], _, _, .nil, h => by cases h; rfl
  | .int i :: r, _, ns, .cons h1 h2, h => by
    have h : (intsD r).map (i :: ·) = some ns := h
    cases e : intsD r with
    | none => rw [e] at h; cases h
    | some ms =>
      rw [e] at h
      cases h
      cases h1
      rw [ints_rp h2 e]; rfl
theorem intsD_map : ∀ ns : List Int, intsD (ns.map D.int) = some ns
  | [] => rfl
  | n :: r => by show (intsD (r.map D.int)).map (n :: ·) = _; rw [intsD_map r]; rfl
def listOf : D → Option (List D)
  | .lst xs => some xs
  | .scr xs => some xs
  | _ => none
theorem listOf_rp {B : AS} {H : Hp} {v : V} {d : D} {ds : List D} (r : Rp K w B H v d) (h : listOf d = some ds) : ∃ p xs, v = .ref p ∧ SqL K H p xs ∧ RpA K w B H xs ds := by
  cases r with
  | lst h1 _ r1 => cases h; exact ⟨_, _, rfl, .inl (.inl h1), r1⟩
  | scr h1 r1 => cases h; exact ⟨_, _, rfl, h1.sq, r1⟩
  | _ => cases h
def minL : List Int → Option Int
  | [] => none
  | n :: r => some (r.foldl min n)
def maxL : List Int → Option Int
  | [] => none
  | n :: r => some (r.foldl max n)
theorem foldl_min (r : List Int) : ∀ n : Int, r.foldl min n ≤ n ∧ (∀ y ∈ r, r.foldl min n ≤ y) ∧ (r.foldl min n = n ∨ r.foldl min n ∈ r) := by
  induction r with
  | nil => exact fun n => ⟨Int.le_refl n, fun _ h => absurd h List.not_mem_nil, .inl rfl⟩
  | cons a r ih =>
    intro n
    obtain ⟨h1, h2, h3⟩ := ih (min n a)
    refine ⟨by show r.foldl min (min n a) ≤ n; omega, fun y hy => ?_, ?_⟩
    · show r.foldl min (min n a) ≤ y
      rcases List.mem_cons.mp hy with e | e
      · omega
      · exact h2 y e
    · show r.foldl min (min n a) = n ∨ r.foldl min (min n a) ∈ a :: r
      rcases h3 with e | e
      · by_cases z : n ≤ a
        · left; omega
        · right; rw [e]; have : min n a = a := by omega
          rw [this]; exact List.mem_cons_self ..
      · exact .inr (List.mem_cons_of_mem _ e)
theorem foldl_max (r : List Int) : ∀ n : Int, n ≤ r.foldl max n ∧ (∀ y ∈ r, y ≤ r.foldl max n) ∧ (r.foldl max n = n ∨ r.foldl max n ∈ r) := by
  induction r with
  | nil => exact fun n => ⟨Int.le_refl n, fun _ h => absurd h List.not_mem_nil, .inl rfl⟩
  | cons a r ih =>
    intro n
    obtain ⟨h1, h2, h3⟩ := ih (max n a)
    refine ⟨by show n ≤ r.foldl max (max n a); omega, fun y hy => ?_, ?_⟩
    · show y ≤ r.foldl max (max n a)
      rcases List.mem_cons.mp hy with e | e
      · omega
      · exact h2 y e
    · show r.foldl max (max n a) = n ∨ r.foldl max (max n a) ∈ a :: r
      rcases h3 with e | e
      · by_cases z : a ≤ n
        · left; omega
        · right; rw [e]; have : max n a = a := by omega
          rw [this]; exact List.mem_cons_self ..
      · exact .inr (List.mem_cons_of_mem _ e)
def minD : List D → Option D
  | [.int i, .int j] => some (.int (min i j))
  | [d] => ((listOf d).bind intsD).bind fun ns => (minL ns).map D.int
  | _ => none
def maxD : List D → Option D
  | [.int i, .int j] => some (.int (max i j))
  | [d] => ((listOf d).bind intsD).bind fun ns => (maxL ns).map D.int
  | _ => none
theorem o_min : OpL K w tq (rMinU K) M.minD := fun B H xs as d Q hB r h k => by
  match as, h with
  | [.int i, .int j], h =>
    obtain ⟨x, y, rfl, r1, r2⟩ := rpa2 r
    cases h; cases r1; cases r2
    refine MmU.two rfl ?_
    have : (if (true : Bool) = true then (if j < i then j else i) else (if j > i then j else i)) = min i j := by
      rw [if_pos rfl]; split <;> omega
    rw [this]
    exact k _ H (Xt.refl H) (.int _)
  | [e], h =>
    obtain ⟨x, rfl, r1⟩ := rpa1 r
    have h : ((listOf e).bind intsD).bind (fun ns => (minL ns).map D.int) = some d := by cases e <;> exact h
    cases hl : listOf e with
    | none => rw [hl] at h; cases h
    | some ds =>
      rw [hl, Option.bind_some] at h
      cases hi : intsD ds with
      | none => rw [hi] at h; cases h
      | some ns =>
        rw [hi] at h
        have h : (minL ns).map D.int = some d := h
        cases ns with
        | nil => cases h
        | cons n rr =>
          cases h
          obtain ⟨p, ys, rfl, hs, ra⟩ := listOf_rp r1 hl
          have e := ints_rp ra hi
          subst e
          refine MmU.lst (ns := n :: rr) rfl hs (by simp) fun m hm hy => ?_
          have em : m = rr.foldl min n := by
            obtain ⟨g1, g2, g3⟩ := foldl_min rr n
            have hy' : ∀ y ∈ n :: rr, m ≤ y := fun y z => by simpa using hy y z
            have a1 : rr.foldl min n ≤ m := by
              rcases List.mem_cons.mp hm with z | z
              · omega
              · exact g2 m z
            have a2 : m ≤ rr.foldl min n := by
              rcases g3 with z | z
              · rw [z]; exact hy' n (List.mem_cons_self ..)
              · exact hy' _ (List.mem_cons_of_mem _ z)
            omega
          rw [em]
          exact k _ H (Xt.refl H) (.int _)
theorem o_max : OpL K w tq (rMaxU K) M.maxD := fun B H xs as d Q hB r h k => by
  match as, h with
  | [.int i, .int j], h =>
    obtain ⟨x, y, rfl, r1, r2⟩ := rpa2 r
    cases h; cases r1; cases r2
    refine MmU.two rfl ?_
    have : (if (false : Bool) = true then (if j < i then j else i) else (if j > i then j else i)) = max i j := by
      rw [if_neg (by decide)]; split <;> omega
    rw [this]
    exact k _ H (Xt.refl H) (.int _)
  | [e], h =>
    obtain ⟨x, rfl, r1⟩ := rpa1 r
    have h : ((listOf e).bind intsD).bind (fun ns => (maxL ns).map D.int) = some d := by cases e <;> exact h
    cases hl : listOf e with
    | none => rw [hl] at h; cases h
    | some ds =>
      rw [hl, Option.bind_some] at h
      cases hi : intsD ds with
      | none => rw [hi] at h; cases h
      | some ns =>
        rw [hi] at h
        have h : (maxL ns).map D.int = some d := h
        cases ns with
        | nil => cases h
        | cons n rr =>
          cases h
          obtain ⟨p, ys, rfl, hs, ra⟩ := listOf_rp r1 hl
          have e := ints_rp ra hi
          subst e
          refine MmU.lst (ns := n :: rr) rfl hs (by simp) fun m hm hy => ?_
          have em : m = rr.foldl max n := by
            obtain ⟨g1, g2, g3⟩ := foldl_max rr n
            have hy' : ∀ y ∈ n :: rr, y ≤ m := fun y z => by simpa using hy y z
            have a1 : m ≤ rr.foldl max n := by
              rcases List.mem_cons.mp hm with z | z
              · omega
              · exact g2 m z
            have a2 : rr.foldl max n ≤ m := by
              rcases g3 with z | z
              · rw [z]; exact hy' n (List.mem_cons_self ..)
              · exact hy' _ (List.mem_cons_of_mem _ z)
            omega
          rw [em]
          exact k _ H (Xt.refl H) (.int _)
def int1D : List D → Option D
  | [.int i] => some (.int i)
  | [.bl b] => some (.int (if b then 1 else 0))
  | _ => none
theorem o_int1 : OpL K w tq rInt1 int1D := fun B H xs as d Q hB r h k => by
  match as, h with
  | [.int i], h =>
    obtain ⟨x, rfl, r1⟩ := rpa1 r
    cases h; cases r1
    exact .inl ⟨i, rfl, k _ H (Xt.refl H) (.int _)⟩
  | [.bl i], h =>
    obtain ⟨x, rfl, r1⟩ := rpa1 r
    cases h; cases r1
    exact .inr ⟨i, rfl, k _ H (Xt.refl H) (.int _)⟩
/-- tuple(x) -/
def tupOfD : List D → Option D
  | [.lst xs] => some (.tup xs)
  | [.scr xs] => some (.tup xs)
  | [.tup xs] => some (.tup xs)
  | _ => none
theorem o_tupOf : OpL K w tq (rTup2 K) tupOfD := fun B H xs as d Q hB r h k => by
  match as, h with
  | [.lst ds], h =>
    obtain ⟨x, rfl, r1⟩ := rpa1 r
    cases h
    cases r1 with
    | lst h1 n1 r1 => exact .lst rfl (.inl (.inl h1)) fun l o hd hcl hl => k _ _ (Xt.new hl) (.tup (.inl ⟨o, upd_same, hd, hcl⟩) (r1.nw hl))
  | [.scr ds], h =>
    obtain ⟨x, rfl, r1⟩ := rpa1 r
    cases h
    cases r1 with
    | scr h1 r1 => exact .lst rfl h1.sq fun l o hd hcl hl => k _ _ (Xt.new hl) (.tup (.inl ⟨o, upd_same, hd, hcl⟩) (r1.nw hl))
  | [.tup ds], h =>
    obtain ⟨x, rfl, r1⟩ := rpa1 r
    cases h
    cases r1 with
    | tup h1 r1 => exact .tup rfl h1.sq (k _ H (Xt.refl H) (.tup h1 r1))
/-- list(x) -/
def seqOf : D → Option (List D)
  | .lst xs => some xs
  | .scr xs => some xs
  | .tup xs => some xs
  | _ => none
theorem seqOf_rp {B : AS} {H : Hp} {v : V} {d : D} {ds : List D} (r : Rp K w B H v d) (h : seqOf d = some ds) : ∃ p xs, v = .ref p ∧ (SqL K H p xs ∨ SqT K H p xs) ∧ RpA K w B H xs ds := by
  cases r with
  | lst h1 _ r1 => cases h; exact ⟨_, _, rfl, .inl (.inl (.inl h1)), r1⟩
  | scr h1 r1 => cases h; exact ⟨_, _, rfl, .inl h1.sq, r1⟩
  | tup h1 r1 => cases h; exact ⟨_, _, rfl, .inr h1.sq, r1⟩
  | _ => cases h
def lstOfD : List D → Option D := fn1 fun d => (seqOf d).map D.lst
theorem rn_lstOf {tr : TA} {cr : Option (List D)} (ha : RunsA K w tq tr ρ cr) : RunsN K w tq (tCB (rListOf K) tr) ρ (cr.bind lstOfD) := fun Γ φ σ H Q d E hc k => by
  cases cr with
  | none => cases hc
  | some as =>
    obtain ⟨a, rfl, h⟩ := fn1_ok hc
    cases hs : seqOf a with
    | none => rw [hs] at h; cases h
    | some ds =>
      rw [hs] at h
      cases h
      refine ha Γ φ σ H _ [a] E rfl fun xs H1 e1 r1 => ?_
      obtain ⟨x, rfl, r2⟩ := rpa1 r1
      obtain ⟨p, ys, rfl, g1, g2⟩ := seqOf_rp r2 hs
      exact ⟨p, ys, rfl, g1, fun l hl => k l _ (e1.trans (Xt.new hl)) (new_lst e1 E.alA hl g2)⟩
theorem re_lstOf {tr : TA} {cr : Option (List D)} (ha : RunsA K w tq tr ρ cr) : RunsE K w tq (tCB (rListOf K) tr) ρ (cr.bind lstOfD) := re_of_n (rn_lstOf ha)
def isNonD (d : D) : Bool := match d with
  | .non => true
  | _ => false
theorem rp_non {B : AS} {H : Hp} {v : V} {d : D} (r : Rp K w B H v d) : decide (v = .non) = isNonD d := by cases r <;> simp [isNonD]
theorem re_isN {n : Bool} (h : RunsE K w tq te ρ c) : RunsE K w tq (tOp (rIsU n) te (tC .non)) ρ (c.map fun d => .bl (if n then !isNonD d else isNonD d)) := fun Γ φ σ H Q d E hc k => by
  cases c with
  | none => cases hc
  | some x =>
    cases hc
    refine h Γ φ σ H _ x E rfl fun v H' ex r => IsU.non rfl ?_
    rw [rp_non r]
    exact k _ H' ex (.bl _)
def tyD : D → String
  | .non => "NoneType"
  | .bl _ => "bool"
  | .int _ => "int"
  | .str _ => "str"
  | .lst _ => "list"
  | .scr _ => "list"
  | .tup _ => "tuple"
  | .dK _ => "dict"
  | _ => "no"
theorem rp_ty {B : AS} {H : Hp} {v : V} {d : D} (r : Rp K w B H v d) (hn : tyD d ≠ "no") : TyB K H v (tyD d) := by
  cases r with
  | non => exact .non
  | bl b => exact .bl b
  | int i => exact .int i
  | str x => exact .str x
  | lst h _ _ => exact .lst (.inl (.inl h))
  | scr h _ => exact .lst h.sq
  | tup h _ => exact .tup h.sq
  | pr _ _ => exact absurd rfl hn
  | dK h _ _ => exact .dK h
  | dc _ _ => exact absurd rfl hn
  | fn _ => exact absurd rfl hn
  | dT h _ _ => exact absurd rfl hn
  | dp _ => exact absurd rfl hn
def isTyD (T : String) (n : Bool) (d : D) : Option D := if tyD d = "no" then none else some (.bl (if n then !decide (tyD d = T) else decide (tyD d = T)))
theorem re_isTy {n : Bool} {T : String} (h : RunsE K w tq te ρ c) : RunsE K w tq (tOp (rIsU n) (tCB (rTyp K) (tCons te tNil)) (tC (.ty T))) ρ (c.bind (isTyD T n)) := fun Γ φ σ H Q d E hc k => by
  cases c with
  | none => cases hc
  | some x =>
    have hc : isTyD T n x = some d := hc
    unfold isTyD at hc
    split at hc
    · cases hc
    · rename_i z
      cases hc
      exact h Γ φ σ H _ x E rfl fun v H' ex r => ⟨v, tyD x, rfl, rp_ty r z, IsU.ty rfl rfl (k _ H' ex (.bl _))⟩
def strsD : List D → Option (List Str)
  | [] => some []
  | .str i :: r => (strsD r).map (i :: ·)
  | _ => none
theorem strs_rp {B : AS} {H : Hp} : ∀ {ds : List D} {xs : List V} {ns : List Str}, RpA K w B H xs ds → strsD ds = some ns → xs = ns.map V.str
  | [], _, _, .nil, h => by cases h; rfl
  | .str i :: r, _, ns, .cons h1 h2, h => by
    have h : (strsD r).map (i :: ·) = some ns := h
    cases e : strsD r with
    | none => rw [e] at h; cases h
    | some ms =>
      rw [e] at h
      cases h
      cases h1
      rw [strs_rp h2 e]; rfl
theorem strsD_map : ∀ ns : List Str, strsD (ns.map D.str) = some ns
  | [] => rfl
  | n :: r => by show (strsD (r.map D.str)).map (n :: ·) = _; rw [strsD_map r]; rfl
noncomputable def joinD (sep l : D) : Option D := match sep with
  | .str a => ((seqOf l).bind strsD).bind fun ys => gP ((ys.map (·.length)).sum + ys.length * a.length ≤ 16777216) (some (.str (Txt.join a ys)))
  | _ => none
theorem re_join (ha : RunsE K w tq ta ρ ca) (hb : RunsE K w tq tb ρ cb) : RunsE K w tq (tM1 (rJoin K) ta tb) ρ (ca.bind fun a => cb.bind fun b => joinD a b) := fun Γ φ σ H Q d E hc k => by
  cases ca with
  | none => cases hc
  | some a =>
    cases cb with
    | none => cases hc
    | some b =>
      have hc : joinD a b = some d := hc
      refine ha Γ φ σ H _ a E rfl fun x H1 e1 r1 => ?_
      cases r1 with
      | str s =>
        refine ⟨⟨_, rfl⟩, hb Γ φ σ H1 _ b (E.ex e1) rfl fun y H2 e2 r2 => ?_⟩
        have hc : ((seqOf b).bind strsD).bind (fun ys => gP ((ys.map (·.length)).sum + ys.length * s.length ≤ 16777216) (some (D.str (Txt.join s ys)))) = some d := hc
        cases hs : seqOf b with
        | none => rw [hs] at hc; cases hc
        | some ds =>
          rw [hs, Option.bind_some] at hc
          cases hi : strsD ds with
          | none => rw [hi] at hc; cases hc
          | some ys =>
            rw [hi, Option.bind_some] at hc
            obtain ⟨hl, e⟩ := gP_ok hc
            cases e
            obtain ⟨p, zs, rfl, g1, g2⟩ := seqOf_rp r2 hs
            have e := strs_rp g2 hi
            subst e
            exact ⟨s, p, ys, rfl, rfl, g1, hl, k _ H2 (e1.trans e2) (.str _)⟩
      | _ => cases hc
def splitD (x sep : D) : Option D := match x, sep with
  | .str a, .str b => if b.length = 0 ∨ ¬ a.length ≤ 1000000 then none else some (.lst ((Txt.split a b).map D.str))
  | _, _ => none
theorem re_split (ha : RunsE K w tq ta ρ ca) (hb : RunsE K w tq tb ρ cb) : RunsE K w tq (tM1 rSplit ta tb) ρ (ca.bind fun a => cb.bind fun b => splitD a b) := fun Γ φ σ H Q d E hc k => by
  cases ca with
  | none => cases hc
  | some a =>
    cases cb with
    | none => cases hc
    | some b =>
      have hc : splitD a b = some d := hc
      refine ha Γ φ σ H _ a E rfl fun x H1 e1 r1 => ?_
      cases r1 with
      | str s =>
        refine ⟨⟨_, rfl⟩, hb Γ φ σ H1 _ b (E.ex e1) rfl fun y H2 e2 r2 => ?_⟩
        cases r2 with
        | str t =>
          have hc : (if t.length = 0 ∨ ¬ s.length ≤ 1000000 then none else some (D.lst ((Txt.split s t).map D.str))) = some d := hc
          split at hc
          · cases hc
          · rename_i z
            cases hc
            have z1 : ¬ t.length = 0 := fun q => z (.inl q)
            have z2 : s.length ≤ 1000000 := Classical.byContradiction fun q => z (.inr q)
            refine ⟨s, t, rfl, rfl, by simpa using z1, by rw [sizeLine_eq]; omega, fun p hp => ?_⟩
            exact k _ _ ((e1.trans e2).trans (Xt.new hp)) (.lst upd_same (fun z => (E.ex (e1.trans e2)).alA p z hp) (RpA.strs))
        | _ => cases hc
      | _ => cases hc
noncomputable def reprD : List D → Option D := fn1 fun d => match d with
  | .int i => gP (i.natAbs.log2 < 1920) (some (.str (toString i)))
  | _ => none
theorem o_repr : OpL K w tq (rRepr K) reprD := fun B H xs as d Q hB r h k => by
  obtain ⟨a, rfl, h⟩ := fn1_ok h
  obtain ⟨x, rfl, r1⟩ := rpa1 r
  cases r1 with
  | int i =>
    obtain ⟨z, e⟩ := gP_ok h
    cases e
    exact ⟨i, rfl, z, k _ H (Xt.refl H) (.str _)⟩
  | _ => cases h
end
end M
end
section
set_option Elab.async false
set_option linter.all false
set_option maxRecDepth 100000
set_option maxHeartbeats 4000000
namespace M
open PySem PySem.Spec PyProof.Rows L2 U
open LamX (TabS)
def RunsI (K : PySem.W.Frag) (w : World) (tq : Tb) (ti : TI) (ρ : List Sl) (c : Option (List D)) : Prop :=
  ∀ (Γ : Ct) (φ : Foot) (σ : L2.St) (H : Hp) (R : It → Hp → Prop) (ds : List D), ER K w tq Γ φ σ H ρ → c = some ds →
    (∀ (J : It) (H1 : Hp) (G : Hp → Prop) (Y : Nat → Hp → V → Hp → Prop), Xt tq H H1 → ds.length < 1000000 → Walk J ds.length G Y → (∀ H', Stp tq (FtA ρ φ) H1 H' → G H') →
      (∀ (B' : AS) i H' x H'' d, Stp tq (FtA ρ φ) H1 H' → (∀ a, B' a → Av Γ ρ φ a ∨ H1 a = none) → ds[i]? = some d → Y i H' x H'' → Xt tq H' H'' ∧ Rp K w B' H'' x d) → R J H1) → ti σ H R
def itG (ds : List D) : Option (List D) := if ds.length < 1000000 then some ds else none
theorem itG_ok {ds es : List D} (h : itG ds = some es) : es = ds ∧ ds.length < 1000000 := by
  unfold itG at h
  split at h
  · cases h; exact ⟨rfl, by assumption⟩
  · cases h
def sgn (s : Str) : List D := s.cps.toList.map fun c => .str ⟨#[c]⟩
/-- what is walked -/
def itD : D → Option (List D)
  | .lst xs => itG xs
  | .scr xs => itG xs
  | .tup xs => itG xs
  | .str s => itG (sgn s)
  | _ => none
theorem Rp.mv {K : PySem.W.Frag} {w : World} {tq : Tb} {B B' O : AS} {H H' : Hp} {v : V} {d : D} (r : Rp K w B H v d) (s : Stp tq O H H') (i : ∀ a, O a → B a) (j : ∀ a, B' a → B a ∨ H a = none) : Rp K w B' H' v d :=
  ((r.anti (B' := fun a => B a ∨ B' a) fun a z => z.elim .inl (j a)).stp s fun a z => .inl (i a z)).anti fun a z => .inl (.inr z)
theorem RpA.mv {K : PySem.W.Frag} {w : World} {tq : Tb} {B B' O : AS} {H H' : Hp} {v : List V} {d : List D} (r : RpA K w B H v d) (s : Stp tq O H H') (i : ∀ a, O a → B a) (j : ∀ a, B' a → B a ∨ H a = none) : RpA K w B' H' v d :=
  ((r.anti (B' := fun a => B a ∨ B' a) fun a z => z.elim .inl (j a)).stp s fun a z => .inl (i a z)).anti fun a z => .inl (.inr z)
section
variable {K : PySem.W.Frag} {w : World} {tq : Tb} {ρ : List Sl} {te ta tb tc : TE} {c : Option D} {ca cb cc : Option D}
theorem ri_any (h : RunsE K w tq te ρ c) : RunsI K w tq (iAny K te) ρ (c.bind itD) := fun Γ φ σ H R ds E hc k => by
  cases c with
  | none => cases hc
  | some x =>
    have hc : itD x = some ds := hc
    have hO : ∀ a, FtA ρ φ a → Av Γ ρ φ a := fun a z => .inr z
    cases x with
    | lst xs =>
      obtain ⟨rfl, hl⟩ := itG_ok hc
      refine .inl (h Γ φ σ H _ _ E rfl fun v H1 e1 r1 => ?_)
      cases r1 with
      | @lst a vs _ h1 n1 r1 =>
        refine ⟨a, rfl, ⟨vs, .inl (.inl h1)⟩, k _ H1 (fun H => SqL K H a vs) (YAt vs) e1 hl (by rw [← r1.len]; exact walk_list) (fun H' s => .inl (.inl (s.lst (fun z => n1 (hO _ z)) h1))) ?_⟩
        rintro B' i H' y H'' d s hB hd ⟨rfl, hy⟩
        obtain ⟨v, g1, g2⟩ := r1.at hd
        rw [hy] at g1
        cases g1
        exact ⟨Xt.refl _, g2.mv s hO hB⟩
    | scr xs =>
      obtain ⟨rfl, hl⟩ := itG_ok hc
      refine .inl (h Γ φ σ H _ _ E rfl fun v H1 e1 r1 => ?_)
      cases r1 with
      | @scr a vs _ h1 r1 =>
        refine ⟨a, rfl, ⟨vs, h1.sq⟩, k _ H1 (fun H => SqL K H a vs) (YAt vs) e1 hl (by rw [← r1.len]; exact walk_list) (fun H' s => (s.frl h1).sq) ?_⟩
        rintro B' i H' y H'' d s hB hd ⟨rfl, hy⟩
        obtain ⟨v, g1, g2⟩ := r1.at hd
        rw [hy] at g1
        cases g1
        exact ⟨Xt.refl _, g2.mv s hO hB⟩
    | tup xs =>
      obtain ⟨rfl, hl⟩ := itG_ok hc
      refine .inr (.inl (h Γ φ σ H _ _ E rfl fun v H1 e1 r1 => ?_))
      cases r1 with
      | @tup a vs _ h1 r1 =>
        refine ⟨a, rfl, ⟨vs, h1.sq⟩, k _ H1 (fun H => SqT K H a vs) (YAt vs) e1 hl (by rw [← r1.len]; exact walk_tup) (fun H' s => s.sqT h1.sq) ?_⟩
        rintro B' i H' y H'' d s hB hd ⟨rfl, hy⟩
        obtain ⟨v, g1, g2⟩ := r1.at hd
        rw [hy] at g1
        cases g1
        exact ⟨Xt.refl _, g2.mv s hO hB⟩
    | str s =>
      obtain ⟨rfl, hl⟩ := itG_ok hc
      refine .inr (.inr (h Γ φ σ H _ _ E rfl fun v H1 e1 r1 => ?_))
      cases r1 with
      | str _ =>
        have hlen : (sgn s).length = s.cps.size := by unfold sgn; rw [List.length_map]; exact Array.length_toList
        refine ⟨s, rfl, k _ H1 (fun _ => True) _ e1 hl (by rw [hlen]; exact walk_str) (fun _ _ => trivial) ?_⟩
        rintro B' i H' y H'' d st hB hd ⟨rfl, c, hcc, rfl⟩
        have hd' : (s.cps.toList.map fun c => D.str ⟨#[c]⟩)[i]? = some d := hd
        rw [List.getElem?_map] at hd'
        have : s.cps.toList[i]? = some c := by rw [Array.getElem?_toList]; exact hcc
        rw [this] at hd'
        cases hd'
        exact ⟨Xt.refl _, .str _⟩
    | _ => cases hc
def rngD (lo : Int) (n : Nat) : List D := (List.range n).map fun i => .int (lo + (i : Nat))
theorem rngD_len {lo : Int} {n : Nat} : (rngD lo n).length = n := by unfold rngD; rw [List.length_map, List.length_range]
theorem rngD_at {lo : Int} {n i : Nat} {d : D} (h : (rngD lo n)[i]? = some d) : d = .int (lo + (i : Nat)) := by
  unfold rngD at h
  rw [List.getElem?_map] at h
  cases e : (List.range n)[i]? with
  | none => rw [e] at h; cases h
  | some j =>
    rw [e] at h
    cases h
    have hj := List.getElem?_eq_some_iff.mp e
    obtain ⟨z1, z2⟩ := hj
    rw [List.getElem_range] at z2
    rw [z2]
def rg1 : List D → Option (List D) := fn1 fun d => (isInt d).bind fun j => if j < 1000000 ∧ -1000000 < j then some (rngD 0 j.toNat) else none
def rg2 : List D → Option (List D) := fn2 fun d e => (isInt d).bind fun i => (isInt e).bind fun j => if -1000000 < i ∧ i < 1000000 ∧ -1000000 < j ∧ j < 1000000 ∧ j - i < 1000000 then some (rngD i (j - i).toNat) else none
theorem ri_rng1 {tr : TA} {cr : Option (List D)} (h : RunsA K w tq tr ρ cr) : RunsI K w tq (iRng1 tr) ρ (cr.bind rg1) := fun Γ φ σ H R ds E hc k => by
  cases cr with
  | none => cases hc
  | some as =>
    obtain ⟨a, ea, hf⟩ := fn1_ok hc
    subst ea
    clear hc
    have hc := hf
    clear hf
    cases hi : isInt a with
    | none => rw [hi] at hc; cases hc
    | some j =>
      rw [hi] at hc
      have hc : (if j < 1000000 ∧ -1000000 < j then some (rngD 0 j.toNat) else none) = some ds := hc
      split at hc
      · rename_i z
        cases hc
        refine h Γ φ σ H _ [a] E rfl fun xs H1 e1 r1 => ?_
        obtain ⟨x, rfl, r2⟩ := rpa1 r1
        obtain ⟨rfl, _⟩ := rp_int r2 hi
        refine ⟨j, rfl, by omega, by omega, k _ H1 (fun _ => True) _ e1 (by rw [rngD_len]; omega) (by rw [rngD_len]; exact walk_range) (fun _ _ => trivial) ?_⟩
        rintro B' i H' y H'' d st hB hd ⟨rfl, rfl⟩
        rw [rngD_at hd]
        exact ⟨Xt.refl _, .int _⟩
      · cases hc
theorem ri_rng2 {tr : TA} {cr : Option (List D)} (h : RunsA K w tq tr ρ cr) : RunsI K w tq (iRng2 tr) ρ (cr.bind rg2) := fun Γ φ σ H R ds E hc k => by
  cases cr with
  | none => cases hc
  | some as =>
    obtain ⟨a, b, ea, hf⟩ := fn2_ok hc
    subst ea
    clear hc
    have hc := hf
    clear hf
    cases hi : isInt a with
    | none => rw [hi] at hc; cases hc
    | some i =>
      cases hj : isInt b with
      | none => rw [hi, hj] at hc; cases hc
      | some j =>
        rw [hi, hj] at hc
        have hc : (if -1000000 < i ∧ i < 1000000 ∧ -1000000 < j ∧ j < 1000000 ∧ j - i < 1000000 then some (rngD i (j - i).toNat) else none) = some ds := hc
        split at hc
        · rename_i z
          cases hc
          refine h Γ φ σ H _ [a, b] E rfl fun xs H1 e1 r1 => ?_
          obtain ⟨x, y, rfl, r2, r3⟩ := rpa2 r1
          obtain ⟨rfl, _⟩ := rp_int r2 hi
          obtain ⟨rfl, _⟩ := rp_int r3 hj
          refine ⟨i, j, rfl, ⟨by omega, by omega, by omega, by omega⟩, k _ H1 (fun _ => True) _ e1 (by rw [rngD_len]; omega) (by rw [rngD_len]; exact walk_range) (fun _ _ => trivial) ?_⟩
          rintro B' i H' y H'' d st hB hd ⟨rfl, rfl⟩
          rw [rngD_at hd]
          exact ⟨Xt.refl _, .int _⟩
        · cases hc
def enD : Nat → List D → List D
  | _, [] => []
  | n, d :: ds => .pr [.int (n : Nat), d] :: enD (n + 1) ds
theorem enD_len : ∀ (n : Nat) (ds : List D), (enD n ds).length = ds.length
  | _, [] => rfl
  | n, _ :: ds => congrArg Nat.succ (enD_len (n + 1) ds)
theorem enD_at : ∀ {n : Nat} {ds : List D} {i : Nat}, (enD n ds)[i]? = ds[i]?.map fun d => .pr [.int ((n + i : Nat) : Int), d]
  | n, [], i => by simp [enD]
  | n, d :: ds, 0 => by simp [enD]
  | n, d :: ds, i + 1 => by
    show (enD (n + 1) ds)[i]? = _
    rw [enD_at]
    have : n + 1 + i = n + (i + 1) := by omega
    rw [this]; simp
def enumD : List D → Option (List D) := fn1 fun d => ((seqOf d).bind itG).map (enD 0)
theorem pair_rp {B : AS} {H' H'' : Hp} {T : Addr} {x y : V} {a b : D} (hT : H' T = none) (e : H'' = upd H' T (.tup [x, y])) (ra : Rp K w B H' x a) (rb : Rp K w B H' y b) : Xt tq H' H'' ∧ Rp K w B H'' (.ref T) (.pr [a, b]) := by
  subst e
  exact ⟨Xt.new hT, .pr (.inl (.inl upd_same)) (.cons (ra.nw hT) (.cons (rb.nw hT) .nil))⟩
theorem ri_enum {tr : TA} {cr : Option (List D)} (h : RunsA K w tq tr ρ cr) : RunsI K w tq (iEnumU K tr) ρ (cr.bind enumD) := fun Γ φ σ H R ds E hc k => by
  cases cr with
  | none => cases hc
  | some as =>
    obtain ⟨a, ea, hf⟩ := fn1_ok hc
    subst ea
    clear hc
    have hc := hf
    clear hf
    have hO : ∀ a, FtA ρ φ a → Av Γ ρ φ a := fun a z => .inr z
    cases hs : seqOf a with
    | none => rw [hs] at hc; cases hc
    | some es =>
      rw [hs, Option.bind_some] at hc
      cases hg : itG es with
      | none => rw [hg] at hc; cases hc
      | some es' =>
        rw [hg] at hc
        cases hc
        obtain ⟨rfl, hl⟩ := itG_ok hg
        have key : ∀ {H1 : Hp} {vs : List V}, RpA K w (Av Γ ρ φ) H1 vs es' → ∀ (B' : AS) (i : Nat) (H' : Hp) (x : V) (H'' : Hp) (d : D), Stp tq (FtA ρ φ) H1 H' → (∀ a, B' a → Av Γ ρ φ a ∨ H1 a = none) → (enD 0 es')[i]? = some d → YPair (fun i => some (.int (i : Nat))) (fun i => vs[i]?) i H' x H'' → Xt tq H' H'' ∧ Rp K w B' H'' x d := by
          rintro H1 vs r1 B' i H' x H'' d s hB hd ⟨T, y, z, rfl, hT, e, hy, hz⟩
          rw [enD_at] at hd
          cases hes : es'[i]? with
          | none => rw [hes] at hd; cases hd
          | some f =>
            rw [hes] at hd
            cases hd
            obtain ⟨v, g1, g2⟩ := r1.at hes
            have hz : vs[i]? = some z := hz
            rw [hz] at g1
            cases g1
            cases hy
            have q := pair_rp (tq := tq) hT e (Rp.int (i : Nat)) (g2.mv s hO hB)
            simpa using q
        cases a with
        | lst xs =>
          obtain rfl : xs = es' := Option.some.inj hs
          refine .inl (h Γ φ σ H _ _ E rfl fun vs H1 e1 r1 => ?_)
          obtain ⟨v, rfl, r2⟩ := rpa1 r1
          clear r1
          cases r2 with
          | @lst a vs _ h1 n1 r1 =>
            exact ⟨a, vs, rfl, .inl (.inl h1), k _ H1 (fun H => SqL K H a vs) _ e1 (by rw [enD_len]; exact hl) (by rw [enD_len, ← r1.len]; exact walk_enum) (fun H' s => .inl (.inl (s.lst (fun z => n1 (hO _ z)) h1))) (key r1)⟩
        | scr xs =>
          obtain rfl : xs = es' := Option.some.inj hs
          refine .inl (h Γ φ σ H _ _ E rfl fun vs H1 e1 r1 => ?_)
          obtain ⟨v, rfl, r2⟩ := rpa1 r1
          clear r1
          cases r2 with
          | @scr a vs _ h1 r1 =>
            exact ⟨a, vs, rfl, h1.sq, k _ H1 (fun H => SqL K H a vs) _ e1 (by rw [enD_len]; exact hl) (by rw [enD_len, ← r1.len]; exact walk_enum) (fun H' s => (s.frl h1).sq) (key r1)⟩
        | tup xs =>
          obtain rfl : xs = es' := Option.some.inj hs
          refine .inr (h Γ φ σ H _ _ E rfl fun vs H1 e1 r1 => ?_)
          obtain ⟨v, rfl, r2⟩ := rpa1 r1
          clear r1
          cases r2 with
          | @tup a vs _ h1 r1 =>
            exact ⟨a, vs, rfl, h1.sq, k _ H1 (fun H => SqT K H a vs) _ e1 (by rw [enD_len]; exact hl) (by rw [enD_len, ← r1.len]; exact walk_enumT) (fun H' s => s.sqT h1.sq) (key r1)⟩
        | _ => exact nomatch (show none = some es' from hs)
end
section
variable {K : PySem.W.Frag} {w : World} {tq : Tb} {Γ : Ct} {φ : Foot} {σ : L2.St} {H : Hp} {ρ : List Sl}
theorem getset_ne {α : Type} {l : List α} {i j : Nat} {a : α} (h : i ≠ j) : (l.set i a)[j]? = l[j]? := List.getElem?_set_ne h
/-- a slot takes a value -/
theorem ft_set {i : Nat} {d : D} {a : Addr} (h : FtA (ρ.set i (.va d)) φ a) : FtA ρ φ a := by
  obtain ⟨j, f, e, h1, h2⟩ := h
  by_cases z : i = j
  · subst z
    rw [List.getElem?_set] at h1
    split at h1
    · split at h1 <;> cases h1
    · exact ⟨i, f, e, h1, h2⟩
  · rw [getset_ne z] at h1
    exact ⟨j, f, e, h1, h2⟩
theorem ER.set {i : Nat} {v : V} {d : D} (E : ER K w tq Γ φ σ H ρ) (hf : free ρ i = true) (r : Rp K w (Av Γ ρ φ) H v d) : ER K w tq Γ φ (σ.set i (some v)) H (ρ.set i (.va d)) where
  len := by rw [List.length_set, List.length_set]; exact E.len
  al := E.al
  tbl := E.tbl
  va := fun j e h => by
    by_cases z : i = j
    · subst z
      rw [List.getElem?_set] at h
      split at h
      · split at h
        · rename_i hi
          cases h
          refine ⟨v, by rw [List.getElem?_set]; simp [E.len, hi], r.anti fun a z => .inl (z.imp id ft_set)⟩
        · cases h
      · rename_i hh; exact absurd rfl hh
    · rw [getset_ne z] at h ⊢
      obtain ⟨u, h1, h2⟩ := E.va j e h
      exact ⟨u, h1, h2.anti fun a z => .inl (z.imp id ft_set)⟩
  ow := fun j f e h => by
    by_cases z : i = j
    · subst z
      rw [List.getElem?_set] at h
      split at h
      · split at h <;> cases h
      · rename_i hh; exact absurd rfl hh
    · rw [getset_ne z] at h ⊢
      obtain ⟨p, h1, h2, h3⟩ := E.ow j f e h
      exact ⟨p, h1, h2.anti fun a z => .inl (z.imp id ft_set), h3⟩
  dis := fun j k f g d1 e a h1 h2 m1 m2 => by
    have q : ∀ {j : Nat} {f : Bool} {e : D}, (ρ.set i (.va d))[j]? = some (.ow f e) → ρ[j]? = some (.ow f e) := fun {j f e} h => by
      by_cases z : i = j
      · subst z
        rw [List.getElem?_set] at h
        split at h
        · split at h <;> cases h
        · exact h
      · rw [getset_ne z] at h; exact h
    exact E.dis j k _ _ _ _ a (q h1) (q h2) m1 m2
  stp := E.stp
theorem wipe_set {σ : L2.St} {i : Nat} {v : Option V} : ∀ {ix : List Nat}, i ∈ ix → wipe (σ.set i v) ix = wipe σ ix := by
  intro ix h
  apply List.ext_getElem?
  intro j
  have key : ∀ (τ : L2.St) (ix : List Nat) (j : Nat), (wipe τ ix)[j]? = if j ∈ ix then (if j < τ.length then some none else none) else τ[j]? := by
    intro τ ix
    induction ix with
    | nil => intro j; simp [wipe]
    | cons a r ih =>
      intro j
      show ((wipe τ r).set a none)[j]? = _
      by_cases z : a = j
      · subst z
        rw [List.getElem?_set]
        simp [wipe_length]
      · rw [getset_ne z, ih j]
        have : (j ∈ a :: r) = (j ∈ r) := by simp [Ne.symm z]
        simp only [this]
  rw [key, key, List.length_set]
  by_cases hj : j ∈ ix
  · rw [if_pos hj, if_pos hj]
  · rw [if_neg hj, if_neg hj, getset_ne (fun z => hj (by rw [← z]; exact h))]
theorem bnd_nm (i : Nat) : Bnd K w tq (gName i) (.nm i) := fun Γ φ σ H ρ v x ls Q E r hu hf k => by
  have hu : some [x] = some ls := by simpa [un] using hu
  cases hu
  refine k _ (E.set ?_ r) fun ix hix => wipe_set (hix i (by simp [Pt.slots]))
  simpa [freeL, Pt.slots] using hf
/-- several targets -/
def BndS (K : PySem.W.Frag) (w : World) (tq : Tb) (gs : TGs) (ps : List Pt) : Prop :=
  ∀ (Γ : Ct) (φ : Foot) (σ : L2.St) (H : Hp) (ρ : List Sl) (vs : List V) (xs ls : List D) (Q : L2.St → Hp → Prop), ER K w tq Γ φ σ H ρ → RpA K w (Av Γ ρ φ) H vs xs → uns ps xs = some ls → freeL (Pt.slotss ps) ρ = true →
    (∀ σ', ER K w tq Γ φ σ' H (setL (Pt.slotss ps) ls ρ) → (∀ ix, (∀ i ∈ Pt.slotss ps, i ∈ ix) → wipe σ' ix = wipe σ ix) → Q σ' H) → gs vs σ H Q
theorem bnds_nil : BndS K w tq gNil [] := fun Γ φ σ H ρ vs xs ls Q E r hu hf k => by
  cases xs with
  | nil =>
    cases r
    have hu : some [] = some ls := by simpa [uns] using hu
    cases hu
    exact ⟨rfl, k σ E fun _ _ => rfl⟩
  | cons x xs => simp [uns] at hu
mutual
theorem un_len : ∀ (p : Pt) {d : D} {ls : List D}, un p d = some ls → ls.length = p.slots.length
  | .nm i, d, ls, h => by
    have : some [d] = some ls := by simpa [un] using h
    cases this; rfl
  | .tp ps, .tup ds, ls, h => uns_len ps (by simpa [un] using h)
  | .tp ps, .pr ds, ls, h => uns_len ps (by simpa [un] using h)
  | .tp ps, .non, ls, h => by simp [un] at h
  | .tp ps, .bl _, ls, h => by simp [un] at h
  | .tp ps, .int _, ls, h => by simp [un] at h
  | .tp ps, .str _, ls, h => by simp [un] at h
  | .tp ps, .lst _, ls, h => by simp [un] at h
  | .tp ps, .dK _, ls, h => by simp [un] at h
  | .tp ps, .scr _, ls, h => by simp [un] at h
  | .tp ps, .dc _, ls, h => by simp [un] at h
theorem uns_len : ∀ (ps : List Pt) {ds ls : List D}, uns ps ds = some ls → ls.length = (Pt.slotss ps).length
  | [], [], ls, h => by
    have : some [] = some ls := by simpa [uns] using h
    cases this; rfl
  | [], _ :: _, ls, h => by simp [uns] at h
  | _ :: _, [], ls, h => by simp [uns] at h
  | p :: ps, d :: ds, ls, h => by
    have h : ((un p d).bind fun a => (uns ps ds).bind fun b => some (a ++ b)) = some ls := by simpa [uns] using h
    cases h1 : un p d with
    | none => rw [h1] at h; cases h
    | some a =>
      cases h2 : uns ps ds with
      | none => rw [h1, h2] at h; cases h
      | some b =>
        rw [h1, h2] at h
        cases h
        rw [List.length_append, un_len p h1, uns_len ps h2]
        show _ = (p.slots ++ Pt.slotss ps).length
        rw [List.length_append]
end
theorem setL_app : ∀ {is js : List Nat} {as bs : List D} {ρ : List Sl}, as.length = is.length → setL (is ++ js) (as ++ bs) ρ = setL js bs (setL is as ρ)
  | [], _, [], _, _, _ => rfl
  | i :: is, js, a :: as, bs, ρ, h => by
    show setL (is ++ js) (as ++ bs) (ρ.set i (.va a)) = setL js bs (setL is as (ρ.set i (.va a)))
    exact setL_app (by simpa using h)
  | [], _, _ :: _, _, _, h => by simp at h
  | _ :: _, _, [], _, _, h => by simp at h
theorem free_set_va {ρ : List Sl} {i j : Nat} {d : D} : free (ρ.set i (.va d)) j = free (ρ.set i .no) j := by
  unfold free
  by_cases z : i = j
  · subst z
    by_cases hl : i < ρ.length
    · simp [hl]
    · simp [hl]
  · rw [getset_ne z, getset_ne z]
theorem freeL_congr : ∀ {is : List Nat} {ρ ρ' : List Sl}, (∀ j, free ρ j = free ρ' j) → freeL is ρ = freeL is ρ'
  | [], _, _, _ => rfl
  | i :: is, ρ, ρ', h => by
    show (free ρ i && freeL is (ρ.set i .no)) = (free ρ' i && freeL is (ρ'.set i .no))
    by_cases z : free ρ i = true
    · rw [h i, freeL_congr (ρ := ρ.set i .no) (ρ' := ρ'.set i .no) fun j => ?_]
      by_cases y : i = j
      · subst y
        have z' : free ρ' i = true := by rw [← h i]; exact z
        have a1 : i < ρ.length := by
          unfold free at z
          cases e : ρ[i]? with
          | none => rw [e] at z; cases z
          | some _ => exact (List.getElem?_eq_some_iff.mp e).1
        have a2 : i < ρ'.length := by
          unfold free at z'
          cases e : ρ'[i]? with
          | none => rw [e] at z'; cases z'
          | some _ => exact (List.getElem?_eq_some_iff.mp e).1
        unfold free
        rw [List.getElem?_set, List.getElem?_set]
        simp [a1, a2]
      · have := h j
        unfold free at this ⊢
        rw [getset_ne y, getset_ne y]
        exact this
    · have z0 : free ρ i = false := by simpa using z
      have z1 : free ρ' i = false := by rw [← h i]; exact z0
      rw [z0, z1]; rfl
theorem freeL_app : ∀ {is js : List Nat} {as : List D} {ρ : List Sl}, as.length = is.length → freeL (is ++ js) ρ = true → freeL is ρ = true ∧ freeL js (setL is as ρ) = true
  | [], _, [], _, _, h => ⟨rfl, h⟩
  | i :: is, js, a :: as, ρ, hl, h => by
    have h2 : free ρ i = true ∧ freeL (is ++ js) (ρ.set i .no) = true := by simpa [freeL] using h
    have h3 : freeL (is ++ js) (ρ.set i (.va a)) = true := by rw [freeL_congr fun j => free_set_va]; exact h2.2
    obtain ⟨g1, g2⟩ := freeL_app (is := is) (js := js) (as := as) (by simpa using hl) h3
    refine ⟨?_, g2⟩
    have g1' : freeL is (ρ.set i .no) = true := by rw [← freeL_congr (ρ := ρ.set i (.va a)) fun j => free_set_va]; exact g1
    simp [freeL, h2.1, g1']
  | [], _, _ :: _, _, h, _ => by simp at h
  | _ :: _, _, [], _, h, _ => by simp at h
theorem bnds_cons {g : TG} {gs : TGs} {p : Pt} {ps : List Pt} (hg : Bnd K w tq g p) (hs : BndS K w tq gs ps) : BndS K w tq (gCons g gs) (p :: ps) := fun Γ φ σ H ρ vs xs ls Q E r hu hf k => by
  cases xs with
  | nil => simp [uns] at hu
  | cons x xs =>
    cases r with
    | cons r1 r2 =>
      have hu : ((un p x).bind fun a => (uns ps xs).bind fun b => some (a ++ b)) = some ls := by simpa [uns] using hu
      cases h1 : un p x with
      | none => rw [h1] at hu; cases hu
      | some a =>
        cases h2 : uns ps xs with
        | none => rw [h1, h2] at hu; cases hu
        | some b =>
          rw [h1, h2] at hu
          cases hu
          have hf : freeL (p.slots ++ Pt.slotss ps) ρ = true := hf
          obtain ⟨f1, f2⟩ := freeL_app (un_len p h1) hf
          refine ⟨_, _, rfl, hg Γ φ σ H ρ _ x a _ E r1 h1 f1 fun σ1 E1 w1 => ?_⟩
          have up : ∀ {is : List Nat} {as : List D} {ρ : List Sl} {a : Addr}, FtA (setL is as ρ) φ a → FtA ρ φ a := by
            intro is
            induction is with
            | nil => intro as ρ a h; simpa [setL] using h
            | cons i is ih =>
              intro as ρ a h
              cases as with
              | nil => simpa [setL] using h
              | cons e as => exact ft_set (ih (by simpa [setL] using h))
          have r3 : RpA K w (Av Γ (setL p.slots a ρ) φ) H _ xs := r2.anti fun z y => .inl (y.imp id up)
          refine hs Γ φ σ1 H _ _ xs b Q E1 r3 h2 f2 fun σ2 E2 w2 => k σ2 ?_ fun ix hix => ?_
          · rw [show Pt.slotss (p :: ps) = p.slots ++ Pt.slotss ps from rfl, setL_app (un_len p h1)]
            exact E2
          · have hix' : ∀ i ∈ p.slots ++ Pt.slotss ps, i ∈ ix := hix
            rw [w2 ix fun i hi => hix' i (List.mem_append_right _ hi), w1 ix fun i hi => hix' i (List.mem_append_left _ hi)]
theorem uns_args : ∀ {ps : List Pt} {ds ls : List D}, uns ps ds = some ls → ps.length = ds.length
  | [], [], _, _ => rfl
  | [], _ :: _, _, h => by simp [uns] at h
  | _ :: _, [], _, h => by simp [uns] at h
  | p :: ps, d :: ds, ls, h => by
    have h : ((un p d).bind fun a => (uns ps ds).bind fun b => some (a ++ b)) = some ls := by simpa [uns] using h
    cases h1 : un p d with
    | none => rw [h1] at h; cases h
    | some a =>
      cases h2 : uns ps ds with
      | none => rw [h1, h2] at h; cases h
      | some b => exact congrArg Nat.succ (uns_args h2)
theorem bnd_tp {gs : TGs} {ps : List Pt} {n : Nat} (hs : BndS K w tq gs ps) (hn : ps.length = n) : Bnd K w tq (gTup K n gs) (.tp ps) := fun Γ φ σ H ρ v x ls Q E r hu hf k => by
  cases x with
  | tup ds =>
    cases r with
    | @tup a vs _ h1 r1 =>
      have hu : uns ps ds = some ls := by simpa [un] using hu
      have hl : vs.length = n := by rw [r1.len, ← hn, uns_args hu]
      exact ⟨a, vs, rfl, h1.sq, hl, hs Γ φ σ H ρ vs ds ls Q E r1 hu hf k⟩
  | pr ds =>
    cases r with
    | @pr a vs _ h1 r1 =>
      have hu : uns ps ds = some ls := by simpa [un] using hu
      have hl : vs.length = n := by rw [r1.len, ← hn, uns_args hu]
      exact ⟨a, vs, rfl, h1, hl, hs Γ φ σ H ρ vs ds ls Q E r1 hu hf k⟩
  | _ => simp [un] at hu
end
end M
end
section
set_option Elab.async false
set_option linter.all false
set_option maxRecDepth 100000
set_option maxHeartbeats 4000000
namespace M
open PySem PySem.Spec PyProof.Rows L2 U
open LamX (TabS)
def wipeL (ρ : List Sl) : List Nat → List Sl
  | [] => ρ
  | v :: vs => (wipeL ρ vs).set v .no
section
variable {K : PySem.W.Frag} {w : World} {tq : Tb} {Γ : Ct} {φ φ' : Foot} {σ σ' : L2.St} {H H' H1 : Hp} {ρ ρ' : List Sl}
/-- a slot is forgotten, whatever it holds -/
theorem ER.no {i : Nat} {v : Option V} (E : ER K w tq Γ φ σ H ρ) : ER K w tq Γ φ (σ.set i v) H (ρ.set i .no) := by
  have back : ∀ {j : Nat} {b : Sl}, (ρ.set i .no)[j]? = some b → b ≠ .no → i ≠ j ∧ ρ[j]? = some b := fun {j b} h n => by
    by_cases z : i = j
    · subst z
      rw [List.getElem?_set] at h
      split at h
      · split at h
        · cases h; exact absurd rfl n
        · cases h
      · rename_i hh; exact absurd rfl hh
    · rw [getset_ne z] at h; exact ⟨z, h⟩
  have fts : ∀ {a : Addr}, FtA (ρ.set i .no) φ a → FtA ρ φ a := fun {a} h => by
    obtain ⟨j, f, d, h1, h2⟩ := h
    exact ⟨j, f, d, (back h1 (fun z => nomatch z)).2, h2⟩
  refine ⟨by rw [List.length_set, List.length_set]; exact E.len, E.al, E.tbl, fun j d h => ?_, fun j f d h => ?_, fun j k f g d e a h1 h2 => E.dis j k f g d e a (back h1 (fun z => nomatch z)).2 (back h2 (fun z => nomatch z)).2, E.stp⟩
  · obtain ⟨n, h⟩ := back h (fun z => nomatch z)
    obtain ⟨u, h1, h2⟩ := E.va j d h
    exact ⟨u, by rw [getset_ne n]; exact h1, h2.anti fun a z => .inl (z.imp id fts)⟩
  · obtain ⟨n, h⟩ := back h (fun z => nomatch z)
    obtain ⟨u, h1, h2, h3⟩ := E.ow j f d h
    exact ⟨u, by rw [getset_ne n]; exact h1, h2.anti fun a z => .inl (z.imp id fts), h3⟩
theorem ER.wipe (E : ER K w tq Γ φ σ H ρ) : ∀ ix : List Nat, ER K w tq Γ φ (L2.wipe σ ix) H (wipeL ρ ix)
  | [] => E
  | _ :: vs => (ER.wipe E vs).no
def Ct.add (Γ : Ct) (D : Addr) : Ct := { Γ with F := fun a => Γ.F a ∨ a = D }
/-- a new object that no one speaks of -/
theorem ER.addF {D : Addr} (E : ER K w tq Γ φ σ H1 ρ) (hD : H1 D = none) (e : Xt tq H1 H') (hn : H' D ≠ none) : ER K w tq (Γ.add D) φ σ H' ρ := by
  have up : ∀ a, Av (Γ.add D) ρ φ a → Av Γ ρ φ a ∨ H1 a = none := by
    rintro a ((h | h) | h)
    · exact .inl (.inl h)
    · exact .inr (by rw [h]; exact hD)
    · exact .inl (.inr h)
  refine ⟨E.len, ?_, E.tbl.xt e, fun j d h => ?_, fun j f d h => ?_, E.dis, E.stp.trans (Stp.ex e)⟩
  · rintro a (h | h)
    · exact fun z => E.al a h ((Stp.ex (O := fun _ => False) e).back a z)
    · rw [h]; exact hn
  · obtain ⟨v, h1, h2⟩ := E.va j d h
    exact ⟨v, h1, (h2.anti up).ex e⟩
  · obtain ⟨p, h1, h2, h3, h4⟩ := E.ow j f d h
    refine ⟨p, h1, (h2.anti up).ex e, fun a ha => ⟨?_, (h3 a ha).2⟩, h4⟩
    rintro (z | z)
    · exact (h3 a ha).1 z
    · exact h2.al ha (by rw [z]; exact hD)
end
theorem ft_wipe {ρ : List Sl} {φ : Foot} {a : Addr} : ∀ {ix : List Nat}, FtA (wipeL ρ ix) φ a → FtA ρ φ a := by
  intro ix ⟨j, f, d, h1, h2⟩
  refine ⟨j, f, d, ?_, h2⟩
  clear h2
  induction ix with
  | nil => exact h1
  | cons b r ih =>
    apply ih
    have h1 : ((wipeL ρ r).set b .no)[j]? = some (.ow f d) := h1
    rw [List.getElem?_set] at h1
    split at h1
    · split at h1 <;> cases h1
    · exact h1
def noOw (ρ : List Sl) (ix : List Nat) : Bool := ix.all fun i => match ρ[i]? with
  | some (.ow _ _) => false
  | _ => true
theorem ow_wipe {ρ : List Sl} {j : Nat} {f : Bool} {d : D} (h : ρ[j]? = some (.ow f d)) : ∀ {ix : List Nat}, j ∉ ix → (wipeL ρ ix)[j]? = some (.ow f d)
  | [], _ => h
  | a :: r, n => by
    show ((wipeL ρ r).set a .no)[j]? = _
    rw [getset_ne (fun z => n (by rw [z]; exact List.mem_cons_self ..))]
    exact ow_wipe h fun z => n (List.mem_cons_of_mem _ z)
theorem ow_setL {ρ : List Sl} {j : Nat} {f : Bool} {d : D} (h : ρ[j]? = some (.ow f d)) : ∀ {is : List Nat} {ls : List D}, j ∉ is → (setL is ls ρ)[j]? = some (.ow f d) := by
  intro is
  induction is generalizing ρ with
  | nil => intro ls _; simpa [setL] using h
  | cons a r ih =>
    intro ls n
    cases ls with
    | nil => simpa [setL] using h
    | cons b bs =>
      show (setL r bs (ρ.set a (.va b)))[j]? = _
      refine ih ?_ fun z => n (List.mem_cons_of_mem _ z)
      rw [getset_ne (fun z => n (by rw [z]; exact List.mem_cons_self ..))]
      exact h
theorem ft_inner {ρ : List Sl} {φ : Foot} {a : Addr} {is ix : List Nat} {ls : List D} (hn : noOw ρ ix = true) (hx : ∀ i ∈ is, i ∈ ix) (h : FtA ρ φ a) : FtA (setL is ls (wipeL ρ ix)) φ a := by
  obtain ⟨j, f, d, h1, h2⟩ := h
  have hj : j ∉ ix := fun z => by
    have := List.all_eq_true.mp hn j z
    rw [h1] at this
    cases this
  exact ⟨j, f, d, ow_setL (ow_wipe h1 hj) fun z => hj (hx j z), h2⟩
def compM (f : D → Option (Option D)) : List D → Option (List D)
  | [] => some []
  | x :: xs => (f x).bind fun o => (compM f xs).bind fun r => some (o.toList ++ r)
def compB (p : Pt) (ct : List D → Option Bool) (ce : List D → Option D) (x : D) : Option (Option D) :=
  (un p x).bind fun ls => (ct ls).bind fun b => if b = true then (ce ls).map some else some none
theorem compM_len {f : D → Option (Option D)} : ∀ {xs ys : List D}, compM f xs = some ys → ys.length ≤ xs.length
  | [], ys, h => by cases h; exact Nat.le_refl _
  | x :: xs, ys, h => by
    have h : ((f x).bind fun o => (compM f xs).bind fun r => some (o.toList ++ r)) = some ys := h
    cases h1 : f x with
    | none => rw [h1] at h; cases h
    | some o =>
      cases h2 : compM f xs with
      | none => rw [h1, h2] at h; cases h
      | some r =>
        rw [h1, h2] at h
        cases h
        have := compM_len h2
        cases o <;> simp <;> omega
section
variable {K : PySem.W.Frag} {w : World} {tq : Tb} {ρ : List Sl} {ti : TI} {te : TE} {tt : TT} {g : TG} {p : Pt} {ci : Option (List D)} {ct : List D → Option Bool} {ce : List D → Option D} {ix : List Nat}
theorem rn_lc (hi : RunsI K w tq ti ρ ci) (hg : Bnd K w tq g p) (hf : freeL p.slots (wipeL ρ ix) = true) (hx : ∀ i ∈ p.slots, i ∈ ix) (hn : noOw ρ ix = true) (ht : ∀ ls, RunsT K w tq tt (setL p.slots ls (wipeL ρ ix)) (ct ls)) (he : ∀ ls, RunsE K w tq te (setL p.slots ls (wipeL ρ ix)) (ce ls)) :
    RunsN K w tq (tLc ti g tt te ix) ρ ((ci.bind fun xs => compM (compB p ct ce) xs).map D.lst) := fun Γ φ σ H Q d E hc k => by
  cases ci with
  | none => cases hc
  | some xs =>
    cases hm : compM (compB p ct ce) xs with
    | none => rw [Option.bind_some, hm] at hc; cases hc
    | some ys =>
      rw [Option.bind_some, hm] at hc
      cases hc
      refine x_lc (hi Γ φ σ H _ xs E rfl fun J H1 G Y e1 hl wk hG hY D hD => ?_)
      have E1 := E.ex e1
      have hs : (1000000 : Nat) < sizeLine := by rw [sizeLine_eq]; decide
      refine lc_it wk (Qd := Q (.ref D)) (fun i H' => Xt tq H1 H' ∧ ∃ acc out rest, H' D = some (.lst acc) ∧ RpA K w (fun a => Av Γ ρ φ a ∨ a = D) H' acc out ∧ out.length ≤ i ∧ compM (compB p ct ce) (xs.drop i) = some rest ∧ ys = out ++ rest)
        ⟨Xt.new hD, [], [], ys, upd_same, .nil, Nat.le_refl _, hm, rfl⟩ (fun i H' _ z => hG H' (Stp.ex z.1)) ?_ ?_
      · rintro i x H2 H3 hin ⟨e2, acc, out, rest, hacc, hra, hlen, hrest, hys⟩ hy
        have hxi : xs[i]? = some xs[i] := List.getElem?_eq_getElem hin
        obtain ⟨e3, hrx⟩ := hY (fun a => Av (Γ.add D) (wipeL ρ ix) φ a) i H2 x H3 xs[i] (Stp.ex e2) (by
          rintro a ((z | z) | z)
          · exact .inl (.inl z)
          · exact .inr (by rw [z]; exact hD)
          · exact .inl (.inr (ft_wipe z))) hxi hy
        have hacc3 : H3 D = some (.lst acc) := e3.lst hacc
        have E3 : ER K w tq (Γ.add D) φ (L2.wipe σ ix) H3 (wipeL ρ ix) := (E1.addF hD (e2.trans e3) (by rw [hacc3]; exact fun z => nomatch z)).wipe ix
        rw [List.drop_eq_getElem_cons hin] at hrest
        have hrest : ((compB p ct ce xs[i]).bind fun o => (compM (compB p ct ce) (xs.drop (i + 1))).bind fun r => some (o.toList ++ r)) = some rest := hrest
        cases hb : compB p ct ce xs[i] with
        | none => rw [hb] at hrest; cases hrest
        | some o =>
          cases hr : compM (compB p ct ce) (xs.drop (i + 1)) with
          | none => rw [hb, hr] at hrest; cases hrest
          | some r =>
            rw [hb, hr] at hrest
            have hrest : o.toList ++ r = rest := Option.some.inj hrest
            subst hrest
            have hb : ((un p xs[i]).bind fun ls => (ct ls).bind fun b => if b = true then (ce ls).map some else some none) = some o := hb
            cases hu : un p xs[i] with
            | none => rw [hu] at hb; cases hb
            | some ls =>
              rw [hu] at hb
              have hb : ((ct ls).bind fun b => if b = true then (ce ls).map some else some none) = some o := hb
              cases hct : ct ls with
              | none => rw [hct] at hb; cases hb
              | some b =>
                rw [hct] at hb
                have hb : (if b = true then (ce ls).map some else some none) = some o := hb
                refine hg _ φ _ H3 _ x xs[i] ls _ E3 hrx hu hf fun σ2 E4 w4 => ⟨?_, ?_⟩
                · rw [w4 ix hx]
                  apply List.ext_getElem?
                  intro j
                  have key : ∀ (τ : L2.St) (ix : List Nat) (j : Nat), (L2.wipe τ ix)[j]? = if j ∈ ix then (if j < τ.length then some none else none) else τ[j]? := by
                    intro τ ix
                    induction ix with
                    | nil => intro j; simp [L2.wipe]
                    | cons a r ih =>
                      intro j
                      show ((L2.wipe τ r).set a none)[j]? = _
                      by_cases z : a = j
                      · subst z
                        rw [List.getElem?_set]
                        simp [wipe_length]
                      · rw [getset_ne z, ih j]
                        have : (j ∈ a :: r) = (j ∈ r) := by simp [Ne.symm z]
                        simp only [this]
                  rw [key, wipe_length, key]
                  by_cases hj : j ∈ ix <;> simp [hj]
                · refine ht ls _ φ σ2 H3 _ b E4 hct fun H4 e4 => ?_
                  cases b with
                  | false =>
                    rw [if_neg (by decide)] at hb
                    have ho : o = none := (Option.some.inj hb).symm
                    subst ho
                    rw [if_neg (by decide)]
                    exact ⟨(e2.trans e3).trans e4, acc, out, r, e4.lst hacc3, (hra.ex e3).ex e4, by omega, rfl, hys⟩
                  | true =>
                    rw [if_pos rfl] at hb
                    rw [if_pos rfl]
                    cases hce : ce ls with
                    | none => rw [hce] at hb; cases hb
                    | some y =>
                      rw [hce] at hb
                      have ho : o = some y := (Option.some.inj hb).symm
                      subst ho
                      refine he ls _ φ σ2 H4 _ y (E4.ex e4) hce fun v H5 e5 r5 => ?_
                      have e45 := (e3.trans e4).trans e5
                      refine ⟨acc, e5.lst (e4.lst hacc3), by rw [(hra).len]; omega, Xt.mut (e2.trans e45) hD (e5.lst (e4.lst hacc3)) (.lst _), acc ++ [v], out ++ [y], r, upd_same, ?_, by simp; omega, rfl, ?_⟩
                      · have rv : Rp K w (fun a => Av Γ ρ φ a ∨ a = D) H5 v y := r5.anti fun a z => by
                          rcases z with (z | z) | z
                          · exact .inl (.inl (.inl z))
                          · exact .inl (.inr (ft_inner hn hx z))
                          · exact .inl (.inl (.inr z))
                        exact ((hra.ex e45).snoc rv).stp (O := fun a => a = D) (Stp.chgL (tq := tq) rfl (e5.lst (e4.lst hacc3)) (.lst _)) fun a z => .inr z
                      · rw [hys]; simp
      · rintro H2 ⟨e2, acc, out, rest, hacc, hra, hlen, hrest, hys⟩
        rw [List.drop_length] at hrest
        have hrest : ([] : List M.D) = rest := Option.some.inj hrest
        subst hrest
        rw [List.append_nil] at hys
        subst hys
        refine k D H2 (e1.trans e2) ⟨[D], fun a ha => by rw [List.mem_singleton.mp ha]; exact (Stp.ex (O := fun _ => False) e1).back D hD, .lst hacc (hra.anti fun a z => .inl (z.imp id List.mem_singleton.mp))⟩
end
end M
end
section
set_option Elab.async false
set_option linter.all false
set_option maxRecDepth 100000
set_option maxHeartbeats 4000000
namespace M
open PySem PySem.Spec PyProof.Rows L2 U
open LamX (TabS)
section
variable {K : PySem.W.Frag} {w : World} {tq : Tb} {io md : Bool} {ρ ρ' : List Sl} {te ta tb : TE} {ts us : TS} {N L A : Type} {eN : N → List Sl} {eL : L → List Sl} {eM : A → List Sl} {c : Option D}
def Fl.thn {A N L : Type} (k : A → Option (Fl N L)) : Fl A L → Option (Fl N L)
  | .nx a => k a
  | .rt d e => some (.rt d e)
  | .bk l => some (.bk l)
  | .ct l => some (.ct l)
theorem rs_sub {cs : Option (Fl N L)} (s : Sub ρ ρ') (h : RunsS K w tq io md ts ρ' eN eL cs) : RunsS K w tq io md ts ρ eN eL cs := fun Γ φ σ H Dn fl E hc k => h Γ φ σ H Dn fl (E.sub s) hc k
theorem rs_next {n : N} (s : Sub ρ (eN n)) : RunsS K w tq io md tNext ρ eN eL (some (.nx n)) := fun Γ φ σ H Dn fl E hc k => by
  cases hc
  exact k φ σ H (E.sub s)
theorem rs_brk {l : L} (s : Sub ρ (eL l)) : RunsS K w tq io md tBreak ρ eN eL (some (.bk l)) := fun Γ φ σ H Dn fl E hc k => by
  cases hc
  exact k φ σ H (E.sub s)
theorem rs_cont {l : L} (s : Sub ρ (eL l)) : RunsS K w tq io md tCont ρ eN eL (some (.ct l)) := fun Γ φ σ H Dn fl E hc k => by
  cases hc
  exact k φ σ H (E.sub s)
theorem rs_last {cs : Option (Fl N L)} (h : RunsS K w tq io md (tSeq ts tNext) ρ eN eL cs) : RunsS K w tq io md ts ρ eN eL cs := h
theorem rs_ass {vs : TS} {cs : Option (Fl N L)} (h : RunsS K w tq io md (tSeq ts (tSeq us vs)) ρ eN eL cs) : RunsS K w tq io md (tSeq (tSeq ts us) vs) ρ eN eL cs := h
theorem rs_seq {ca : Option (Fl A L)} {k : A → Option (Fl N L)} (h : RunsS K w tq io md ts ρ eM eL ca) (g : ∀ a, RunsS K w tq io md us (eM a) eN eL (k a)) :
    RunsS K w tq io md (tSeq ts us) ρ eN eL (ca.bind (Fl.thn k)) := fun Γ φ σ H Dn fl E hc kk => by
  cases ca with
  | none => cases hc
  | some fa =>
    refine h Γ φ σ H _ fa E rfl ?_
    cases fa with
    | nx a => exact fun φ' σ' H' E' => g a Γ φ' σ' H' Dn fl E' hc kk
    | rt d e => cases hc; exact kk
    | bk l => cases hc; exact kk
    | ct l => cases hc; exact kk
theorem rs_asg {g : TG} {p : Pt} {k : List D → Option (Fl N L)} (he : RunsE K w tq te ρ c) (hg : Bnd K w tq g p) (hf : freeL p.slots ρ = true) (hk : ∀ ls, RunsS K w tq io md us (setL p.slots ls ρ) eN eL (k ls)) :
    RunsS K w tq io md (tSeq (tAsg te g) us) ρ eN eL (c.bind fun x => (un p x).bind k) := fun Γ φ σ H Dn fl E hc kk => by
  cases c with
  | none => cases hc
  | some x =>
    have hc : (un p x).bind k = some fl := hc
    cases hu : un p x with
    | none => rw [hu] at hc; cases hc
    | some ls =>
      rw [hu] at hc
      refine he Γ φ σ H _ x E rfl fun v H1 e1 r1 => ?_
      exact hg Γ φ σ H1 ρ v x ls _ (E.ex e1) r1 hu hf fun σ' E' _ => hk ls Γ φ σ' H1 Dn fl E' hc kk
theorem rs_asg1 {i : Nat} {k : D → Option (Fl N L)} (he : RunsE K w tq te ρ c) (hf : free ρ i = true) (hk : ∀ x, RunsS K w tq io md us (ρ.set i (.va x)) eN eL (k x)) :
    RunsS K w tq io md (tSeq (tAsg te (gName i)) us) ρ eN eL (c.bind k) := fun Γ φ σ H Dn fl E hc kk => by
  cases c with
  | none => cases hc
  | some x =>
    refine he Γ φ σ H _ x E rfl fun v H1 e1 r1 => ?_
    exact hk x Γ φ _ H1 Dn fl ((E.ex e1).set hf r1) hc kk
theorem rs_asgX {T : Type} {e : T → List Sl} {g : TG} {p : Pt} {cx : Option (D × T)} {k : List D → T → Option (Fl N L)} (he : RunsX K w tq te ρ e cx) (hg : Bnd K w tq g p) (hf : ∀ t, freeL p.slots (e t) = true) (hk : ∀ ls t, RunsS K w tq io md us (setL p.slots ls (e t)) eN eL (k ls t)) :
    RunsS K w tq io md (tSeq (tAsg te g) us) ρ eN eL (cx.bind fun z => (un p z.1).bind fun ls => k ls z.2) := fun Γ φ σ H Dn fl E hc kk => by
  cases cx with
  | none => cases hc
  | some z =>
    obtain ⟨x, t⟩ := z
    have hc : ((un p x).bind fun ls => k ls t) = some fl := hc
    cases hu : un p x with
    | none => rw [hu] at hc; cases hc
    | some ls =>
      rw [hu] at hc
      refine he Γ φ σ H _ x t E rfl fun v H1 φ1 A1 r1 => ?_
      exact hg Γ φ1 σ H1 (e t) v x ls _ A1.er r1 hu (hf t) fun σ' E' _ => hk ls t Γ φ1 σ' H1 Dn fl E' hc kk
theorem rs_asgX1 {T : Type} {e : T → List Sl} {i : Nat} {cx : Option (D × T)} {k : D → T → Option (Fl N L)} (he : RunsX K w tq te ρ e cx) (hf : ∀ t, free (e t) i = true) (hk : ∀ x t, RunsS K w tq io md us ((e t).set i (.va x)) eN eL (k x t)) :
    RunsS K w tq io md (tSeq (tAsg te (gName i)) us) ρ eN eL (cx.bind fun z => k z.1 z.2) := fun Γ φ σ H Dn fl E hc kk => by
  cases cx with
  | none => cases hc
  | some z =>
    obtain ⟨x, t⟩ := z
    refine he Γ φ σ H _ x t E rfl fun v H1 φ1 A1 r1 => ?_
    exact hk x t Γ φ1 _ H1 Dn fl (A1.er.set (hf t) r1) hc kk
theorem rs_dropX {T : Type} {e : T → List Sl} {cx : Option (D × T)} {k : T → Option (Fl N L)} (he : RunsX K w tq te ρ e cx) (hk : ∀ t, RunsS K w tq io md us (e t) eN eL (k t)) :
    RunsS K w tq io md (tSeq (tDrop te) us) ρ eN eL (cx.bind fun z => k z.2) := fun Γ φ σ H Dn fl E hc kk => by
  cases cx with
  | none => cases hc
  | some z =>
    obtain ⟨x, t⟩ := z
    exact he Γ φ σ H _ x t E rfl fun v H1 φ1 A1 r1 => hk t Γ φ1 σ H1 Dn fl A1.er hc kk
theorem ft_eq {ρ : List Sl} {φ φ' : Foot} {i : Nat} {f : Bool} {d : D} {S : List Addr} (hi : i < ρ.length) (hφ : φ' i = S) (ho : ∀ j, j ≠ i → φ' j = φ j) {a : Addr} (h : FtA (ρ.set i (.ow f d)) φ' a) : a ∈ S ∨ ∃ j g e, j ≠ i ∧ ρ[j]? = some (.ow g e) ∧ a ∈ φ j := by
  obtain ⟨j, g, e, h1, h2⟩ := h
  by_cases z : j = i
  · subst z; rw [hφ] at h2; exact .inl h2
  · rw [getset_ne (Ne.symm z)] at h1
    rw [ho j z] at h2
    exact .inr ⟨j, g, e, z, h1, h2⟩
/-- a slot takes an object that is its own -/
theorem ER.own {Γ : Ct} {φ : Foot} {σ : L2.St} {H H' : Hp} {i : Nat} {p : Addr} {d : D} (E : ER K w tq Γ φ σ H ρ) (hf : free ρ i = true) (e : Xt tq H H') (n : NewR K w (Av Γ ρ φ) H H' p d) :
    ∃ φ', ER K w tq Γ φ' (σ.set i (some (.ref p))) H' (ρ.set i (.ow false d)) := by
  obtain ⟨S, hS, ho⟩ := n
  have hi : i < ρ.length := by
    unfold free at hf
    cases z : ρ[i]? with
    | none => rw [z] at hf; cases hf
    | some _ => exact (List.getElem?_eq_some_iff.mp z).1
  refine ⟨fun j => if j = i then S else φ j, ?_⟩
  have hφ : (fun j => if j = i then S else φ j) i = S := if_pos rfl
  have hφ' : ∀ j, j ≠ i → (fun j => if j = i then S else φ j) j = φ j := fun j z => if_neg z
  generalize (fun j => if j = i then S else φ j) = φ' at hφ hφ'
  have av : ∀ a, Av Γ (ρ.set i (.ow false d)) φ' a → Av Γ ρ φ a ∨ a ∈ S := by
    rintro a (z | z)
    · exact .inl (.inl z)
    · rcases ft_eq hi hφ hφ' z with z | ⟨j, g, e, _, h1, h2⟩
      · exact .inr z
      · exact .inl (.inr ⟨j, g, e, h1, h2⟩)
  have E' := E.ex e
  have old : ∀ {j : Nat} {g : Bool} {e : D} {a : Addr}, ρ[j]? = some (.ow g e) → a ∈ φ j → a ∉ S := fun {j g e a} h1 h2 h3 => by
    obtain ⟨q, _, o, _⟩ := E.ow j g e h1
    exact o.al h2 (hS a h3)
  refine ⟨by rw [List.length_set, List.length_set]; exact E.len, E'.al, E'.tbl, fun j x h => ?_, fun j g x h => ?_, fun j k g g2 x y a h1 h2 m1 m2 => ?_, E'.stp⟩
  · by_cases z : i = j
    · subst z
      rw [List.getElem?_set, if_pos rfl, if_pos hi] at h
      cases h
    · rw [getset_ne z] at h ⊢
      obtain ⟨v, h1, h2⟩ := E.va j x h
      exact ⟨v, h1, (h2.anti fun a z => (av a z).imp id (hS a)).ex e⟩
  · by_cases z : i = j
    · subst z
      rw [List.getElem?_set] at h
      rw [if_pos rfl, if_pos hi] at h
      cases h
      refine ⟨p, by rw [List.getElem?_set]; simp [E.len, hi], ?_, fun a ha => ?_, fun z => nomatch z⟩
      · rw [hφ]; exact ho.anti fun a z => .inl (av a z)
      · rw [hφ] at ha
        refine ⟨fun z => E.al a z (hS a ha), .inr (E.stp.back a (hS a ha))⟩
    · rw [getset_ne z] at h ⊢
      obtain ⟨q, h1, h2, h3⟩ := E.ow j g x h
      rw [hφ' j (Ne.symm z)]
      exact ⟨q, h1, (h2.anti fun a z => (av a z).imp id (hS a)).ex e, h3⟩
  · by_cases z1 : i = j
    · by_cases z2 : i = k
      · exact z1.symm.trans z2
      · subst z1
        rw [hφ] at m1
        rw [getset_ne z2] at h2
        rw [hφ' k (Ne.symm z2)] at m2
        exact absurd m1 (old h2 m2)
    · rw [getset_ne z1] at h1
      rw [hφ' j (Ne.symm z1)] at m1
      by_cases z2 : i = k
      · subst z2
        rw [hφ] at m2
        exact absurd m2 (old h1 m1)
      · rw [getset_ne z2] at h2
        rw [hφ' k (Ne.symm z2)] at m2
        exact E.dis j k _ _ _ _ a h1 h2 m1 m2
theorem rs_asgN {i : Nat} {k : D → Option (Fl N L)} (he : RunsN K w tq te ρ c) (hf : free ρ i = true) (hk : ∀ x, RunsS K w tq io md us (ρ.set i (.ow false x)) eN eL (k x)) :
    RunsS K w tq io md (tSeq (tAsg te (gName i)) us) ρ eN eL (c.bind k) := fun Γ φ σ H Dn fl E hc kk => by
  cases c with
  | none => cases hc
  | some x =>
    refine he Γ φ σ H _ x E rfl fun p H1 e1 n => ?_
    obtain ⟨φ', E'⟩ := E.own hf e1 n
    exact hk x Γ φ' _ H1 Dn fl E' hc kk
/-- what is owned at slot i changes: from the heap H to H' where all but its footprint stays -/
theorem Af.mut {Γ : Ct} {φ : Foot} {σ : L2.St} {H H' : Hp} {i : Nat} {p : Addr} {f : Bool} {d d' : D} (E : ER K w tq Γ φ σ H ρ) (hi : ρ[i]? = some (.ow f d)) (hp : σ[i]? = some (some (.ref p))) (st : Stp tq (fun a => a ∈ φ i) H H') (ho : OwR K w (Av Γ ρ φ) H' p d' (φ i)) :
    Af K w tq Γ φ σ H ρ φ H' (ρ.set i (.ow f d')) := by
  have hl := (List.getElem?_eq_some_iff.mp hi).1
  have fts : ∀ a, FtA (ρ.set i (.ow f d')) φ a → FtA ρ φ a := fun a z => by
    rcases ft_eq hl rfl (fun _ _ => rfl) z with z | ⟨j, g, e, _, h1, h2⟩
    · exact ⟨i, f, d, hi, z⟩
    · exact ⟨j, g, e, h1, h2⟩
  have up : ∀ a, a ∈ φ i → FtA ρ φ a := fun a ha => ⟨i, f, d, hi, ha⟩
  refine ⟨?_, st.mono up, fun a h => .inl (fts a h)⟩
  obtain ⟨p', hp', _, hA, hB⟩ := E.ow i f d hi
  rw [hp] at hp'
  cases hp'
  refine ⟨by rw [List.length_set]; exact E.len, fun a h z => E.al a h (st.back a z), st.tab E.tbl, fun j x h => ?_, fun j g x h => ?_, fun j k g g2 x y a h1 h2 m1 m2 => ?_, E.stp.trans' st fun a ha => (hA a ha).2⟩
  · by_cases z : i = j
    · subst z
      rw [List.getElem?_set, if_pos rfl, if_pos hl] at h
      cases h
    · rw [getset_ne z] at h
      obtain ⟨v, h1, h2⟩ := E.va j x h
      exact ⟨v, h1, h2.mv st (fun a ha => .inr (up a ha)) fun a ha => .inl (ha.imp id (fts a))⟩
  · by_cases z : i = j
    · subst z
      rw [List.getElem?_set, if_pos rfl, if_pos hl] at h
      cases h
      exact ⟨p, hp, ho.anti fun a z => .inl (z.imp id (fts a)), hA, hB⟩
    · rw [getset_ne z] at h
      obtain ⟨q, h1, h2, h3⟩ := E.ow j g x h
      refine ⟨q, h1, (h2.stp st (fun a ha => .inr (up a ha)) fun a ha hb => ?_).anti fun a z => .inl (z.imp id (fts a)), h3⟩
      exact z (E.dis i j _ _ _ _ a hi h hb ha)
  · have q : ∀ {j : Nat} {g : Bool} {x : D}, (ρ.set i (.ow f d'))[j]? = some (.ow g x) → ∃ y, ρ[j]? = some (.ow g y) := fun {j g x} h => by
      by_cases z : i = j
      · subst z
        rw [List.getElem?_set, if_pos rfl, if_pos hl] at h
        cases h
        exact ⟨d, hi⟩
      · rw [getset_ne z] at h; exact ⟨x, h⟩
    obtain ⟨y1, q1⟩ := q h1
    obtain ⟨y2, q2⟩ := q h2
    exact E.dis j k _ _ _ _ a q1 q2 m1 m2
def appD : D → D → Option D
  | .lst xs, x => if xs.length < 1000000 then some (.lst (xs ++ [x])) else none
  | _, _ => none
/-- x.append(e), x a slot that owns its list -/
theorem rx_app {i : Nat} {f : Bool} {d : D} (hi : ρ[i]? = some (.ow f d)) (he : RunsE K w tq te ρ c) :
    RunsX K w tq (tBM K "list" rAppend (tVar i) (tCons te tNil)) ρ (fun t => ρ.set i (.ow f t)) (c.bind fun x => (appD d x).map fun t => (.non, t)) := fun Γ φ σ H Q r t E hc k => by
  cases c with
  | none => cases hc
  | some x =>
    have hc : (appD d x).map (fun t => (D.non, t)) = some (r, t) := hc
    obtain ⟨p, h1, h2, h3, h4⟩ := E.ow i f d hi
    generalize hs : φ i = S at h2
    cases h2 with
    | @lst xs ds hl ra =>
      have hc : (if ds.length < 1000000 then some (D.lst (ds ++ [x])) else none).map (fun t => (D.non, t)) = some (r, t) := hc
      split at hc
      · rename_i hz
        cases hc
        refine ⟨.ref p, h1, .inl ⟨rfl, xs, .inl (.inl hl)⟩, ?_⟩
        refine he Γ φ σ H _ x E rfl fun v H1 e1 r1 => ?_
        refine ⟨p, xs, v, rfl, rfl, e1.lst hl, by rw [ra.len, sizeLine_eq]; omega, ?_⟩
        have hO : ∀ a, a = p → Av Γ ρ φ a := fun a z => .inr ⟨i, f, _, hi, by rw [hs, z]; exact List.mem_singleton.mpr rfl⟩
        have st : Stp tq (fun a => a = p) H1 (upd H1 p (.lst (xs ++ [v]))) := Stp.chgL rfl (e1.lst hl) (.lst _)
        have A1 := Af.ex E e1
        have A2 : Af K w tq Γ φ σ H1 ρ φ (upd H1 p (.lst (xs ++ [v]))) (ρ.set i (.ow f (.lst (ds ++ [x])))) := by
          refine Af.mut A1.er hi h1 (by rw [hs]; exact st.mono fun a z => by rw [z]; exact List.mem_singleton.mpr rfl) ?_
          rw [hs]
          exact .lst upd_same (((ra.ex e1).snoc r1).stp st hO)
        exact k _ _ φ (A1.trans A2) .non
      · cases hc
    | _ => cases hc
def setD : D → D → D → Option D
  | .dK kvs, k, v => (keyD k).bind fun k => if kvs.length < 1000000 then some (.dK (if kvs.any (fun kv => decide (kv.1 = k)) = true then kvs.map (fun kv => if kv.1 = k then (kv.1, v) else kv) else kvs ++ [(k, v)])) else none
  | .lst xs, .int k, v => (ixN xs.length k).map fun j => .lst (xs.set j v)
  | _, _, _ => none
theorem rpk_any {B : AS} {H : Hp} {k : Key} : ∀ {kvs : List (Key × V)} {ds : List (Key × D)}, RpK K w B H kvs ds → (kvs.any fun kv => decide (kv.1 = k)) = ds.any fun kv => decide (kv.1 = k)
  | _, _, .nil => rfl
  | _, _, .cons h a => by simp [rpk_any a]
theorem rpk_map {B : AS} {H : Hp} {k : Key} {v : V} {d : D} (r : Rp K w B H v d) : ∀ {kvs : List (Key × V)} {ds : List (Key × D)}, RpK K w B H kvs ds → RpK K w B H (kvs.map fun kv => if kv.1 = k then (kv.1, v) else kv) (ds.map fun kv => if kv.1 = k then (kv.1, d) else kv)
  | _, _, .nil => .nil
  | (k', _) :: _, _, .cons h a => by
    rw [List.map_cons, List.map_cons]
    by_cases e : k' = k
    · simp only [e, if_true]; exact .cons r (rpk_map r a)
    · simp only [e, if_false]; exact .cons h (rpk_map r a)
theorem rpk_app {B : AS} {H : Hp} {k : Key} {v : V} {d : D} (r : Rp K w B H v d) : ∀ {kvs : List (Key × V)} {ds : List (Key × D)}, RpK K w B H kvs ds → RpK K w B H (kvs ++ [(k, v)]) (ds ++ [(k, d)])
  | _, _, .nil => .cons r .nil
  | _, _, .cons h a => .cons h (rpk_app r a)
theorem rpk_put {B : AS} {H : Hp} {k : Key} {v : V} {d : D} {kvs : List (Key × V)} {ds : List (Key × D)} (r : Rp K w B H v d) (h : RpK K w B H kvs ds) :
    RpK K w B H (putK kvs k v) (if ds.any (fun kv => decide (kv.1 = k)) = true then ds.map (fun kv => if kv.1 = k then (kv.1, d) else kv) else ds ++ [(k, d)]) := by
  unfold putK
  rw [rpk_any h]
  split
  · exact rpk_map r h
  · exact rpk_app r h
/-- x[k] = e, x a slot that owns its dict or list -/
theorem rs_setX {T : Type} {e : T → List Sl} {i : Nat} {f : Bool} {st : T → D} {cx : Option (D × T)} {ck : T → Option D} {k : T → D → Option (Fl N L)} (hi : ∀ t, (e t)[i]? = some (.ow f (st t))) (he : RunsX K w tq te ρ e cx) (hk : ∀ t, RunsE K w tq ta (e t) (ck t))
    (hn : ∀ t d, RunsS K w tq io md us ((e t).set i (.ow f d)) eN eL (k t d)) :
    RunsS K w tq io md (tSeq (tAsg te (gSub (tVar i) ta rSetU)) us) ρ eN eL (cx.bind fun z => (ck z.2).bind fun key => (setD (st z.2) key z.1).bind fun d => k z.2 d) := fun Γ φ σ H Dn fl E hc kk => by
  cases cx with
  | none => cases hc
  | some z =>
    obtain ⟨x, t⟩ := z
    have hc : ((ck t).bind fun key => (setD (st t) key x).bind fun d => k t d) = some fl := hc
    cases hck : ck t with
    | none => rw [hck] at hc; cases hc
    | some key =>
      rw [hck] at hc
      have hc : ((setD (st t) key x).bind fun d => k t d) = some fl := hc
      cases hsd : setD (st t) key x with
      | none => rw [hsd] at hc; cases hc
      | some d =>
        rw [hsd] at hc
        have hc : k t d = some fl := hc
        refine he Γ φ σ H _ x t E rfl fun v H1 φ1 A1 r1 => ?_
        obtain ⟨p, h1, h2, h3, h4⟩ := A1.er.ow i f _ (hi t)
        refine ⟨.ref p, h1, ?_⟩
        refine hk t Γ φ1 σ H1 _ key A1.er hck fun kv H2 e2 r2 => ?_
        have E2 := A1.er.ex e2
        have hO : ∀ a, a ∈ φ1 i → Av Γ (e t) φ1 a := fun a z => .inr ⟨i, f, _, hi t, z⟩
        generalize hs : φ1 i = S at h2
        generalize hst : st t = s0 at h2 hsd
        cases h2 with
        | @lst xs ds hl ra =>
          cases r2 with
          | int j =>
            have hsd : (ixN ds.length j).map (fun j => D.lst (ds.set j x)) = some d := hsd
            cases hj : ixN ds.length j with
            | none => rw [hj] at hsd; cases hsd
            | some m =>
              rw [hj] at hsd
              cases hsd
              refine SetU.lst rfl rfl (e2.lst hl) (by rw [ra.len]; exact hj) ?_
              have stp : Stp tq (fun a => a = p) H2 (upd H2 p (.lst (xs.set m v))) := Stp.chgL rfl (e2.lst hl) (.lst _)
              have A2 : Af K w tq Γ φ1 σ H2 (e t) φ1 (upd H2 p (.lst (xs.set m v))) ((e t).set i (.ow f (.lst (ds.set m x)))) := by
                refine Af.mut E2 (hi t) h1 (by rw [hs]; exact stp.mono fun a z => by rw [z]; exact List.mem_singleton.mpr rfl) ?_
                rw [hs]
                refine .lst upd_same (((ra.ex e2).set m (r1.ex e2)).stp stp fun a z => hO a (by rw [hs, z]; exact List.mem_singleton.mpr rfl))
              exact hn t _ Γ φ1 σ _ Dn fl A2.er hc kk
          | _ => cases hsd
        | @dK kvs ds hl ra =>
          have hsd : ((keyD key).bind fun k => if ds.length < 1000000 then some (D.dK (if ds.any (fun kv => decide (kv.1 = k)) = true then ds.map (fun kv => if kv.1 = k then (kv.1, x) else kv) else ds ++ [(k, x)])) else none) = some d := by cases key <;> exact hsd
          cases hkk : keyD key with
          | none => rw [hkk] at hsd; cases hsd
          | some kk' =>
            rw [hkk] at hsd
            have hsd : (if ds.length < 1000000 then some (D.dK (if ds.any (fun kv => decide (kv.1 = kk')) = true then ds.map (fun kv => if kv.1 = kk' then (kv.1, x) else kv) else ds ++ [(kk', x)])) else none) = some d := hsd
            split at hsd
            · rename_i hz
              have hd := Option.some.inj hsd
              have ex := keyD_rp r2 hkk
              subst ex
              refine SetU.dic rfl (DPut.k (e2.dK hl) (by rw [ra.len, sizeLine_eq]; omega)) ?_
              have stp : Stp tq (fun a => a = p) H2 (upd H2 p (.dK (putK kvs kk' v))) := Stp.chgL rfl (e2.dK hl) (.dK _)
              have A2 : Af K w tq Γ φ1 σ H2 (e t) φ1 (upd H2 p (.dK (putK kvs kk' v))) ((e t).set i (.ow f d)) := by
                refine Af.mut E2 (hi t) h1 (by rw [hs]; exact stp.mono fun a z => by rw [z]; exact List.mem_singleton.mpr rfl) ?_
                rw [hs, ← hd]
                exact .dK upd_same ((rpk_put (r1.ex e2) (ra.ex e2)).stp stp fun a z => hO a (by rw [hs, z]; exact List.mem_singleton.mpr rfl))
              exact hn t _ Γ φ1 σ _ Dn fl A2.er hc kk
            · cases hsd
        | dT _ _ => exact nomatch (show none = some d from hsd)
        | dp _ _ => exact nomatch (show none = some d from hsd)
theorem rs_if {tt : TT} {ct : Option Bool} {c1 c2 : Option (Fl N L)} (h : RunsT K w tq tt ρ ct) (h1 : RunsS K w tq io md ts ρ eN eL c1) (h2 : RunsS K w tq io md us ρ eN eL c2) : RunsS K w tq io md (tIfS tt ts us) ρ eN eL (iteM ct c1 c2) := fun Γ φ σ H Dn fl E hc kk => by
  cases ct with
  | none => cases hc
  | some x =>
    refine h Γ φ σ H _ x E rfl fun H' ex => ?_
    cases x with
    | true => exact h1 Γ φ σ H' Dn fl (E.ex ex) hc kk
    | false => exact h2 Γ φ σ H' Dn fl (E.ex ex) hc kk
/-- the then-way leaves -/
theorem rs_ifR {vs : TS} {tt : TT} {ct : Option Bool} {c1 c2 : Option (Fl N L)} (h : RunsT K w tq tt ρ ct) (h1 : RunsS K w tq io md (tSeq ts vs) ρ eN eL c1) (h2 : RunsS K w tq io md (tSeq us vs) ρ eN eL c2) : RunsS K w tq io md (tSeq (tIfS tt ts us) vs) ρ eN eL (iteM ct c1 c2) := fun Γ φ σ H Dn fl E hc kk => by
  cases ct with
  | none => cases hc
  | some x =>
    refine h Γ φ σ H _ x E rfl fun H' ex => ?_
    cases x with
    | true => exact h1 Γ φ σ H' Dn fl (E.ex ex) hc kk
    | false => exact h2 Γ φ σ H' Dn fl (E.ex ex) hc kk
theorem rs_skip {cs : Option (Fl N L)} (h : RunsS K w tq io md us ρ eN eL cs) : RunsS K w tq io md (tSeq tNext us) ρ eN eL cs := h
theorem rs_dead {te : TE} {cs : Option (Fl N L)} (h : RunsS K w tq io md (tRet te) ρ eN eL cs) : RunsS K w tq io md (tSeq (tRet te) us) ρ eN eL cs := fun Γ φ σ H Dn fl E hc kk => by
  exact h Γ φ σ H { nx := fun _ _ => True, rt := Dn.rt, bk := Dn.bk, ct := Dn.ct } fl E hc (by cases fl <;> first | exact kk | (intro _ _ _ _; trivial))
theorem rt_val {Γ : Ct} {φ : Foot} {σ : L2.St} {H H' : Hp} {v : V} {d : D} (E : ER K w tq Γ φ σ H ρ) (e : Xt tq H H') (r : Rp K w (Av Γ ρ φ) H' v d) : RT K w tq Γ false false v H' d .non where
  stp := E.stp.trans (Stp.ex e)
  ex := ⟨[], [], fun _ h => absurd h List.not_mem_nil, fun _ h => absurd h List.not_mem_nil, by rw [if_neg (by decide)], by rw [if_neg (by decide)]; exact ⟨rfl, r.anti fun a z => .inl (.inl (z.elim id fun q => absurd q List.not_mem_nil))⟩⟩
theorem rs_ret (h : RunsE K w tq te ρ c) : RunsS K w tq false false (tRet te) ρ eN eL (c.map fun d => .rt d .non) := fun Γ φ σ H Dn fl E hc kk => by
  cases c with
  | none => cases hc
  | some d =>
    cases hc
    exact h Γ φ σ H _ d E rfl fun v H' e r => kk v H' (rt_val E e r)
theorem rt_io {Γ : Ct} {φ φ' : Foot} {σ : L2.St} {H H' : Hp} {ρ' : List Sl} {v : V} {d s : D} (E : ER K w tq Γ φ σ H ρ) (A : Af K w tq Γ φ σ H ρ φ' H' ρ') (hs : ρ'[0]? = some (.ow true s)) (r : Rp K w (Av Γ ρ' φ') H' v d) : RT K w tq Γ true false v H' d s where
  stp := A.er.stp
  ex := by
    obtain ⟨p, h1, h2, h3, h4⟩ := A.er.ow 0 true s hs
    have hp := h4 rfl
    subst hp
    refine ⟨φ' 0, [], h3, fun _ h => absurd h List.not_mem_nil, ?_, ?_⟩
    · rw [if_pos rfl]
      exact h2.anti fun a z => .inl (z.elim .inl fun q => q.elim (fun q => .inr ⟨0, true, s, hs, q⟩) fun q => absurd q List.not_mem_nil)
    · rw [if_neg (by decide)]
      exact ⟨rfl, r.anti fun a z => .inl (z.elim .inl fun q => .inr ⟨0, true, s, hs, q⟩)⟩
theorem rs_retIo {s : D} (hs : ρ[0]? = some (.ow true s)) (h : RunsE K w tq te ρ c) : RunsS K w tq true false (tRet te) ρ eN eL (c.map fun d => .rt d s) := fun Γ φ σ H Dn fl E hc kk => by
  cases c with
  | none => cases hc
  | some d =>
    cases hc
    exact h Γ φ σ H _ d E rfl fun v H' e r => kk v H' (rt_io E (Af.ex E e) hs r)
theorem rs_retX {T : Type} {e : T → List Sl} {st : T → D} {cx : Option (D × T)} (hs : ∀ t, (e t)[0]? = some (.ow true (st t))) (h : RunsX K w tq te ρ e cx) : RunsS K w tq true false (tRet te) ρ eN eL (cx.map fun z => .rt z.1 (st z.2)) := fun Γ φ σ H Dn fl E hc kk => by
  cases cx with
  | none => cases hc
  | some z =>
    obtain ⟨d, t⟩ := z
    cases hc
    exact h Γ φ σ H _ d t E rfl fun v H' φ' A r => kk v H' (rt_io E A (hs t) r)
theorem rs_retN (h : RunsN K w tq te ρ c) : RunsS K w tq false true (tRet te) ρ eN eL (c.map fun d => .rt d .non) := fun Γ φ σ H Dn fl E hc kk => by
  cases c with
  | none => cases hc
  | some d =>
    cases hc
    refine h Γ φ σ H _ d E rfl fun p H' e n => kk _ H' ?_
    obtain ⟨S, h1, h2⟩ := n
    refine ⟨E.stp.trans (Stp.ex e), [], S, fun _ h => absurd h List.not_mem_nil, fun a ha => ⟨fun z => E.al a z (h1 a ha), List.not_mem_nil, .inr (E.stp.back a (h1 a ha))⟩, by rw [if_neg (by decide)], ?_⟩
    rw [if_pos rfl]
    exact ⟨p, rfl, h2.anti fun a z => .inl (z.elim (fun q => .inl (.inl q)) fun q => q.elim (fun q => absurd q List.not_mem_nil) .inr)⟩
/-- an owned list or dict is handed back, the caller's own -/
theorem rs_retO {i : Nat} {d : D} (hi : ρ[i]? = some (.ow false d)) : RunsS K w tq false true (tRet (tVar i)) ρ eN eL (some (.rt d .non)) := fun Γ φ σ H Dn fl E hc kk => by
  cases hc
  obtain ⟨p, h1, h2, h3, _⟩ := E.ow i false d hi
  refine ⟨.ref p, h1, kk _ H ⟨E.stp, [], φ i, fun _ h => absurd h List.not_mem_nil, fun a ha => ⟨(h3 a ha).1, List.not_mem_nil, (h3 a ha).2⟩, by rw [if_neg (by decide)], ?_⟩⟩
  rw [if_pos rfl]
  exact ⟨p, rfl, h2.anti fun a z => .inl (z.elim .inl fun q => q.elim (fun q => absurd q List.not_mem_nil) fun q => .inr ⟨i, false, d, hi, q⟩)⟩
def loopR {S L : Type} (k : S → Option (Fl S L)) : Fl S S → Option (Fl S L)
  | .nx s => k s
  | .ct s => k s
  | .bk s => some (.nx s)
  | .rt d e => some (.rt d e)
def forM {S L : Type} (f : D → S → Option (Fl S S)) : List D → S → Option (Fl S L)
  | [], s => some (.nx s)
  | x :: xs, s => (f x s).bind (loopR (forM f xs))
theorem RT.back {Γ : Ct} {φ : Foot} {σ : L2.St} {H H' : Hp} {v : V} {d e : D} (E : ER K w tq Γ φ σ H ρ) (r : RT K w tq (Γ.re ρ φ H) io md v H' d e) : RT K w tq Γ io md v H' d e where
  stp := E.stp.trans' r.stp E.fO
  ex := by
    obtain ⟨Si, Sr, h1, h2, h3, h4⟩ := r.ex
    exact ⟨Si, Sr, fun a ha => ⟨(h1 a ha).1, E.reO (h1 a ha).2⟩, fun a ha => ⟨(h2 a ha).1, (h2 a ha).2.1, E.reO (h2 a ha).2.2⟩, h3, h4⟩
theorem rs_for {S : Type} {ti : TI} {g : TG} {p : Pt} {ci : Option (List D)} {eS : S → List Sl} {s0 : S} {cb : List D → S → Option (Fl S S)} (hi : RunsI K w tq ti ρ ci) (hs : Sub ρ (eS s0)) (hg : Bnd K w tq g p) (hf : ∀ s, freeL p.slots (eS s) = true)
    (hb : ∀ ls s, RunsS K w tq io md ts (setL p.slots ls (eS s)) eS eS (cb ls s)) :
    RunsS K w tq io md (tFor ti g ts) ρ eS eL (ci.bind fun xs => forM (fun x s => (un p x).bind fun ls => cb ls s) xs s0) := fun Γ φ σ H Dn fl E hc kk => by
  cases ci with
  | none => cases hc
  | some xs =>
    have hc : forM (fun x s => (un p x).bind fun ls => cb ls s) xs s0 = some fl := hc
    refine x_for (hi Γ φ σ H _ xs E rfl fun J H1 G Y e1 hl wk hG hY => ?_)
    have E1 := (E.ex e1).sub hs
    have fup : ∀ a, FtA (eS s0) φ a → FtA ρ φ a := fun a z => hs.ft z
    refine forOk wk (fun i σ' H' => ∃ φ' s, ER K w tq (Γ.re (eS s0) φ H1) φ' σ' H' (eS s) ∧ forM (fun x s => (un p x).bind fun ls => cb ls s) (xs.drop i) s = some fl) ⟨φ, s0, E1.re, hc⟩ (fun i σ' H' _ ⟨φ', s, E', _⟩ => hG H' (E'.stp.mono fup)) ?_ ?_
    · rintro i x σ' H' H'' hin ⟨φ', s, E', hr⟩ hy
      have hxi : xs[i]? = some xs[i] := List.getElem?_eq_getElem hin
      obtain ⟨e3, hrx⟩ := hY (fun a => Av (Γ.re (eS s0) φ H1) (eS s) φ' a) i H' x H'' xs[i] (E'.stp.mono fup) (by
        rintro a (z | z)
        · exact .inl (.inl z)
        · rcases E'.fO a z with z | z
          · exact .inl (.inr (fup a z))
          · exact .inr z) hxi hy
      rw [List.drop_eq_getElem_cons hin] at hr
      have hr : (((un p xs[i]).bind fun ls => cb ls s).bind (loopR (forM (fun x s => (un p x).bind fun ls => cb ls s) (xs.drop (i + 1))))) = some fl := hr
      cases hu : un p xs[i] with
      | none => rw [hu] at hr; cases hr
      | some ls =>
        rw [hu, Option.bind_some] at hr
        cases hcb : cb ls s with
        | none => rw [hcb] at hr; cases hr
        | some f1 =>
          rw [hcb] at hr
          have hr : loopR (forM (fun x s => (un p x).bind fun ls => cb ls s) (xs.drop (i + 1))) f1 = some fl := hr
          refine hg _ φ' σ' H'' (eS s) x xs[i] ls _ (E'.ex e3) hrx hu (hf s) fun σ2 E2 _ => ?_
          refine hb ls s _ φ' σ2 H'' _ f1 E2 hcb ?_
          cases f1 with
          | nx s' => exact fun φ3 σ3 H3 E3 => ⟨φ3, s', E3, hr⟩
          | ct s' => exact fun φ3 σ3 H3 E3 => ⟨φ3, s', E3, hr⟩
          | bk s' =>
            cases hr
            exact fun φ3 σ3 H3 E3 => kk φ3 σ3 H3 (E1.back E3)
          | rt d e =>
            cases hr
            exact fun v H3 r => kk v H3 (r.back E1)
    · rintro σ' H' ⟨φ', s, E', hr⟩
      rw [List.drop_length] at hr
      cases hr
      exact kk φ' σ' H' (E1.back E')
def whM {S L : Type} (ct : S → Option Bool) (f : S → Option (Fl S S)) : Nat → S → Option (Fl S L)
  | 0, _ => none
  | n + 1, s => (ct s).bind fun b => if b = true then (f s).bind (loopR (whM ct f n)) else some (.nx s)
theorem rs_while {S : Type} {tt : TT} {eS : S → List Sl} {s0 : S} {ct : S → Option Bool} {cb : S → Option (Fl S S)} {n : Nat} (hs : Sub ρ (eS s0)) (ht : ∀ s, RunsT K w tq tt (eS s) (ct s)) (hb : ∀ s, RunsS K w tq io md ts (eS s) eS eS (cb s)) :
    RunsS K w tq io md (tWhile tt ts) ρ eS eL (whM ct cb n s0) := fun Γ φ σ H Dn fl E hc kk => by
  refine ⟨fun m σ' H' => ∃ φ' s, ER K w tq Γ φ' σ' H' (eS s) ∧ whM ct cb m s = some fl, ⟨n, φ, s0, E.sub hs, hc⟩, ?_⟩
  rintro m σ' H' ⟨φ', s, E', hr⟩
  cases m with
  | zero => cases hr
  | succ m =>
    have hr : ((ct s).bind fun b => if b = true then (cb s).bind (loopR (whM ct cb m)) else some (.nx s)) = some fl := hr
    cases h1 : ct s with
    | none => rw [h1] at hr; cases hr
    | some b =>
      rw [h1] at hr
      refine ht s Γ φ' σ' H' _ b E' h1 fun H1 e1 => ?_
      cases b with
      | false => cases hr; rw [if_neg (by decide)]; exact kk φ' σ' H1 (E'.ex e1)
      | true =>
        rw [if_pos rfl]
        have hr : (cb s).bind (loopR (whM ct cb m)) = some fl := hr
        cases h2 : cb s with
        | none => rw [h2] at hr; cases hr
        | some f1 =>
          rw [h2] at hr
          have hr : loopR (whM ct cb m) f1 = some fl := hr
          refine ⟨fun σ2 H2 => ∃ φ2 s2, ER K w tq Γ φ2 σ2 H2 (eS s2) ∧ whM ct cb m s2 = some fl, fun σ2 H2 z => ⟨m, Nat.lt_succ_self m, z⟩, ?_⟩
          refine hb s Γ φ' σ' H1 _ f1 (E'.ex e1) h2 ?_
          cases f1 with
          | nx s' => exact fun φ3 σ3 H3 E3 => ⟨φ3, s', E3, hr⟩
          | ct s' => exact fun φ3 σ3 H3 E3 => ⟨φ3, s', E3, hr⟩
          | bk s' => cases hr; exact kk
          | rt d e => cases hr; exact kk
end
end M
end
section
set_option Elab.async false
set_option linter.all false
set_option maxRecDepth 100000
set_option maxHeartbeats 4000000
namespace M
open PySem PySem.Spec PyProof.Rows L2 U
open LamX (TabS)
/-- a def that hands back what plain code tells, and changes nothing -/
def mSp (K : PySem.W.Frag) (w : World) (tq : Tb) (f : List D → Option D) : Sp := fun vs H Q _ => ∃ (F : AS) (ds : List D) (d : D), (∀ a, F a → H a ≠ none) ∧ TbOk tq H ∧ RpA K w F H vs ds ∧ f ds = some d ∧ ∀ v H', Xt tq H H' → Rp K w F H' v d → Q v H'
/-- .. a new object, the caller's own -/
def mSpN (K : PySem.W.Frag) (w : World) (tq : Tb) (f : List D → Option D) : Sp := fun vs H Q _ => ∃ (F : AS) (ds : List D) (d : D), (∀ a, F a → H a ≠ none) ∧ TbOk tq H ∧ RpA K w F H vs ds ∧ f ds = some d ∧ ∀ p H', Xt tq H H' → NewR K w F H H' p d → Q (.ref p) H'
/-- .. that changes what it is handed in first -/
def mSpX (K : PySem.W.Frag) (w : World) (tq : Tb) (f : List D → Option (D × D)) : Sp := fun vs H Q _ => ∃ (F : AS) (p : Addr) (vs' : List V) (S : List Addr) (s : D) (ds : List D) (d s' : D), vs = .ref p :: vs' ∧ (∀ a, F a → H a ≠ none) ∧ (∀ a ∈ S, ¬ F a) ∧ TbOk tq H ∧
  OwR K w (fun a => F a ∨ a ∈ S) H p s S ∧ RpA K w (fun a => F a ∨ a ∈ S) H vs' ds ∧ f (s :: ds) = some (d, s') ∧
  ∀ v H' S', Stp tq (fun a => a ∈ S) H H' → (∀ a ∈ S', ¬ F a ∧ (a ∈ S ∨ H a = none)) → OwR K w (fun a => F a ∨ a ∈ S') H' p s' S' → Rp K w (fun a => F a ∨ a ∈ S') H' v d → Q v H'
section
variable {K : PySem.W.Frag} {w : World} {tq : Tb} {ρ : List Sl} {tr : TA} {cr : Option (List D)}
theorem re_call {f : List D → Option D} {E0 : XK} (ha : RunsA K w tq tr ρ cr) : RunsE K w tq (tCall (mSp K w tq f) [] E0 tr) ρ (cr.bind f) := fun Γ φ σ H Q d E hc k => by
  cases cr with
  | none => cases hc
  | some as =>
    refine ha Γ φ σ H _ as E rfl fun vs H1 e1 r1 => ?_
    refine ⟨Av Γ ρ φ, as, d, (E.ex e1).alA, (E.ex e1).tbl, by rw [List.append_nil]; exact r1, hc, fun v H' e r => k v H' (e1.trans e) r⟩
theorem rn_call {f : List D → Option D} {E0 : XK} (ha : RunsA K w tq tr ρ cr) : RunsN K w tq (tCall (mSpN K w tq f) [] E0 tr) ρ (cr.bind f) := fun Γ φ σ H Q d E hc k => by
  cases cr with
  | none => cases hc
  | some as =>
    refine ha Γ φ σ H _ as E rfl fun vs H1 e1 r1 => ?_
    refine ⟨Av Γ ρ φ, as, d, (E.ex e1).alA, (E.ex e1).tbl, by rw [List.append_nil]; exact r1, hc, fun p H' e n => k p H' (e1.trans e) ?_⟩
    obtain ⟨S, h1, h2⟩ := n
    exact ⟨S, fun a ha => (Stp.ex (O := fun _ => False) e1).back a (h1 a ha), h2⟩
theorem re_callN {f : List D → Option D} {E0 : XK} (ha : RunsA K w tq tr ρ cr) : RunsE K w tq (tCall (mSpN K w tq f) [] E0 tr) ρ (cr.bind f) := re_of_n (rn_call ha)
theorem rx_call {T : Type} {e : T → List Sl} {i : Nat} {fl : Bool} {st0 : T → D} {put : T → D → T} {cx : Option (List D × T)} {f : List D → Option (D × D)} {E0 : XK} (hi : ∀ t, (e t)[i]? = some (.ow fl (st0 t))) (he : ∀ t d, (e t).set i (.ow fl d) = e (put t d)) (ha : RunsXA K w tq tr ρ e cx) (hv : ∃ s, ρ = e s) :
    RunsX K w tq (tCall (mSpX K w tq f) [] E0 (tCons (tVar i) tr)) ρ e (cx.bind fun z => (f (st0 z.2 :: z.1)).map fun y => (y.1, put z.2 y.2)) := fun Γ φ σ H Q d t E hc k => by
  cases cx with
  | none => cases hc
  | some z =>
    obtain ⟨as, s⟩ := z
    have hc : (f (st0 s :: as)).map (fun y => (y.1, put s y.2)) = some (d, t) := hc
    cases hff : f (st0 s :: as) with
    | none => rw [hff] at hc; cases hc
    | some yy =>
    obtain ⟨d1, s1⟩ := yy
    rw [hff] at hc
    have hc : (d1, put s s1) = (d, t) := Option.some.inj hc
    cases hc
    obtain ⟨s0, rfl⟩ := hv
    obtain ⟨p0, g1, _⟩ := E.ow i fl _ (hi s0)
    refine ⟨.ref p0, g1, ?_⟩
    refine ha Γ φ σ H _ as s E rfl fun vs H1 φ1 A1 r1 => ?_
    obtain ⟨p, h1, h2, h3, h4⟩ := A1.er.ow i fl _ (hi s)
    rw [g1] at h1
    cases h1
    have hl := (List.getElem?_eq_some_iff.mp (hi s)).1
    refine ⟨fun a => Γ.F a ∨ ∃ j g x, j ≠ i ∧ (e s)[j]? = some (.ow g x) ∧ a ∈ φ1 j, p0, vs, φ1 i, st0 s, as, d, s1, by rw [List.append_nil], ?_, ?_, A1.er.tbl, ?_, ?_, hff, ?_⟩
    · rintro a (z | ⟨j, g, x, _, z1, z2⟩)
      · exact A1.er.al a z
      · exact A1.er.alA a (.inr ⟨j, g, x, z1, z2⟩)
    · rintro a ha (z | ⟨j, g, x, n, z1, z2⟩)
      · exact (h3 a ha).1 z
      · exact n (A1.er.dis j i _ _ _ _ a z1 (hi s) z2 ha)
    · refine h2.anti fun a z => .inl ?_
      rcases z with (z | ⟨j, g, x, n, z1, z2⟩) | z
      · exact .inl z
      · exact .inr ⟨j, g, x, z1, z2⟩
      · exact .inr ⟨i, fl, _, hi s, z⟩
    · refine r1.anti fun a z => .inl ?_
      rcases z with (z | ⟨j, g, x, n, z1, z2⟩) | z
      · exact .inl z
      · exact .inr ⟨j, g, x, z1, z2⟩
      · exact .inr ⟨i, fl, _, hi s, z⟩
    · intro v H' S' st hS' ho r
      have hφ : (fun j => if j = i then S' else φ1 j) i = S' := if_pos rfl
      have hφ' : ∀ j, j ≠ i → (fun j => if j = i then S' else φ1 j) j = φ1 j := fun j z => if_neg z
      generalize (fun j => if j = i then S' else φ1 j) = φ2 at hφ hφ'
      have av : ∀ a, Av Γ (e (put s s1)) φ2 a → (Γ.F a ∨ ∃ j g x, j ≠ i ∧ (e s)[j]? = some (.ow g x) ∧ a ∈ φ1 j) ∨ a ∈ S' := by
        rintro a (z | z)
        · exact .inl (.inl z)
        · rw [← he s s1] at z
          rcases ft_eq hl hφ hφ' z with z | ⟨j, g, x, n, z1, z2⟩
          · exact .inr z
          · exact .inl (.inr ⟨j, g, x, n, z1, z2⟩)
      have upS : ∀ a, a ∈ φ1 i → FtA (e s) φ1 a := fun a ha => ⟨i, fl, _, hi s, ha⟩
      have ft2 : ∀ a, FtA (e (put s s1)) φ2 a → FtA (e s) φ1 a ∨ H1 a = none := fun a z => by
        rcases av a (.inr z) with (z | ⟨j, g, x, n, z1, z2⟩) | z
        · exfalso
          rename_i q
          rw [← he s s1] at q
          rcases ft_eq hl hφ hφ' q with q | ⟨j, g, x, n, z1, z2⟩
          · exact (hS' a q).1 (.inl z)
          · obtain ⟨q', _, _, w3, _⟩ := A1.er.ow j g x z1
            exact (w3 a z2).1 z
        · exact .inl ⟨j, g, x, z1, z2⟩
        · exact (hS' a z).2.imp (upS a) id
      have mv : ∀ a, Av Γ (e (put s s1)) φ2 a → Av Γ (e s) φ1 a ∨ H1 a = none := fun a z => z.elim (fun z => .inl (.inl z)) fun z => (ft2 a z).imp .inr id
      have A2 : Af K w tq Γ φ1 σ H1 (e s) φ2 H' (e (put s s1)) := by
        refine ⟨⟨?_, fun a h z => A1.er.al a h (st.back a z), st.tab A1.er.tbl, fun j x h => ?_, fun j g x h => ?_, fun j k g g2 x y a w1 w2 m1 m2 => ?_, A1.er.stp.trans' st fun a ha => (h3 a ha).2⟩, st.mono upS, ft2⟩
        · rw [← he s s1, List.length_set]; exact A1.er.len
        · rw [← he s s1] at h
          by_cases z : i = j
          · subst z
            rw [List.getElem?_set, if_pos rfl, if_pos hl] at h
            cases h
          · rw [getset_ne z] at h
            obtain ⟨u, w1, w2⟩ := A1.er.va j x h
            exact ⟨u, w1, w2.mv st (fun a ha => .inr (upS a ha)) mv⟩
        · have h' := h
          rw [← he s s1] at h
          by_cases z : i = j
          · subst z
            rw [List.getElem?_set, if_pos rfl, if_pos hl] at h
            cases h
            refine ⟨p0, g1, ?_, fun a ha => ?_, h4⟩
            · rw [hφ]
              exact ho.anti fun a z => .inl ((av a z).imp id id)
            · rw [hφ] at ha
              exact ⟨fun z => (hS' a ha).1 (.inl z), (hS' a ha).2.elim (fun z => (h3 a z).2) fun z => .inr (A1.er.stp.back a z)⟩
          · rw [getset_ne z] at h
            obtain ⟨q, w1, w2, w3, w4⟩ := A1.er.ow j g x h
            rw [hφ' j (Ne.symm z)]
            have w5 : OwR K w (fun a => Av Γ (e s) φ1 a ∨ Av Γ (e (put s s1)) φ2 a) H1 q x (φ1 j) := w2.anti fun a z => z.elim .inl (mv a)
            refine ⟨q, w1, (w5.stp st (fun a ha => .inl (.inr (upS a ha))) fun a ha hb => ?_).anti fun a z => .inl (.inr z), w3, w4⟩
            exact z (A1.er.dis i j _ _ _ _ a (hi s) h hb ha)
        · rw [← he s s1] at w1 w2
          by_cases z1 : i = j
          · by_cases z2 : i = k
            · exact z1.symm.trans z2
            · subst z1
              rw [hφ] at m1
              rw [getset_ne z2] at w2
              rw [hφ' k (Ne.symm z2)] at m2
              exact absurd (.inr ⟨k, g2, y, Ne.symm z2, w2, m2⟩) (hS' a m1).1
          · rw [getset_ne z1] at w1
            rw [hφ' j (Ne.symm z1)] at m1
            by_cases z2 : i = k
            · subst z2
              rw [hφ] at m2
              exact absurd (.inr ⟨j, g, x, Ne.symm z1, w1, m1⟩) (hS' a m2).1
            · rw [getset_ne z2] at w2
              rw [hφ' k (Ne.symm z2)] at m2
              exact A1.er.dis j k _ _ _ _ a w1 w2 m1 m2
      exact k v H' φ2 (A1.trans A2) (r.anti fun a z => .inl (av a z))
/-- what a body's end hands back -/
def fin {N L : Type} : Fl N L → D
  | .rt d _ => d
  | _ => .non
def finX {L : Type} : Fl D L → D × D
  | .rt d e => (d, e)
  | .nx s => (.non, s)
  | _ => (.non, .non)
def vas (ds : List D) (n : Nat) : List Sl := ds.map Sl.va ++ List.replicate (n - ds.length) .no
theorem vas_at {ds : List D} {n j : Nat} {d : D} (h : (vas ds n)[j]? = some (.va d)) : ds[j]? = some d := by
  unfold vas at h
  by_cases hj : j < ds.length
  · rw [List.getElem?_append_left (by simpa using hj), List.getElem?_map] at h
    cases e : ds[j]? with
    | none => rw [e] at h; cases h
    | some x => rw [e] at h; cases h; rfl
  · rw [List.getElem?_append_right (by simpa using hj)] at h
    rw [List.getElem?_replicate] at h
    split at h <;> cases h
theorem vas_ow {ds : List D} {n j : Nat} {f : Bool} {d : D} (h : (vas ds n)[j]? = some (.ow f d)) : False := by
  unfold vas at h
  by_cases hj : j < ds.length
  · rw [List.getElem?_append_left (by simpa using hj), List.getElem?_map] at h
    cases e : ds[j]? with
    | none => rw [e] at h; cases h
    | some x => rw [e] at h; cases h
  · rw [List.getElem?_append_right (by simpa using hj)] at h
    rw [List.getElem?_replicate] at h
    split at h <;> cases h
theorem start_er {F : AS} {H : Hp} {vs : List V} {ds : List D} {N : List Str} (hF : ∀ a, F a → H a ≠ none) (hT : TbOk tq H) (r : RpA K w F H vs ds) (hn : ds.length ≤ N.length) : ER K w tq ⟨F, H, fun _ => False, 0⟩ (fun _ => []) (start N vs) H (vas ds N.length) where
  len := by unfold L2.start vas; rw [List.length_append, List.length_append, List.length_map, List.length_map, List.length_replicate, List.length_replicate, r.len]
  al := hF
  tbl := hT
  va := fun j d h => by
    have h := vas_at h
    obtain ⟨v, h1, h2⟩ := r.at h
    have hj := (List.getElem?_eq_some_iff.mp h1).1
    refine ⟨v, ?_, h2.anti fun a z => .inl (z.elim id fun ⟨j, f, d, q, _⟩ => (vas_ow q).elim)⟩
    unfold L2.start
    rw [List.getElem?_append_left (by simpa using hj), List.getElem?_map, h1]; rfl
  ow := fun j f d h => (vas_ow h).elim
  dis := fun j k f g d e a h => (vas_ow h).elim
  stp := Stp.refl _ _
theorem fn_val {L NN : Type} {f : List D → Option D} {N : List Str} {t : TS} {eN : NN → List Sl} {eL : L → List Sl} {c : List D → Option (Fl NN L)} {vs : List V} {H : Hp} {Q : VK} {E : XK} (hl : ∀ ds d, f ds = some d → ds.length ≤ N.length)
    (hc : ∀ ds d, f ds = some d → ∃ fl, c ds = some fl ∧ ((∃ e, fl = .rt d e) ∨ ((∃ n, fl = .nx n) ∧ d = .non)))
    (hb : ∀ ds d, f ds = some d → RunsS K w tq false false t (vas ds N.length) eN eL (c ds)) (h : mSp K w tq f vs H Q E) : t { nx := fun _ H' => Q .non H', rt := Q } (start N vs) H := by
  obtain ⟨F, ds, d, hF, hT, r, hf, k⟩ := h
  obtain ⟨fl, h1, h2⟩ := hc ds d hf
  have E0 := start_er (N := N) hF hT r (hl ds d hf)
  refine hb ds d hf _ _ _ H _ fl E0 h1 ?_
  rcases h2 with ⟨e, rfl⟩ | ⟨⟨n, rfl⟩, rfl⟩
  · intro v H' ⟨st, Si, Sr, h1, h2, h3, h4⟩
    rw [if_neg (by decide)] at h3 h4
    subst h3
    refine k v H' (st.toEx fun _ z => z) (h4.2.anti fun a z => .inl (.inl z))
  · intro φ' σ' H' E'
    exact k .non H' (E'.stp.toEx fun _ z => z) .non
theorem fn_new {L NN : Type} {f : List D → Option D} {N : List Str} {t : TS} {eN : NN → List Sl} {eL : L → List Sl} {c : List D → Option (Fl NN L)} {vs : List V} {H : Hp} {Q : VK} {E : XK} (hl : ∀ ds d, f ds = some d → ds.length ≤ N.length)
    (hc : ∀ ds d, f ds = some d → ∃ e, c ds = some (.rt d e))
    (hb : ∀ ds d, f ds = some d → RunsS K w tq false true t (vas ds N.length) eN eL (c ds)) (h : mSpN K w tq f vs H Q E) : t { nx := fun _ H' => Q .non H', rt := Q } (start N vs) H := by
  obtain ⟨F, ds, d, hF, hT, r, hf, k⟩ := h
  obtain ⟨e, h1⟩ := hc ds d hf
  have E0 := start_er (N := N) hF hT r (hl ds d hf)
  refine hb ds d hf _ _ _ H _ _ E0 h1 ?_
  intro v H' ⟨st, Si, Sr, h1, h2, h3, h4⟩
  rw [if_neg (by decide)] at h3
  rw [if_pos rfl] at h4
  subst h3
  obtain ⟨p, rfl, h4⟩ := h4
  exact k p H' (st.toEx fun _ z => z) ⟨Sr, fun a ha => (h2 a ha).2.2.elim (fun z => z.elim) id, h4.anti fun a z => .inl (z.elim .inl fun z => .inr (.inr z))⟩
def vasX (s : D) (ds : List D) (n : Nat) : List Sl := .ow true s :: vas ds (n - 1)
theorem start_erX {F : AS} {H : Hp} {p : Addr} {S : List Addr} {s : D} {vs : List V} {ds : List D} {N : List Str} (hF : ∀ a, F a → H a ≠ none) (hT : TbOk tq H) (hS : ∀ a ∈ S, ¬ F a) (ho : OwR K w (fun a => F a ∨ a ∈ S) H p s S) (r : RpA K w (fun a => F a ∨ a ∈ S) H vs ds) (hn : ds.length + 1 ≤ N.length) :
    ER K w tq ⟨F, H, fun a => a ∈ S, p⟩ (fun j => if j = 0 then S else []) (start N (.ref p :: vs)) H (vasX s ds N.length) := by
  have es : start N (.ref p :: vs) = some (.ref p) :: (vs.map some ++ List.replicate (N.length - (vs.length + 1)) none) := rfl
  have av : ∀ a, Av ⟨F, H, fun a => a ∈ S, p⟩ (vasX s ds N.length) (fun j => if j = 0 then S else []) a → F a ∨ a ∈ S := by
    rintro a (z | ⟨j, f, d, h1, h2⟩)
    · exact .inl z
    · cases j with
      | zero => exact .inr h2
      | succ j => exact (vas_ow (by simpa [vasX] using h1)).elim
  refine ⟨?_, hF, hT, fun j d h => ?_, fun j f d h => ?_, fun j k f g d e a h1 h2 m1 m2 => ?_, Stp.refl _ _⟩
  · rw [es]
    unfold vasX vas
    simp only [List.length_cons, List.length_append, List.length_map, List.length_replicate]
    rw [r.len]
    omega
  · cases j with
    | zero => simp [vasX] at h
    | succ j =>
      have h := vas_at (show (vas ds (N.length - 1))[j]? = some (.va d) by simpa [vasX] using h)
      obtain ⟨v, h1, h2⟩ := r.at h
      have hj := (List.getElem?_eq_some_iff.mp h1).1
      refine ⟨v, ?_, h2.anti fun a z => .inl (av a z)⟩
      rw [es, List.getElem?_cons_succ, List.getElem?_append_left (by simpa using hj), List.getElem?_map, h1]; rfl
  · cases j with
    | zero =>
      have h : some (Sl.ow true s) = some (.ow f d) := h
      cases h
      exact ⟨p, rfl, ho.anti fun a z => .inl (av a z), fun a ha => ⟨hS a ha, .inl ha⟩, fun _ => rfl⟩
    | succ j => exact (vas_ow (by simpa [vasX] using h)).elim
  · cases j with
    | zero =>
      cases k with
      | zero => rfl
      | succ k => exact (vas_ow (by simpa [vasX] using h2)).elim
    | succ j => exact (vas_ow (by simpa [vasX] using h1)).elim
theorem fn_x {L NN : Type} {f : List D → Option (D × D)} {N : List Str} {t : TS} {eN : NN → List Sl} {eL : L → List Sl} {st : NN → D} {c : D → List D → Option (Fl NN L)} {vs : List V} {H : Hp} {Q : VK} {E : XK} (hl : ∀ s ds y, f (s :: ds) = some y → ds.length + 1 ≤ N.length) (hN : ∀ n, (eN n)[0]? = some (.ow true (st n)))
    (hc : ∀ s ds d s', f (s :: ds) = some (d, s') → ∃ fl, c s ds = some fl ∧ (fl = .rt d s' ∨ ∃ n, fl = .nx n ∧ d = .non ∧ s' = st n))
    (hb : ∀ s ds y, f (s :: ds) = some y → RunsS K w tq true false t (vasX s ds N.length) eN eL (c s ds)) (h : mSpX K w tq f vs H Q E) : t { nx := fun _ H' => Q .non H', rt := Q } (start N vs) H := by
  obtain ⟨F, p, vs', S, s, ds, d, s', rfl, hF, hS, hT, ho, r, hf, k⟩ := h
  obtain ⟨fl, h1, h2⟩ := hc s ds d s' hf
  have E0 := start_erX (N := N) hF hT hS ho r (hl s ds _ hf)
  refine hb s ds _ hf _ _ _ H _ fl E0 h1 ?_
  rcases h2 with rfl | ⟨n, rfl, rfl, rfl⟩
  · intro v H' ⟨stp, Si, Sr, g1, g2, g3, g4⟩
    rw [if_pos rfl] at g3
    rw [if_neg (by decide)] at g4
    exact k v H' Si stp g1 (g3.anti fun a z => .inl (z.imp id .inl)) g4.2
  · intro φ' σ' H' E'
    obtain ⟨q, w1, w2, w3, w4⟩ := E'.ow 0 true _ (hN n)
    have eq := w4 rfl
    subst eq
    exact k .non H' (φ' 0) E'.stp w3 (w2.anti fun a z => .inl (z.imp id fun z => ⟨0, true, _, hN n, z⟩)) .non
end
end M
end
section
set_option Elab.async false
set_option linter.all false
set_option maxRecDepth 100000
set_option maxHeartbeats 4000000
namespace M
open PySem PySem.Spec PyProof.Rows L2 U
open LamX (TabS)
section
variable {K : PySem.W.Frag} {w : World} {tq : Tb} {io md : Bool} {ρ ρ' : List Sl} {te ta tb : TE} {ts us : TS} {tt tu : TT} {N L T : Type} {eN : N → List Sl} {eL : L → List Sl} {e : T → List Sl}
theorem rs_cv {cs : Option (Fl N L)} (h : ρ = ρ') (g : RunsS K w tq io md ts ρ' eN eL cs) : RunsS K w tq io md ts ρ eN eL cs := by rw [h]; exact g
theorem rs_brkS {l : L} (s : Sub ρ (eL l)) : RunsS K w tq io md (tSeq tBreak us) ρ eN eL (some (.bk l)) := fun Γ φ σ H Dn fl E hc k => by
  cases hc
  exact k φ σ H (E.sub s)
theorem rs_contS {l : L} (s : Sub ρ (eL l)) : RunsS K w tq io md (tSeq tCont us) ρ eN eL (some (.ct l)) := fun Γ φ σ H Dn fl E hc k => by
  cases hc
  exact k φ σ H (E.sub s)
theorem rxt_lift {t : T} {c : Option Bool} (h : RunsT K w tq tt (e t) c) : RunsXT K w tq tt (e t) e (c.map fun b => (b, t)) := fun Γ φ σ H Q b t' E hc k => by
  cases c with
  | none => cases hc
  | some b' =>
    cases hc
    exact h Γ φ σ H _ b E rfl fun H' ex => k H' φ (Af.ex E ex)
theorem rxt_test {cx : Option (D × T)} (h : RunsX K w tq te ρ e cx) : RunsXT K w tq (tTest te) ρ e (cx.bind fun z => (isBl z.1).map fun b => (b, z.2)) := fun Γ φ σ H Q b t E hc k => by
  cases cx with
  | none => cases hc
  | some z =>
    obtain ⟨d, t1⟩ := z
    have hc : ((isBl d).map fun b => (b, t1)) = some (b, t) := hc
    cases hb : isBl d with
    | none => rw [hb] at hc; cases hc
    | some b' =>
      rw [hb] at hc
      cases hc
      exact h Γ φ σ H _ d t E rfl fun v H' φ' A r => ⟨b, (rp_bl r hb).1, k H' φ' A⟩
theorem rxt_tru {cx : Option (D × T)} (h : RunsX K w tq te ρ e cx) : RunsXT K w tq (tTru K te) ρ e (cx.bind fun z => (tru z.1).map fun b => (b, z.2)) := fun Γ φ σ H Q b t E hc k => by
  cases cx with
  | none => cases hc
  | some z =>
    obtain ⟨d, t1⟩ := z
    have hc : ((tru d).map fun b => (b, t1)) = some (b, t) := hc
    cases hb : tru d with
    | none => rw [hb] at hc; cases hc
    | some b' =>
      rw [hb] at hc
      cases hc
      exact h Γ φ σ H _ d t E rfl fun v H' φ' A r => ⟨b, tru_ok r hb, k H' φ' A⟩
theorem rxt_not {ct : Option (Bool × T)} (h : RunsXT K w tq tt ρ e ct) : RunsXT K w tq (tNot tt) ρ e (ct.map fun z => (!z.1, z.2)) := fun Γ φ σ H Q b t E hc k => by
  cases ct with
  | none => cases hc
  | some z => cases hc; exact h Γ φ σ H _ _ _ E rfl fun H' φ' A => k H' φ' A
theorem rxt_and {ct : Option (Bool × T)} {cu : T → Option (Bool × T)} (h : RunsXT K w tq tt ρ e ct) (g : ∀ t, RunsXT K w tq tu (e t) e (cu t)) : RunsXT K w tq (tAnd tt tu) ρ e (ct.bind fun z => if z.1 = true then cu z.2 else some (false, z.2)) := fun Γ φ σ H Q b t E hc k => by
  cases ct with
  | none => cases hc
  | some z =>
    obtain ⟨x, t1⟩ := z
    have hc : (if x = true then cu t1 else some (false, t1)) = some (b, t) := hc
    refine h Γ φ σ H _ x t1 E rfl fun H1 φ1 A1 => ?_
    cases x with
    | true => exact g t1 Γ φ1 σ H1 _ b t A1.er hc fun H2 φ2 A2 => k H2 φ2 (A1.trans A2)
    | false => cases hc; exact k H1 φ1 A1
theorem rxt_or {ct : Option (Bool × T)} {cu : T → Option (Bool × T)} (h : RunsXT K w tq tt ρ e ct) (g : ∀ t, RunsXT K w tq tu (e t) e (cu t)) : RunsXT K w tq (tOr tt tu) ρ e (ct.bind fun z => if z.1 = true then some (true, z.2) else cu z.2) := fun Γ φ σ H Q b t E hc k => by
  cases ct with
  | none => cases hc
  | some z =>
    obtain ⟨x, t1⟩ := z
    have hc : (if x = true then some (true, t1) else cu t1) = some (b, t) := hc
    refine h Γ φ σ H _ x t1 E rfl fun H1 φ1 A1 => ?_
    cases x with
    | false => exact g t1 Γ φ1 σ H1 _ b t A1.er hc fun H2 φ2 A2 => k H2 φ2 (A1.trans A2)
    | true => cases hc; exact k H1 φ1 A1
theorem rx_if {ct : Option (Bool × T)} {ca cb : T → Option (D × T)} (h : RunsXT K w tq tt ρ e ct) (ha : ∀ t, RunsX K w tq ta (e t) e (ca t)) (hb : ∀ t, RunsX K w tq tb (e t) e (cb t)) : RunsX K w tq (tIf tt ta tb) ρ e (ct.bind fun z => if z.1 = true then ca z.2 else cb z.2) := fun Γ φ σ H Q d t E hc k => by
  cases ct with
  | none => cases hc
  | some z =>
    obtain ⟨x, t1⟩ := z
    have hc : (if x = true then ca t1 else cb t1) = some (d, t) := hc
    refine h Γ φ σ H _ x t1 E rfl fun H1 φ1 A1 => ?_
    cases x with
    | true => exact ha t1 Γ φ1 σ H1 _ d t A1.er hc fun v H2 φ2 A2 r => k v H2 φ2 (A1.trans A2) r
    | false => exact hb t1 Γ φ1 σ H1 _ d t A1.er hc fun v H2 φ2 A2 r => k v H2 φ2 (A1.trans A2) r
theorem rx_un {r : V → Hp → VK → Prop} {f : D → Option D} {cx : Option (D × T)} (o : Op1 K w tq r f) (ha : RunsX K w tq ta ρ e cx) : RunsX K w tq (tUn r ta) ρ e (cx.bind fun z => (f z.1).map fun d => (d, z.2)) := fun Γ φ σ H Q d t E hc k => by
  cases cx with
  | none => cases hc
  | some z =>
    obtain ⟨a, t1⟩ := z
    have hc : ((f a).map fun d => (d, t1)) = some (d, t) := hc
    cases hf : f a with
    | none => rw [hf] at hc; cases hc
    | some d' =>
      rw [hf] at hc
      cases hc
      exact ha Γ φ σ H _ a t E rfl fun x H1 φ1 A1 r1 => o _ H1 x a d Q A1.er.alA r1 hf fun v H' ex rr => k v H' φ1 (A1.trans (Af.ex A1.er ex)) rr
/-- a.join(..), a.split(..) with a step in the argument -/
theorem rx_join {cx : Option (D × T)} {cy : T → Option (D × T)} (ha : RunsX K w tq ta ρ e cx) (hb : ∀ t, RunsX K w tq tb (e t) e (cy t)) : RunsX K w tq (tM1 (rJoin K) ta tb) ρ e (cx.bind fun z => (cy z.2).bind fun y => (joinD z.1 y.1).map fun d => (d, y.2)) := fun Γ φ σ H Q d t E hc k => by
  cases cx with
  | none => cases hc
  | some z =>
    obtain ⟨a, t1⟩ := z
    have hc : ((cy t1).bind fun y => (joinD a y.1).map fun d => (d, y.2)) = some (d, t) := hc
    cases hy : cy t1 with
    | none => rw [hy] at hc; cases hc
    | some y =>
      obtain ⟨b, t2⟩ := y
      rw [hy] at hc
      have hc : ((joinD a b).map fun d => (d, t2)) = some (d, t) := hc
      cases hj : joinD a b with
      | none => rw [hj] at hc; cases hc
      | some d' =>
        rw [hj] at hc
        cases hc
        refine ha Γ φ σ H _ a t1 E rfl fun x H1 φ1 A1 r1 => ?_
        cases r1 with
        | str s =>
          refine ⟨⟨_, rfl⟩, hb t1 Γ φ1 σ H1 _ b t A1.er hy fun y H2 φ2 A2 r2 => ?_⟩
          have hc : ((seqOf b).bind strsD).bind (fun ys => gP ((ys.map (·.length)).sum + ys.length * s.length ≤ 16777216) (some (D.str (Txt.join s ys)))) = some d := hj
          cases hs : seqOf b with
          | none => rw [hs] at hc; cases hc
          | some ds =>
            rw [hs, Option.bind_some] at hc
            cases hi : strsD ds with
            | none => rw [hi] at hc; cases hc
            | some ys =>
              rw [hi, Option.bind_some] at hc
              obtain ⟨hl, e'⟩ := gP_ok hc
              cases e'
              obtain ⟨p, zs, rfl, g1, g2⟩ := seqOf_rp r2 hs
              have e' := strs_rp g2 hi
              subst e'
              exact ⟨s, p, ys, rfl, rfl, g1, hl, k _ H2 φ2 (A1.trans A2) (.str _)⟩
        | _ => cases hj
theorem rs_ifX {ct : Option (Bool × T)} {c1 c2 : T → Option (Fl N L)} (h : RunsXT K w tq tt ρ e ct) (h1 : ∀ t, RunsS K w tq io md ts (e t) eN eL (c1 t)) (h2 : ∀ t, RunsS K w tq io md us (e t) eN eL (c2 t)) :
    RunsS K w tq io md (tIfS tt ts us) ρ eN eL (ct.bind fun z => if z.1 = true then c1 z.2 else c2 z.2) := fun Γ φ σ H Dn fl E hc kk => by
  cases ct with
  | none => cases hc
  | some z =>
    obtain ⟨x, t⟩ := z
    have hc : (if x = true then c1 t else c2 t) = some fl := hc
    refine h Γ φ σ H _ x t E rfl fun H' φ' A => ?_
    cases x with
    | true => exact h1 t Γ φ' σ H' Dn fl A.er hc kk
    | false => exact h2 t Γ φ' σ H' Dn fl A.er hc kk
theorem rs_ifRX {vs : TS} {ct : Option (Bool × T)} {c1 c2 : T → Option (Fl N L)} (h : RunsXT K w tq tt ρ e ct) (h1 : ∀ t, RunsS K w tq io md (tSeq ts vs) (e t) eN eL (c1 t)) (h2 : ∀ t, RunsS K w tq io md (tSeq us vs) (e t) eN eL (c2 t)) :
    RunsS K w tq io md (tSeq (tIfS tt ts us) vs) ρ eN eL (ct.bind fun z => if z.1 = true then c1 z.2 else c2 z.2) := fun Γ φ σ H Dn fl E hc kk => by
  cases ct with
  | none => cases hc
  | some z =>
    obtain ⟨x, t⟩ := z
    have hc : (if x = true then c1 t else c2 t) = some fl := hc
    refine h Γ φ σ H _ x t E rfl fun H' φ' A => ?_
    cases x with
    | true => exact h1 t Γ φ' σ H' Dn fl A.er hc kk
    | false => exact h2 t Γ φ' σ H' Dn fl A.er hc kk
def RunsXI (K : PySem.W.Frag) (w : World) (tq : Tb) (ti : TI) (ρ : List Sl) (e : T → List Sl) (c : Option (List D × T)) : Prop :=
  ∀ (Γ : Ct) (φ : Foot) (σ : L2.St) (H : Hp) (R : It → Hp → Prop) (ds : List D) (t : T), ER K w tq Γ φ σ H ρ → c = some (ds, t) →
    (∀ (J : It) (H1 : Hp) (φ1 : Foot) (G : Hp → Prop) (Y : Nat → Hp → V → Hp → Prop), Af K w tq Γ φ σ H ρ φ1 H1 (e t) → ds.length < 1000000 → Walk J ds.length G Y → (∀ H', Stp tq (FtA (e t) φ1) H1 H' → G H') →
      (∀ (B' : AS) i H' x H'' d, Stp tq (FtA (e t) φ1) H1 H' → (∀ a, B' a → Av Γ (e t) φ1 a ∨ H1 a = none) → ds[i]? = some d → Y i H' x H'' → Xt tq H' H'' ∧ Rp K w B' H'' x d) → R J H1) → ti σ H R
theorem rxi_lift {t : T} {ti : TI} {c : Option (List D)} (h : RunsI K w tq ti (e t) c) : RunsXI K w tq ti (e t) e (c.map fun ds => (ds, t)) := fun Γ φ σ H R ds t' E hc k => by
  cases c with
  | none => cases hc
  | some ds' =>
    cases hc
    exact h Γ φ σ H R ds E rfl fun J H1 G Y ex hl wk hG hY => k J H1 φ G Y (Af.ex E ex) hl wk hG hY
theorem rxi_rng1 {tr : TA} {cr : Option (List D × T)} (h : RunsXA K w tq tr ρ e cr) : RunsXI K w tq (iRng1 tr) ρ e (cr.bind fun z => (rg1 z.1).map fun ds => (ds, z.2)) := fun Γ φ σ H R ds t E hc k => by
  cases cr with
  | none => cases hc
  | some z =>
    obtain ⟨as, t1⟩ := z
    have hc : ((rg1 as).map fun ds => (ds, t1)) = some (ds, t) := hc
    cases hr : rg1 as with
    | none => rw [hr] at hc; cases hc
    | some ds' =>
      rw [hr] at hc
      cases hc
      obtain ⟨a, ea, hf⟩ := fn1_ok hr
      subst ea
      cases hi : isInt a with
      | none => rw [hi] at hf; cases hf
      | some j =>
        rw [hi] at hf
        have hf : (if j < 1000000 ∧ -1000000 < j then some (rngD 0 j.toNat) else none) = some ds := hf
        split at hf
        · rename_i z
          cases hf
          refine h Γ φ σ H _ [a] t E rfl fun xs H1 φ1 A1 r1 => ?_
          obtain ⟨x, rfl, r2⟩ := rpa1 r1
          obtain ⟨rfl, _⟩ := rp_int r2 hi
          refine ⟨j, rfl, by omega, by omega, k _ H1 φ1 (fun _ => True) _ A1 (by rw [rngD_len]; omega) (by rw [rngD_len]; exact walk_range) (fun _ _ => trivial) ?_⟩
          rintro B' i H' y H'' d st hB hd ⟨rfl, rfl⟩
          rw [rngD_at hd]
          exact ⟨Xt.refl _, .int _⟩
        · cases hf
theorem rxi_any {cx : Option (D × T)} (h : RunsX K w tq te ρ e cx) : RunsXI K w tq (iAny K te) ρ e (cx.bind fun z => (itD z.1).map fun ds => (ds, z.2)) := fun Γ φ σ H R ds t E hc k => by
  cases cx with
  | none => cases hc
  | some z =>
    obtain ⟨x, t1⟩ := z
    have hc : ((itD x).map fun ds => (ds, t1)) = some (ds, t) := hc
    cases hx : itD x with
    | none => rw [hx] at hc; cases hc
    | some ds' =>
      rw [hx] at hc
      cases hc
      cases x with
      | lst xs =>
        obtain ⟨rfl, hl⟩ := itG_ok hx
        refine .inl (h Γ φ σ H _ _ t E rfl fun v H1 φ1 A1 r1 => ?_)
        have hO : ∀ a, FtA (e t) φ1 a → Av Γ (e t) φ1 a := fun a z => .inr z
        cases r1 with
        | @lst a vs _ h1 n1 r1 =>
          refine ⟨a, rfl, ⟨vs, .inl (.inl h1)⟩, k _ H1 φ1 (fun H => SqL K H a vs) (YAt vs) A1 hl (by rw [← r1.len]; exact walk_list) (fun H' s => .inl (.inl (s.lst (fun z => n1 (hO _ z)) h1))) ?_⟩
          rintro B' i H' y H'' d s hB hd ⟨rfl, hy⟩
          obtain ⟨v, g1, g2⟩ := r1.at hd
          rw [hy] at g1
          cases g1
          exact ⟨Xt.refl _, g2.mv s hO hB⟩
      | tup xs =>
        obtain ⟨rfl, hl⟩ := itG_ok hx
        refine .inr (.inl (h Γ φ σ H _ _ t E rfl fun v H1 φ1 A1 r1 => ?_))
        have hO : ∀ a, FtA (e t) φ1 a → Av Γ (e t) φ1 a := fun a z => .inr z
        cases r1 with
        | @tup a vs _ h1 r1 =>
          refine ⟨a, rfl, ⟨vs, h1.sq⟩, k _ H1 φ1 (fun H => SqT K H a vs) (YAt vs) A1 hl (by rw [← r1.len]; exact walk_tup) (fun H' s => s.sqT h1.sq) ?_⟩
          rintro B' i H' y H'' d s hB hd ⟨rfl, hy⟩
          obtain ⟨v, g1, g2⟩ := r1.at hd
          rw [hy] at g1
          cases g1
          exact ⟨Xt.refl _, g2.mv s hO hB⟩
      | scr xs =>
        obtain ⟨rfl, hl⟩ := itG_ok hx
        refine .inl (h Γ φ σ H _ _ t E rfl fun v H1 φ1 A1 r1 => ?_)
        have hO : ∀ a, FtA (e t) φ1 a → Av Γ (e t) φ1 a := fun a z => .inr z
        cases r1 with
        | @scr a vs _ h1 r1 =>
          refine ⟨a, rfl, ⟨vs, h1.sq⟩, k _ H1 φ1 (fun H => SqL K H a vs) (YAt vs) A1 hl (by rw [← r1.len]; exact walk_list) (fun H' s => (s.frl h1).sq) ?_⟩
          rintro B' i H' y H'' d s hB hd ⟨rfl, hy⟩
          obtain ⟨v, g1, g2⟩ := r1.at hd
          rw [hy] at g1
          cases g1
          exact ⟨Xt.refl _, g2.mv s hO hB⟩
      | str s =>
        obtain ⟨rfl, hl⟩ := itG_ok hx
        refine .inr (.inr (h Γ φ σ H _ _ t E rfl fun v H1 φ1 A1 r1 => ?_))
        cases r1 with
        | str _ =>
          have hlen : (sgn s).length = s.cps.size := by unfold sgn; rw [List.length_map]; exact Array.length_toList
          refine ⟨s, rfl, k _ H1 φ1 (fun _ => True) _ A1 hl (by rw [hlen]; exact walk_str) (fun _ _ => trivial) ?_⟩
          rintro B' i H' y H'' d st hB hd ⟨rfl, c, hcc, rfl⟩
          have hd' : (s.cps.toList.map fun c => D.str ⟨#[c]⟩)[i]? = some d := hd
          rw [List.getElem?_map] at hd'
          have : s.cps.toList[i]? = some c := by rw [Array.getElem?_toList]; exact hcc
          rw [this] at hd'
          cases hd'
          exact ⟨Xt.refl _, .str _⟩
      | _ => cases hx
theorem rs_forX {S : Type} {ti : TI} {g : TG} {p : Pt} {ci : Option (List D × T)} {eS : S → List Sl} {s0 : T → S} {cb : List D → S → Option (Fl S S)} (hi : RunsXI K w tq ti ρ e ci) (hs : ∀ t, Sub (e t) (eS (s0 t))) (hg : Bnd K w tq g p) (hf : ∀ s, freeL p.slots (eS s) = true)
    (hb : ∀ ls s, RunsS K w tq io md ts (setL p.slots ls (eS s)) eS eS (cb ls s)) :
    RunsS K w tq io md (tFor ti g ts) ρ eS eL (ci.bind fun z => forM (fun x s => (un p x).bind fun ls => cb ls s) z.1 (s0 z.2)) := fun Γ φ σ H Dn fl E hc kk => by
  cases ci with
  | none => cases hc
  | some z =>
    obtain ⟨xs, t⟩ := z
    have hc : forM (fun x s => (un p x).bind fun ls => cb ls s) xs (s0 t) = some fl := hc
    refine x_for (hi Γ φ σ H _ xs t E rfl fun J H1 φ1 G Y A1 hl wk hG hY => ?_)
    have E1 := A1.er.sub (hs t)
    have fup : ∀ a, FtA (eS (s0 t)) φ1 a → FtA (e t) φ1 a := fun a z => (hs t).ft z
    refine forOk wk (fun i σ' H' => ∃ φ' s, ER K w tq (Γ.re (eS (s0 t)) φ1 H1) φ' σ' H' (eS s) ∧ forM (fun x s => (un p x).bind fun ls => cb ls s) (xs.drop i) s = some fl) ⟨φ1, s0 t, E1.re, hc⟩ (fun i σ' H' _ ⟨φ', s, E', _⟩ => hG H' (E'.stp.mono fup)) ?_ ?_
    · rintro i x σ' H' H'' hin ⟨φ', s, E', hr⟩ hy
      have hxi : xs[i]? = some xs[i] := List.getElem?_eq_getElem hin
      obtain ⟨e3, hrx⟩ := hY (fun a => Av (Γ.re (eS (s0 t)) φ1 H1) (eS s) φ' a) i H' x H'' xs[i] (E'.stp.mono fup) (by
        rintro a (z | z)
        · exact .inl (.inl z)
        · rcases E'.fO a z with z | z
          · exact .inl (.inr (fup a z))
          · exact .inr z) hxi hy
      rw [List.drop_eq_getElem_cons hin] at hr
      have hr : (((un p xs[i]).bind fun ls => cb ls s).bind (loopR (forM (fun x s => (un p x).bind fun ls => cb ls s) (xs.drop (i + 1))))) = some fl := hr
      cases hu : un p xs[i] with
      | none => rw [hu] at hr; cases hr
      | some ls =>
        rw [hu, Option.bind_some] at hr
        cases hcb : cb ls s with
        | none => rw [hcb] at hr; cases hr
        | some f1 =>
          rw [hcb] at hr
          have hr : loopR (forM (fun x s => (un p x).bind fun ls => cb ls s) (xs.drop (i + 1))) f1 = some fl := hr
          refine hg _ φ' σ' H'' (eS s) x xs[i] ls _ (E'.ex e3) hrx hu (hf s) fun σ2 E2 _ => ?_
          refine hb ls s _ φ' σ2 H'' _ f1 E2 hcb ?_
          cases f1 with
          | nx s' => exact fun φ3 σ3 H3 E3 => ⟨φ3, s', E3, hr⟩
          | ct s' => exact fun φ3 σ3 H3 E3 => ⟨φ3, s', E3, hr⟩
          | bk s' =>
            cases hr
            exact fun φ3 σ3 H3 E3 => kk φ3 σ3 H3 (E1.back E3)
          | rt d e =>
            cases hr
            exact fun v H3 r => kk v H3 (r.back E1)
    · rintro σ' H' ⟨φ', s, E', hr⟩
      rw [List.drop_length] at hr
      cases hr
      exact kk φ' σ' H' (E1.back E')
end
end M
end
section
set_option Elab.async false
set_option linter.all false
set_option maxRecDepth 100000
set_option maxHeartbeats 4000000
namespace M
open PySem PySem.Spec PyProof.Rows L2 U
open LamX (TabS)
def compX {T : Type} (f : D → T → Option (Option D × T)) : List D → T → Option (List D × T)
  | [], t => some ([], t)
  | x :: xs, t => (f x t).bind fun z => (compX f xs z.2).bind fun r => some (z.1.toList ++ r.1, r.2)
def compBX {T : Type} (p : Pt) (ct : List D → T → Option (Bool × T)) (ce : List D → T → Option (D × T)) (x : D) (t : T) : Option (Option D × T) :=
  (un p x).bind fun ls => (ct ls t).bind fun b => if b.1 = true then (ce ls b.2).map fun y => (some y.1, y.2) else some (none, b.2)
section
variable {K : PySem.W.Frag} {w : World} {tq : Tb} {ρ : List Sl} {T : Type} {e : T → List Sl} {Γ : Ct} {φ : Foot} {σ : L2.St} {H H' : Hp}
theorem ER.unwipe {ix : List Nat} (E : ER K w tq Γ φ (L2.wipe σ ix) H ρ) : ER K w tq Γ φ σ H ρ where
  len := by rw [← E.len, wipe_length]
  al := E.al
  tbl := E.tbl
  va := fun j d h => let ⟨v, h1, h2⟩ := E.va j d h; ⟨v, (wipe_some h1).1, h2⟩
  ow := fun j f d h => let ⟨p, h1, h2⟩ := E.ow j f d h; ⟨p, (wipe_some h1).1, h2⟩
  dis := E.dis
  stp := E.stp
theorem ER.dropF {D : Addr} (E : ER K w tq (Γ.add D) φ σ H ρ) : ER K w tq Γ φ σ H ρ where
  len := E.len
  al := fun a h => E.al a (.inl h)
  tbl := E.tbl
  va := fun j d h => let ⟨v, h1, h2⟩ := E.va j d h; ⟨v, h1, h2.anti fun a z => .inl (z.imp .inl id)⟩
  ow := fun j f d h => let ⟨p, h1, h2, h3, h4⟩ := E.ow j f d h; ⟨p, h1, h2.anti fun a z => .inl (z.imp .inl id), fun a ha => ⟨fun z => (h3 a ha).1 (.inl z), (h3 a ha).2⟩, h4⟩
  dis := E.dis
  stp := E.stp
/-- what is avoided changes -/
theorem ER.stpF {O : AS} (E : ER K w tq Γ φ σ H ρ) (s : Stp tq O H H') (i : ∀ a, O a → Γ.F a) (j : ∀ a, O a → Γ.O0 a ∨ Γ.H0 a = none) : ER K w tq Γ φ σ H' ρ where
  len := E.len
  al := fun a h z => E.al a h (s.back a z)
  tbl := s.tab E.tbl
  va := fun j d h => let ⟨v, h1, h2⟩ := E.va j d h; ⟨v, h1, h2.stp s fun a z => .inl (i a z)⟩
  ow := fun j f d h => let ⟨p, h1, h2, h3, h4⟩ := E.ow j f d h; ⟨p, h1, h2.stp s (fun a z => .inl (i a z)) fun a ha z => (h3 a ha).1 (i a z), h3, h4⟩
  dis := E.dis
  stp := E.stp.trans' s j
theorem ft_setL {is : List Nat} {as : List D} {ρ : List Sl} {a : Addr} (h : FtA (setL is as ρ) φ a) : FtA ρ φ a := by
  induction is generalizing as ρ with
  | nil => simpa [setL] using h
  | cons i is ih =>
    cases as with
    | nil => simpa [setL] using h
    | cons e as => exact ft_set (ih (by simpa [setL] using h))
theorem wipe_wipe {σ σ2 : L2.St} {ix : List Nat} (h : L2.wipe σ2 ix = L2.wipe σ ix) : L2.wipe (L2.wipe σ ix) ix = L2.wipe σ ix := by
  apply List.ext_getElem?
  intro j
  have key : ∀ (τ : L2.St) (ix : List Nat) (j : Nat), (L2.wipe τ ix)[j]? = if j ∈ ix then (if j < τ.length then some none else none) else τ[j]? := by
    intro τ ix
    induction ix with
    | nil => intro j; simp [L2.wipe]
    | cons a r ih =>
      intro j
      show ((L2.wipe τ r).set a none)[j]? = _
      by_cases z : a = j
      · subst z
        rw [List.getElem?_set]
        simp [wipe_length]
      · rw [getset_ne z, ih j]
        have : (j ∈ a :: r) = (j ∈ r) := by simp [Ne.symm z]
        simp only [this]
  rw [key, wipe_length, key]
  by_cases hj : j ∈ ix <;> simp [hj]
theorem wipeL_at (ρ : List Sl) : ∀ (ix : List Nat) (j : Nat), (wipeL ρ ix)[j]? = if j ∈ ix then (if j < ρ.length then some .no else none) else ρ[j]?
  | [], j => by simp [wipeL]
  | a :: r, j => by
    have hl : ∀ r, (wipeL ρ r).length = ρ.length := fun r => by
      induction r with
      | nil => rfl
      | cons b r ih => show ((wipeL ρ r).set b .no).length = _; rw [List.length_set, ih]
    show ((wipeL ρ r).set a .no)[j]? = _
    by_cases z : a = j
    · subst z
      rw [List.getElem?_set]
      simp [hl]
    · rw [getset_ne z, wipeL_at ρ r j]
      have : (j ∈ a :: r) = (j ∈ r) := by simp [Ne.symm z]
      simp only [this]
theorem setL_length : ∀ {is : List Nat} {ls : List D} {ρ : List Sl}, (setL is ls ρ).length = ρ.length
  | [], _, _ => by simp [setL]
  | _ :: _, [], _ => by simp [setL]
  | i :: is, l :: ls, ρ => by
    show (setL is ls (ρ.set i (.va l))).length = _
    rw [setL_length, List.length_set]
theorem setL_ne : ∀ {is : List Nat} {ls : List D} {ρ : List Sl} {j : Nat}, j ∉ is → (setL is ls ρ)[j]? = ρ[j]?
  | [], _, _, _, _ => by simp [setL]
  | _ :: _, [], _, _, _ => by simp [setL]
  | i :: is, l :: ls, ρ, j, h => by
    show (setL is ls (ρ.set i (.va l)))[j]? = _
    rw [setL_ne fun z => h (List.mem_cons_of_mem _ z), getset_ne fun z => h (by rw [z]; exact List.mem_cons_self ..)]
theorem wipeL_setL {is ix : List Nat} {ls : List D} {ρ : List Sl} (h : ∀ i ∈ is, i ∈ ix) : wipeL (setL is ls ρ) ix = wipeL ρ ix := by
  apply List.ext_getElem?
  intro j
  rw [wipeL_at, wipeL_at, setL_length]
  by_cases hj : j ∈ ix
  · rw [if_pos hj, if_pos hj]
  · rw [if_neg hj, if_neg hj, setL_ne fun z => hj (h j z)]
variable {ti : TI} {te : TE} {tt : TT} {g : TG} {p : Pt} {ci : Option (List D × T)} {ct : List D → T → Option (Bool × T)} {ce : List D → T → Option (D × T)} {ix : List Nat}
theorem rx_lc (hi : RunsXI K w tq ti ρ e ci) (hg : Bnd K w tq g p) (hw : ∀ t, wipeL (e t) ix = e t) (hf : ∀ t, freeL p.slots (e t) = true) (hx : ∀ i ∈ p.slots, i ∈ ix) (hn : ∀ t, noOw (e t) ix = true)
    (ht : ∀ ls t, RunsXT K w tq tt (setL p.slots ls (e t)) (fun t => setL p.slots ls (e t)) (ct ls t)) (he : ∀ ls t, RunsX K w tq te (setL p.slots ls (e t)) (fun t => setL p.slots ls (e t)) (ce ls t)) :
    RunsX K w tq (tLc ti g tt te ix) ρ e (ci.bind fun z => (compX (compBX p ct ce) z.1 z.2).map fun r => (D.lst r.1, r.2)) := fun Γ φ σ H Q d t' E hc k => by
  cases ci with
  | none => cases hc
  | some z =>
    obtain ⟨xs, t0⟩ := z
    have hc : (compX (compBX p ct ce) xs t0).map (fun r => (D.lst r.1, r.2)) = some (d, t') := hc
    cases hm : compX (compBX p ct ce) xs t0 with
    | none => rw [hm] at hc; cases hc
    | some r =>
      obtain ⟨ys, tz⟩ := r
      rw [hm] at hc
      have hc : (D.lst ys, tz) = (d, t') := Option.some.inj hc
      cases hc
      refine x_lc (hi Γ φ σ H _ xs t0 E rfl fun J H1 φ1 G Y A1 hl wk hG hY D hD => ?_)
      have E1 := A1.er
      have hs : (1000000 : Nat) < sizeLine := by rw [sizeLine_eq]; decide
      have hD2 : (upd H1 D (.lst [])) D ≠ none := by rw [upd_same]; exact fun z => nomatch z
      have Es : ER K w tq ((Γ.re (e t0) φ1 H1).add D) φ1 (L2.wipe σ ix) (upd H1 D (.lst [])) (e t0) := by
        have := ((E1.re).addF hD (Xt.new hD) hD2).wipe ix
        rw [hw t0] at this
        exact this
      refine lc_it wk (Qd := Q (.ref D)) (fun i H' => ∃ φ' t acc out rest, ER K w tq ((Γ.re (e t0) φ1 H1).add D) φ' (L2.wipe σ ix) H' (e t) ∧ H' D = some (.lst acc) ∧ RpA K w (Av ((Γ.re (e t0) φ1 H1).add D) (e t) φ') H' acc out ∧ out.length ≤ i ∧
          compX (compBX p ct ce) (xs.drop i) t = some (rest, t') ∧ ys = out ++ rest) ⟨φ1, t0, [], [], ys, Es, upd_same, .nil, Nat.le_refl _, hm, rfl⟩ (fun i H' _ ⟨φ', t, acc, out, rest, E', _⟩ => hG H' E'.stp) ?_ ?_
      · rintro i x H2 H3 hin ⟨φ', t, acc, out, rest, E', hacc, hra, hlen, hrest, hys⟩ hy
        have hxi : xs[i]? = some xs[i] := List.getElem?_eq_getElem hin
        obtain ⟨e3, hrx⟩ := hY (fun a => Av ((Γ.re (e t0) φ1 H1).add D) (e t) φ' a) i H2 x H3 xs[i] E'.stp (by
          rintro a ((z | z) | z)
          · exact .inl (.inl z)
          · exact .inr (by rw [z]; exact hD)
          · rcases E'.fO a z with z | z
            · exact .inl (.inr z)
            · exact .inr z) hxi hy
        rw [List.drop_eq_getElem_cons hin] at hrest
        have hrest : ((compBX p ct ce xs[i] t).bind fun z => (compX (compBX p ct ce) (xs.drop (i + 1)) z.2).bind fun r => some (z.1.toList ++ r.1, r.2)) = some (rest, t') := hrest
        cases hb : compBX p ct ce xs[i] t with
        | none => rw [hb] at hrest; cases hrest
        | some ot =>
          obtain ⟨o, t1⟩ := ot
          rw [hb] at hrest
          have hrest : ((compX (compBX p ct ce) (xs.drop (i + 1)) t1).bind fun r => some (o.toList ++ r.1, r.2)) = some (rest, t') := hrest
          cases hr : compX (compBX p ct ce) (xs.drop (i + 1)) t1 with
          | none => rw [hr] at hrest; cases hrest
          | some rr =>
            obtain ⟨r, tr⟩ := rr
            rw [hr] at hrest
            have hrest : (o.toList ++ r, tr) = (rest, t') := Option.some.inj hrest
            cases hrest
            have hb : ((un p xs[i]).bind fun ls => (ct ls t).bind fun b => if b.1 = true then (ce ls b.2).map fun y => (some y.1, y.2) else some (none, b.2)) = some (o, t1) := hb
            cases hu : un p xs[i] with
            | none => rw [hu] at hb; cases hb
            | some ls =>
              rw [hu] at hb
              have hb : ((ct ls t).bind fun b => if b.1 = true then (ce ls b.2).map fun y => (some y.1, y.2) else some (none, b.2)) = some (o, t1) := hb
              cases hct : ct ls t with
              | none => rw [hct] at hb; cases hb
              | some bt =>
                obtain ⟨b, t2⟩ := bt
                rw [hct] at hb
                have hb : (if b = true then (ce ls t2).map fun y => (some y.1, y.2) else some (none, t2)) = some (o, t1) := hb
                have hacc3 : H3 D = some (.lst acc) := e3.lst hacc
                have up : ∀ (t : T) (φ : Foot) (a : Addr), Av ((Γ.re (e t0) φ1 H1).add D) (e t) φ a → Av ((Γ.re (e t0) φ1 H1).add D) (setL p.slots ls (e t)) φ a := fun t φ a z => z.imp id fun z => by
                  have := ft_inner (ls := ls) (hn t) hx z
                  rw [hw t] at this
                  exact this
                have dn : ∀ (t : T) (φ : Foot) (a : Addr), Av ((Γ.re (e t0) φ1 H1).add D) (setL p.slots ls (e t)) φ a → Av ((Γ.re (e t0) φ1 H1).add D) (e t) φ a := fun t φ a z => z.imp id ft_setL
                refine hg _ φ' _ H3 _ x xs[i] ls _ (E'.ex e3) hrx hu (hf t) fun σ2 E4 w4 => ⟨?_, ?_⟩
                · have z1 := w4 ix hx
                  exact z1.trans (wipe_wipe rfl)
                · have w5 : L2.wipe σ2 ix = L2.wipe σ ix := (w4 ix hx).trans (wipe_wipe rfl)
                  have restore : ∀ {φ9 : Foot} {H9 : Hp} {t9 : T}, ER K w tq ((Γ.re (e t0) φ1 H1).add D) φ9 σ2 H9 (setL p.slots ls (e t9)) → ER K w tq ((Γ.re (e t0) φ1 H1).add D) φ9 (L2.wipe σ ix) H9 (e t9) := fun {φ9 H9 t9} E9 => by
                    have := E9.wipe ix
                    rw [w5, wipeL_setL hx, hw t9] at this
                    exact this
                  refine ht ls t _ φ' σ2 H3 _ b t2 E4 hct fun H4 φ4 A4 => ?_
                  have hra3 : RpA K w (Av ((Γ.re (e t0) φ1 H1).add D) (setL p.slots ls (e t)) φ') H3 acc out := (hra.ex e3).anti fun a z => .inl (dn t φ' a z)
                  have hra4 := A4.rpa hra3
                  have nD : ∀ {φ9 : Foot} {H9 : Hp} {ρ9 : List Sl}, ER K w tq ((Γ.re (e t0) φ1 H1).add D) φ9 σ2 H9 ρ9 → ¬ FtA ρ9 φ9 D := fun {φ9 H9 ρ9} E9 ⟨j, f, d, q1, q2⟩ => by
                    obtain ⟨_, _, _, q3, _⟩ := E9.ow j f d q1
                    exact (q3 D q2).1 (.inr rfl)
                  have hacc4 : H4 D = some (.lst acc) := A4.st.lst (nD E4) hacc3
                  cases b with
                  | false =>
                    rw [if_neg (by decide)] at hb
                    have hb : ((none : Option M.D), t2) = (o, t1) := Option.some.inj hb
                    cases hb
                    rw [if_neg (by decide)]
                    exact ⟨φ4, t1, acc, out, r, restore A4.er, hacc4, hra4.anti fun a z => .inl (up t1 φ4 a z), by omega, hr, hys⟩
                  | true =>
                    rw [if_pos rfl] at hb
                    rw [if_pos rfl]
                    cases hce : ce ls t2 with
                    | none => rw [hce] at hb; cases hb
                    | some yt =>
                      obtain ⟨y, t3⟩ := yt
                      rw [hce] at hb
                      have hb : (some y, t3) = (o, t1) := Option.some.inj hb
                      cases hb
                      refine he ls t2 _ φ4 σ2 H4 _ y _ A4.er hce fun v H5 φ5 A5 r5 => ?_
                      have hra5 := A5.rpa hra4
                      have hacc5 : H5 D = some (.lst acc) := A5.st.lst (nD A4.er) hacc4
                      have st : Stp tq (fun a => a = D) H5 (upd H5 D (.lst (acc ++ [v]))) := Stp.chgL rfl hacc5 (.lst _)
                      refine ⟨acc, hacc5, by rw [hra.len]; omega, φ5, t1, acc ++ [v], out ++ [y], r, (restore A5.er).stpF st (fun a z => .inr z) (fun a z => .inr (by rw [z]; exact hD)), upd_same, ?_, by simp; omega, hr, ?_⟩
                      · exact ((hra5.snoc r5).anti fun a z => .inl (up t1 φ5 a z)).stp st fun a z => .inl (.inr z)
                      · rw [hys]; simp
      · rintro H2 ⟨φ', t, acc, out, rest, E', hacc, hra, hlen, hrest, hys⟩
        rw [List.drop_length] at hrest
        have hrest : (([] : List M.D), t) = (rest, t') := Option.some.inj hrest
        cases hrest
        rw [List.append_nil] at hys
        subst hys
        have E9 : ER K w tq Γ φ' σ H2 (e t') := E1.back (E'.dropF.unwipe)
        have A9 : Af K w tq Γ φ σ H ρ φ' H2 (e t') := by
          refine ⟨E9, A1.st.trans' E'.stp A1.ft, fun a z => ?_⟩
          rcases E'.fO a z with z | z
          · exact A1.ft a z
          · exact .inr (A1.st.back a z)
        refine k _ H2 φ' A9 (.lst hacc ?_ (hra.anti fun a z => .inl (z.imp .inl id)))
        rintro (z | ⟨j, f, d, q1, q2⟩)
        · exact E1.al D z hD
        · obtain ⟨_, _, _, q3, _⟩ := E'.ow j f d q1
          exact (q3 D q2).1 (.inr rfl)
theorem rs_par {io md : Bool} {N L : Type} {eN : N → List Sl} {eL : L → List Sl} {us : TS} {i j : Nat} {ta : TA} {ca : Option (List D)} {k : D → D → Option (Fl N L)} (hij : i ≠ j) (ha : RunsA K w tq ta ρ ca) (hf : free ρ i = true) (hf2 : free ρ j = true)
    (hk : ∀ x y, RunsS K w tq io md us ((ρ.set i (.va x)).set j (.va y)) eN eL (k x y)) :
    RunsS K w tq io md (tSeq (tPar i j ta) us) ρ eN eL (ca.bind (fn2 k)) := fun Γ φ σ H Dn fl E hc kk => by
  cases ca with
  | none => cases hc
  | some as =>
    obtain ⟨x, y, ea, hc'⟩ := fn2_ok (show fn2 k as = some fl from hc)
    subst ea
    refine ha Γ φ σ H _ [x, y] E rfl fun vs H1 e1 r1 => ?_
    obtain ⟨v, u, rfl, rv, ru⟩ := rpa2 r1
    refine ⟨v, u, rfl, ?_⟩
    have E1 := (E.ex e1).set hf rv
    have f2 : free (ρ.set i (.va x)) j = true := by unfold free at hf2 ⊢; rw [getset_ne hij]; exact hf2
    have E2 := E1.set (i := j) (v := u) f2 (ru.anti fun a z => .inl (z.imp id ft_set))
    exact hk x y Γ φ _ H1 Dn fl E2 hc' kk
theorem rs_parX {io md : Bool} {N L : Type} {eN : N → List Sl} {eL : L → List Sl} {us : TS} {i j : Nat} {ta : TA} {ca : Option (List D × T)} {k : D → D → T → Option (Fl N L)} (hij : i ≠ j) (ha : RunsXA K w tq ta ρ e ca) (hf : ∀ t, free (e t) i = true) (hf2 : ∀ t, free (e t) j = true)
    (hk : ∀ x y t, RunsS K w tq io md us (((e t).set i (.va x)).set j (.va y)) eN eL (k x y t)) :
    RunsS K w tq io md (tSeq (tPar i j ta) us) ρ eN eL (ca.bind fun z => fn2 (fun x y => k x y z.2) z.1) := fun Γ φ σ H Dn fl E hc kk => by
  cases ca with
  | none => cases hc
  | some z =>
    obtain ⟨as, t⟩ := z
    obtain ⟨x, y, ea, hc'⟩ := fn2_ok (show fn2 (fun x y => k x y t) as = some fl from hc)
    subst ea
    refine ha Γ φ σ H _ [x, y] t E rfl fun vs H1 φ1 A1 r1 => ?_
    obtain ⟨v, u, rfl, rv, ru⟩ := rpa2 r1
    refine ⟨v, u, rfl, ?_⟩
    have E1 := A1.er.set (hf t) rv
    have f2 : free ((e t).set i (.va x)) j = true := by have := hf2 t; unfold free at this ⊢; rw [getset_ne hij]; exact this
    have E2 := E1.set (i := j) (v := u) f2 (ru.anti fun a z => .inl (z.imp id ft_set))
    exact hk x y t Γ φ1 _ H1 Dn fl E2 hc' kk
def putD (kvs : List (Key × D)) (k : Key) (v : D) : List (Key × D) := if kvs.any (fun kv => decide (kv.1 = k)) = true then kvs.map (fun kv => if kv.1 = k then (kv.1, v) else kv) else kvs ++ [(k, v)]
def mergeD (kvs more : List (Key × D)) : List (Key × D) := more.foldl (fun acc kv => putD acc kv.1 kv.2) kvs
theorem rpk_merge {B : AS} {H : Hp} : ∀ {more : List (Key × V)} {md : List (Key × D)} {kvs : List (Key × V)} {ds : List (Key × D)}, RpK K w B H more md → RpK K w B H kvs ds → RpK K w B H (mergeK kvs more) (mergeD ds md)
  | _, _, _, _, .nil, h => h
  | (k, v) :: vs, (_, d) :: es, kvs, ds, .cons r a, h => by
    show RpK K w B H (mergeK (putK kvs k v) vs) (mergeD (putD ds k d) es)
    exact rpk_merge a (rpk_put r h)
/-- pairs of a display -/
def RunsP (K : PySem.W.Frag) (w : World) (tq : Tb) (trs : List (TE × TE)) (ρ : List Sl) (c : Option (List (Key × D))) : Prop :=
  ∀ (Γ : Ct) (φ : Foot) (σ : L2.St) (H : Hp) (Q : List (V × V) → Hp → Prop) (ds : List (Key × D)), ER K w tq Γ φ σ H ρ → c = some ds →
    (∀ kvs H', Xt tq H H' → RpK K w (Av Γ ρ φ) H' kvs ds → Q (kvs.map fun kv => (kV kv.1, kv.2)) H') → tPairs trs σ H Q
theorem rp_nil : RunsP K w tq [] ρ (some []) := fun Γ φ σ H Q ds E hc k => by cases hc; exact k [] H (Xt.refl H) .nil
theorem rp_cons {tk tv : TE} {trs : List (TE × TE)} {ck cv : Option D} {cr : Option (List (Key × D))} (hk : RunsE K w tq tk ρ ck) (hv : RunsE K w tq tv ρ cv) (hr : RunsP K w tq trs ρ cr) :
    RunsP K w tq ((tk, tv) :: trs) ρ ((ck.bind keyD).bind fun k => cv.bind fun v => cr.bind fun r => some ((k, v) :: r)) := fun Γ φ σ H Q ds E hc k => by
  cases ck with
  | none => cases hc
  | some a =>
    have hc : ((keyD a).bind fun k => cv.bind fun v => cr.bind fun r => some ((k, v) :: r)) = some ds := hc
    cases hka : keyD a with
    | none => rw [hka] at hc; cases hc
    | some key =>
      cases cv with
      | none => rw [hka] at hc; cases hc
      | some b =>
        cases cr with
        | none => rw [hka] at hc; cases hc
        | some r =>
          rw [hka] at hc
          cases hc
          refine hk Γ φ σ H _ a E rfl fun x H1 e1 r1 => ?_
          refine hv Γ φ σ H1 _ b (E.ex e1) rfl fun y H2 e2 r2 => ?_
          refine hr Γ φ σ H2 _ r (E.ex (e1.trans e2)) rfl fun kvs H3 e3 r3 => ?_
          have ex := keyD_rp r1 hka
          subst ex
          exact k ((key, y) :: kvs) H3 ((e1.trans e2).trans e3) (.cons (r2.ex e3) r3)
theorem rn_disp {trs : List (TE × TE)} {c : Option (List (Key × D))} (h : RunsP K w tq trs ρ c) : RunsN K w tq (tDisp trs) ρ (c.bind fun r => if r.length ≤ 15 then some (.dK (mergeD [] r)) else none) := fun Γ φ σ H Q d E hc k => by
  cases c with
  | none => cases hc
  | some r =>
    have hc : (if r.length ≤ 15 then some (D.dK (mergeD [] r)) else none) = some d := hc
    split at hc
    · rename_i hl
      cases hc
      intro p hp
      have ep : Xt tq H (upd H p (.dK [])) := Xt.new hp
      have E1 : ER K w tq (Γ.add p) φ σ (upd H p (.dK [])) ρ := E.addF hp ep (by rw [upd_same]; exact fun z => nomatch z)
      refine h (Γ.add p) φ σ _ _ r E1 rfl fun kvs H2 e2 r2 => ⟨e2.dK upd_same, kvs, rfl, by rw [r2.len]; exact hl, ?_⟩
      have st : Stp tq (fun a => a = p) H2 (upd H2 p (.dK (mergeK [] kvs))) := Stp.chgL rfl (e2.dK upd_same) (.dK _)
      refine k p _ ?_ ⟨[p], fun a ha => by rw [List.mem_singleton.mp ha]; exact hp, .dK upd_same ?_⟩
      · exact Xt.mut (ep.trans e2) hp (e2.dK upd_same) (.dK _)
      · have r3 := (rpk_merge r2 .nil).stp st fun a z => .inl (.inr z)
        refine r3.anti fun a z => .inl ?_
        rcases z with (z | z) | z
        · exact .inl (.inl z)
        · exact .inr z
        · exact .inl (.inr (List.mem_singleton.mp z))
    · cases hc
theorem re_disp {trs : List (TE × TE)} {c : Option (List (Key × D))} (h : RunsP K w tq trs ρ c) : RunsE K w tq (tDisp trs) ρ (c.bind fun r => if r.length ≤ 15 then some (.dK (mergeD [] r)) else none) := re_of_n (rn_disp h)
theorem rn_dnew : RunsN K w tq tDNewK ρ (some (.dK [])) := fun Γ φ σ H Q d E hc k => by
  cases hc
  intro p hp
  exact k p _ (Xt.new hp) ⟨[p], fun a ha => by rw [List.mem_singleton.mp ha]; exact hp, .dK upd_same .nil⟩
/-- pairs, as dict(..) takes them -/
def pairsD : List D → Option (List (Key × D))
  | [] => some []
  | .tup [k, v] :: r => (keyD k).bind fun k => (pairsD r).map ((k, v) :: ·)
  | _ => none
theorem pairs_rp {B : AS} {H : Hp} : ∀ {ds : List D} {vs : List V} {ps : List (Key × D)}, RpA K w B H vs ds → pairsD ds = some ps → ∃ (as : List Addr) (kvs : List (Key × V)), vs = as.map V.ref ∧ Paired (fun p kv => SqT K H p [kV kv.1, kv.2]) as kvs ∧ RpK K w B H kvs ps
  | [], _, _, .nil, h => by cases h; exact ⟨[], [], rfl, .nil, .nil⟩
  | .tup [k, v] :: r, _, ps, .cons r1 r2, h => by
    have h : ((keyD k).bind fun k => (pairsD r).map ((k, v) :: ·)) = some ps := h
    cases hk : keyD k with
    | none => rw [hk] at h; cases h
    | some key =>
      cases hp : pairsD r with
      | none => rw [hk, hp] at h; cases h
      | some ps' =>
        rw [hk, hp] at h
        cases h
        cases r1 with
        | tup h1 q =>
          obtain ⟨x, y, rfl, q1, q2⟩ := rpa2 q
          have ex := keyD_rp q1 hk
          subst ex
          obtain ⟨as, kvs, rfl, z1, z2⟩ := pairs_rp r2 hp
          exact ⟨_ :: as, (key, y) :: kvs, rfl, .cons h1.sq z1, .cons q2 z2⟩
theorem seqOf_pt {B : AS} {H : Hp} {v : V} {d : D} {ds : List D} (r : Rp K w B H v d) (h : seqOf d = some ds) : ∃ p xs, v = .ref p ∧ (SqL K H p xs ∨ PT K H p xs) ∧ RpA K w B H xs ds := by
  cases r with
  | lst h1 _ r1 => cases h; exact ⟨_, _, rfl, .inl (.inl (.inl h1)), r1⟩
  | scr h1 r1 => cases h; exact ⟨_, _, rfl, .inl h1.sq, r1⟩
  | tup h1 r1 => cases h; exact ⟨_, _, rfl, .inr h1, r1⟩
  | _ => cases h
def dictD : List D → Option D := fn1 fun d => ((seqOf d).bind pairsD).bind fun ps => some (.dK (mergeD [] ps))
theorem rn_dict {tr : TA} {cr : Option (List D)} (ha : RunsA K w tq tr ρ cr) : RunsN K w tq (tCB (rDict3 K) tr) ρ (cr.bind dictD) := fun Γ φ σ H Q d E hc k => by
  cases cr with
  | none => cases hc
  | some as =>
    obtain ⟨a, ea, h⟩ := fn1_ok (show dictD as = some d from hc)
    subst ea
    cases hl : seqOf a with
    | none => rw [hl] at h; cases h
    | some ds =>
      rw [hl, Option.bind_some] at h
      cases hp : pairsD ds with
      | none => rw [hp] at h; cases h
      | some ps =>
        rw [hp] at h
        cases h
        refine ha Γ φ σ H _ [a] E rfl fun xs H1 e1 r1 => ?_
        obtain ⟨x, rfl, r2⟩ := rpa1 r1
        obtain ⟨p, vs, rfl, g1, g2⟩ := seqOf_pt r2 hl
        obtain ⟨as, kvs, rfl, z1, z2⟩ := pairs_rp g2 hp
        refine .mk rfl g1 z1 fun q hq => ?_
        refine k q _ (e1.trans (Xt.new hq)) ⟨[q], fun a ha => by rw [List.mem_singleton.mp ha]; exact (Stp.ex (O := fun _ => False) e1).back q hq, .dK upd_same ?_⟩
        refine ((rpk_merge z2 .nil).anti (B' := fun a => Av Γ ρ φ a ∨ a ∈ [q]) fun a z => z.elim .inl fun z => .inr (by rw [List.mem_singleton.mp z]; exact hq)).nw hq
theorem re_dict {tr : TA} {cr : Option (List D)} (ha : RunsA K w tq tr ρ cr) : RunsE K w tq (tCB (rDict3 K) tr) ρ (cr.bind dictD) := re_of_n (rn_dict ha)
end
end M
end
section
set_option Elab.async false
set_option linter.all false
set_option maxRecDepth 100000
set_option maxHeartbeats 4000000
namespace M
open PySem PySem.Spec PyProof.Rows L2 U
open LamX (TabS)
def bX {α β T : Type} (c : Option (α × T)) (k : α → T → Option β) : Option β := c.bind fun z => k z.1 z.2
def lX {α T : Type} (c : Option α) (t : T) : Option (α × T) := c.map fun d => (d, t)
@[simp] theorem bX_some {α β T : Type} {a : α} {t : T} {k : α → T → Option β} : bX (some (a, t)) k = k a t := rfl
@[simp] theorem lX_some {α T : Type} {a : α} {t : T} : lX (some a) t = some (a, t) := rfl
section
variable {K : PySem.W.Frag} {w : World} {tq : Tb} {io md : Bool} {ρ : List Sl} {te ta tb : TE} {ts us vs : TS} {tt tu : TT} {tr : TA} {N L T : Type} {eN : N → List Sl} {eL : L → List Sl} {e : T → List Sl} {r : R2} {f : D → D → Option D}
theorem yx_lift {t : T} {c : Option D} (h : RunsE K w tq te (e t) c) : RunsX K w tq te (e t) e (lX c t) := rx_lift h
theorem yx_op {cx : Option (D × T)} {cy : T → Option (D × T)} (o : Op2 K w tq r f) (ha : RunsX K w tq ta ρ e cx) (hb : ∀ t, RunsX K w tq tb (e t) e (cy t)) : RunsX K w tq (tOp r ta tb) ρ e (bX cx fun a t => bX (cy t) fun b u => lX (f a b) u) := rx_op o ha hb
theorem yx_un {r : V → Hp → VK → Prop} {f : D → Option D} {cx : Option (D × T)} (o : Op1 K w tq r f) (ha : RunsX K w tq ta ρ e cx) : RunsX K w tq (tUn r ta) ρ e (bX cx fun a t => lX (f a) t) := rx_un o ha
theorem yxa_nil {t : T} : RunsXA K w tq tNil (e t) e (some ([], t)) := rxa_nil
theorem yxa_cons {cx : Option (D × T)} {cr : T → Option (List D × T)} (ha : RunsX K w tq ta ρ e cx) (hr : ∀ t, RunsXA K w tq tr (e t) e (cr t)) : RunsXA K w tq (tCons ta tr) ρ e (bX cx fun a t => bX (cr t) fun r u => some (a :: r, u)) := by
  have h := rxa_cons ha hr
  have e1 : (cx.bind fun z => (cr z.2).map fun y => (z.1 :: y.1, y.2)) = bX cx fun a t => bX (cr t) fun r u => some (a :: r, u) := by
    unfold bX
    cases cx with
    | none => rfl
    | some z => show (cr z.2).map _ = (cr z.2).bind _; cases cr z.2 <;> rfl
  rw [e1] at h
  exact h
theorem yx_cb {cr : Option (List D × T)} {r : List V → Hp → VK → Prop} {f : List D → Option D} (o : OpL K w tq r f) (ha : RunsXA K w tq tr ρ e cr) : RunsX K w tq (tCB r tr) ρ e (bX cr fun as t => lX (f as) t) := rx_cb o ha
theorem yx_tup {cr : Option (List D × T)} (ha : RunsXA K w tq tr ρ e cr) : RunsX K w tq (tTupP tr) ρ e (bX cr fun as t => (szG as).map fun ds => (D.tup ds, t)) := rx_tup ha
theorem yx_lst {cr : Option (List D × T)} (ha : RunsXA K w tq tr ρ e cr) : RunsX K w tq (tLst tr) ρ e (bX cr fun as t => (szG as).map fun ds => (D.lst ds, t)) := rx_lst ha
theorem yxt_lift {t : T} {c : Option Bool} (h : RunsT K w tq tt (e t) c) : RunsXT K w tq tt (e t) e (lX c t) := rxt_lift h
theorem yxt_test {cx : Option (D × T)} (h : RunsX K w tq te ρ e cx) : RunsXT K w tq (tTest te) ρ e (bX cx fun a t => lX (isBl a) t) := rxt_test h
theorem yxt_tru {cx : Option (D × T)} (h : RunsX K w tq te ρ e cx) : RunsXT K w tq (tTru K te) ρ e (bX cx fun a t => lX (tru a) t) := rxt_tru h
theorem yxt_not {ct : Option (Bool × T)} (h : RunsXT K w tq tt ρ e ct) : RunsXT K w tq (tNot tt) ρ e (bX ct fun b t => some (!b, t)) := by
  have h := rxt_not h
  have e1 : (ct.map fun z => (!z.1, z.2)) = bX ct fun b t => some (!b, t) := by cases ct <;> rfl
  rw [e1] at h
  exact h
theorem yxt_and {ct : Option (Bool × T)} {cu : T → Option (Bool × T)} (h : RunsXT K w tq tt ρ e ct) (g : ∀ t, RunsXT K w tq tu (e t) e (cu t)) : RunsXT K w tq (tAnd tt tu) ρ e (bX ct fun b t => if b = true then cu t else some (false, t)) := rxt_and h g
theorem yxt_or {ct : Option (Bool × T)} {cu : T → Option (Bool × T)} (h : RunsXT K w tq tt ρ e ct) (g : ∀ t, RunsXT K w tq tu (e t) e (cu t)) : RunsXT K w tq (tOr tt tu) ρ e (bX ct fun b t => if b = true then some (true, t) else cu t) := rxt_or h g
theorem yx_if {ct : Option (Bool × T)} {ca cb : T → Option (D × T)} (h : RunsXT K w tq tt ρ e ct) (ha : ∀ t, RunsX K w tq ta (e t) e (ca t)) (hb : ∀ t, RunsX K w tq tb (e t) e (cb t)) : RunsX K w tq (tIf tt ta tb) ρ e (bX ct fun b t => if b = true then ca t else cb t) := rx_if h ha hb
theorem yx_join {cx : Option (D × T)} {cy : T → Option (D × T)} (ha : RunsX K w tq ta ρ e cx) (hb : ∀ t, RunsX K w tq tb (e t) e (cy t)) : RunsX K w tq (tM1 (rJoin K) ta tb) ρ e (bX cx fun a t => bX (cy t) fun b u => lX (joinD a b) u) := rx_join ha hb
theorem ys_ifX {ct : Option (Bool × T)} {c1 c2 : T → Option (Fl N L)} (h : RunsXT K w tq tt ρ e ct) (h1 : ∀ t, RunsS K w tq io md ts (e t) eN eL (c1 t)) (h2 : ∀ t, RunsS K w tq io md us (e t) eN eL (c2 t)) : RunsS K w tq io md (tIfS tt ts us) ρ eN eL (bX ct fun b t => if b = true then c1 t else c2 t) := rs_ifX h h1 h2
theorem ys_ifRX {ct : Option (Bool × T)} {c1 c2 : T → Option (Fl N L)} (h : RunsXT K w tq tt ρ e ct) (h1 : ∀ t, RunsS K w tq io md (tSeq ts vs) (e t) eN eL (c1 t)) (h2 : ∀ t, RunsS K w tq io md (tSeq us vs) (e t) eN eL (c2 t)) : RunsS K w tq io md (tSeq (tIfS tt ts us) vs) ρ eN eL (bX ct fun b t => if b = true then c1 t else c2 t) := rs_ifRX h h1 h2
theorem yxi_lift {t : T} {ti : TI} {c : Option (List D)} (h : RunsI K w tq ti (e t) c) : RunsXI K w tq ti (e t) e (lX c t) := rxi_lift h
theorem yxi_rng1 {cr : Option (List D × T)} (h : RunsXA K w tq tr ρ e cr) : RunsXI K w tq (iRng1 tr) ρ e (bX cr fun as t => lX (rg1 as) t) := rxi_rng1 h
theorem yxi_any {cx : Option (D × T)} (h : RunsX K w tq te ρ e cx) : RunsXI K w tq (iAny K te) ρ e (bX cx fun a t => lX (itD a) t) := rxi_any h
theorem ys_forX {S : Type} {ti : TI} {g : TG} {p : Pt} {ci : Option (List D × T)} {eS : S → List Sl} {s0 : T → S} {cb : List D → S → Option (Fl S S)} (hi : RunsXI K w tq ti ρ e ci) (hs : ∀ t, Sub (e t) (eS (s0 t))) (hg : Bnd K w tq g p) (hf : ∀ s, freeL p.slots (eS s) = true)
    (hb : ∀ ls s, RunsS K w tq io md ts (setL p.slots ls (eS s)) eS eS (cb ls s)) : RunsS K w tq io md (tFor ti g ts) ρ eS eL (bX ci fun xs t => forM (fun x s => (un p x).bind fun ls => cb ls s) xs (s0 t)) := rs_forX hi hs hg hf hb
theorem yx_lc {ti : TI} {g : TG} {p : Pt} {ci : Option (List D × T)} {ct : List D → T → Option (Bool × T)} {ce : List D → T → Option (D × T)} {ix : List Nat} (hi : RunsXI K w tq ti ρ e ci) (hg : Bnd K w tq g p) (hw : ∀ t, wipeL (e t) ix = e t) (hf : ∀ t, freeL p.slots (e t) = true) (hx : ∀ i ∈ p.slots, i ∈ ix) (hn : ∀ t, noOw (e t) ix = true)
    (ht : ∀ ls t, RunsXT K w tq tt (setL p.slots ls (e t)) (fun t => setL p.slots ls (e t)) (ct ls t)) (he : ∀ ls t, RunsX K w tq te (setL p.slots ls (e t)) (fun t => setL p.slots ls (e t)) (ce ls t)) :
    RunsX K w tq (tLc ti g tt te ix) ρ e (bX ci fun xs t => (compX (compBX p ct ce) xs t).map fun r => (D.lst r.1, r.2)) := rx_lc hi hg hw hf hx hn ht he
theorem yx_call {i : Nat} {fl : Bool} {st0 : T → D} {put : T → D → T} {cx : Option (List D × T)} {f : List D → Option (D × D)} {E0 : XK} (hi : ∀ t, (e t)[i]? = some (.ow fl (st0 t))) (he : ∀ t d, (e t).set i (.ow fl d) = e (put t d)) (hv : ∃ s, ρ = e s) (ha : RunsXA K w tq tr ρ e cx) :
    RunsX K w tq (tCall (mSpX K w tq f) [] E0 (tCons (tVar i) tr)) ρ e (bX cx fun as t => (f (st0 t :: as)).map fun y => (y.1, put t y.2)) := rx_call hi he ha hv
/-- a call of another def, with steps in its arguments -/
theorem yx_callE {cr : Option (List D × T)} {f : List D → Option D} {E0 : XK} (ha : RunsXA K w tq tr ρ e cr) : RunsX K w tq (tCall (mSp K w tq f) [] E0 tr) ρ e (bX cr fun as t => lX (f as) t) := fun Γ φ σ H Q d t E hc k => by
  cases cr with
  | none => cases hc
  | some z =>
    obtain ⟨as, t1⟩ := z
    have hc : (f as).map (fun d => (d, t1)) = some (d, t) := hc
    cases hf : f as with
    | none => rw [hf] at hc; cases hc
    | some d' =>
      rw [hf] at hc
      cases hc
      refine ha Γ φ σ H _ as t E rfl fun vs H1 φ1 A1 r1 => ?_
      exact ⟨Av Γ (e t) φ1, as, d, A1.er.alA, A1.er.tbl, by rw [List.append_nil]; exact r1, hf, fun v H' ex r => k v H' φ1 (A1.trans (Af.ex A1.er ex)) r⟩
theorem ys_asgX {g : TG} {p : Pt} {cx : Option (D × T)} {k : List D → T → Option (Fl N L)} (he : RunsX K w tq te ρ e cx) (hg : Bnd K w tq g p) (hf : ∀ t, freeL p.slots (e t) = true) (hk : ∀ ls t, RunsS K w tq io md us (setL p.slots ls (e t)) eN eL (k ls t)) :
    RunsS K w tq io md (tSeq (tAsg te g) us) ρ eN eL (bX cx fun x t => (un p x).bind fun ls => k ls t) := rs_asgX he hg hf hk
theorem ys_asgX1 {i : Nat} {cx : Option (D × T)} {k : D → T → Option (Fl N L)} (he : RunsX K w tq te ρ e cx) (hf : ∀ t, free (e t) i = true) (hk : ∀ x t, RunsS K w tq io md us ((e t).set i (.va x)) eN eL (k x t)) : RunsS K w tq io md (tSeq (tAsg te (gName i)) us) ρ eN eL (bX cx k) := rs_asgX1 he hf hk
theorem ys_dropX {cx : Option (D × T)} {k : T → Option (Fl N L)} (he : RunsX K w tq te ρ e cx) (hk : ∀ t, RunsS K w tq io md us (e t) eN eL (k t)) : RunsS K w tq io md (tSeq (tDrop te) us) ρ eN eL (bX cx fun _ t => k t) := rs_dropX he hk
theorem ys_setX {i : Nat} {fl : Bool} {st : T → D} {cx : Option (D × T)} {ck : T → Option D} {k : T → D → Option (Fl N L)} (hi : ∀ t, (e t)[i]? = some (.ow fl (st t))) (he : RunsX K w tq te ρ e cx) (hk : ∀ t, RunsE K w tq ta (e t) (ck t)) (hn : ∀ t d, RunsS K w tq io md us ((e t).set i (.ow fl d)) eN eL (k t d)) :
    RunsS K w tq io md (tSeq (tAsg te (gSub (tVar i) ta rSetU)) us) ρ eN eL (bX cx fun x t => (ck t).bind fun key => (setD (st t) key x).bind fun d => k t d) := rs_setX hi he hk hn
theorem ys_retX {st : T → D} {cx : Option (D × T)} (hs : ∀ t, (e t)[0]? = some (.ow true (st t))) (h : RunsX K w tq te ρ e cx) : RunsS K w tq true false (tRet te) ρ eN eL (bX cx fun d t => some (.rt d (st t))) := by
  have h := rs_retX (eN := eN) (eL := eL) hs h
  have e1 : (cx.map fun z => Fl.rt z.1 (st z.2)) = bX cx fun d t => some (Fl.rt (N := N) (L := L) d (st t)) := by cases cx <;> rfl
  rw [e1] at h
  exact h
theorem ys_parX {i j : Nat} {ca : Option (List D × T)} {k : D → D → T → Option (Fl N L)} (hij : i ≠ j) (ha : RunsXA K w tq tr ρ e ca) (hf : ∀ t, free (e t) i = true) (hf2 : ∀ t, free (e t) j = true)
    (hk : ∀ x y t, RunsS K w tq io md us (((e t).set i (.va x)).set j (.va y)) eN eL (k x y t)) : RunsS K w tq io md (tSeq (tPar i j tr) us) ρ eN eL (bX ca fun as t => fn2 (fun x y => k x y t) as) := rs_parX hij ha hf hf2 hk
section fnk
variable {is : List Nat} {P : List D → Option (Fl N L) → Prop}
theorem ls1 {k : D → Option (Fl N L)} (h : ∀ a, RunsS K w tq io md us (setL is [a] ρ) eN eL (k a)) : ∀ ls, RunsS K w tq io md us (setL is ls ρ) eN eL (fn1 k ls) := fun ls Γ φ σ H Dn fl E hc kk => by
  obtain ⟨a, rfl, h'⟩ := fn1_ok hc
  exact h a Γ φ σ H Dn fl E h' kk
theorem ls2 {k : D → D → Option (Fl N L)} (h : ∀ a b, RunsS K w tq io md us (setL is [a, b] ρ) eN eL (k a b)) : ∀ ls, RunsS K w tq io md us (setL is ls ρ) eN eL (fn2 k ls) := fun ls Γ φ σ H Dn fl E hc kk => by
  obtain ⟨a, b, rfl, h'⟩ := fn2_ok hc
  exact h a b Γ φ σ H Dn fl E h' kk
theorem ls3 {k : D → D → D → Option (Fl N L)} (h : ∀ a b c, RunsS K w tq io md us (setL is [a, b, c] ρ) eN eL (k a b c)) : ∀ ls, RunsS K w tq io md us (setL is ls ρ) eN eL (fn3 k ls) := fun ls Γ φ σ H Dn fl E hc kk => by
  obtain ⟨a, b, c, rfl, h'⟩ := fn3_ok hc
  exact h a b c Γ φ σ H Dn fl E h' kk
theorem ls4 {k : D → D → D → D → Option (Fl N L)} (h : ∀ a b c d, RunsS K w tq io md us (setL is [a, b, c, d] ρ) eN eL (k a b c d)) : ∀ ls, RunsS K w tq io md us (setL is ls ρ) eN eL (fn4 k ls) := fun ls Γ φ σ H Dn fl E hc kk => by
  obtain ⟨a, b, c, d, rfl, h'⟩ := fn4_ok hc
  exact h a b c d Γ φ σ H Dn fl E h' kk
theorem ls5 {k : D → D → D → D → D → Option (Fl N L)} (h : ∀ a b c d f, RunsS K w tq io md us (setL is [a, b, c, d, f] ρ) eN eL (k a b c d f)) : ∀ ls, RunsS K w tq io md us (setL is ls ρ) eN eL (fn5 k ls) := fun ls Γ φ σ H Dn fl E hc kk => by
  obtain ⟨a, b, c, d, f, rfl, h'⟩ := fn5_ok hc
  exact h a b c d f Γ φ σ H Dn fl E h' kk
theorem le1 {k : D → Option D} (h : ∀ a, RunsE K w tq te (setL is [a] ρ) (k a)) : ∀ ls, RunsE K w tq te (setL is ls ρ) (fn1 k ls) := fun ls Γ φ σ H Q d E hc kk => by
  obtain ⟨a, rfl, h'⟩ := fn1_ok hc
  exact h a Γ φ σ H Q d E h' kk
theorem le2 {k : D → D → Option D} (h : ∀ a b, RunsE K w tq te (setL is [a, b] ρ) (k a b)) : ∀ ls, RunsE K w tq te (setL is ls ρ) (fn2 k ls) := fun ls Γ φ σ H Q d E hc kk => by
  obtain ⟨a, b, rfl, h'⟩ := fn2_ok hc
  exact h a b Γ φ σ H Q d E h' kk
theorem le3 {k : D → D → D → Option D} (h : ∀ a b c, RunsE K w tq te (setL is [a, b, c] ρ) (k a b c)) : ∀ ls, RunsE K w tq te (setL is ls ρ) (fn3 k ls) := fun ls Γ φ σ H Q d E hc kk => by
  obtain ⟨a, b, c, rfl, h'⟩ := fn3_ok hc
  exact h a b c Γ φ σ H Q d E h' kk
theorem le4 {k : D → D → D → D → Option D} (h : ∀ a b c d, RunsE K w tq te (setL is [a, b, c, d] ρ) (k a b c d)) : ∀ ls, RunsE K w tq te (setL is ls ρ) (fn4 k ls) := fun ls Γ φ σ H Q d E hc kk => by
  obtain ⟨a, b, c, d', rfl, h'⟩ := fn4_ok hc
  exact h a b c d' Γ φ σ H Q d E h' kk
theorem lt1 {k : D → Option Bool} (h : ∀ a, RunsT K w tq tt (setL is [a] ρ) (k a)) : ∀ ls, RunsT K w tq tt (setL is ls ρ) (fn1 k ls) := fun ls Γ φ σ H Q d E hc kk => by
  obtain ⟨a, rfl, h'⟩ := fn1_ok hc
  exact h a Γ φ σ H Q d E h' kk
theorem lt2 {k : D → D → Option Bool} (h : ∀ a b, RunsT K w tq tt (setL is [a, b] ρ) (k a b)) : ∀ ls, RunsT K w tq tt (setL is ls ρ) (fn2 k ls) := fun ls Γ φ σ H Q d E hc kk => by
  obtain ⟨a, b, rfl, h'⟩ := fn2_ok hc
  exact h a b Γ φ σ H Q d E h' kk
theorem lt3 {k : D → D → D → Option Bool} (h : ∀ a b c, RunsT K w tq tt (setL is [a, b, c] ρ) (k a b c)) : ∀ ls, RunsT K w tq tt (setL is ls ρ) (fn3 k ls) := fun ls Γ φ σ H Q d E hc kk => by
  obtain ⟨a, b, c, rfl, h'⟩ := fn3_ok hc
  exact h a b c Γ φ σ H Q d E h' kk
theorem lt4 {k : D → D → D → D → Option Bool} (h : ∀ a b c d, RunsT K w tq tt (setL is [a, b, c, d] ρ) (k a b c d)) : ∀ ls, RunsT K w tq tt (setL is ls ρ) (fn4 k ls) := fun ls Γ φ σ H Q d E hc kk => by
  obtain ⟨a, b, c, d', rfl, h'⟩ := fn4_ok hc
  exact h a b c d' Γ φ σ H Q d E h' kk
theorem lyes {is : List Nat} : ∀ ls, RunsT K w tq tYes (setL is ls ρ) ((fun _ => some true) ls) := fun ls Γ φ σ H Q d E hc kk => by cases hc; exact kk H (Xt.refl H)
theorem lxyes {is : List Nat} : ∀ ls t, RunsXT K w tq tYes (setL is ls (e t)) (fun t => setL is ls (e t)) ((fun (_ : List D) (t : T) => some (true, t)) ls t) := fun ls t Γ φ σ H Q d t' E hc kk => by cases hc; exact kk H φ (Af.ex E (Xt.refl H))
theorem lx1 {k : D → T → Option (D × T)} (h : ∀ a t, RunsX K w tq te (setL is [a] (e t)) (fun t => setL is [a] (e t)) (k a t)) : ∀ ls t, RunsX K w tq te (setL is ls (e t)) (fun t => setL is ls (e t)) ((fun ls t => fn1 (fun a => k a t) ls) ls t) := fun ls t Γ φ σ H Q d t' E hc kk => by
  obtain ⟨a, rfl, h'⟩ := fn1_ok (show fn1 (fun a => k a t) ls = some (d, t') from hc)
  exact h a t Γ φ σ H Q d t' E h' kk
theorem lx2 {k : D → D → T → Option (D × T)} (h : ∀ a b t, RunsX K w tq te (setL is [a, b] (e t)) (fun t => setL is [a, b] (e t)) (k a b t)) : ∀ ls t, RunsX K w tq te (setL is ls (e t)) (fun t => setL is ls (e t)) ((fun ls t => fn2 (fun a b => k a b t) ls) ls t) := fun ls t Γ φ σ H Q d t' E hc kk => by
  obtain ⟨a, b, rfl, h'⟩ := fn2_ok (show fn2 (fun a b => k a b t) ls = some (d, t') from hc)
  exact h a b t Γ φ σ H Q d t' E h' kk
theorem lxs1 {k : D → T → Option (Fl N L)} (h : ∀ a t, RunsS K w tq io md us (setL is [a] (e t)) eN eL (k a t)) : ∀ ls t, RunsS K w tq io md us (setL is ls (e t)) eN eL ((fun ls t => fn1 (fun a => k a t) ls) ls t) := fun ls t Γ φ σ H Dn fl E hc kk => by
  obtain ⟨a, rfl, h'⟩ := fn1_ok (show fn1 (fun a => k a t) ls = some fl from hc)
  exact h a t Γ φ σ H Dn fl E h' kk
theorem lxs2 {k : D → D → T → Option (Fl N L)} (h : ∀ a b t, RunsS K w tq io md us (setL is [a, b] (e t)) eN eL (k a b t)) : ∀ ls t, RunsS K w tq io md us (setL is ls (e t)) eN eL ((fun ls t => fn2 (fun a b => k a b t) ls) ls t) := fun ls t Γ φ σ H Dn fl E hc kk => by
  obtain ⟨a, b, rfl, h'⟩ := fn2_ok (show fn2 (fun a b => k a b t) ls = some fl from hc)
  exact h a b t Γ φ σ H Dn fl E h' kk
theorem lxs3 {k : D → D → D → T → Option (Fl N L)} (h : ∀ a b c t, RunsS K w tq io md us (setL is [a, b, c] (e t)) eN eL (k a b c t)) : ∀ ls t, RunsS K w tq io md us (setL is ls (e t)) eN eL ((fun ls t => fn3 (fun a b c => k a b c t) ls) ls t) := fun ls t Γ φ σ H Dn fl E hc kk => by
  obtain ⟨a, b, c, rfl, h'⟩ := fn3_ok (show fn3 (fun a b c => k a b c t) ls = some fl from hc)
  exact h a b c t Γ φ σ H Dn fl E h' kk
theorem lxs4 {k : D → D → D → D → T → Option (Fl N L)} (h : ∀ a b c d t, RunsS K w tq io md us (setL is [a, b, c, d] (e t)) eN eL (k a b c d t)) : ∀ ls t, RunsS K w tq io md us (setL is ls (e t)) eN eL ((fun ls t => fn4 (fun a b c d => k a b c d t) ls) ls t) := fun ls t Γ φ σ H Dn fl E hc kk => by
  obtain ⟨a, b, c, d, rfl, h'⟩ := fn4_ok (show fn4 (fun a b c d => k a b c d t) ls = some fl from hc)
  exact h a b c d t Γ φ σ H Dn fl E h' kk
end fnk
structure Mth (K : PySem.W.Frag) (w : World) (r : V → List V → Hp → VK → Prop) (f : D → List D → Option (D × D)) : Prop where
  run : ∀ (B : AS) (H : Hp) (p : Addr) (xs : List V) (ds : List D) (vs : List V) (as : List D) (y d' : D) (Q : VK), H p = some (.lst xs) → RpA K w B H xs ds → RpA K w B H vs as → f (.lst ds) as = some (y, d') →
    (∀ v xs' ds', d' = .lst ds' → RpA K w B H xs' ds' → Rp K w B H v y → Q v (upd H p (.lst xs'))) → r (.ref p) vs H Q
  lst : ∀ d as z, f d as = some z → ∃ ds ds', d = .lst ds ∧ z.2 = .lst ds'
theorem yx_meth {r : V → List V → Hp → VK → Prop} {f : D → List D → Option (D × D)} {i : Nat} {fl : Bool} {d : D} {put : T → D → T} {e1 : T → List Sl} {cr : Option (List D × T)} (o : Mth K w r f) (h1 : ∀ t, (e1 t)[i]? = some (.ow fl d)) (h2 : ∀ t d', (e1 t).set i (.ow fl d') = e (put t d')) (hv : ∃ t, ρ = e1 t) (ha : RunsXA K w tq tr ρ e1 cr) :
    RunsX K w tq (tBM K "list" r (tVar i) tr) ρ e (bX cr fun as t => (f d as).map fun y => (y.1, put t y.2)) := fun Γ φ σ H Q x t' E hc k => by
  cases cr with
  | none => cases hc
  | some z =>
    obtain ⟨as, t⟩ := z
    have hc : (f d as).map (fun y => (y.1, put t y.2)) = some (x, t') := hc
    cases hf : f d as with
    | none => rw [hf] at hc; cases hc
    | some yd =>
      obtain ⟨y, d'⟩ := yd
      rw [hf] at hc
      have hc : (y, put t d') = (x, t') := Option.some.inj hc
      cases hc
      obtain ⟨ds, ds', ed, ed'⟩ := o.lst _ _ _ hf
      subst ed
      have ed' : d' = .lst ds' := ed'
      subst ed'
      obtain ⟨t0, rfl⟩ := hv
      obtain ⟨p, g1, g2, _⟩ := E.ow i fl _ (h1 t0)
      have hl : ∃ xs, H p = some (.lst xs) := by
        generalize φ i = S at g2
        cases g2 with
        | lst h _ => exact ⟨_, h⟩
      obtain ⟨xs0, hl0⟩ := hl
      refine ⟨.ref p, g1, .inl ⟨rfl, xs0, .inl (.inl hl0)⟩, ?_⟩
      refine ha Γ φ σ H _ as t E rfl fun vs H1 φ1 A1 r1 => ?_
      obtain ⟨p', q1, q2, q3, q4⟩ := A1.er.ow i fl _ (h1 t)
      rw [g1] at q1
      cases q1
      generalize hs : φ1 i = S at q2
      cases q2 with
      | @lst xs _ hl1 ra =>
        refine o.run (Av Γ (e1 t) φ1) H1 p xs ds vs as x (.lst ds') Q hl1 ra r1 hf fun v xs' ds2 e2 ra' rv => ?_
        cases e2
        have hO : ∀ a, a = p → Av Γ (e1 t) φ1 a := fun a z => .inr ⟨i, fl, _, h1 t, by rw [hs, z]; exact List.mem_singleton.mpr rfl⟩
        have st : Stp tq (fun a => a = p) H1 (upd H1 p (.lst xs')) := Stp.chgL rfl hl1 (.lst _)
        have A2 : Af K w tq Γ φ1 σ H1 (e1 t) φ1 (upd H1 p (.lst xs')) ((e1 t).set i (.ow fl (.lst ds'))) := by
          refine Af.mut A1.er (h1 t) g1 (by rw [hs]; exact st.mono fun a z => by rw [z]; exact List.mem_singleton.mpr rfl) ?_
          rw [hs]
          exact .lst upd_same (ra'.stp st hO)
        have rv2 := A2.rp rv
        rw [h2 t] at A2 rv2
        exact k v _ φ1 (A1.trans A2) rv2
def appF (d : D) (as : List D) : Option (D × D) := match d, as with
  | .lst xs, [x] => if xs.length < 1000000 then some (.non, .lst (xs ++ [x])) else none
  | _, _ => none
theorem m_app : Mth K w rAppend appF where
  run := fun B H p xs ds vs as y d' Q hl ra rv h k => by
    match as, h with
    | [x], h =>
      have h : (if ds.length < 1000000 then some (D.non, D.lst (ds ++ [x])) else none) = some (y, d') := h
      split at h
      · rename_i hz
        have h := Option.some.inj h
        cases h
        obtain ⟨v, rfl, r1⟩ := rpa1 rv
        exact ⟨p, xs, v, rfl, rfl, hl, by rw [ra.len, sizeLine_eq]; omega, k .non _ _ rfl (ra.snoc r1) .non⟩
      · cases h
  lst := fun d as z h => by
    match d, as, h with
    | .lst xs, [x], h =>
      have h : (if xs.length < 1000000 then some (D.non, D.lst (xs ++ [x])) else none) = some z := h
      split at h
      · have h := Option.some.inj h
        rw [← h]
        exact ⟨xs, _, rfl, rfl⟩
      · cases h
noncomputable def insF (d : D) (as : List D) : Option (D × D) := match d, as with
  | .lst xs, [.int i, y] => gP (xs.length < 1000000 ∧ 0 ≤ i ∧ i < 2 ^ 63) (some (.non, .lst (xs.take i.toNat ++ [y] ++ xs.drop i.toNat)))
  | _, _ => none
theorem m_ins : Mth K w rInsert insF where
  run := fun B H p xs ds vs as y d' Q hl ra rv h k => by
    match as, h with
    | [.int i, x], h =>
      obtain ⟨⟨h1, h2, h3⟩, h⟩ := gP_ok h
      have h := Option.some.inj h
      cases h
      obtain ⟨v, u, rfl, r1, r2⟩ := rpa2 rv
      cases r1
      exact ⟨p, xs, i, u, rfl, rfl, hl, by rw [ra.len, sizeLine_eq]; omega, h2, h3, k .non _ _ rfl (((ra.take i.toNat).app (.cons r2 .nil)).app (ra.drop i.toNat)) .non⟩
  lst := fun d as z h => by
    match d, as, h with
    | .lst xs, [.int i, x], h =>
      obtain ⟨_, h⟩ := gP_ok h
      have h := Option.some.inj h
      rw [← h]
      exact ⟨xs, _, rfl, rfl⟩
def popF (d : D) (as : List D) : Option (D × D) := match d, as with
  | .lst xs, [.int i] => if 0 ≤ i ∧ i < 1000000 then (xs[i.toNat]?).map fun y => (y, .lst (xs.eraseIdx i.toNat)) else none
  | _, _ => none
theorem m_pop : Mth K w rPopAt popF where
  run := fun B H p xs ds vs as y d' Q hl ra rv h k => by
    match as, h with
    | [.int i], h =>
      have h : (if 0 ≤ i ∧ i < 1000000 then (ds[i.toNat]?).map fun y => (y, D.lst (ds.eraseIdx i.toNat)) else none) = some (y, d') := h
      split at h
      · rename_i hz
        cases hy : ds[i.toNat]? with
        | none => rw [hy] at h; cases h
        | some x =>
          rw [hy] at h
          have h := Option.some.inj h
          cases h
          obtain ⟨v, rfl, r1⟩ := rpa1 rv
          cases r1
          obtain ⟨u, hu, ru⟩ := ra.at hy
          have hlt := (List.getElem?_eq_some_iff.mp hu).1
          refine ⟨p, xs, i, i.toNat, u, rfl, rfl, hl, by omega, by omega, ?_, hu, k u _ _ rfl (ra.eraseIdx _) ru⟩
          have : ixN xs.length i = some i.toNat := by unfold ixN; rw [if_pos hz.1, if_pos (by omega)]
          exact (ixN_seq this).1
      · cases h
  lst := fun d as z h => by
    match d, as, h with
    | .lst xs, [.int i], h =>
      have h : (if 0 ≤ i ∧ i < 1000000 then (xs[i.toNat]?).map fun y => (y, D.lst (xs.eraseIdx i.toNat)) else none) = some z := h
      split at h
      · cases hy : xs[i.toNat]? with
        | none => rw [hy] at h; cases h
        | some x =>
          rw [hy] at h
          have h := Option.some.inj h
          rw [← h]
          exact ⟨xs, _, rfl, rfl⟩
      · cases h
def fn0 {α : Type} (f : Option α) : List D → Option α
  | [] => f
  | _ => none
theorem fn0_ok {α : Type} {f : Option α} {ds : List D} {y : α} (h : fn0 f ds = some y) : ds = [] ∧ f = some y := by
  match ds, h with
  | [], h => exact ⟨rfl, h⟩
/-- what a def hands back, by its arguments -/
def fV (c : List D → Option (Fl Unit Empty)) (ds : List D) : Option D := (c ds).map fin
def rtX : Fl D Empty → Option (D × D)
  | .rt d e => some (d, e)
  | .nx n => some (.non, n)
  | .bk l => nomatch l
  | .ct l => nomatch l
def fX (c : D → List D → Option (Fl D Empty)) : List D → Option (D × D)
  | s :: ds => (c s ds).bind rtX
  | [] => none
def fN (c : List D → Option (Fl Empty Empty)) (ds : List D) : Option D := (c ds).map fin
theorem go_val {c : List D → Option (Fl Unit Empty)} {N : List Str} {t : TS} {eL : Empty → List Sl} {eN : Unit → List Sl} {vs : List V} {H : Hp} {Q : VK} {E : XK} (hl : ∀ ds fl, c ds = some fl → ds.length ≤ N.length) (hb : ∀ ds, RunsS K w tq false false t (vas ds N.length) eN eL (c ds))
    (h : mSp K w tq (fV c) vs H Q E) : t { nx := fun _ H' => Q .non H', rt := Q } (start N vs) H :=
  fn_val (c := c) (fun ds d h => by
    have h : (c ds).map fin = some d := h
    cases hc : c ds with
    | none => rw [hc] at h; cases h
    | some fl => exact hl ds fl hc) (fun ds d h => by
    have h : (c ds).map fin = some d := h
    cases hc : c ds with
    | none => rw [hc] at h; cases h
    | some fl =>
      rw [hc] at h
      cases h
      refine ⟨fl, rfl, ?_⟩
      cases fl with
      | nx n => exact .inr ⟨⟨n, rfl⟩, rfl⟩
      | rt d e => exact .inl ⟨e, rfl⟩
      | bk l => cases l
      | ct l => cases l) (fun ds d _ => hb ds) h
theorem go_new {c : List D → Option (Fl Empty Empty)} {N : List Str} {t : TS} {eL : Empty → List Sl} {eN : Empty → List Sl} {vs : List V} {H : Hp} {Q : VK} {E : XK} (hl : ∀ ds fl, c ds = some fl → ds.length ≤ N.length) (hb : ∀ ds, RunsS K w tq false true t (vas ds N.length) eN eL (c ds))
    (h : mSpN K w tq (fN c) vs H Q E) : t { nx := fun _ H' => Q .non H', rt := Q } (start N vs) H :=
  fn_new (c := c) (fun ds d h => by
    have h : (c ds).map fin = some d := h
    cases hc : c ds with
    | none => rw [hc] at h; cases h
    | some fl => exact hl ds fl hc) (fun ds d h => by
    have h : (c ds).map fin = some d := h
    cases hc : c ds with
    | none => rw [hc] at h; cases h
    | some fl =>
      rw [hc] at h
      cases h
      cases fl with
      | nx n => cases n
      | rt d e => exact ⟨e, rfl⟩
      | bk l => cases l
      | ct l => cases l) (fun ds d _ => hb ds) h
theorem go_x {c : D → List D → Option (Fl D Empty)} {N : List Str} {t : TS} {eL : Empty → List Sl} {eN : D → List Sl} {vs : List V} {H : Hp} {Q : VK} {E : XK} (hl : ∀ s ds fl, c s ds = some fl → ds.length + 1 ≤ N.length) (hN : ∀ n, (eN n)[0]? = some (.ow true n))
    (hb : ∀ s ds, RunsS K w tq true false t (vasX s ds N.length) eN eL (c s ds)) (h : mSpX K w tq (fX c) vs H Q E) : t { nx := fun _ H' => Q .non H', rt := Q } (start N vs) H :=
  fn_x (st := id) (c := c) (fun s ds y h => by
    have h : (c s ds).bind rtX = some y := h
    cases hc : c s ds with
    | none => rw [hc] at h; cases h
    | some fl => exact hl s ds fl hc) hN (fun s ds d s' h => by
    have h : (c s ds).bind rtX = some (d, s') := h
    cases hc : c s ds with
    | none => rw [hc] at h; cases h
    | some fl =>
      rw [hc] at h
      refine ⟨fl, rfl, ?_⟩
      cases fl with
      | nx n => cases h; exact .inr ⟨_, rfl, rfl, rfl⟩
      | rt d e => cases h; exact .inl rfl
      | bk l => cases l
      | ct l => cases l) (fun s ds y _ => hb s ds) h
section
variable {n : Nat}
theorem la0 {k : Option (Fl N L)} (h : RunsS K w tq io md us (vas [] n) eN eL k) : ∀ ls, RunsS K w tq io md us (vas ls n) eN eL (fn0 k ls) := fun ls Γ φ σ H Dn fl E hc kk => by
  obtain ⟨rfl, h'⟩ := fn0_ok hc
  exact h Γ φ σ H Dn fl E h' kk
theorem la1 {k : D → Option (Fl N L)} (h : ∀ a, RunsS K w tq io md us (vas [a] n) eN eL (k a)) : ∀ ls, RunsS K w tq io md us (vas ls n) eN eL (fn1 k ls) := fun ls Γ φ σ H Dn fl E hc kk => by
  obtain ⟨a, rfl, h'⟩ := fn1_ok hc
  exact h a Γ φ σ H Dn fl E h' kk
theorem la2 {k : D → D → Option (Fl N L)} (h : ∀ a b, RunsS K w tq io md us (vas [a, b] n) eN eL (k a b)) : ∀ ls, RunsS K w tq io md us (vas ls n) eN eL (fn2 k ls) := fun ls Γ φ σ H Dn fl E hc kk => by
  obtain ⟨a, b, rfl, h'⟩ := fn2_ok hc
  exact h a b Γ φ σ H Dn fl E h' kk
theorem la3 {k : D → D → D → Option (Fl N L)} (h : ∀ a b c, RunsS K w tq io md us (vas [a, b, c] n) eN eL (k a b c)) : ∀ ls, RunsS K w tq io md us (vas ls n) eN eL (fn3 k ls) := fun ls Γ φ σ H Dn fl E hc kk => by
  obtain ⟨a, b, c, rfl, h'⟩ := fn3_ok hc
  exact h a b c Γ φ σ H Dn fl E h' kk
theorem la4 {k : D → D → D → D → Option (Fl N L)} (h : ∀ a b c d, RunsS K w tq io md us (vas [a, b, c, d] n) eN eL (k a b c d)) : ∀ ls, RunsS K w tq io md us (vas ls n) eN eL (fn4 k ls) := fun ls Γ φ σ H Dn fl E hc kk => by
  obtain ⟨a, b, c, d, rfl, h'⟩ := fn4_ok hc
  exact h a b c d Γ φ σ H Dn fl E h' kk
theorem la5 {k : D → D → D → D → D → Option (Fl N L)} (h : ∀ a b c d e, RunsS K w tq io md us (vas [a, b, c, d, e] n) eN eL (k a b c d e)) : ∀ ls, RunsS K w tq io md us (vas ls n) eN eL (fn5 k ls) := fun ls Γ φ σ H Dn fl E hc kk => by
  obtain ⟨a, b, c, d, e, rfl, h'⟩ := fn5_ok hc
  exact h a b c d e Γ φ σ H Dn fl E h' kk
theorem lb0 {k : D → Option (Fl N L)} (h : ∀ s, RunsS K w tq io md us (vasX s [] n) eN eL (k s)) : ∀ s ls, RunsS K w tq io md us (vasX s ls n) eN eL ((fun s => fn0 (k s)) s ls) := fun s ls Γ φ σ H Dn fl E hc kk => by
  obtain ⟨rfl, h'⟩ := fn0_ok (show fn0 (k s) ls = some fl from hc)
  exact h s Γ φ σ H Dn fl E h' kk
theorem lb1 {k : D → D → Option (Fl N L)} (h : ∀ s a, RunsS K w tq io md us (vasX s [a] n) eN eL (k s a)) : ∀ s ls, RunsS K w tq io md us (vasX s ls n) eN eL ((fun s => fn1 (k s)) s ls) := fun s ls Γ φ σ H Dn fl E hc kk => by
  obtain ⟨a, rfl, h'⟩ := fn1_ok (show fn1 (k s) ls = some fl from hc)
  exact h s a Γ φ σ H Dn fl E h' kk
theorem lb2 {k : D → D → D → Option (Fl N L)} (h : ∀ s a b, RunsS K w tq io md us (vasX s [a, b] n) eN eL (k s a b)) : ∀ s ls, RunsS K w tq io md us (vasX s ls n) eN eL ((fun s => fn2 (k s)) s ls) := fun s ls Γ φ σ H Dn fl E hc kk => by
  obtain ⟨a, b, rfl, h'⟩ := fn2_ok (show fn2 (k s) ls = some fl from hc)
  exact h s a b Γ φ σ H Dn fl E h' kk
theorem lb3 {k : D → D → D → D → Option (Fl N L)} (h : ∀ s a b c, RunsS K w tq io md us (vasX s [a, b, c] n) eN eL (k s a b c)) : ∀ s ls, RunsS K w tq io md us (vasX s ls n) eN eL ((fun s => fn3 (k s)) s ls) := fun s ls Γ φ σ H Dn fl E hc kk => by
  obtain ⟨a, b, c, rfl, h'⟩ := fn3_ok (show fn3 (k s) ls = some fl from hc)
  exact h s a b c Γ φ σ H Dn fl E h' kk
end
end
end M
end
section
set_option Elab.async false
set_option linter.all false
set_option maxRecDepth 100000
set_option maxHeartbeats 4000000
namespace M
open PySem PySem.Spec PyProof.Rows L2 U
open LamX (TabS)
theorem sub_nil : Sub [] [] := trivial
theorem sub_cons {a b : Sl} {r s : List Sl} (h : SubS a b) (g : Sub r s) : Sub (a :: r) (b :: s) := ⟨h, g⟩
theorem ss_no {a : Sl} : SubS a .no := by cases a <;> trivial
theorem ss_va {d : D} : SubS (.va d) (.va d) := rfl
theorem ss_fr {f : Bool} {d : D} : SubS (.ow f d) (.va d) := .inl rfl
theorem ss_dp {f : Bool} {d : D} : SubS (.ow f d) (.va (dpv d)) := .inr rfl
theorem ss_ow {f : Bool} {d : D} : SubS (.ow f d) (.ow f d) := ⟨rfl, rfl⟩
section
variable {L NN : Type} {ds : List D} {n : Nat}
theorem len_v0 {k : Option (Fl NN L)} {fl : Fl NN L} (h : fn0 k ds = some fl) : ds.length ≤ n := by obtain ⟨rfl, _⟩ := fn0_ok h; exact Nat.zero_le _
theorem len_v1 {k : D → Option (Fl NN L)} {fl : Fl NN L} (h : fn1 k ds = some fl) (hn : 1 ≤ n := by decide) : ds.length ≤ n := by obtain ⟨a, rfl, _⟩ := fn1_ok h; exact hn
theorem len_v2 {k : D → D → Option (Fl NN L)} {fl : Fl NN L} (h : fn2 k ds = some fl) (hn : 2 ≤ n := by decide) : ds.length ≤ n := by obtain ⟨a, b, rfl, _⟩ := fn2_ok h; exact hn
theorem len_v3 {k : D → D → D → Option (Fl NN L)} {fl : Fl NN L} (h : fn3 k ds = some fl) (hn : 3 ≤ n := by decide) : ds.length ≤ n := by obtain ⟨a, b, c, rfl, _⟩ := fn3_ok h; exact hn
theorem len_v4 {k : D → D → D → D → Option (Fl NN L)} {fl : Fl NN L} (h : fn4 k ds = some fl) (hn : 4 ≤ n := by decide) : ds.length ≤ n := by obtain ⟨a, b, c, d, rfl, _⟩ := fn4_ok h; exact hn
theorem len_v5 {k : D → D → D → D → D → Option (Fl NN L)} {fl : Fl NN L} (h : fn5 k ds = some fl) (hn : 5 ≤ n := by decide) : ds.length ≤ n := by obtain ⟨a, b, c, d, e, rfl, _⟩ := fn5_ok h; exact hn
theorem len_x0 {k : Option (Fl NN L)} {fl : Fl NN L} (h : fn0 k ds = some fl) (hn : 1 ≤ n := by decide) : ds.length + 1 ≤ n := by obtain ⟨rfl, _⟩ := fn0_ok h; exact hn
theorem len_x1 {k : D → Option (Fl NN L)} {fl : Fl NN L} (h : fn1 k ds = some fl) (hn : 2 ≤ n := by decide) : ds.length + 1 ≤ n := by obtain ⟨a, rfl, _⟩ := fn1_ok h; exact hn
theorem len_x2 {k : D → D → Option (Fl NN L)} {fl : Fl NN L} (h : fn2 k ds = some fl) (hn : 3 ≤ n := by decide) : ds.length + 1 ≤ n := by obtain ⟨a, b, rfl, _⟩ := fn2_ok h; exact hn
theorem len_x3 {k : D → D → D → Option (Fl NN L)} {fl : Fl NN L} (h : fn3 k ds = some fl) (hn : 4 ≤ n := by decide) : ds.length + 1 ≤ n := by obtain ⟨a, b, c, rfl, _⟩ := fn3_ok h; exact hn
end
section
variable {K : PySem.W.Frag} {w : World} {tq : Tb} {vs : List V} {H : Hp} {Q : VK} {E : XK}
theorem lv_of {c : List D → Option (Fl Unit Empty)} {n : Nat} (hc : ∀ ds fl, c ds = some fl → ds.length = n) (h : mSp K w tq (fV c) vs H Q E) : vs.length = n := by
  obtain ⟨F, ds, d, _, _, r, hf, _⟩ := h
  have hf : (c ds).map fin = some d := hf
  cases e : c ds with
  | none => rw [e] at hf; cases hf
  | some fl => rw [r.len]; exact hc ds fl e
theorem ln_of {c : List D → Option (Fl Empty Empty)} {n : Nat} (hc : ∀ ds fl, c ds = some fl → ds.length = n) (h : mSpN K w tq (fN c) vs H Q E) : vs.length = n := by
  obtain ⟨F, ds, d, _, _, r, hf, _⟩ := h
  have hf : (c ds).map fin = some d := hf
  cases e : c ds with
  | none => rw [e] at hf; cases hf
  | some fl => rw [r.len]; exact hc ds fl e
theorem lx_of {c : D → List D → Option (Fl D Empty)} {n : Nat} (hc : ∀ s ds fl, c s ds = some fl → ds.length + 1 = n) (h : mSpX K w tq (fX c) vs H Q E) : vs.length = n := by
  obtain ⟨F, p, vs', S, s, ds, d, s', rfl, _, _, _, _, r, hf, _⟩ := h
  have hf : (c s ds).bind rtX = some (d, s') := hf
  cases e : c s ds with
  | none => rw [e] at hf; cases hf
  | some fl => rw [List.length_cons, r.len]; exact hc s ds fl e
theorem lv_0 {c : Option (Fl Unit Empty)} (h : mSp K w tq (fV (fn0 c)) vs H Q E) : vs.length = 0 := lv_of (fun ds fl e => by obtain ⟨rfl, _⟩ := fn0_ok e; rfl) h
theorem lv_1 {c : D → Option (Fl Unit Empty)} (h : mSp K w tq (fV (fn1 c)) vs H Q E) : vs.length = 1 := lv_of (fun ds fl e => by obtain ⟨a, rfl, _⟩ := fn1_ok e; rfl) h
theorem lv_2 {c : D → D → Option (Fl Unit Empty)} (h : mSp K w tq (fV (fn2 c)) vs H Q E) : vs.length = 2 := lv_of (fun ds fl e => by obtain ⟨a, b, rfl, _⟩ := fn2_ok e; rfl) h
theorem lv_3 {c : D → D → D → Option (Fl Unit Empty)} (h : mSp K w tq (fV (fn3 c)) vs H Q E) : vs.length = 3 := lv_of (fun ds fl e => by obtain ⟨a, b, d, rfl, _⟩ := fn3_ok e; rfl) h
theorem lv_4 {c : D → D → D → D → Option (Fl Unit Empty)} (h : mSp K w tq (fV (fn4 c)) vs H Q E) : vs.length = 4 := lv_of (fun ds fl e => by obtain ⟨a, b, d, e', rfl, _⟩ := fn4_ok e; rfl) h
theorem lv_5 {c : D → D → D → D → D → Option (Fl Unit Empty)} (h : mSp K w tq (fV (fn5 c)) vs H Q E) : vs.length = 5 := lv_of (fun ds fl e => by obtain ⟨a, b, d, e', f, rfl, _⟩ := fn5_ok e; rfl) h
theorem ln_0 {c : Option (Fl Empty Empty)} (h : mSpN K w tq (fN (fn0 c)) vs H Q E) : vs.length = 0 := ln_of (fun ds fl e => by obtain ⟨rfl, _⟩ := fn0_ok e; rfl) h
theorem ln_1 {c : D → Option (Fl Empty Empty)} (h : mSpN K w tq (fN (fn1 c)) vs H Q E) : vs.length = 1 := ln_of (fun ds fl e => by obtain ⟨a, rfl, _⟩ := fn1_ok e; rfl) h
theorem ln_2 {c : D → D → Option (Fl Empty Empty)} (h : mSpN K w tq (fN (fn2 c)) vs H Q E) : vs.length = 2 := ln_of (fun ds fl e => by obtain ⟨a, b, rfl, _⟩ := fn2_ok e; rfl) h
theorem ln_3 {c : D → D → D → Option (Fl Empty Empty)} (h : mSpN K w tq (fN (fn3 c)) vs H Q E) : vs.length = 3 := ln_of (fun ds fl e => by obtain ⟨a, b, d, rfl, _⟩ := fn3_ok e; rfl) h
theorem ln_4 {c : D → D → D → D → Option (Fl Empty Empty)} (h : mSpN K w tq (fN (fn4 c)) vs H Q E) : vs.length = 4 := ln_of (fun ds fl e => by obtain ⟨a, b, d, e', rfl, _⟩ := fn4_ok e; rfl) h
theorem lx_0 {c : D → Option (Fl D Empty)} (h : mSpX K w tq (fX (fun s => fn0 (c s))) vs H Q E) : vs.length = 1 := lx_of (fun s ds fl e => by obtain ⟨rfl, _⟩ := fn0_ok e; rfl) h
theorem lx_1 {c : D → D → Option (Fl D Empty)} (h : mSpX K w tq (fX (fun s => fn1 (c s))) vs H Q E) : vs.length = 2 := lx_of (fun s ds fl e => by obtain ⟨a, rfl, _⟩ := fn1_ok e; rfl) h
theorem lx_2 {c : D → D → D → Option (Fl D Empty)} (h : mSpX K w tq (fX (fun s => fn2 (c s))) vs H Q E) : vs.length = 3 := lx_of (fun s ds fl e => by obtain ⟨a, b, rfl, _⟩ := fn2_ok e; rfl) h
theorem lx_3 {c : D → D → D → D → Option (Fl D Empty)} (h : mSpX K w tq (fX (fun s => fn3 (c s))) vs H Q E) : vs.length = 4 := lx_of (fun s ds fl e => by obtain ⟨a, b, d, rfl, _⟩ := fn3_ok e; rfl) h
end
abbrev rDivW : R2 := rI CDivW fun i j => .int (i / j)
noncomputable def divW : D → D → Option D
  | .int a, .int b => gP (CDivW a b) (some (.int (a / b)))
  | _, _ => none
theorem o_divW {K : PySem.W.Frag} {w : World} {tq : Tb} : Op2 K w tq rDivW divW := fun B H x y a b d Q hB ra rb h k => by
  cases ra <;> cases rb <;> try (cases h)
  obtain ⟨c, e⟩ := gP_ok h
  cases e
  exact ⟨_, _, rfl, rfl, c, k _ H (Xt.refl H) (.int _)⟩
theorem op_divW' {X : Cx} : OpR X (binaryOp .FloorDiv) rDivW := op_fdivW
theorem hu65 {k : Nat} {A : Around} (r : Room k A) : A.units + 65 < cLine := by have := r.un; omega
end M
end
section
set_option Elab.async false
set_option linter.all false
set_option maxRecDepth 100000
set_option maxHeartbeats 4000000
namespace M
open PySem PySem.Spec PyProof.Rows L2 U
variable {K : PySem.W.Frag} {w : World} {tq : Tb} {io md : Bool} {ρ : List Sl} {te ta tb : TE} {ts : TS} {N L : Type} {eN : N → List Sl} {eL : L → List Sl} {c ca cb cc : Option D}
theorem rs_none : RunsS K w tq io md ts ρ eN eL (none : Option (Fl N L)) := fun _ _ _ _ _ _ _ hc _ => nomatch hc
def blsD : List D → Option (List Bool)
  | [] => some []
  | .bl b :: ds => (blsD ds).map (b :: ·)
  | _ :: _ => none
theorem bls_ok {B : AS} {H : Hp} : ∀ {ds : List D} {vs : List V} {bs : List Bool}, RpA K w B H vs ds → blsD ds = some bs → vs = bs.map V.bl
  | [], vs, bs, r, h => by
    cases h
    cases r
    rfl
  | .bl b :: ds, vs, bs, r, h => by
    have h : (blsD ds).map (b :: ·) = some bs := h
    cases h2 : blsD ds with
    | none => rw [h2] at h; cases h
    | some cs =>
      rw [h2] at h
      cases h
      cases r with
      | cons r1 r2 =>
        cases r1 with
        | bl _ => rw [bls_ok r2 h2]; rfl
  | .non :: ds, vs, bs, r, h => nomatch h
  | .int _ :: ds, vs, bs, r, h => nomatch h
  | .str _ :: ds, vs, bs, r, h => nomatch h
  | .tup _ :: ds, vs, bs, r, h => nomatch h
  | .lst _ :: ds, vs, bs, r, h => nomatch h
  | .dK _ :: ds, vs, bs, r, h => nomatch h
  | .scr _ :: ds, vs, bs, r, h => nomatch h
  | .dc _ :: ds, vs, bs, r, h => nomatch h
def allD : List D → Option D
  | [.lst ds] => (blsD ds).map fun bs => .bl (bs.all id)
  | _ => none
def anyD : List D → Option D
  | [.lst ds] => (blsD ds).map fun bs => .bl (bs.any id)
  | _ => none
theorem allD_eq {as : List D} {d : D} (h : allD as = some d) : ∃ ds bs, as = [.lst ds] ∧ blsD ds = some bs ∧ d = .bl (bs.all id) := by
  unfold allD at h
  split at h
  · rename_i ds
    cases h2 : blsD ds with
    | none => rw [h2] at h; cases h
    | some bs => rw [h2] at h; cases h; exact ⟨ds, bs, rfl, h2, rfl⟩
  · cases h
theorem anyD_eq {as : List D} {d : D} (h : anyD as = some d) : ∃ ds bs, as = [.lst ds] ∧ blsD ds = some bs ∧ d = .bl (bs.any id) := by
  unfold anyD at h
  split at h
  · rename_i ds
    cases h2 : blsD ds with
    | none => rw [h2] at h; cases h
    | some bs => rw [h2] at h; cases h; exact ⟨ds, bs, rfl, h2, rfl⟩
  · cases h
theorem o_all : OpL K w tq (rAll K) allD := fun B H xs as d Q hB r h k => by
  obtain ⟨ds, bs, rfl, h2, rfl⟩ := allD_eq h
  obtain ⟨x, rfl, r1⟩ := rpa1 r
  cases r1 with
  | lst h1 n1 r1 => exact ⟨_, bs, rfl, by rw [← bls_ok r1 h2]; exact .inl (.inl h1), k _ H (Xt.refl H) (.bl _)⟩
theorem o_any : OpL K w tq (rAny K) anyD := fun B H xs as d Q hB r h k => by
  obtain ⟨ds, bs, rfl, h2, rfl⟩ := anyD_eq h
  obtain ⟨x, rfl, r1⟩ := rpa1 r
  cases r1 with
  | lst h1 n1 r1 => exact ⟨_, bs, rfl, by rw [← bls_ok r1 h2]; exact .inl (.inl h1), k _ H (Xt.refl H) (.bl _)⟩
open Classical in
noncomputable def lenSetD : D → Option D
  | .tup ds => (strsD ds).bind fun xs => if xs.Nodup ∧ xs.length ≤ 100 then some (.int (xs.length : Nat)) else none
  | _ => none
theorem re_lenSetD (h : RunsE K w tq te ρ c) : RunsE K w tq (tLenSetD K te) ρ (c.bind lenSetD) := fun Γ φ σ H Q d E hc k => by
  cases c with
  | none => cases hc
  | some x =>
    have hc : lenSetD x = some d := hc
    cases x with
    | tup ds =>
      have hc : ((strsD ds).bind fun xs => if xs.Nodup ∧ xs.length ≤ 100 then some (D.int (xs.length : Nat)) else none) = some d := hc
      cases h2 : strsD ds with
      | none => rw [h2] at hc; cases hc
      | some xs =>
        rw [h2, Option.bind_some] at hc
        split at hc
        · rename_i hx
          cases hc
          refine h Γ φ σ H _ _ E rfl fun v H' ex r => ?_
          cases r with
          | tup h1 r1 => exact ⟨_, xs, rfl, by rw [← strs_rp r1 h2]; exact h1.sq, hx.1, hx.2, k _ H' ex (.int _)⟩
        · cases hc
    | _ => cases hc
end M
end
section
set_option Elab.async false
set_option linter.all false
set_option maxRecDepth 100000
set_option maxHeartbeats 4000000
namespace U
open PySem PySem.Spec PyProof.Rows L2
open PySem.W (KeyPure)
open LamX
/-- values with their keys, in the order of the keys, stably; the table of the maker's code object may grow -/
def SortP (K : PySem.W.Frag) (Pt : Addr) (q : Str) (i : Nat) (Q : VK) (v : V) (H1 : Hp) : Prop := ∃ (l : Addr) (zs : List (V × Int)), v = .ref l ∧ SqL K H1 l (zs.map (·.1)) ∧ zs.length ≤ 1000 ∧ (∀ z ∈ zs, ∃ t ys, z.1 = .ref t ∧ SqT K H1 t ys ∧ ys[i]? = some (.int z.2)) ∧ TabS H1 Pt q ∧
  ∀ H2 p, Grows Pt q H1 H2 → TabS H2 Pt q → H2 p = none → Q (.ref p) (upd H2 p (.lst ((zs.mergeSort fun a b => decide (a.2 ≤ b.2)).map (·.1))))
def tSortP (K : PySem.W.Frag) (Pt : Addr) (q : Str) (i : Nat) (te : TE) : TE := fun σ H Q => te σ H (SortP K Pt q i Q)
theorem each_pairs : ∀ {zs : List (V × Int)} {us : List Value}, Vals (zs.map (·.1)) us → PySem.W.EachIs (fun (u : Value) (x : V × Int) => RelV x.1 u) us zs
  | [], _, h => by cases h; exact .nil
  | z :: zs, _, h => by
    cases h with
    | cons r t => exact .cons r (each_pairs t)
theorem pairs_each : ∀ {zs : List (V × Int)} {us : List Value}, PySem.W.EachIs (fun (u : Value) (x : V × Int) => RelV x.1 u) us zs → Vals (zs.map (·.1)) us
  | _, _, .nil => .nil
  | _, _, .cons r t => .cons r (pairs_each t)
section
variable {X : Cx}
theorem pe_sortP {c Pt : Addr} {q : Str} {e : Expr} {te : TE} {x : Str} {params : Arguments} {scope : Scope} {i j : Nat} {p p1 p2 p3 lp kp pos : Pos} (hr : Room 3 X.A) (hg : Gl X "sorted") (hm : X.mg "sorted" = none)
    (TB : LamX.TabB X.base X.mg c Pt) (hcode : X.env.code = .ref c) (hq : q = X.env.qual ++ "<lambda>") (he : PE X e te) (hi2 : i < 1000)
    (hdef : defaultsOf params X.env = ([], [])) (hco : scope.isCoroutine = false) (hgen : scope.isGenerator = false) (hk : scope.kind = .function) (hown : ∀ y ∈ scope.names, y.2 ≠ .cell ∧ y.2 ≠ .free) (hx : scope.names.lookup x = some .local) (hd : (x == ("__debug__" : Str)) = false)
    (hbind : ∀ (v pm ctv : Value) (c' : Addr), bindArgs (PySem.W.kla_fn "<lambda>" (X.env.qual ++ "<lambda>") params (lamBody x i j p1 p2 p3) scope [] pm (.ref c') ctv) ⟨[v], []⟩ = pure [(x, v)])
    (hclo : cloFrom X.env.cells scope.names [] = [])
    (ha : backTo pos (starEach [e] X.env) = (false, eval e X.env) :: backTo pos (starEach [] X.env) := by rfl) (hpl : (backTo pos (starEach [e] X.env)).any (·.1) = false := by rfl) (hs : starEach [e] X.env = (false, eval e X.env) :: starEach [] X.env := by rfl) :
    PE X (.Call (.Name "sorted" p) [e] [⟨some "key", .Lambda params (lamBody x i j p1 p2 p3) scope lp, kp⟩] pos) (tSortP X.K Pt q i te) := by
  subst hq
  refine ⟨fun pins s σ H Q I h => ?_⟩
  refine wpAny_Call_Name_kw (ld_blt I hg hm boot_sorted ?_ (by decide) (by decide))
  have pa : PA X [e] (tCons te tNil) := pa_cons he pa_nil hs
  refine PyProof.Rows.callWith_kw (thn (pa.run pos pins s σ H (One (SortP X.K Pt (X.env.qual ++ "<lambda>") i Q)) I (show te σ H (SortP X.K Pt (X.env.qual ++ "<lambda>") i Q) from h)) fun us s1 ⟨vs, H1, I1, r1, q1⟩ => ?_) ha hpl rfl rfl
  obtain ⟨v, rfl⟩ : ∃ v, vs = [v] := by
    match vs, q1 with
    | [v], _ => exact ⟨v, rfl⟩
  obtain ⟨l, zs, rfl, hl, few, hx1, hT1, qq⟩ : SortP X.K Pt (X.env.qual ++ "<lambda>") i Q v H1 := q1
  obtain ⟨u, rfl, ru⟩ := vals1 r1
  cases ru
  show wpAny _ _ (evalAll ((do let v ← eval (.Lambda params (lamBody x i j p1 p2 p3) scope lp) X.env; standAt pos; pure v) :: (backToKw pos (keywordEach [] X.env)).map (·.2))) _ _ s1
  refine wpAny_evalAll_cons (wpAny_bind (lam_make3 I1 TB hcode hT1 hdef (fun y hy e => absurd e (hown y hy).2) fun f c' pm ctv H2 s2 I2 gr hT2 hf nf hc => wpAny_bind (wpAny_standAt (wpAny_pure (wpAny_evalAll_nil ?_)))))
  show wpAny _ _ (call (.builtin "sorted") [Value.ref l] [(Str.ofString "key", Value.ref f)]) _ _ s2
  rw [hclo] at hf
  have ext := gr.ext
  obtain ⟨its, rv, pl, hz⟩ := I2.list (extN_l ext hl)
  obtain ⟨⟨oc, cvs, ct, hoc, hdc, hvc⟩, _, _⟩ := (show ObjOk X.prog X.w H2 s2.heap c' (CodeO c' (X.env.qual ++ "<lambda>")) from I2.hok c' _ hc)
  have r1' := hr.in1
  have r2' := r1'.in1
  have lim : s2.heap.NoLimit := I2.nolimit
  refine PySem.W.sorted_key_data (b := false) (R := fun (u : Value) (x : V × Int) => RelV x.1 u) (fun x : V × Int => PyData.int x.2) pl.isList (each_pairs rv) (PySem.W.AllAlike.of fun _ _ => by simp [PySem.W.alike]) (PySem.W.Sortable.others (enc := fun x : V × Int => PyData.int x.2) fun b => ⟨(by intro z; cases z), (by intro ys z; cases z)⟩) (by simpa using hz)
    (fun x _ => ?_) (PyProof.Rows.ksk_s1 _ _) (fun _ => PyProof.Rows.ksk_l1 _ _) (fun _ => PyProof.Rows.ksk_t1 _ _) (fun v y ru hy h tk kp => ?_) fun out cc h' tk kp hn hD hlen eo => ?_
  · have := hr.units
    show X.A.units + 2 + 0 < cLine
    omega
  · obtain ⟨t, ys, ey, ht, hi⟩ := hx1 y hy
    have ru : RelV y.1 v := ru
    rw [ey] at ru
    cases ru
    obtain ⟨tis, rt, tp, _⟩ := I2.tuple (extN_t ext ht)
    obtain ⟨w', hw, rw'⟩ := rt.get hi
    obtain ⟨tk2, rfl⟩ := rw'
    exact call_item (s := { s2 with heap := h, toks := tk }) (kp _ _ hf) ⟨c', oc, cvs, ct, rfl, kp _ _ hoc, hdc, hvc⟩ r2'.depth (lim.keeps kp) hco hgen hk (fun y hy => (hown y hy).1) hx hd (fun v => hbind v pm ctv c') (tp.keeps kp) (by simpa using hw) hi2
  · rw [PySem.W.dataLe_int] at eo
    have rv2 := pairs_each eo
    have len : ((zs.mergeSort fun a b => decide (a.2 ≤ b.2)).map (·.1)).length ≤ sizeLine := by rw [List.length_map, List.length_mergeSort]; simpa using hz
    have hn2 : H2 (s2.heap.objs.size + 1) = none := I2.hok.fresh (Nat.le_succ _)
    exact ⟨.ref (s2.heap.objs.size + 1), upd H2 (s2.heap.objs.size + 1) (.lst _), I2.laid (t' := tk) kp (Nat.le_succ _) (show ObjOk X.prog X.w _ h' _ (.lst _) from ⟨len, out, cc, rv2, hD⟩), rfl, qq H2 _ gr hT2 hn2⟩
end
end U
end
section
set_option Elab.async false
set_option linter.all false
set_option maxRecDepth 100000
set_option maxHeartbeats 4000000
namespace M
open PySem PySem.Spec PyProof.Rows L2 U
open LamX (TabS)
variable {K : PySem.W.Frag} {w : World} {tq : Tb} {ρ : List Sl} {te : TE} {c : Option D}
theorem xt_grows {H H' : Hp} {Pt : Addr} {q : Str} (g : Grows Pt q H H') (t' : TabS H' Pt q) (ht : ∀ p ∈ tq, p.1 = Pt → p.2 = q) : Xt tq H H' := by
  have ext := g.ext
  refine ⟨fun a o h n => ext a o h fun ps z => n ps z, fun T p hp => ?_, fun a h => ?_⟩
  · by_cases e : p.1 = Pt
    · rw [e, ht p hp e]; exact t'
    · obtain ⟨ps, h1, h2, h3⟩ := T p hp
      refine ⟨ps, ?_, h2, fun pos cv hc => ?_⟩
      · rcases g with rfl | ⟨ps', c', hc', _, rfl⟩
        · exact h1
        · rw [upd_ne (ne_of_none h1 hc'), upd_ne e]; exact h1
      · obtain ⟨c0, e1, e2⟩ := h3 pos cv hc
        exact ⟨c0, e1, ext _ _ e2 fun ps z => LamX.codeO_ne ps z⟩
  · rcases g with rfl | ⟨ps', c', hc', ⟨qs, hP⟩, rfl⟩
    · exact h
    · by_cases y : a = c'
      · rw [y]; exact hc'
      · rw [upd_ne y] at h
        by_cases z : a = Pt
        · rw [z, upd_same] at h; cases h
        · rw [upd_ne z] at h; exact h
def skey (i : Nat) : D → Option Int
  | .tup ds => (ds[i]?).bind isInt
  | _ => none
def keysD (i : Nat) : List D → Option (List (D × Int))
  | [] => some []
  | d :: ds => (skey i d).bind fun k => (keysD i ds).map fun zs => (d, k) :: zs
/-- sorted by the part i of each, stably -/
def sortD (i : Nat) : D → Option D
  | .lst ds => if ds.length ≤ 1000 then (keysD i ds).map fun zs => .lst ((zs.mergeSort fun a b => decide (a.2 ≤ b.2)).map (·.1)) else none
  | _ => none
theorem skey_rp {B : AS} {H : Hp} {v : V} {d : D} {i : Nat} {k : Int} (r : Rp K w B H v d) (h : skey i d = some k) : ∃ t ys, v = .ref t ∧ SqT K H t ys ∧ ys[i]? = some (.int k) := by
  cases d with
  | tup ds =>
    have h : (ds[i]?).bind isInt = some k := h
    cases e : ds[i]? with
    | none => rw [e] at h; cases h
    | some x =>
      rw [e] at h
      cases r with
      | tup h1 r1 =>
        obtain ⟨y, h2, h3⟩ := r1.at e
        exact ⟨_, _, rfl, h1.sq, by rw [h2, (rp_int h3 h).1]⟩
  | _ => cases h
/-- values, data and keys side by side -/
theorem keys_rp {B : AS} {H : Hp} {i : Nat} : ∀ {ds : List D} {xs : List V} {zs : List (D × Int)}, RpA K w B H xs ds → keysD i ds = some zs →
    ∃ ts : List ((V × Int) × D), ts.map (fun t => t.1.1) = xs ∧ ts.map (fun t => (t.2, t.1.2)) = zs ∧ (∀ t ∈ ts, Rp K w B H t.1.1 t.2 ∧ ∃ a ys, t.1.1 = .ref a ∧ SqT K H a ys ∧ ys[i]? = some (.int t.1.2))
  | [], xs, zs, r, h => by cases r; cases h; exact ⟨[], rfl, rfl, fun _ z => nomatch z⟩
  | d :: ds, xs, zs, r, h => by
    have h : ((skey i d).bind fun k => (keysD i ds).map fun zs => (d, k) :: zs) = some zs := h
    cases e : skey i d with
    | none => rw [e] at h; cases h
    | some k =>
      rw [e, Option.bind_some] at h
      cases e2 : keysD i ds with
      | none => rw [e2] at h; cases h
      | some zs' =>
        rw [e2] at h
        cases h
        cases r with
        | cons r1 r2 =>
          obtain ⟨ts, g1, g2, g3⟩ := keys_rp r2 e2
          refine ⟨((_, k), d) :: ts, by rw [List.map_cons, g1], by rw [List.map_cons, g2], fun t ht => ?_⟩
          rcases List.mem_cons.mp ht with rfl | ht
          · exact ⟨r1, skey_rp r1 e⟩
          · exact g3 t ht
theorem rpa_of {B : AS} {H : Hp} : ∀ {ts : List ((V × Int) × D)}, (∀ t ∈ ts, Rp K w B H t.1.1 t.2) → RpA K w B H (ts.map fun t => t.1.1) (ts.map fun t => t.2)
  | [], _ => .nil
  | t :: ts, h => .cons (h t (List.mem_cons_self ..)) (rpa_of fun u hu => h u (List.mem_cons_of_mem _ hu))
theorem rn_sort {Pt : Addr} {q : Str} {i : Nat} (hm : (Pt, q) ∈ tq) (ht : ∀ p ∈ tq, p.1 = Pt → p.2 = q) (h : RunsE K w tq te ρ c) : RunsN K w tq (tSortP K Pt q i te) ρ (c.bind (sortD i)) := fun Γ φ σ H Q d E hc k => by
  cases c with
  | none => cases hc
  | some x =>
    have hc : sortD i x = some d := hc
    cases x with
    | lst ds =>
      have hc : (if ds.length ≤ 1000 then (keysD i ds).map fun zs => D.lst ((zs.mergeSort fun a b => decide (a.2 ≤ b.2)).map (·.1)) else none) = some d := hc
      split at hc
      · rename_i few
        cases e : keysD i ds with
        | none => rw [e] at hc; cases hc
        | some zs =>
          rw [e] at hc
          cases hc
          refine h Γ φ σ H _ _ E rfl fun v H1 e1 r1 => ?_
          cases r1 with
          | lst h1 n1 r1 =>
            obtain ⟨ts, g1, g2, g3⟩ := keys_rp r1 e
            have m1 : (ts.map (·.1)).map (·.1) = ts.map fun t => t.1.1 := by rw [List.map_map]; rfl
            refine ⟨_, ts.map (·.1), rfl, by rw [m1, g1]; exact .inl (.inl h1), ?_, fun z hz => ?_, E.tbl.xt e1 _ hm, fun H2 p gr t2 hp => ?_⟩
            · rw [List.length_map, ← List.length_map (f := fun t : (V × Int) × D => t.1.1), g1, r1.len]; exact few
            · obtain ⟨t, ht, rfl⟩ := List.mem_map.mp hz
              exact (g3 t ht).2
            · have x2 : Xt tq H1 H2 := xt_grows gr t2 ht
              have s1 : (ts.map (·.1)).mergeSort (fun a b => decide (a.2 ≤ b.2)) = (ts.mergeSort fun a b => decide (a.1.2 ≤ b.1.2)).map (·.1) := (List.map_mergeSort (f := fun t : (V × Int) × D => t.1) (r := fun a b => decide (a.1.2 ≤ b.1.2)) (s := fun a b => decide (a.2 ≤ b.2)) fun _ _ _ _ => rfl).symm
              have s2 : zs.mergeSort (fun a b => decide (a.2 ≤ b.2)) = (ts.mergeSort fun a b => decide (a.1.2 ≤ b.1.2)).map (fun t => (t.2, t.1.2)) := by rw [← g2]; exact (List.map_mergeSort (f := fun t : (V × Int) × D => (t.2, t.1.2)) (r := fun a b => decide (a.1.2 ≤ b.1.2)) (s := fun a b => decide (a.2 ≤ b.2)) fun _ _ _ _ => rfl).symm
              have dd : (zs.mergeSort fun a b => decide (a.2 ≤ b.2)).map (·.1) = (ts.mergeSort fun a b => decide (a.1.2 ≤ b.1.2)).map (fun t => t.2) := by rw [s2, List.map_map]; rfl
              rw [s1, List.map_map]
              refine k p _ ((e1.trans x2).trans (Xt.new hp)) ?_
              show NewR K w _ H _ p (.lst ((zs.mergeSort fun a b => decide (a.2 ≤ b.2)).map (·.1)))
              rw [dd]
              exact new_lst (e1.trans x2) E.alA hp (rpa_of fun t ht => ((g3 t ((List.mergeSort_perm _ _).mem_iff.mp ht)).1).ex x2)
      · cases hc
    | _ => cases hc
end M
end
section
set_option Elab.async false
set_option linter.all false
set_option maxRecDepth 100000
set_option maxHeartbeats 4000000
namespace M
open PySem PySem.Spec PyProof.Rows L2 U
variable {K : PySem.W.Frag} {w : World} {tq : Tb} {io md : Bool} {ρ : List Sl} {te : TE} {us : TS} {N L : Type} {eN : N → List Sl} {eL : L → List Sl} {c : Option D}
def extF (d q : D) : Option D := match d, q with
  | .lst xs, .lst zs => if xs.length + zs.length ≤ 1000000 then some (.lst (xs ++ zs)) else none
  | _, _ => none
theorem extF_eq {d q d' : D} (h : extF d q = some d') : ∃ xs zs, d = .lst xs ∧ q = .lst zs ∧ xs.length + zs.length ≤ 1000000 ∧ d' = .lst (xs ++ zs) := by
  unfold extF at h
  split at h
  · rename_i xs zs
    split at h
    · rename_i z
      cases h
      exact ⟨xs, zs, rfl, rfl, z, rfl⟩
    · cases h
  · cases h
theorem rs_ext {i : Nat} {fl : Bool} {d : D} {k : D → Option (Fl N L)} (hi : ρ[i]? = some (.ow fl d)) (he : RunsE K w tq te ρ c) (hk : ∀ d', RunsS K w tq io md us (ρ.set i (.ow fl d')) eN eL (k d')) :
    RunsS K w tq io md (tSeq (tAug i te rExt2) us) ρ eN eL (c.bind fun q => (extF d q).bind fun d' => k d') := fun Γ φ σ H Dn f E hc kk => by
  cases c with
  | none => cases hc
  | some q =>
    have hc : ((extF d q).bind fun d' => k d') = some f := hc
    cases hx : extF d q with
    | none => rw [hx] at hc; cases hc
    | some d' =>
      rw [hx, Option.bind_some] at hc
      obtain ⟨xs, zs, rfl, rfl, few, rfl⟩ := extF_eq hx
      obtain ⟨p, g1, _⟩ := E.ow i fl _ hi
      refine ⟨.ref p, g1, he Γ φ σ H _ _ E rfl fun y H1 ex r1 => ?_⟩
      have E1 := E.ex ex
      obtain ⟨p', q1, q2, q3, q4⟩ := E1.ow i fl _ hi
      rw [g1] at q1
      cases q1
      generalize hs : φ i = S at q2
      cases q2 with
      | @lst vs _ hl1 ra =>
        cases r1 with
        | @lst _ ws _ h1 n1 r1 =>
          refine ⟨p, _, vs, _, rfl, rfl, hl1, h1, by rw [ra.len, r1.len, sizeLine_eq]; omega, ?_⟩
          have hO : ∀ a, a = p → Av Γ ρ φ a := fun a z => .inr ⟨i, fl, _, hi, by rw [hs, z]; exact List.mem_singleton.mpr rfl⟩
          have st : ∀ o : List V, Stp tq (fun a => a = p) H1 (upd H1 p (.lst o)) := fun o => Stp.chgL rfl hl1 (.lst _)
          have A2 : Af K w tq Γ φ σ H1 ρ φ (upd H1 p (.lst (vs ++ ws))) (ρ.set i (.ow fl (.lst (xs ++ zs)))) := by
            refine Af.mut E1 hi g1 (by rw [hs]; exact (st (vs ++ ws)).mono fun a z => by rw [z]; exact List.mem_singleton.mpr rfl) ?_
            rw [hs]
            exact .lst upd_same ((ra.app r1).stp (st (vs ++ ws)) hO)
          have se : σ.set i (some (V.ref p)) = σ := by
            apply List.ext_getElem?
            intro j
            rw [List.getElem?_set]
            split
            · rename_i z; subst z; split
              · exact g1.symm
              · rename_i z2; rw [List.getElem?_eq_none (by omega)] at g1; cases g1
            · rfl
          show us Dn (σ.set i (some (V.ref p))) _
          rw [se]
          exact hk _ Γ φ σ _ Dn f A2.er hc kk
/-- a new list, made with steps, is owned from then on -/
theorem ys_lstN {T : Type} {e : T → List Sl} {tr : TA} {i : Nat} {cr : Option (List D × T)} {k : D → T → Option (Fl N L)} (ha : RunsXA K w tq tr ρ e cr) (hf : ∀ t, free (e t) i = true) (hk : ∀ x t, RunsS K w tq io md us ((e t).set i (.ow false x)) eN eL (k x t)) :
    RunsS K w tq io md (tSeq (tAsg (tLst tr) (gName i)) us) ρ eN eL (bX cr fun as t => ((szG as).map D.lst).bind fun x => k x t) := fun Γ φ σ H Dn fl E hc kk => by
  cases cr with
  | none => cases hc
  | some z =>
    obtain ⟨as, t⟩ := z
    have hc2 : (((szG as).map D.lst).bind fun x => k x t) = some fl := hc
    clear hc
    cases hs : szG as with
    | none => rw [hs] at hc2; cases hc2
    | some es =>
      rw [hs] at hc2
      have hc3 : k (.lst es) t = some fl := hc2
      obtain ⟨rfl, hl⟩ := szG_ok hs
      refine ha Γ φ σ H _ es t E rfl fun xs H1 φ1 A1 r1 => ⟨by rw [r1.len]; exact hl, fun p hp => ?_⟩
      obtain ⟨φ', E'⟩ := A1.er.own (hf t) (Xt.new (o := .lst xs) hp) (new_lst (Xt.refl (tq := tq) H1) A1.er.alA hp r1)
      exact hk _ t Γ φ' _ _ Dn fl E' hc3 kk
end M
end
section
set_option Elab.async false
set_option linter.all false
set_option maxRecDepth 100000
set_option maxHeartbeats 4000000
namespace U
open PySem PySem.Spec PyProof.Rows L2
theorem mkl_key (a v d : Value) : argsOk "max" ⟨[a], [(Str.ofString "key", v), (Str.ofString "default", d)]⟩ := by unfold argsOk; kernel_rfl
section
variable {prog : Program} {w : World} {A : Around} {E : Value → Shared → Prop} {s : Shared} {h0 : Heap} {l I S : Addr} {vs : List Value} {R : Result → Shared → Prop} {Q : Value → Shared → Prop} {d : Value}
/-- what stood stands -/
def Kps (h h' : Heap) : Prop := ∀ b o, h.get? b = some o → h'.get? b = some o
/-- the first of those with the most -/
def BestAt (ks : Nat → Int) (n i : Nat) : Prop := ∀ j, j < n → ks j ≤ ks i ∧ (j < i → ks j < ks i)
theorem len_tup {t : Addr} {items : Array Value} (ht : IsTup s.heap t items) (hfit : (items.size : Int) < 2 ^ 63) (h : ∀ t2 tk, Q (.int items.size t2) { s with toks := tk }) : wpAny (model prog w) A (call (.builtin "len") [.ref t]) Q E s := len_tuple ht hfit (h _ _)
theorem mkl_loop (ks : Nat → Int) (hh : A.handled = none) (ti : ∀ i v, vs[i]? = some v → ∃ t items, v = .ref t ∧ IsTup h0 t items ∧ ((items.size : Nat) : Int) = ks i ∧ (items.size : Int) < 2 ^ 63) (hl : h0.IsList l vs.toArray) (nI : h0.get? I = none) (nS : h0.get? S = none) (hSI : S ≠ I)
    (hR : ∀ i v h' tk', vs[i]? = some v → BestAt ks vs.length i → Kps h0 h' → R (.ok (.ret v)) { s with heap := h', toks := tk' }) :
    ∀ (r j i : Nat) (h : Heap) (tk : Nat) (vb : Value) (tb : Tok) (c : Nat) (oI : Obj), vs.length - (j + 1) = r → j + 1 ≤ vs.length → Kps h0 h → h.get? S = some (seqObj "list" #[vb, .int (ks i) tb] c) → h.get? I = some oI → h.IsListIter I l (j + 1) → vs[i]? = some vb → i ≤ j → (∀ j', j' ≤ j → ks j' ≤ ks i ∧ (j' < i → ks j' < ks i)) →
      codeAny (model prog w) A (.builtin "max.loop" ⟨[.ref I, .builtin "len", .ref S], [("default", d)]⟩) R { s with heap := h, toks := tk } := by
  have hname : (toString "max" ++ toString ".loop" : String) = "max.loop" := by decide
  have hlI : l ≠ I := fun z => by
    obtain ⟨o, ho, _⟩ := hl
    rw [z, nI] at ho; cases ho
  have W := Walks.list (prog := prog) (w := w) (A := A.in1) hh I l hlI vs.toArray
  have hsz : vs.toArray.size = vs.length := List.size_toArray ..
  have lst : ∀ {h : Heap}, Kps h0 h → h.IsList l vs.toArray := fun {h} k => by
    obtain ⟨o, ho, r⟩ := hl
    exact ⟨o, k _ _ ho, r⟩
  intro r
  induction r with
  | zero =>
    intro j i h tk vb tb c oI hr hj K gS gI hit hvb hij hbest
    have hin : j + 1 = vs.length := by omega
    refine codeAny_builtin PySem.F.entry_max_loop ?_
    rw [Around.under_plainId PySem.F.plain_max_loop _]
    show wpAny _ A.in1 (seqItems? (.ref S) >>= _) _ _ _
    refine wpAny_bind (wpAny_seqItems gS rfl ?_)
    show wpAny _ A.in1 (tryCatch (pyNext (.ref I)) _ >>= _) _ _ _
    refine wpAny_bind (wpAny_tryCatch (W.done _ _ _ ⟨by rw [hsz, ← hin]; exact hit, lst K⟩ fun h' tk' hk' => ?_))
    have K' : Kps h0 h' := fun b o e => hk' b o (fun z => by rw [List.mem_singleton.mp z, nI] at e; cases e) (K b o e)
    have hS' := hk' S _ (by simpa using hSI) gS
    have s1 := Heap.SameBut.update h' S (Obj.mapSeq fun _ => (#[] : Array Value))
    show wpAny _ A.in1 (updateSeq S (fun _ => #[]) >>= _) _ _ _
    refine wpAny_bind ?_
    refine wpAny_updateSeq hS' rfl (wpAny_bind (wpAny_letGo (wpAny_pure ?_)))
    exact hR i vb _ _ hvb (fun j' hj' => hbest j' (by omega)) fun b o e => (s1.2 b (fun z => by rw [z, nS] at e; cases e)).trans (K' b o e)
  | succ r ih =>
    intro j i h tk vb tb c oI hr hj K gS gI hit hvb hij hbest
    have hlt : j + 1 < vs.length := by omega
    refine codeAny_builtin PySem.F.entry_max_loop ?_
    rw [Around.under_plainId PySem.F.plain_max_loop _]
    show wpAny _ A.in1 (seqItems? (.ref S) >>= _) _ _ _
    refine wpAny_bind (wpAny_seqItems gS rfl ?_)
    show wpAny _ A.in1 (tryCatch (pyNext (.ref I)) _ >>= _) _ _ _
    refine wpAny_bind (wpAny_tryCatch (W.item (j + 1) _ _ _ (by rw [hsz]; exact hlt) ⟨hit, lst K⟩ fun v h' tk' hP hst' hk' => ?_))
    have hv : vs[j + 1]? = some v := by simpa using hP
    obtain ⟨oI', hoI', hoc, hod⟩ := id hst'.1
    have K' : Kps h0 h' := fun b o e => hk' b o (fun z => by rw [List.mem_singleton.mp z, nI] at e; cases e) (K b o e)
    have hS' := hk' S _ (by simpa using hSI) gS
    obtain ⟨t, items, rfl, ht, hks, hfit⟩ := ti _ _ hv
    show wpAny _ A.in1 (tryCatch (holding [.ref t] (call (.builtin "len") [.ref t])) _ >>= _) _ _ _
    refine wpAny_bind (wpAny_tryCatch (wpAny_holding (len_tup (ht.keeps K') hfit fun t2 tk2 => ?_)))
    rw [hks]
    show wpAny _ A.in1 (tryCatch (holding [.ref t, .int (ks (j + 1)) t2] (richCompare .Gt (.int (ks (j + 1)) t2) (.int (ks i) tb) >>= _)) _ >>= _) _ _ _
    refine wpAny_bind (wpAny_tryCatch (wpAny_holding (wpAny_bind (CmpOf.ints_gt (prog := prog) (w := w) (A := A.in1) (P := fun i v => ∃ t, v = .int (ks i) t) ks (fun i v h => h) (j + 1) i _ _ _ _ _ ⟨t2, rfl⟩ ⟨tb, rfl⟩ ?_))))
    refine wpAny_bind (wpAny_holding (wpAny_truthy_bool ?_))
    refine wpAny_bind (wpAny_letGo (wpAny_pure ?_))
    by_cases hb' : ks (j + 1) > ks i
    · have s1 := Heap.SameBut.update h' S (Obj.mapSeq fun _ => #[.ref t, .int (ks (j + 1)) t2])
      obtain ⟨c2, hc2⟩ : ∃ c2, (h'.update S (Obj.mapSeq fun _ => #[.ref t, .int (ks (j + 1)) t2])).get? S = some (seqObj "list" #[.ref t, .int (ks (j + 1)) t2] c2) := ⟨_, get?_update_seq hS' fun _ => #[.ref t, .int (ks (j + 1)) t2]⟩
      simp only [hb', decide_true, if_true]
      refine wpAny_bind ?_
      refine wpAny_updateSeq hS' rfl (wpAny_bind (wpAny_letGo ?_))
      rw [hname]
      refine wpAny_pure ⟨plainId_quiet PySem.F.plain_max_loop _, ih (j + 1) (j + 1) _ _ (.ref t) t2 c2 oI' (by omega) hlt (fun b o e => (s1.2 b (fun z => by rw [z, nS] at e; cases e)).trans (K' b o e)) hc2 ((s1.2 I hSI.symm).trans hoI') ⟨oI', (s1.2 I hSI.symm).trans hoI', hoc, hod⟩ hv (Nat.le_refl _) fun j' hj' => ?_⟩
      by_cases e : j' = j + 1
      · subst e
        exact ⟨by omega, fun _ => by omega⟩
      · have hb1 := hbest j' (by omega)
        have hb2 := hb1.1
        exact ⟨by omega, fun _ => by omega⟩
    · simp only [hb', decide_false, Bool.false_eq_true, if_false]
      refine wpAny_bind (wpAny_letGo ?_)
      rw [hname]
      refine wpAny_pure ⟨plainId_quiet PySem.F.plain_max_loop _, ih (j + 1) i _ _ vb tb c oI' (by omega) hlt K' hS' hoI' ⟨oI', hoI', hoc, hod⟩ hvb (by omega) fun j' hj' => ?_⟩
      by_cases e : j' = j + 1
      · subst e
        exact ⟨by omega, fun _ => by omega⟩
      · exact hbest j' (by omega)
theorem mkl_max (ks : Nat → Int) (hh : A.handled = none) (ti : ∀ i v, vs[i]? = some v → ∃ t items, v = .ref t ∧ IsTup s.heap t items ∧ ((items.size : Nat) : Int) = ks i ∧ (items.size : Int) < 2 ^ 63) (hl : s.heap.IsList l vs.toArray)
    (h0 : vs = [] → ∀ h' tk', Kps s.heap h' → Q d { s with heap := h', toks := tk' })
    (hQ : ∀ i v h' tk', vs[i]? = some v → BestAt ks vs.length i → Kps s.heap h' → Q v { s with heap := h', toks := tk' }) :
    wpAny (model prog w) A (call (.builtin "max") [.ref l] [(Str.ofString "key", .builtin "len"), (Str.ofString "default", d)]) Q E s := by
  have hname : (toString "max" ++ toString ".loop" : String) = "max.loop" := by decide
  refine kmk_tree PySem.F.kind_max PySem.F.plain_max PySem.F.entry_max (mkl_key _ _ _) ?_
  show wpAny _ A.in1 (Builtin.Builtins.bindParams "max" ["key", "default"] 0 ⟨[], [(Str.ofString "key", .builtin "len"), (Str.ofString "default", d)]⟩ >>= _) _ _ s
  refine wpAny_bind (wpAny_of_eq (show Builtin.Builtins.bindParams "max" ["key", "default"] 0 ⟨[], [(Str.ofString "key", .builtin "len"), (Str.ofString "default", d)]⟩ = pure [some (.builtin "len"), some d] from rfl) ?_)
  refine wpAny_bind (wpAny_pure ?_)
  refine wpAny_bind (wpAny_pyIter_list hl ?_)
  refine wpAny_bind (wpAny_newList ?_ (Nat.zero_le _))
  rw [hname]
  have hS : (s.heap.push { cls := .type "list_iterator", data := .fields #[.ref l, .int 0 0] }).objs.size = s.heap.objs.size + 1 := size_push' ..
  have hSI : (s.heap.push { cls := .type "list_iterator", data := .fields #[.ref l, .int 0 0] }).objs.size ≠ s.heap.objs.size := by rw [hS]; exact Nat.ne_of_gt (Nat.lt_succ_self _)
  have nI : s.heap.get? s.heap.objs.size = none := Heap.get?_none_of_le (Nat.le_refl _)
  have nS : s.heap.get? (s.heap.push { cls := .type "list_iterator", data := .fields #[.ref l, .int 0 0] }).objs.size = none := Heap.get?_none_of_le (by rw [hS]; exact Nat.le_succ _)
  have gI0 : (s.heap.push { cls := .type "list_iterator", data := .fields #[.ref l, .int 0 0] }).get? s.heap.objs.size = some { cls := .type "list_iterator", data := .fields #[.ref l, .int 0 0] } := Heap.get?_push_size _ rfl
  have K0 : Kps s.heap (s.heap.push { cls := .type "list_iterator", data := .fields #[.ref l, .int 0 0] }) := fun b o e => Heap.get?_push_of_some _ e
  generalize (s.heap.push { cls := .type "list_iterator", data := .fields #[.ref l, .int 0 0] }) = h1 at *
  have K1 : Kps s.heap (h1.push (seqObj "list" #[] 0)) := fun b o e => Heap.get?_push_of_some _ (K0 b o e)
  have gI : (h1.push (seqObj "list" #[] 0)).get? s.heap.objs.size = some { cls := .type "list_iterator", data := .fields #[.ref l, .int 0 0] } := Heap.get?_push_of_some _ gI0
  have gS : (h1.push (seqObj "list" #[] 0)).get? h1.objs.size = some (seqObj "list" #[] 0) := Heap.get?_push_size _ rfl
  have lst : ∀ {h : Heap}, Kps s.heap h → h.IsList l vs.toArray := fun {h} k => by
    obtain ⟨o, ho, r⟩ := hl
    exact ⟨o, k _ _ ho, r⟩
  have hlI : l ≠ s.heap.objs.size := fun z => by
    obtain ⟨o, ho, _⟩ := hl
    rw [z, nI] at ho; cases ho
  refine wpAny_pure ⟨plainId_quiet PySem.F.plain_max_loop _, ?_⟩
  have W := Walks.list (prog := prog) (w := w) (A := A.in1) hh s.heap.objs.size l hlI vs.toArray
  have hsz : vs.toArray.size = vs.length := List.size_toArray ..
  refine codeAny_builtin PySem.F.entry_max_loop ?_
  rw [Around.under_plainId PySem.F.plain_max_loop _]
  show wpAny _ A.in1 (seqItems? (.ref _) >>= _) _ _ _
  refine wpAny_bind (wpAny_seqItems gS rfl ?_)
  show wpAny _ A.in1 (tryCatch (pyNext (.ref s.heap.objs.size)) _ >>= _) _ _ _
  cases hn : vs with
  | nil =>
    subst hn
    refine wpAny_bind (wpAny_tryCatch (W.done _ _ _ ⟨⟨_, gI, rfl, rfl⟩, lst K1⟩ fun h' tk' hk' => ?_))
    show wpAny _ A.in1 (rule _ >>= _) _ _ _
    refine wpAny_bind (wpAny_rule ?_)
    refine wpAny_pure ?_
    exact h0 rfl _ _ fun b o e => hk' b o (fun z => by rw [List.mem_singleton.mp z, nI] at e; cases e) (K1 b o e)
  | cons v0 vr =>
    have hne : 0 < vs.length := by rw [hn]; exact Nat.succ_pos _
    rw [← hn] at *
    clear hn
    refine wpAny_bind (wpAny_tryCatch (W.item 0 _ _ _ (by rw [hsz]; exact hne) ⟨⟨_, gI, rfl, rfl⟩, lst K1⟩ fun v h' tk' hP hst' hk' => ?_))
    have hv : vs[0]? = some v := by simpa using hP
    obtain ⟨oI', hoI', hoc, hod⟩ := id hst'.1
    have K' : Kps s.heap h' := fun b o e => hk' b o (fun z => by rw [List.mem_singleton.mp z, nI] at e; cases e) (K1 b o e)
    have hS' := hk' _ _ (by simpa using hSI) gS
    obtain ⟨t, items, rfl, ht, hks, hfit⟩ := ti _ _ hv
    show wpAny _ A.in1 (tryCatch (holding [.ref t] (call (.builtin "len") [.ref t])) _ >>= _) _ _ _
    refine wpAny_bind (wpAny_tryCatch (wpAny_holding (len_tup (ht.keeps K') hfit fun t2 tk2 => ?_)))
    rw [hks]
    have s1 := Heap.SameBut.update h' h1.objs.size (Obj.mapSeq fun _ => #[.ref t, .int (ks 0) t2])
    obtain ⟨c2, hc2⟩ : ∃ c2, (h'.update h1.objs.size (Obj.mapSeq fun _ => #[.ref t, .int (ks 0) t2])).get? h1.objs.size = some (seqObj "list" #[.ref t, .int (ks 0) t2] c2) := ⟨_, get?_update_seq hS' fun _ => #[.ref t, .int (ks 0) t2]⟩
    show wpAny _ A.in1 (updateSeq h1.objs.size (fun _ => #[.ref t, .int (ks 0) t2]) >>= _) _ _ _
    refine wpAny_bind ?_
    refine wpAny_updateSeq hS' rfl ?_
    rw [hname]
    refine wpAny_pure ⟨plainId_quiet PySem.F.plain_max_loop _, mkl_loop ks hh ti hl nI nS hSI (R := fun r s' => match r with | .ok (.ret v) => Q v s' | .ok _ => False | .error e => E e s') (fun i v h2 tk3 hv2 hb k2 => hQ i v h2 tk3 hv2 hb k2) _ 0 0 _ _ (.ref t) t2 c2 oI' rfl hne (fun b o e => (s1.2 b (fun z => by rw [z, nS] at e; cases e)).trans (K' b o e)) hc2 ((s1.2 _ hSI.symm).trans hoI') ⟨oI', (s1.2 _ hSI.symm).trans hoI', hoc, hod⟩ hv (Nat.le_refl _) fun j' hj' => ?_⟩
    have : j' = 0 := by omega
    subst this
    exact ⟨Int.le_refl _, fun z => absurd z (Nat.lt_irrefl _)⟩
end
/-- the first of those with the most items -/
def MaxLenQ (K : PySem.W.Frag) (Q : VK) (v : V) (dv : V) (H1 H2 : Hp) : Prop := ∃ (l : Addr) (xs : List V) (ks : Nat → Nat), v = .ref l ∧ SqL K H1 l xs ∧ SqL K H2 l xs ∧ (∀ (i : Nat) (x : V), xs[i]? = some x → ∃ t ys, x = .ref t ∧ SqT K H2 t ys ∧ ys.length = ks i) ∧
  (xs = [] → Q dv H2) ∧ ∀ (i : Nat) (x : V), xs[i]? = some x → (∀ j, j < xs.length → ks j ≤ ks i ∧ (j < i → ks j < ks i)) → Q x H2
def tMaxLen (K : PySem.W.Frag) (te td : TE) : TE := fun σ H Q => te σ H fun v H1 => td σ H1 fun dv H2 => MaxLenQ K Q v dv H1 H2
theorem pe_maxLen {X : Cx} {e d : Expr} {te td : TE} {p p2 kp kp2 pos : Pos} (hc : X.calm = true) (hg : Gl X "max") (hm : X.mg "max" = none) (hgl : Gl X "len") (hml : X.mg "len" = none) (he : PE X e te) (hd : PE X d td)
    (ha : backTo pos (starEach [e] X.env) = (false, eval e X.env) :: backTo pos (starEach [] X.env) := by rfl) (hpl : (backTo pos (starEach [e] X.env)).any (·.1) = false := by rfl) (hs : starEach [e] X.env = (false, eval e X.env) :: starEach [] X.env := by rfl) :
    PE X (.Call (.Name "max" p) [e] [⟨some "key", .Name "len" p2, kp⟩, ⟨some "default", d, kp2⟩] pos) (tMaxLen X.K te td) := by
  refine ⟨fun pins s σ H Q I h => ?_⟩
  refine wpAny_Call_Name_kw (ld_blt I hg hm (u := .builtin "max") (by decide +kernel) ?_ (by decide) (by decide))
  have pa : PA X [e] (tCons te tNil) := pa_cons he pa_nil hs
  refine PyProof.Rows.callWith_kw (thn (pa.run pos pins s σ H (One fun v H1 => td σ H1 fun dv H2 => MaxLenQ X.K Q v dv H1 H2) I h) fun us s1 ⟨vs, H1, I1, r1, q1⟩ => ?_) ha hpl rfl rfl
  obtain ⟨v, rfl⟩ : ∃ v, vs = [v] := by
    match vs, q1 with
    | [v], _ => exact ⟨v, rfl⟩
  have q1 : td σ H1 fun dv H2 => MaxLenQ X.K Q v dv H1 H2 := q1
  obtain ⟨u, rfl, ru⟩ := vals1 r1
  show wpAny _ _ (evalAll ((do let v ← eval (.Name "len" p2) X.env; standAt pos; pure v) :: (backToKw pos (keywordEach [⟨some "default", d, kp2⟩] X.env)).map (·.2))) _ _ s1
  refine wpAny_evalAll_cons (wpAny_bind (ld_blt I1 hgl hml (u := .builtin "len") (by decide +kernel) (wpAny_bind (wpAny_standAt (wpAny_pure ?_))) (by decide) (by decide)))
  refine wpAny_evalAll_cons (wpAny_bind (thn (hd.run pins s1 σ H1 _ I1 q1) fun ud s2 ⟨dv, H2, I2, rd, q2⟩ => wpAny_bind (wpAny_standAt (wpAny_pure (wpAny_evalAll_nil ?_)))))
  show wpAny _ _ (call (.builtin "max") [u] [(Str.ofString "key", Value.builtin "len"), (Str.ofString "default", ud)]) _ _ s2
  obtain ⟨l, xs, ks, rfl, hl1, hl, hx, q0, qs⟩ := q2
  cases ru
  obtain ⟨its, rv, pl, hz⟩ := I2.list hl
  have back : ∀ {i : Nat} {u : Value}, its[i]? = some u → ∃ x, xs[i]? = some x ∧ RelV x u := fun {i u} hu => by
    have hi : i < xs.length := by rw [rv.length]; exact (List.getElem?_eq_some_iff.mp hu).1
    obtain ⟨u', h1, h2⟩ := rv.get (List.getElem?_eq_getElem hi)
    rw [hu] at h1
    cases h1
    exact ⟨_, List.getElem?_eq_getElem hi, h2⟩
  refine mkl_max (vs := its) (fun i => ((ks i : Nat) : Int)) (I2.ok.hd hc) (fun i u hu => ?_) pl.isList (fun hn h' tk k => ?_) fun i u h' tk hu hb k => ?_
  · obtain ⟨x, hxi, rx⟩ := back hu
    obtain ⟨t, ys, rfl, ht, hk⟩ := hx i x hxi
    cases rx
    obtain ⟨tis, rt, tp, tz⟩ := I2.tuple ht
    refine ⟨t, tis.toArray, rfl, tp, ?_, ?_⟩
    · rw [List.size_toArray, ← rt.length, hk]
    · rw [List.size_toArray, ← rt.length]; rw [sizeLine_eq] at tz; omega
  · have : xs = [] := by
      rw [hn] at rv
      cases rv; rfl
    exact ⟨dv, H2, I2.kept k, rd, q0 this⟩
  · obtain ⟨x, hxi, rx⟩ := back hu
    refine ⟨x, H2, I2.kept k, rx, qs i x hxi fun j hj => ?_⟩
    have h2 : ((ks j : Nat) : Int) ≤ ((ks i : Nat) : Int) ∧ (j < i → ((ks j : Nat) : Int) < ((ks i : Nat) : Int)) := hb j (by rw [← rv.length]; exact hj)
    exact ⟨by omega, fun z => by have := h2.2 z; omega⟩
end U
end
section
set_option Elab.async false
set_option linter.all false
set_option maxRecDepth 100000
set_option maxHeartbeats 4000000
namespace U
open PySem PySem.Spec PyProof.Rows L2
/-- how a set at S is filled by values vs: J i h, what stands behind i of them -/
structure Adder (P : Program) (w : World) (A : Around) (S : Addr) (vs : List Value) (J : Nat → Heap → Prop) (far : Addr → Prop) : Prop where
  step : ∀ (i : Nat) (v : Value) (s : Shared) (Q : Bool → Shared → Prop) (E : Value → Shared → Prop), vs[i]? = some v → J i s.heap → (∀ b h' tk, J (i + 1) h' → Heap.SameBut S s.heap h' → s.toks ≤ tk → Q b { s with heap := h', toks := tk }) → wpAny (model P w) A (setAdd S v) Q E s
  frame : ∀ (i : Nat) (h h' : Heap) (n : Addr), far n → n ≠ S → J i h → (∀ b o, b ≠ n → h.get? b = some o → h'.get? b = some o) → J i h'
section
variable {P : Program} {w : World} {A : Around} {I : Addr} {fp : List Addr} {G : Array GenState → Array GenState → Prop} {n : Nat} {Pv : Nat → Value → Prop} {St : Nat → Shared → Prop} {J : Nat → Heap → Prop} {far : Addr → Prop} {S : Addr} {vs : List Value}
theorem fill_any (W : WalksS P w A.in1 I fp [I] G n Pv St) (hS : S ∉ fp) (hI : far I) (a : Adder P w A.in1 S vs J far) (hl : vs.length = n) (hv : ∀ i v, Pv i v → vs[i]? = some v) {R : Result → Shared → Prop} :
    ∀ (m i : Nat) (s : Shared), i + m = n → St i s → J i s.heap → (∀ s', Moved [S, I] G s s' → J n s'.heap → R (.ok (.ret .none)) s') →
      codeAny (model P w) A (.builtin "set.update.loop" ⟨[.ref S, .ref I], []⟩) R s
  | 0, i, s, hi, st, so, q => by
    have e : i = n := by omega
    subst e
    have hIS : I ≠ S := fun z => hS (W.sub _ (by rw [← z]; exact List.mem_singleton.mpr rfl))
    refine codeAny_builtin PyProof.Rows.F.entry_set_update_loop ?_
    rw [Around.under_plainId PyProof.Rows.F.plain_set_update_loop _]
    show wpAny _ A.in1 (pyNext (.ref I) >>= _) _ _ s
    refine wpAny_bind (W.done s _ _ st fun s' mv => ?_)
    refine wpAny_pure (q s' (mv.mono fun b hb => List.mem_cons_of_mem _ hb) ?_)
    exact a.frame _ _ _ I hI hIS so fun b o hb e => mv.heap b o (fun z => hb (List.mem_singleton.mp z)) e
  | m + 1, i, s, hi, st, so, q => by
    have lt : i < n := by omega
    have hIS : I ≠ S := fun z => hS (W.sub _ (by rw [← z]; exact List.mem_singleton.mpr rfl))
    refine codeAny_builtin PyProof.Rows.F.entry_set_update_loop ?_
    rw [Around.under_plainId PyProof.Rows.F.plain_set_update_loop _]
    show wpAny _ A.in1 (pyNext (.ref I) >>= _) _ _ s
    refine wpAny_bind (W.item i s _ _ lt st fun v s1 hp st1 mv => ?_)
    have ex := hv i v hp
    have so1 : J i s1.heap := a.frame _ _ _ I hI hIS so fun b o hb e => mv.heap b o (fun z => hb (List.mem_singleton.mp z)) e
    show wpAny _ A.in1 (holding [v] (setAdd S v) >>= _) _ _ s1
    refine wpAny_bind (wpAny_holding (a.step i v s1 _ _ ex so1 fun b h' tk so2 sb ht => ?_))
    refine wpAny_pure ⟨plainId_quiet PyProof.Rows.F.plain_set_update_loop _, fill_any W hS hI a hl hv m (i + 1) _ (by omega) (W.frame _ s1 _ _ st1 ht fun b hb o e => ?_) so2 fun s2 mv2 so4 => ?_⟩
    · exact (sb.2 b fun z => hS (z ▸ hb)).trans e
    · refine q s2 (Moved.trans W.gtrans ((mv.mono fun b hb => List.mem_cons_of_mem _ hb).then_heap ht fun b o hb e => ?_) mv2) so4
      exact (sb.2 b fun z => hb (z ▸ List.mem_cons_self)).trans e
end
section
variable {P : Program} {w : World} {A : Around} {E : Value → Shared → Prop} {s : Shared}
/-- a new set, its order's mark told -/
theorem set_made (a : Value) {Q1 : Value → Shared → Prop} (k : Q1 (.ref s.heap.objs.size) { s with heap := s.heap.push { cls := .type "set", dict := none, data := .set #[] 0 (.fresh 0 0 (!w.params.followText "set-order")) } }) : codeAny (model P w) A (.call (.builtin "set.__new__") ⟨[.type "set", a], []⟩) (wants Q1 E) s := by
  have sub1 : isSubtype (.type "set") (.type "set") = pure true := by rw [isSubtype_type]; kernel_rfl
  refine codeAny_of_tree ?tree
  show wpAny (model P w) A.in1 (checkBuiltinCall "set.__new__" ⟨[.type "set", a], []⟩ >>= fun _ => again (.builtin "set.__new__" ⟨[.type "set", a], []⟩)) _ _ s
  refine wpAny_bind (wpAny_of_eq (PySem.F.newCall_set_1 a) ?made)
  refine wpAny_pure ⟨plainId_quiet PySem.F.plain_set_new _, codeAny_builtin PySem.F.entry_set_new ?body⟩
  unfold Builtin.«set.__new__» Builtin.Frozenset.newClass
  rw [Around.under_plainId PySem.F.plain_set_new _]
  cases s with
  | mk hp g d tk os =>
    dsimp only
    wp_walk
    refine wpAny_askSetting ?_
    refine wpAny_pure ?_
    simp only [newObj]
    exact wpAny_bind (wpAny_alloc (wpAny_pure (wpAny_pure k)))
/-- set(l), l a list -/
theorem set_of_any {l : Addr} {its : Array Value} {J : Nat → Heap → Prop} {Q : Value → Shared → Prop} (hh : A.handled = none) (ht : s.heap.IsList l its) (ha : ∀ A', A'.units ≤ A.units + 20 → Adder P w A' s.heap.objs.size its.toList J (fun n => s.heap.objs.size ≤ n))
    (h0 : ∀ h, (∀ b o, s.heap.get? b = some o → h.get? b = some o) → h.get? s.heap.objs.size = some { cls := .type "set", dict := none, data := .set #[] 0 (.fresh 0 0 (!w.params.followText "set-order")) } → J 0 h)
    (q : ∀ (h' : Heap) (tk : Nat), J its.size h' → (∀ b o, s.heap.get? b = some o → h'.get? b = some o) → Q (.ref s.heap.objs.size) { s with heap := h', toks := tk }) :
    wpAny (model P w) A (call (.type "set") [.ref l]) Q E s := by
  obtain ⟨c, tl, hmro⟩ := PySem.F.called_set.mro
  have hmade := PySem.F.called_set.made
  have hsub := PySem.F.called_set.sub
  refine wpAny_call (codeAny_of_tree ?_)
  show wpAny _ _ (callAny (.type "set") _) _ _ _
  refine wpAny_pure ⟨Code.quiet_builtin _ (by decide +kernel), codeAny_builtin PySem.F.entry_type_call ?_⟩
  rw [Around.under_plain (weight_type_call_type "set" [.ref l] []) rfl]
  have c1 := PySem.F.called_set.notType
  have c2 := PySem.F.called_set.canCreate
  have c3 := PySem.F.typeCall_set_1 (.ref l)
  repeat (any_goals (first | assumption | wp_step))
  refine codeAny_mono (set_made (.ref l) (E := E) (Q1 := fun obj s₁ => obj = .ref s.heap.objs.size ∧ s₁ = { s with heap := s.heap.push { cls := .type "set", dict := none, data := .set #[] 0 (.fresh 0 0 (!w.params.followText "set-order")) } }) ⟨rfl, rfl⟩) fun r s₁ hr => ?_
  cases r with
  | error e => exact hr
  | ok fl =>
    cases fl with
    | ret obj =>
      obtain ⟨rfl, rfl⟩ := hr
      have new : (s.heap.push { cls := .type "set", dict := none, data := .set #[] 0 (.fresh 0 0 (!w.params.followText "set-order")) }).get? s.heap.objs.size = some { cls := .type "set", dict := none, data := .set #[] 0 (.fresh 0 0 (!w.params.followText "set-order")) } := Heap.get?_push_size _ rfl
      have sz : (s.heap.push { cls := .type "set", dict := none, data := .set #[] 0 (.fresh 0 0 (!w.params.followText "set-order")) }).objs.size = s.heap.objs.size + 1 := Heap.size_push ..
      have kp0 : ∀ b o, s.heap.get? b = some o → (s.heap.push { cls := .type "set", dict := none, data := .set #[] 0 (.fresh 0 0 (!w.params.followText "set-order")) }).get? b = some o := fun b o e => Heap.get?_push_of_some _ e
      generalize (s.heap.push { cls := .type "set", dict := none, data := .set #[] 0 (.fresh 0 0 (!w.params.followText "set-order")) }) = h1 at *
      have ty : Shared.TypeIs { s with heap := h1 } (.ref s.heap.objs.size) "set" := ⟨_, new, rfl⟩
      have hli := PySem.F.called_set.init.lookup
      have hbi := PySem.F.called_set.init.bind (.ref s.heap.objs.size)
      repeat (any_goals (first | assumption | wp_step))
      refine codeAny_mono (codeAny_call_builtin (R := wants (fun r s₂ => r = .none ∧ ∃ h' tk, s₂ = { s with heap := h', toks := tk } ∧ J its.size h' ∧ ∀ b o, s.heap.get? b = some o → h'.get? b = some o) E) PySem.F.called_set.init.plain PySem.F.entry_set_init (check_set_init_1 ty ?_)) fun r₂ s₂ hr₂ => ?_
      · obtain ⟨ol, hol, hcl, nl, hdl⟩ := ht
        obtain ⟨ocls, odict, odata, oslots⟩ := ol
        simp only at hcl hdl
        subst hcl; subst hdl
        have hol' := kp0 _ _ hol
        have s1 := PySem.F.sub_list_set
        have s2 := PySem.F.sub_list_frozenset
        have s3 : (Value.type "list" == Value.type "dict") = false := by decide
        have lst : h1.IsList l its := ⟨_, hol', rfl, nl, rfl⟩
        unfold Builtin.«set.__init__» noKeywords Builtin.Frozenset.updateFrom
        generalize hPI : pyIter = PI
        wp_walk
        subst hPI
        refine wpAny_pyIter_list lst ?_
        refine wpAny_bind (wpAny_runValue ?_)
        have lt2 : l < s.heap.objs.size := Heap.lt_size hol
        have a1 : l ≠ h1.objs.size := by rw [sz]; exact Nat.ne_of_lt (Nat.lt_succ_of_lt lt2)
        have a2 : s.heap.objs.size ∉ [h1.objs.size, l] := by
          rw [sz]
          intro z
          rcases List.mem_cons.mp z with z | z
          · exact absurd z (Nat.ne_of_lt (Nat.lt_succ_self _))
          · exact absurd (List.mem_singleton.mp z) (Nat.ne_of_gt lt2)
        refine fill_any ((Walks.list (by simp [hh]) h1.objs.size l a1 its).toS) (S := s.heap.objs.size) a2 (by rw [sz]; exact Nat.le_succ _) (ha _ ?_) (by rw [Array.length_toList]) (fun i v hv => by rw [Array.getElem?_toList]; exact hv) its.size 0 _ (by omega)
          ⟨⟨_, Heap.get?_push_size _ rfl, rfl, rfl⟩, ?_⟩ ?_ fun s' mv so => ?_
        · show A.units + 3 ≤ A.units + 20; omega
        · obtain ⟨o, ho, z⟩ := lst
          exact ⟨o, Heap.get?_push_of_some _ ho, z⟩
        · exact h0 _ (fun b o e => Heap.get?_push_of_some _ (kp0 b o e)) (Heap.get?_push_of_some _ new)
        · obtain ⟨h', g', d', tk', os'⟩ := s'
          obtain rfl : g' = s.gens := mv.gens
          obtain rfl : d' = s.drawn := mv.drawn
          obtain rfl : os' = s.os := mv.os
          refine wpAny_pure ?_
          show wpAny _ _ (ret Value.none) _ _ _
          refine wpAny_pure ⟨rfl, h', tk', rfl, so, fun b o e => ?_⟩
          have lb := Heap.lt_size e
          refine mv.heap b o ?_ (Heap.get?_push_of_some _ (kp0 _ _ e))
          rw [sz]
          intro z
          rcases List.mem_cons.mp z with z | z
          · exact absurd z (Nat.ne_of_lt lb)
          · exact absurd (List.mem_singleton.mp z) (Nat.ne_of_lt (Nat.lt_succ_of_lt lb))
      · cases r₂ with
        | error e => exact hr₂
        | ok fl₂ =>
          cases fl₂ with
          | ret r =>
            obtain ⟨rfl, h', tk, rfl, so, kp⟩ := hr₂
            have z := q h' tk so kp
            repeat (any_goals (first | assumption | wp_step))
          | _ => exact hr₂.elim
    | _ => exact hr.elim
end
end U
end
section
set_option Elab.async false
set_option linter.all false
set_option maxRecDepth 100000
set_option maxHeartbeats 4000000
namespace U
open PySem PySem.Spec PyProof.Rows L2
section
variable {P : Program} {w : World} {A : Around} {E : Value → Shared → Prop} {s : Shared} {S : Addr}
/-- behind i of the tuples -/
def JK (P : Program) (w : World) (S : Addr) (lim : Nat) (es : List El) (i : Nat) (h : Heap) : Prop :=
  ∃ L xs ep t, MSet P w h S L xs ep t ∧ (∀ k, k ∈ L.map (·.2) ↔ k ∈ (es.take i).map (·.2)) ∧ (∀ p ∈ L, p.1 < lim) ∧ (∀ p ∈ es, KeysAt P w h p.2 p.1) ∧ L.length ≤ i
theorem adder_keys {es : List El} {lim : Nat} (hu : A.units + 16 < cLine) (few : es.length ≤ 62) (low : ∀ p ∈ es, p.1 < lim) (hS : lim ≤ S) : Adder P w A S (es.map fun p => Value.ref p.1) (JK P w S lim es) (fun n => lim ≤ n) := by
  constructor
  · intro i v s Q E hv hJ q
    obtain ⟨L, xs, ep, t, R, mem, lowL, keys, len⟩ := hJ
    rw [List.getElem?_map] at hv
    cases hp : es[i]? with
    | none => rw [hp] at hv; cases hv
    | some p =>
      rw [hp] at hv
      cases hv
      have hi := (List.getElem?_eq_some_iff.mp hp).1
      have pm := List.mem_of_getElem? hp
      obtain ⟨o, ho, hex, hd⟩ := R.ob
      unfold setAdd
      refine wpAny_holding ?_
      refine wpAny_bind (wpAny_pyHash_tuple (by omega) (keys p pm) ?_)
      refine add_keys (s := { s with toks := s.toks + (p.2.length + 1) }) R (show KeysAt P w s.heap p.2 p.1 from keys p pm) (by omega) (by omega) fun b h' L' xs' ep' t' sb R' h1 h2 => ?_
      refine q b h' _ ⟨L', xs', ep', t', R', fun k => ?_, fun r hr => ?_, fun r hr => keys_same (keys r hr) ho hd sb, ?_⟩ sb (Nat.le_add_right _ _)
      · have tk : (es.take (i + 1)).map (·.2) = (es.take i).map (·.2) ++ [p.2] := by rw [List.take_add_one, hp]; simp
        rw [tk, List.mem_append, List.mem_singleton, ← mem k]
        by_cases z : p.2 ∈ L.map (·.2)
        · rw [h1 z]
          exact ⟨.inl, fun y => y.elim id fun y => y ▸ z⟩
        · have pp := (h2 z).map (·.2)
          rw [pp.mem_iff, List.map_cons, List.mem_cons]
          exact ⟨fun y => y.symm.imp id id, fun y => y.symm.imp id id⟩
      · by_cases z : p.2 ∈ L.map (·.2)
        · rw [h1 z] at hr; exact lowL r hr
        · rcases List.mem_cons.mp ((h2 z).mem_iff.mp hr) with y | y
          · rw [y]; exact low p pm
          · exact lowL r y
      · by_cases z : p.2 ∈ L.map (·.2)
        · rw [h1 z]; omega
        · rw [(h2 z).length_eq, List.length_cons]; omega
  · intro i h h' n hn hS' hJ kp
    obtain ⟨L, xs, ep, t, R, mem, lowL, keys, len⟩ := hJ
    have kk : ∀ {k : List Key} {b : Addr}, b < lim → KeysAt P w h k b → KeysAt P w h' k b := fun {k b} hb hk => by
      obtain ⟨o, items, m, ho, r⟩ := hk
      exact ⟨o, items, m, kp b o (fun z => absurd hb (Nat.not_lt.mpr (z ▸ hn))) ho, r⟩
    obtain ⟨o, ho, r⟩ := R.ob
    exact ⟨L, xs, ep, t, ⟨⟨o, kp S o (fun z => hS' z.symm) ho, r⟩, R.rows, R.tab, R.nd, fun p hp => kk (lowL p hp) (R.keys p hp), R.led, R.room, R.few⟩, mem, lowL, fun p hp => kk (low p hp) (keys p hp), len⟩
/-- behind i of the texts -/
def JT (P : Program) (w : World) (S : Addr) (xs : List Str) (i : Nat) (h : Heap) : Prop :=
  ∃ ys : List Str, ys.Nodup ∧ (∀ k, k ∈ ys ↔ k ∈ xs.take i) ∧ ys.length ≤ i ∧ h.SetOf (TxK P w) S (inT xs i) ys.length
theorem inT_iff {xs : List Str} {i : Nat} {k : Str} : inT xs i k = true ↔ k ∈ xs.take i := by
  unfold inT
  rw [List.any_eq_true]
  exact ⟨fun ⟨y, h1, h2⟩ => by rw [← (by simpa using h2 : y = k)]; exact h1, fun h => ⟨k, h, by simp⟩⟩
theorem adder_texts {vs : List Value} {xs : List Str} {far : Addr → Prop} (rv : Vals (xs.map V.str) vs) (few : xs.length + 1 < scanBound) : Adder P w A S vs (JT P w S xs) far := by
  constructor
  · intro i v s Q E hv hJ q
    obtain ⟨ys, nd, mem, len, so⟩ := hJ
    have hi : i < xs.length := by
      have := (List.getElem?_eq_some_iff.mp hv).1
      rw [← rv.length, List.length_map] at this
      exact this
    obtain ⟨u, h1, h2⟩ := rv.get (i := i) (x := V.str xs[i]) (by rw [List.getElem?_map, List.getElem?_eq_getElem hi]; rfl)
    rw [hv] at h1
    cases h1
    obtain ⟨t, rfl⟩ := h2
    unfold setAdd
    refine wpAny_holding (wpAny_bind ((TxK P w).pyHash (k := xs[i]) (strKind_is _ _ _ _) ?_))
    refine wpAny_setAddHashed_of (knd := TxK P w) (s := { s with toks := s.toks + 1 }) (strKind_is _ _ _ _) rfl so (by omega) fun h' sb so2 => ?_
    have tk : xs.take (i + 1) = xs.take i ++ [xs[i]] := by rw [List.take_append_getElem hi]
    have ext : ∀ k, (inT xs i k || decide (k = xs[i])) = inT xs (i + 1) k := fun k => by
      rw [Bool.eq_iff_iff, Bool.or_eq_true, decide_eq_true_eq, inT_iff, inT_iff, tk, List.mem_append, List.mem_singleton]
    by_cases z : inT xs i xs[i] = true
    · have so3 := SetOf_congr so2 ext (by rw [if_pos z])
      refine q _ h' _ ⟨ys, nd, fun k => ?_, by omega, so3⟩ sb (Nat.le_succ _)
      rw [tk, List.mem_append, List.mem_singleton, ← mem k]
      exact ⟨.inl, fun y => y.elim id fun y => (mem k).mpr (y ▸ inT_iff.mp z)⟩
    · have so3 := SetOf_congr so2 ext (show _ = (xs[i] :: ys).length by rw [if_neg z]; rfl)
      refine q _ h' _ ⟨xs[i] :: ys, List.nodup_cons.mpr ⟨fun y => z (inT_iff.mpr ((mem _).mp y)), nd⟩, fun k => ?_, by rw [List.length_cons]; omega, so3⟩ sb (Nat.le_succ _)
      rw [tk, List.mem_append, List.mem_singleton, ← mem k, List.mem_cons]
      exact ⟨fun y => y.symm, fun y => y.symm⟩
  · intro i h h' n _ hS' hJ kp
    obtain ⟨ys, nd, mem, len, ⟨o, es, ep, t, ho, r⟩⟩ := hJ
    exact ⟨ys, nd, mem, len, o, es, ep, t, kp S o (fun z => hS' z.symm) ho, r⟩
end
/-- how many unlike ones there are -/
def Cnt {α : Type} (xs : List α) (n : Nat) : Prop := ∃ ys : List α, ys.Nodup ∧ (∀ k, k ∈ ys ↔ k ∈ xs) ∧ ys.length = n
inductive LenSet (K : PySem.W.Frag) (x : V) (H : Hp) (Q : VK) : Prop where
  | keys {l : Addr} {ps : List El} (e : x = .ref l) (h : SqL K H l (ps.map fun p => V.ref p.1)) (hk : ∀ p ∈ ps, SqT K H p.1 (p.2.map kV)) (few : ps.length ≤ 62) (q : ∀ n, Cnt (ps.map (·.2)) n → Q (.int ((n : Nat) : Int)) H)
  | texts {l : Addr} {xs : List Str} (e : x = .ref l) (h : SqL K H l (xs.map V.str)) (few : xs.length ≤ 62) (q : ∀ n, Cnt xs n → Q (.int ((n : Nat) : Int)) H)
  | tup {l : Addr} {xs : List Str} (e : x = .ref l) (h : SqT K H l (xs.map V.str)) (nd : xs.Nodup) (few : xs.length ≤ 62) (q : Q (.int ((xs.length : Nat) : Int)) H)
def tLenSetU (K : PySem.W.Frag) (ta : TE) : TE := fun σ H Q => ta σ H fun x H1 => LenSet K x H1 Q
section
variable {X : Cx}
theorem pe_lenSetU {a : Expr} {ta : TE} {p p2 q pos : Pos} (hu : X.A.units + 64 < cLine) (hc : X.calm = true) (hg : Gl X "len") (hm : X.mg "len" = none) (hg2 : Gl X "set") (hm2 : X.mg "set" = none) (ha : PE X a ta) (na : starEach [a] X.env = (false, eval a X.env) :: starEach [] X.env := by rfl) :
    PE X (.Call (.Name "len" p) [.Call (.Name "set" p2) [a] [] q] [] pos) (tLenSetU X.K ta) := by
  refine ⟨fun pins s σ H Q I h => Call_ (ld_blt I hg hm boot_len (callWith_builtin1 (args_cons (Call_ (ld_blt I hg2 hm2 boot_set (callWith_type1 (args_cons (thn (ha.run pins s σ H _ I h) fun v s1 ⟨x, H1, I1, r1, q1⟩ => args_nil ?_) na) na rfl))) rfl) rfl rfl))⟩
  cases q1 with
  | @keys l ps e h hk few q1 =>
    subst e
    cases r1
    obtain ⟨its, r, tp, hz⟩ := I1.list h
    have ei : its = ps.map fun p => Value.ref p.1 := by
      have : ∀ {ps : List El} {us : List Value}, Vals (ps.map fun p => V.ref p.1) us → us = ps.map fun p => Value.ref p.1 := by
        intro ps
        induction ps with
        | nil => intro us r; cases r; rfl
        | cons p ps ih => intro us r; cases r with | cons r1 r2 => cases r1; rw [ih r2]; rfl
      exact this r
    have ka : ∀ p ∈ ps, KeysAt X.prog X.w s1.heap p.2 p.1 := fun p hp => key_tup I1 (hk p hp)
    have low : ∀ p ∈ ps, p.1 < s1.heap.objs.size := fun p hp => by
      obtain ⟨o, items, m, ho, _⟩ := ka p hp
      exact Heap.lt_size ho
    refine set_of_any (J := JK X.prog X.w s1.heap.objs.size s1.heap.objs.size ps) (I1.ok.hd hc) tp.isList (fun A' hA => by rw [ei]; exact adder_keys (by have : A'.units ≤ X.A.units + 20 := hA; omega) few low (Nat.le_refl _)) (fun h kp hn => ?_) fun h' tk hJ kp => ?_
    · obtain ⟨es, ep, t, R⟩ := (mset_fresh (w := X.w) hn).full (P := X.prog) (fun p hp => by cases hp)
      refine ⟨[], es, ep, t, R, (fun k => by simp), (fun p hp => absurd hp List.not_mem_nil), (fun p hp => ?_), Nat.le_refl _⟩
      obtain ⟨o, items, m, ho, r⟩ := ka p hp
      exact ⟨o, items, m, kp _ _ ho, r⟩
    · obtain ⟨L, xs, ep, t, R, mem, _, _, _⟩ := hJ
      have sz : its.toArray.size = ps.length := by rw [ei]; simp
      rw [sz, List.take_length] at mem
      refine args_nil ?_
      obtain ⟨o, ho, hex, hd⟩ := R.ob
      have I2 : Inv X pins σ H1 { s1 with heap := h', toks := tk } := I1.kept kp
      have es := rows_size R.rows
      refine call_len_set ho hex hd (MSet.fits (s := { s1 with heap := h', toks := tk }) R) (by rw [es]; have := R.few; omega) ⟨.int L.length, H1, I2.tok _, ⟨_, by rw [es]⟩, q1 _ ⟨L.map (·.2), R.nd, mem, List.length_map ..⟩⟩
  | @texts l xs e h few q1 =>
    subst e
    cases r1
    obtain ⟨its, r, tp, hz⟩ := I1.list h
    refine set_of_any (J := JT X.prog X.w s1.heap.objs.size xs) (I1.ok.hd hc) tp.isList (fun A' _ => adder_texts (by simpa using r) (by unfold scanBound; omega)) (fun h kp hn => ?_) fun h' tk hJ kp => ?_
    · exact ⟨[], List.nodup_nil, fun k => by simp, Nat.le_refl _, SetOf_congr ((PyProof.Rows.setObjOf_fresh (knd := TxK X.prog X.w) _).setOf hn (by unfold scanBound; omega)) (fun _ => rfl) rfl⟩
    · obtain ⟨ys, nd, mem, len, so⟩ := hJ
      have sz : its.toArray.size = xs.length := by
        have := r.length
        simp at this
        simp [← this]
      rw [sz, List.take_length] at mem
      refine args_nil ?_
      obtain ⟨o, es, ep, t, ho, hex, hd, _, _, hb, hf, hn⟩ := so
      have I2 : Inv X pins σ H1 { s1 with heap := h', toks := tk } := I1.kept kp
      refine call_len_set ho hex hd hf (by rw [hn]; rw [sz] at len; omega) ⟨.int ys.length, H1, I2.tok _, ⟨_, by rw [hn]⟩, q1 _ ⟨ys, nd, mem, rfl⟩⟩
  | @tup l xs e h nd few q1 =>
    subst e
    cases r1
    obtain ⟨its, r, tp, hz⟩ := I1.tuple h
    refine set_of_tuple (I1.ok.hd hc) tp (by simpa using strsAre_of r) nd (by unfold scanBound; omega) fun h' tk so kp => ?_
    refine args_nil ?_
    obtain ⟨o, es, ep, t, ho, hex, hd, _, _, _, hf, hn⟩ := so
    have I2 : Inv X pins σ H1 { s1 with heap := h', toks := tk } := I1.kept kp
    exact call_len_set ho hex hd hf (by rw [hn]; omega) ⟨.int xs.length, H1, I2.tok _, ⟨_, by rw [hn]⟩, q1⟩
end
end U
end
section
set_option Elab.async false
set_option linter.all false
set_option maxRecDepth 100000
set_option maxHeartbeats 4000000
namespace M
open PySem PySem.Spec PyProof.Rows L2 U
open He (ga)
/-- as a part -/
def ownD : D → D
  | .dp x => x
  | d => .ov d
section
variable {K : PySem.W.Frag} {w : World} {tq : Tb} {B B' O : AS} {H H' : Hp}
theorem OwR.part {p : Addr} {d : D} {S : List Addr} (h : OwR K w B H p d S) : OwD K w B H (.ref p) (ownD d) S := by
  cases h with
  | lst h a => exact .vl h a
  | dK h a => exact .vk h a
  | dT h a => exact .vt h a
  | dp h _ => exact h
theorem OwDs.snoc {v : V} {d : D} {T : List Addr} (g : OwD K w B H v d T) : ∀ {vs : List V} {ds : List D} {S : List Addr}, OwDs K w B H vs ds S → (∀ a ∈ S, a ∉ T) → OwDs K w B H (vs ++ [v]) (ds ++ [d]) (S ++ T)
  | _, _, _, .nil, _ => by
    have := OwDs.cons g .nil (fun _ _ => List.not_mem_nil)
    rw [List.append_nil] at this
    exact this
  | _, _, _, .cons (S := S1) (T := T1) c r q, n => by
    rw [List.append_assoc]
    exact .cons c (OwDs.snoc g r fun a ha => n a (List.mem_append_right _ ha)) fun a ha z => (List.mem_append.mp z).elim (q a ha) (n a (List.mem_append_left _ ha))
theorem OwDs.len : ∀ {vs : List V} {ds : List D} {S : List Addr}, OwDs K w B H vs ds S → vs.length = ds.length
  | _, _, _, .nil => rfl
  | _, _, _, .cons _ r _ => congrArg Nat.succ r.len
/-- one part looked at, and put back changed -/
theorem OwDs.focus : ∀ {vs : List V} {ds : List D} {S : List Addr} {j : Nat} {d : D}, OwDs K w B H vs ds S → ds[j]? = some d → ∃ v T, vs[j]? = some v ∧ OwD K w B H v d T ∧ (∀ a ∈ T, a ∈ S) ∧
    ∀ {H' : Hp} {d' : D}, Stp tq (fun a => a ∈ T) H H' → (∀ a ∈ T, B a) → OwD K w B H' v d' T → OwDs K w B H' vs (ds.set j d') S
  | _, _, _, 0, _, .cons c r q, e => by
    cases e
    exact ⟨_, _, rfl, c, fun a ha => List.mem_append_left _ ha, fun st hB g => .cons g (r.stp st hB fun a ha z => q a z ha) q⟩
  | _, _, _, j + 1, _, .cons c r q, e => by
    obtain ⟨v, T, h1, h2, h3, h4⟩ := OwDs.focus (j := j) r (by simpa using e)
    exact ⟨v, T, by simpa using h1, h2, fun a ha => List.mem_append_right _ (h3 a ha), fun st hB g => .cons (c.stp st hB fun a ha z => q a ha (h3 a z)) (h4 st hB g) q⟩
  | _, _, _, 0, _, .nil, e => by simp at e
  | _, _, _, j + 1, _, .nil, e => by simp at e
/-- put in the place of the first one with this key -/
def repK (k : Key) (x : D) : List (Key × D) → List (Key × D)
  | [] => []
  | (k', y) :: r => if k' = k then (k', x) :: r else (k', y) :: repK k x r
theorem OwDk.focus {k : Key} : ∀ {vs : List (Key × V)} {ds : List (Key × D)} {S : List Addr} {d : D}, OwDk K w B H vs ds S → lookK ds k = some d → ∃ v T, valV vs k = some v ∧ OwD K w B H v d T ∧ (∀ a ∈ T, a ∈ S) ∧
    ∀ {H' : Hp} {d' : D}, Stp tq (fun a => a ∈ T) H H' → (∀ a ∈ T, B a) → OwD K w B H' v d' T → OwDk K w B H' vs (repK k d' ds) S
  | _, (_, _) :: ds', _, d, .cons (k := k') (v := v) c r q, e => by
    by_cases z : k' = k
    · subst z
      simp [lookK] at e
      subst e
      exact ⟨_, _, valV_pos rfl, c, fun a ha => List.mem_append_left _ ha, fun st hB g => by rw [repK, if_pos rfl]; exact .cons g (r.stp st hB fun a ha z => q a z ha) q⟩
    · have e' : lookK ds' k = some d := by simpa [lookK, z] using e
      obtain ⟨v', T, h1, h2, h3, h4⟩ := OwDk.focus r e'
      refine ⟨v', T, by rw [valV_neg (p := (k', v)) z]; exact h1, h2, fun a ha => List.mem_append_right _ (h3 a ha), fun st hB g => ?_⟩
      rw [repK, if_neg z]
      exact .cons (c.stp st hB fun a ha z => q a ha (h3 a z)) (h4 st hB g) q
  | _, _, _, d, .nil, e => by simp [lookK] at e
/-- a method of a part -/
def pathF (f : D → List D → Option (D × D)) (d key : D) (as : List D) : Option (D × D) := match d, key with
  | .dp (.own (.lst xs)), .int k => (ixN xs.length k).bind fun j => match xs[j]? with
    | some (.ov l) => (f l as).map fun y => (y.1, .dp (.own (.lst (xs.set j (.ov y.2)))))
    | _ => none
  | .dp (.own (.dK kvs)), .str s => match lookK kvs (.inr s) with
    | some (.ov l) => (f l as).map fun y => (y.1, .dp (.own (.dK (repK (.inr s) (.ov y.2) kvs))))
    | _ => none
  | _, _ => none
theorem pathF_eq {f : D → List D → Option (D × D)} {d key : D} {as : List D} {y d' : D} (h : pathF f d key as = some (y, d')) :
    (∃ xs k j l l', d = .dp (.own (.lst xs)) ∧ key = .int k ∧ ixN xs.length k = some j ∧ xs[j]? = some (.ov l) ∧ f l as = some (y, l') ∧ d' = .dp (.own (.lst (xs.set j (.ov l'))))) ∨
    ∃ kvs s l l', d = .dp (.own (.dK kvs)) ∧ key = .str s ∧ lookK kvs (.inr s) = some (.ov l) ∧ f l as = some (y, l') ∧ d' = .dp (.own (.dK (repK (.inr s) (.ov l') kvs))) := by
  unfold pathF at h
  split at h
  · rename_i xs k
    cases hj : ixN xs.length k with
    | none => rw [hj] at h; cases h
    | some j =>
      rw [hj, Option.bind_some] at h
      split at h
      · rename_i l hl
        cases hf : f l as with
        | none => rw [hf] at h; cases h
        | some z => rw [hf] at h; cases h; exact .inl ⟨xs, k, j, l, _, rfl, rfl, hj, hl, hf, rfl⟩
      · cases h
  · rename_i kvs s
    split at h
    · rename_i l hl
      cases hf : f l as with
      | none => rw [hf] at h; cases h
      | some z => rw [hf] at h; cases h; exact .inr ⟨kvs, s, l, _, rfl, rfl, hl, hf, rfl⟩
    · cases h
  · cases h
end
section
variable {K : PySem.W.Frag} {w : World} {tq : Tb} {ρ : List Sl} {te ta tb tk td : TE} {tr : TA} {ti : TI} {tt : TT} {g : TG} {p : Pt} {ci : Option (List D)} {ct : List D → Option Bool} {ce : List D → Option D} {ix : List Nat} {c ca cb ck cd : Option D} {cr : Option (List D)} {T : Type} {e : T → List Sl}
/-- x[k].m(e ..), x a slot that owns its list and the lists in it -/
theorem yx_methP {r : V → List V → Hp → VK → Prop} {f : D → List D → Option (D × D)} {i : Nat} {fl : Bool} {d : D} {put : D → T} (o : Mth K w r f) (h1 : ρ[i]? = some (.ow fl d)) (h2 : ∀ d', ρ.set i (.ow fl d') = e (put d')) (hk : RunsE K w tq tk ρ ck) (ha : RunsA K w tq tr ρ cr) :
    RunsX K w tq (tBM K "list" r (tOp (rIxU K w) (tVar i) tk) tr) ρ e (ck.bind fun key => cr.bind fun as => (pathF f d key as).map fun y => (y.1, put y.2)) := fun Γ φ σ H Q x t' E hc k => by
  cases ck with
  | none => cases hc
  | some key =>
    cases cr with
    | none => cases hc
    | some as =>
      have hc : (pathF f d key as).map (fun y => (y.1, put y.2)) = some (x, t') := hc
      cases hf : pathF f d key as with
      | none => rw [hf] at hc; cases hc
      | some yd =>
        obtain ⟨y, d'⟩ := yd
        rw [hf] at hc
        cases hc
        obtain ⟨pa, g1, _⟩ := E.ow i fl d h1
        refine ⟨.ref pa, g1, ?_⟩
        refine hk Γ φ σ H _ key E rfl fun kv H1 e1 r1 => ?_
        have E1 := E.ex e1
        obtain ⟨p', q1, q2, q3, q4⟩ := E1.ow i fl d h1
        rw [g1] at q1
        cases q1
        generalize hs : φ i = S at q2
        have hO : ∀ a, a ∈ S → Av Γ ρ φ a := fun a z => .inr ⟨i, fl, _, h1, by rw [hs]; exact z⟩
        -- what comes behind, told of the part at q
        have go : ∀ (q : Addr) (ys : List V) (ds : List D) (l' : D), H1 q = some (.lst ys) → q ∈ S → RpA K w (Av Γ ρ φ) H1 ys ds → f (.lst ds) as = some (y, l') →
            (∀ H2 ys' ds', l' = .lst ds' → Xt tq H1 H2 → H2 q = some (.lst ys) → RpA K w (Av Γ ρ φ) H2 ys' ds' → OwR K w (Av Γ ρ φ) (upd H2 q (.lst ys')) pa d' S) →
            tyV K "list" (.ref q) H1 ∧ tr σ H1 fun xs H2 => r (.ref q) xs H2 Q := by
          intro q ys ds l' hq hqS ry hfl back
          refine ⟨.inl ⟨rfl, ys, .inl (.inl hq)⟩, ha Γ φ σ H1 _ as E1 rfl fun vs H2 e2 r2 => ?_⟩
          have hq2 := e2.lst hq
          refine o.run (Av Γ ρ φ) H2 q ys ds vs as y l' Q hq2 (ry.ex e2) r2 hfl fun v ys' ds' ed ra' rv => ?_
          have E2 := E1.ex e2
          have st : Stp tq (fun a => a = q) H2 (upd H2 q (.lst ys')) := Stp.chgL rfl hq2 (.lst _)
          have A2 : Af K w tq Γ φ σ H2 ρ φ (upd H2 q (.lst ys')) (ρ.set i (.ow fl d')) := by
            refine Af.mut E2 h1 g1 (st.mono fun a z => by rw [hs, z]; exact hqS) ?_
            rw [hs]
            exact back H2 ys' ds' ed e2 hq2 ra'
          have rv2 := A2.rp rv
          rw [h2 d'] at A2 rv2
          exact k v _ φ ((Af.ex E (e1.trans e2)).trans A2) rv2
        rcases pathF_eq hf with ⟨xs, kk, j, l, l', rfl, rfl, hj, hl, hfl, rfl⟩ | ⟨kvs, s, l, l', rfl, rfl, hl, hfl, rfl⟩
        · cases q2 with
          | dp hd hp =>
            cases hd with
            | va z => cases z
            | @lst _ vs _ S' hpa hds np =>
              obtain ⟨v, U, hv, hov, hsub, back⟩ := OwDs.focus (tq := tq) hds hl
              obtain ⟨ds0, ds0', el, el'⟩ := o.lst _ _ _ hfl
              subst el
              have el' : l' = .lst ds0' := el'
              cases hov with
              | va z => cases z
              | @vl q ys _ hq ry =>
                cases r1
                have hqS : q ∈ S' := hsub q (List.mem_singleton.mpr rfl)
                refine .lst rfl rfl (.inl (.inl hpa)) (show atI vs kk = some (.ref q) by unfold atI; rw [hds.len, hj]; exact hv) (go q ys ds0 l' hq (List.mem_cons_of_mem _ hqS) ry hfl fun H2 ys' ds' ed ex hq2 ra => ?_)
                rw [ed]
                have nq : pa ≠ q := fun z => np (z ▸ hqS)
                have st2 : Stp tq (fun a => a = q) H2 (upd H2 q (.lst ys')) := Stp.chgL rfl hq2 (.lst _)
                have st3 : Stp tq (fun a => a ∈ [q]) H1 (upd H2 q (.lst ys')) := (Stp.ex ex).trans (st2.mono fun a z => by rw [z]; exact List.mem_singleton.mpr rfl)
                refine .dp (.lst (by rw [upd_ne nq]; exact ex.lst hpa) (back st3 (fun a ha => hO a (List.mem_cons_of_mem _ (hsub a ha))) (.vl upd_same (ra.stp st2 fun a z => ?_))) np) (List.mem_cons_self ..)
                rw [z]; exact hO q (List.mem_cons_of_mem _ hqS)
        · cases q2 with
          | dp hd hp =>
            cases hd with
            | va z => cases z
            | @dK _ vs _ S' hpa hds np =>
              obtain ⟨v, U, hv, hov, hsub, back⟩ := OwDk.focus (tq := tq) hds hl
              obtain ⟨ds0, ds0', el, el'⟩ := o.lst _ _ _ hfl
              subst el
              have el' : l' = .lst ds0' := el'
              cases hov with
              | va z => cases z
              | @vl q ys _ hq ry =>
                cases r1
                have hqS : q ∈ S' := hsub q (List.mem_singleton.mpr rfl)
                have gg := DGet.k (k := .inr s) hpa
                rw [hv] at gg
                refine .dic rfl gg (go q ys ds0 l' hq (List.mem_cons_of_mem _ hqS) ry hfl fun H2 ys' ds' ed ex hq2 ra => ?_)
                rw [ed]
                have nq : pa ≠ q := fun z => np (z ▸ hqS)
                have st2 : Stp tq (fun a => a = q) H2 (upd H2 q (.lst ys')) := Stp.chgL rfl hq2 (.lst _)
                have st3 : Stp tq (fun a => a ∈ [q]) H1 (upd H2 q (.lst ys')) := (Stp.ex ex).trans (st2.mono fun a z => by rw [z]; exact List.mem_singleton.mpr rfl)
                refine .dp (.dK (by rw [upd_ne nq]; exact ex.dK hpa) (back st3 (fun a ha => hO a (List.mem_cons_of_mem _ (hsub a ha))) (.vl upd_same (ra.stp st2 fun a z => ?_))) np) (List.mem_cons_self ..)
                rw [z]; exact hO q (List.mem_cons_of_mem _ hqS)
theorem wipe_back {σ σ2 : L2.St} {is : List Nat} (w4 : ∀ ix, (∀ i ∈ is, i ∈ ix) → L2.wipe σ2 ix = L2.wipe (L2.wipe σ ix0) ix) (hx : ∀ i ∈ is, i ∈ ix0) : L2.wipe σ2 ix0 = L2.wipe σ ix0 := by
  rw [w4 ix0 hx]
  apply List.ext_getElem?
  intro j
  have key : ∀ (τ : L2.St) (ix : List Nat) (j : Nat), (L2.wipe τ ix)[j]? = if j ∈ ix then (if j < τ.length then some none else none) else τ[j]? := by
    intro τ ix
    induction ix with
    | nil => intro j; simp [L2.wipe]
    | cons a r ih =>
      intro j
      show ((L2.wipe τ r).set a none)[j]? = _
      by_cases z : a = j
      · subst z
        rw [List.getElem?_set]
        simp [wipe_length]
      · rw [getset_ne z, ih j]
        have : (j ∈ a :: r) = (j ∈ r) := by simp [Ne.symm z]
        simp only [this]
  rw [key, wipe_length, key]
  by_cases hj : j ∈ ix0 <;> simp [hj]
def _root_.M.Ct.adds (Γ : Ct) (S : List Addr) : Ct := { Γ with F := fun a => Γ.F a ∨ a ∈ S }
theorem ER.addFs {Γ : Ct} {φ : Foot} {σ : L2.St} {H1 H' : Hp} {ρ : List Sl} {S : List Addr} (E : ER K w tq Γ φ σ H1 ρ) (hS : ∀ a ∈ S, H1 a = none) (e : Xt tq H1 H') (hn : ∀ a ∈ S, H' a ≠ none) : ER K w tq (Γ.adds S) φ σ H' ρ := by
  have up : ∀ a, Av (Γ.adds S) ρ φ a → Av Γ ρ φ a ∨ H1 a = none := by
    rintro a ((h | h) | h)
    · exact .inl (.inl h)
    · exact .inr (hS a h)
    · exact .inl (.inr h)
  refine ⟨E.len, ?_, E.tbl.xt e, fun j d h => ?_, fun j f d h => ?_, E.dis, E.stp.trans (Stp.ex e)⟩
  · rintro a (h | h)
    · exact fun z => E.al a h ((Stp.ex (O := fun _ => False) e).back a z)
    · exact hn a h
  · obtain ⟨v, h1, h2⟩ := E.va j d h
    exact ⟨v, h1, (h2.anti up).ex e⟩
  · obtain ⟨p, h1, h2, h3, h4⟩ := E.ow j f d h
    refine ⟨p, h1, (h2.anti up).ex e, fun a ha => ⟨?_, (h3 a ha).2⟩, h4⟩
    rintro (z | z)
    · exact (h3 a ha).1 z
    · exact h2.al ha (hS a z)
/-- [e for ..], each e a new object, the def's own with its parts -/
theorem rn_lcO (hi : RunsI K w tq ti ρ ci) (hg : Bnd K w tq g p) (hf : freeL p.slots (wipeL ρ ix) = true) (hx : ∀ i ∈ p.slots, i ∈ ix) (hn : noOw ρ ix = true) (ht : ∀ ls, RunsT K w tq tt (setL p.slots ls (wipeL ρ ix)) (ct ls)) (he : ∀ ls, RunsN K w tq te (setL p.slots ls (wipeL ρ ix)) (ce ls)) :
    RunsN K w tq (tLc ti g tt te ix) ρ ((ci.bind fun xs => compM (compB p ct ce) xs).map fun ys => D.dp (.own (.lst (ys.map ownD)))) := fun Γ φ σ H Q d E hc k => by
  cases ci with
  | none => cases hc
  | some xs =>
    cases hm : compM (compB p ct ce) xs with
    | none => rw [Option.bind_some, hm] at hc; cases hc
    | some ys =>
      rw [Option.bind_some, hm] at hc
      cases hc
      refine x_lc (hi Γ φ σ H _ xs E rfl fun J H1 G Y e1 hl wk hG hY D hD => ?_)
      have E1 := E.ex e1
      have hs : (1000000 : Nat) < sizeLine := by rw [sizeLine_eq]; decide
      refine lc_it wk (Qd := Q (.ref D)) (fun i H' => Xt tq H1 H' ∧ ∃ acc out S rest, H' D = some (.lst acc) ∧ OwDs K w (fun a => (Av Γ ρ φ a ∨ a = D) ∨ a ∈ S) H' acc (out.map ownD) S ∧ (∀ a ∈ S, H1 a = none ∧ a ≠ D) ∧ out.length ≤ i ∧ compM (compB p ct ce) (xs.drop i) = some rest ∧ ys = out ++ rest)
        ⟨Xt.new hD, [], [], [], ys, upd_same, .nil, fun a ha => absurd ha List.not_mem_nil, Nat.le_refl _, hm, rfl⟩ (fun i H' _ z => hG H' (Stp.ex z.1)) ?_ ?_
      · rintro i x H2 H3 hin ⟨e2, acc, out, S, rest, hacc, hra, hS, hlen, hrest, hys⟩ hy
        have hxi : xs[i]? = some xs[i] := List.getElem?_eq_getElem hin
        obtain ⟨e3, hrx⟩ := hY (fun a => Av (Γ.adds (D :: S)) (wipeL ρ ix) φ a) i H2 x H3 xs[i] (Stp.ex e2) (by
          rintro a ((z | z) | z)
          · exact .inl (.inl z)
          · exact .inr ((List.mem_cons.mp z).elim (fun z => by rw [z]; exact hD) fun z => (hS a z).1)
          · exact .inl (.inr (ft_wipe z))) hxi hy
        have hacc3 : H3 D = some (.lst acc) := e3.lst hacc
        have E3 : ER K w tq (Γ.adds (D :: S)) φ (L2.wipe σ ix) H3 (wipeL ρ ix) := (E1.addFs (fun a z => (List.mem_cons.mp z).elim (fun z => by rw [z]; exact hD) fun z => (hS a z).1) (e2.trans e3) fun a z => (List.mem_cons.mp z).elim (fun z => by rw [z, hacc3]; exact fun z => nomatch z) fun z y => hra.al z ((Stp.ex (O := fun _ => False) e3).back a y)).wipe ix
        rw [List.drop_eq_getElem_cons hin] at hrest
        have hrest : ((compB p ct ce xs[i]).bind fun o => (compM (compB p ct ce) (xs.drop (i + 1))).bind fun r => some (o.toList ++ r)) = some rest := hrest
        cases hb : compB p ct ce xs[i] with
        | none => rw [hb] at hrest; cases hrest
        | some o =>
          cases hr : compM (compB p ct ce) (xs.drop (i + 1)) with
          | none => rw [hb, hr] at hrest; cases hrest
          | some r =>
            rw [hb, hr] at hrest
            have hrest : o.toList ++ r = rest := Option.some.inj hrest
            subst hrest
            have hb : ((un p xs[i]).bind fun ls => (ct ls).bind fun b => if b = true then (ce ls).map some else some none) = some o := hb
            cases hu : un p xs[i] with
            | none => rw [hu] at hb; cases hb
            | some ls =>
              rw [hu] at hb
              have hb : ((ct ls).bind fun b => if b = true then (ce ls).map some else some none) = some o := hb
              cases hct : ct ls with
              | none => rw [hct] at hb; cases hb
              | some b =>
                rw [hct] at hb
                have hb : (if b = true then (ce ls).map some else some none) = some o := hb
                refine hg _ φ _ H3 _ x xs[i] ls _ E3 hrx hu hf fun σ2 E4 w4 => ⟨wipe_back w4 hx, ?_⟩
                refine ht ls _ φ σ2 H3 _ b E4 hct fun H4 e4 => ?_
                cases b with
                | false =>
                  rw [if_neg (by decide)] at hb
                  have ho : o = none := (Option.some.inj hb).symm
                  subst ho
                  rw [if_neg (by decide)]
                  exact ⟨(e2.trans e3).trans e4, acc, out, S, r, e4.lst hacc3, hra.stp (O := fun _ => False) (Stp.ex (e3.trans e4)) (fun _ z => z.elim) (fun _ _ z => z), hS, by omega, rfl, hys⟩
                | true =>
                  rw [if_pos rfl] at hb
                  rw [if_pos rfl]
                  cases hce : ce ls with
                  | none => rw [hce] at hb; cases hb
                  | some y =>
                    rw [hce] at hb
                    have ho : o = some y := (Option.some.inj hb).symm
                    subst ho
                    refine he ls _ φ σ2 H4 _ y (E4.ex e4) hce fun q H5 e5 n5 => ?_
                    obtain ⟨T, hT, o5⟩ := n5
                    have e45 := (e3.trans e4).trans e5
                    have h5 : H5 D = some (.lst acc) := e5.lst (e4.lst hacc3)
                    have alS : ∀ a ∈ S, H4 a ≠ none := fun a ha z => hra.al ha ((Stp.ex (O := fun _ => False) (e3.trans e4)).back a z)
                    have dj : ∀ a ∈ S, a ∉ T := fun a ha z => alS a ha (hT a z)
                    have nD : ∀ a ∈ T, a ≠ D := fun a ha z => by
                      have := hT a ha
                      rw [z, e4.lst hacc3] at this
                      cases this
                    have T1 : ∀ a ∈ T, H1 a = none := fun a ha => (Stp.ex (O := fun _ => False) ((e2.trans e3).trans e4)).back a (hT a ha)
                    refine ⟨acc, h5, ?_, Xt.mut (e2.trans e45) hD h5 (.lst _), acc ++ [.ref q], out ++ [y], S ++ T, r, upd_same, ?_, ?_, by simp; omega, rfl, ?_⟩
                    · have := hra.len
                      rw [List.length_map] at this
                      rw [this]; omega
                    · rw [List.map_append]
                      have a1 : OwDs K w (fun a => ((Av Γ ρ φ a ∨ a = D) ∨ a ∈ S) ∨ a ∈ T) H4 acc (out.map ownD) S := (hra.stp (O := fun _ => False) (Stp.ex (e3.trans e4)) (fun _ z => z.elim) (fun _ _ z => z)).anti fun a z => z.imp id (hT a)
                      have a2 : OwDs K w (fun a => ((Av Γ ρ φ a ∨ a = D) ∨ a ∈ S) ∨ a ∈ T) H5 acc (out.map ownD) S := a1.stp (O := fun _ => False) (Stp.ex e5) (fun _ z => z.elim) (fun _ _ z => z)
                      have b2 : OwD K w (fun a => ((Av Γ ρ φ a ∨ a = D) ∨ a ∈ S) ∨ a ∈ T) H5 (.ref q) (ownD y) T := by
                        refine o5.part.anti fun a z => .inl ?_
                        rcases z with (((z | z) | z) | z) | z
                        · exact .inl (.inl (.inl z))
                        · exact .inl (.inr (ft_inner hn hx z))
                        · exact .inl (.inl (.inr (List.mem_cons.mpr (.inl z))))
                        · exact .inl (.inl (.inr (List.mem_cons_of_mem _ z)))
                        · exact .inr z
                      have st : Stp tq (fun a => a = D) H5 (upd H5 D (.lst (acc ++ [.ref q]))) := Stp.chgL rfl h5 (.lst _)
                      have c2 := (OwDs.snoc b2 a2 dj).stp st (fun a z => .inl (.inl (.inr z))) fun a ha z => (List.mem_append.mp ha).elim (fun y => (hS a y).2 z) fun y => nD a y z
                      exact c2.anti fun a z => .inl (z.elim (fun z => .inl (.inl z)) fun z => (List.mem_append.mp z).elim (fun z => .inl (.inr z)) .inr)
                    · intro a ha
                      exact (List.mem_append.mp ha).elim (hS a) fun z => ⟨T1 a z, nD a z⟩
                    · rw [hys]; simp
      · rintro H2 ⟨e2, acc, out, S, rest, hacc, hra, hS, hlen, hrest, hys⟩
        rw [List.drop_length] at hrest
        have hrest : ([] : List M.D) = rest := Option.some.inj hrest
        subst hrest
        rw [List.append_nil] at hys
        subst hys
        refine k D H2 (e1.trans e2) ⟨D :: S, fun a ha => ?_, .dp (.lst hacc (hra.anti fun a z => .inl ?_) fun z => (hS D z).2 rfl) (List.mem_cons_self ..)⟩
        · rcases List.mem_cons.mp ha with z | z
          · rw [z]; exact (Stp.ex (O := fun _ => False) e1).back D hD
          · exact (Stp.ex (O := fun _ => False) e1).back a (hS a z).1
        · rcases z with z | z
          · exact .inl (.inl z)
          · rcases List.mem_cons.mp z with z | z
            · exact .inl (.inr z)
            · exact .inr z
end
end M
end
section
set_option Elab.async false
set_option linter.all false
set_option maxRecDepth 100000
set_option maxHeartbeats 4000000
namespace M
open PySem PySem.Spec PyProof.Rows L2 U
open He (ga)
open StX (tStar)
def tupN : D → Option Nat
  | .tup xs => some xs.length
  | _ => none
/-- the first of those with the most items -/
def pickL : D → List D → D
  | b, [] => b
  | b, x :: xs => if (tupN b).getD 0 < (tupN x).getD 0 then pickL x xs else pickL b xs
def maxLenD (a dv : D) : Option D := match a with
  | .lst [] => some dv
  | .lst (x :: xs) => if (x :: xs).all (fun d => (tupN d).isSome) = true then some (pickL x xs) else none
  | _ => none
theorem pickL_best : ∀ (xs : List D) (b : D) (i : Nat) (x : D), (b :: xs)[i]? = some x → (∀ (j : Nat) (y : D), (b :: xs)[j]? = some y → (tupN y).getD 0 ≤ (tupN x).getD 0 ∧ (j < i → (tupN y).getD 0 < (tupN x).getD 0)) → pickL b xs = x
  | [], b, 0, x, h, _ => by simpa [pickL] using h
  | [], b, i + 1, x, h, _ => by simp at h
  | y :: ys, b, i, x, h, hb => by
    rw [pickL]
    by_cases z : (tupN b).getD 0 < (tupN y).getD 0
    · rw [if_pos z]
      cases i with
      | zero =>
        have e : b = x := by simpa using h
        have := (hb 1 y (by simp)).1
        rw [e] at z
        omega
      | succ i =>
        refine pickL_best ys y i x (by simpa using h) fun j w hw => ?_
        have := hb (j + 1) w (by simpa using hw)
        exact ⟨this.1, fun q => this.2 (by omega)⟩
    · rw [if_neg z]
      cases i with
      | zero =>
        refine pickL_best ys b 0 x (by simpa using h) fun j w hw => ?_
        cases j with
        | zero => exact ⟨(hb 0 w (by simpa using hw)).1, fun q => absurd q (Nat.lt_irrefl _)⟩
        | succ j => exact ⟨(hb (j + 2) w (by simpa using hw)).1, fun q => absurd q (Nat.not_lt_zero _)⟩
      | succ i =>
        cases i with
        | zero =>
          have e : y = x := by simpa using h
          have := (hb 0 b (by simp)).2 (Nat.succ_pos _)
          rw [e] at z
          omega
        | succ i =>
          refine pickL_best ys b (i + 1) x (by simpa using h) fun j w hw => ?_
          cases j with
          | zero =>
            have := hb 0 w (by simpa using hw)
            exact ⟨this.1, fun _ => this.2 (Nat.succ_pos _)⟩
          | succ j =>
            have := hb (j + 2) w (by simpa using hw)
            exact ⟨this.1, fun q => this.2 (by omega)⟩
section
variable {K : PySem.W.Frag} {w : World} {tq : Tb} {ρ : List Sl} {te ta tb td : TE} {tr : TA} {c ca cb cd : Option D} {cr : Option (List D)}
theorem re_maxLen (ha : RunsE K w tq ta ρ ca) (hd : RunsE K w tq td ρ cd) : RunsE K w tq (tMaxLen K ta td) ρ (ca.bind fun a => cd.bind fun d => maxLenD a d) := fun Γ φ σ H Q d E hc k => by
  cases ca with
  | none => cases hc
  | some a =>
    cases cd with
    | none => cases hc
    | some dv =>
      have hc : maxLenD a dv = some d := hc
      refine ha Γ φ σ H _ a E rfl fun v H1 e1 r1 => ?_
      refine hd Γ φ σ H1 _ dv (E.ex e1) rfl fun u H2 e2 r2 => ?_
      have r1' := r1.ex e2
      cases r1 with
      | @lst l xs ds h1 n1 ra =>
        have ra2 := ra.ex e2
        cases ds with
        | nil =>
          cases hc
          cases ra
          exact ⟨l, [], fun _ => 0, rfl, .inl (.inl h1), .inl (.inl (e2.lst h1)), fun i x h => by simp at h, fun _ => k u H2 (e1.trans e2) r2, fun i x h => by simp at h⟩
        | cons x0 r0 =>
          have hc : (if (x0 :: r0).all (fun d => (tupN d).isSome) = true then some (pickL x0 r0) else none) = some d := hc
          split at hc
          · rename_i hall
            have hd := Option.some.inj hc
            refine ⟨l, xs, fun i => match (x0 :: r0)[i]? with | some d => (tupN d).getD 0 | none => 0, rfl, .inl (.inl h1), .inl (.inl (e2.lst h1)), fun i x h => ?_, fun z => ?_, fun i x h hb => ?_⟩
            · obtain ⟨d', g1, g2⟩ := ra2.atV h
              have := List.all_eq_true.mp hall d' (List.mem_of_getElem? g1)
              cases g2 with
              | @tup t ys es ht rt => exact ⟨t, ys, rfl, ht.sq, by simp only [g1]; exact rt.len⟩
              | _ => cases this
            · rw [z] at ra2; cases ra2
            · obtain ⟨d', g1, g2⟩ := ra2.atV h
              refine k x H2 (e1.trans e2) ?_
              rw [← hd, pickL_best r0 x0 i d' g1 fun j y hy => ?_]
              · exact g2
              · have hj := (List.getElem?_eq_some_iff.mp hy).1
                have := hb j (by rw [ra2.len]; exact hj)
                simp only [g1, hy] at this
                exact this
          · cases hc
      | _ => cases hc
theorem ra_star (ha : RunsE K w tq ta ρ ca) (hr : RunsA K w tq tr ρ cr) : RunsA K w tq (tStar K ta tr) ρ ((ca.bind seqOf).bind fun a => cr.bind fun r => some (a ++ r)) := fun Γ φ σ H Q ds E hc k => by
  cases ca with
  | none => cases hc
  | some a =>
    cases hs : seqOf a with
    | none => rw [Option.bind_some, hs] at hc; cases hc
    | some es =>
      cases cr with
      | none => rw [Option.bind_some, hs] at hc; cases hc
      | some r =>
        rw [Option.bind_some, hs] at hc
        cases hc
        refine ha Γ φ σ H _ a E rfl fun x H1 e1 r1 => ?_
        obtain ⟨p, ys, rfl, g1, g2⟩ := seqOf_rp r1 hs
        refine ⟨p, ys, rfl, g1.symm.imp id id, ?_⟩
        exact hr Γ φ σ H1 _ r (E.ex e1) rfl fun zs H2 e2 r2 => k _ H2 (e1.trans e2) ((g2.ex e2).app r2)
def kysD : List D → Option (List Key)
  | [] => some []
  | .int i :: r => (kysD r).map (Sum.inl i :: ·)
  | .str x :: r => (kysD r).map (Sum.inr x :: ·)
  | _ => none
def keyTD : List D → Option (List (List Key))
  | [] => some []
  | .tup ds :: r => (kysD ds).bind fun k => (keyTD r).map (k :: ·)
  | _ => none
/-- each once -/
def ndup {α : Type} [DecidableEq α] : List α → List α
  | [] => []
  | x :: r => if x ∈ ndup r then ndup r else x :: ndup r
theorem ndup_mem {α : Type} [DecidableEq α] {y : α} : ∀ {xs : List α}, y ∈ ndup xs ↔ y ∈ xs
  | [] => Iff.rfl
  | x :: r => by
    rw [ndup]
    split
    · rename_i h
      rw [ndup_mem (xs := r), List.mem_cons]
      exact ⟨.inr, fun z => z.elim (fun z => z ▸ ndup_mem.mp h) id⟩
    · rw [List.mem_cons, List.mem_cons, ndup_mem (xs := r)]
theorem ndup_nodup {α : Type} [DecidableEq α] : ∀ {xs : List α}, (ndup xs).Nodup
  | [] => List.nodup_nil
  | x :: r => by
    rw [ndup]
    split
    · exact ndup_nodup
    · rename_i h; exact List.nodup_cons.mpr ⟨h, ndup_nodup⟩
theorem nodup_le {α : Type} [DecidableEq α] : ∀ {ys zs : List α}, ys.Nodup → (∀ y ∈ ys, y ∈ zs) → ys.length ≤ zs.length
  | [], zs, _, _ => Nat.zero_le _
  | y :: ys, zs, nd, h => by
    obtain ⟨n1, n2⟩ := List.nodup_cons.mp nd
    have hy : y ∈ zs := h y (List.mem_cons_self ..)
    have := nodup_le (zs := zs.erase y) n2 fun x hx => (List.mem_erase_of_ne (fun z : x = y => n1 (by rw [← z]; exact hx))).mpr (h x (List.mem_cons_of_mem _ hx))
    rw [List.length_erase_of_mem hy] at this
    have pos : 0 < zs.length := List.length_pos_of_mem hy
    rw [List.length_cons]; omega
theorem cnt_ndup {α : Type} [DecidableEq α] {xs : List α} {n : Nat} (h : Cnt xs n) : n = (ndup xs).length := by
  obtain ⟨ys, nd, mem, rfl⟩ := h
  exact Nat.le_antisymm (nodup_le nd fun y hy => ndup_mem.mpr ((mem y).mp hy)) (nodup_le ndup_nodup fun y hy => (mem y).mpr (ndup_mem.mp hy))
def cntD : D → Option D
  | .lst ds => if ds.length ≤ 62 then (match strsD ds with
    | some xs => some (.int ((ndup xs).length : Nat))
    | none => (keyTD ds).map fun ks => .int ((ndup ks).length : Nat)) else none
  | .tup ds => (strsD ds).bind fun xs => if xs.Nodup ∧ xs.length ≤ 62 then some (.int (xs.length : Nat)) else none
  | _ => none
theorem kys_rp {B : AS} {H : Hp} : ∀ {ds : List D} {vs : List V} {k : List Key}, RpA K w B H vs ds → kysD ds = some k → vs = k.map kV
  | [], vs, k, r, h => by cases h; cases r; rfl
  | .int i :: ds, vs, k, r, h => by
    have h : (kysD ds).map (Sum.inl i :: ·) = some k := h
    cases e : kysD ds with
    | none => rw [e] at h; cases h
    | some k' =>
      rw [e] at h; cases h
      cases r with
      | cons r1 r2 => cases r1; rw [kys_rp r2 e]; rfl
  | .str i :: ds, vs, k, r, h => by
    have h : (kysD ds).map (Sum.inr i :: ·) = some k := h
    cases e : kysD ds with
    | none => rw [e] at h; cases h
    | some k' =>
      rw [e] at h; cases h
      cases r with
      | cons r1 r2 => cases r1; rw [kys_rp r2 e]; rfl
  | .non :: _, _, _, _, h => nomatch h
  | .bl _ :: _, _, _, _, h => nomatch h
  | .tup _ :: _, _, _, _, h => nomatch h
  | .lst _ :: _, _, _, _, h => nomatch h
  | .dK _ :: _, _, _, _, h => nomatch h
  | .scr _ :: _, _, _, _, h => nomatch h
  | .dc _ :: _, _, _, _, h => nomatch h
  | .fn _ :: _, _, _, _, h => nomatch h
  | .dT _ :: _, _, _, _, h => nomatch h
  | .dp _ :: _, _, _, _, h => nomatch h
  | .own _ :: _, _, _, _, h => nomatch h
  | .ov _ :: _, _, _, _, h => nomatch h
theorem keyT_rp {B : AS} {H : Hp} : ∀ {ds : List D} {vs : List V} {ks : List (List Key)}, RpA K w B H vs ds → keyTD ds = some ks → ∃ ps : List El, vs = ps.map (fun p => V.ref p.1) ∧ ps.map (·.2) = ks ∧ ∀ p ∈ ps, SqT K H p.1 (p.2.map kV)
  | [], vs, k, r, h => by cases h; cases r; exact ⟨[], rfl, rfl, fun p hp => by cases hp⟩
  | .tup xs :: ds, vs, k, r, h => by
    have h : ((kysD xs).bind fun k => (keyTD ds).map (k :: ·)) = some k := h
    cases e : kysD xs with
    | none => rw [e] at h; cases h
    | some k' =>
      rw [e, Option.bind_some] at h
      cases e2 : keyTD ds with
      | none => rw [e2] at h; cases h
      | some ks =>
        rw [e2] at h; cases h
        cases r with
        | cons r1 r2 =>
          cases r1 with
          | @tup a ys _ ht rt =>
            obtain ⟨ps, h1, h2, h3⟩ := keyT_rp r2 e2
            refine ⟨(a, k') :: ps, by rw [h1]; rfl, by rw [List.map_cons, h2], fun p hp => ?_⟩
            rcases List.mem_cons.mp hp with z | z
            · rw [z, ← kys_rp rt e]; exact ht.sq
            · exact h3 p z
  | .int _ :: _, _, _, _, h => nomatch h
  | .str _ :: _, _, _, _, h => nomatch h
  | .non :: _, _, _, _, h => nomatch h
  | .bl _ :: _, _, _, _, h => nomatch h
  | .lst _ :: _, _, _, _, h => nomatch h
  | .dK _ :: _, _, _, _, h => nomatch h
  | .scr _ :: _, _, _, _, h => nomatch h
  | .dc _ :: _, _, _, _, h => nomatch h
  | .fn _ :: _, _, _, _, h => nomatch h
  | .dT _ :: _, _, _, _, h => nomatch h
  | .dp _ :: _, _, _, _, h => nomatch h
  | .own _ :: _, _, _, _, h => nomatch h
  | .ov _ :: _, _, _, _, h => nomatch h
theorem re_lenSetU (h : RunsE K w tq te ρ c) : RunsE K w tq (tLenSetU K te) ρ (c.bind cntD) := fun Γ φ σ H Q d E hc k => by
  cases c with
  | none => cases hc
  | some x =>
    have hc : cntD x = some d := hc
    cases x with
    | lst ds =>
      have hc : (if ds.length ≤ 62 then (match strsD ds with
        | some xs => some (D.int ((ndup xs).length : Nat))
        | none => (keyTD ds).map fun ks => D.int ((ndup ks).length : Nat)) else none) = some d := hc
      split at hc
      · rename_i few
        refine h Γ φ σ H _ _ E rfl fun v H' ex r => ?_
        cases r with
        | @lst a vs _ h1 n1 ra =>
          cases hs : strsD ds with
          | some xs =>
            rw [hs] at hc
            cases hc
            have ev := strs_rp ra hs
            refine .texts (xs := xs) rfl (.inl (.inl (by rw [← ev]; exact h1))) (by have := ra.len; rw [ev, List.length_map] at this; omega) fun n hn => ?_
            rw [cnt_ndup hn]
            exact k _ H' ex (.int _)
          | none =>
            rw [hs] at hc
            cases hk : keyTD ds with
            | none => rw [hk] at hc; cases hc
            | some ks =>
              rw [hk] at hc
              cases hc
              obtain ⟨ps, e1, e2, e3⟩ := keyT_rp ra hk
              refine .keys (ps := ps) rfl (.inl (.inl (by rw [← e1]; exact h1))) e3 (by have := ra.len; rw [e1, List.length_map] at this; omega) fun n hn => ?_
              rw [e2] at hn
              rw [cnt_ndup hn]
              exact k _ H' ex (.int _)
      · cases hc
    | tup ds =>
      have hc : ((strsD ds).bind fun xs => if xs.Nodup ∧ xs.length ≤ 62 then some (D.int (xs.length : Nat)) else none) = some d := hc
      cases h2 : strsD ds with
      | none => rw [h2] at hc; cases hc
      | some xs =>
        rw [h2, Option.bind_some] at hc
        split at hc
        · rename_i hx
          cases hc
          refine h Γ φ σ H _ _ E rfl fun v H' ex r => ?_
          cases r with
          | tup h1 r1 => exact .tup (xs := xs) rfl (by rw [← strs_rp r1 h2]; exact h1.sq) hx.1 hx.2 (k _ H' ex (.int _))
        · cases hc
    | _ => cases hc
def noLsG : D → Option D
  | .lst ds => if D.noLs ds = true then some (.lst ds) else none
  | _ => none
theorem rn_pk (h : RunsN K w tq te (fr ρ) c) : RunsN K w tq te ρ (c.bind noLsG) := fun Γ φ σ H Q d E hc k => by
  cases c with
  | none => cases hc
  | some x =>
    have hc : noLsG x = some d := hc
    cases x with
    | lst ds =>
      have hc : (if D.noLs ds = true then some (D.lst ds) else none) = some d := hc
      split at hc
      · rename_i hn
        cases hc
        refine h Γ φ σ H Q _ (E.sub (fr_sub ρ)) rfl fun p H' ex n => k p H' ex ?_
        obtain ⟨S, h1, h2⟩ := n
        have hp : p ∈ S := h2.mem
        cases h2 with
        | lst h2 ra => exact ⟨[p], fun a ha => by rw [List.mem_singleton.mp ha]; exact h1 p hp, .lst h2 (ra.any hn)⟩
      · cases hc
    | _ => cases hc
def fnS (K : PySem.W.Frag) : List (Str × Sp) → Addr → Option Sp
  | [], _ => none
  | (x, sp) :: r, f => if f = ga K x then some sp else fnS K r f
theorem fnS_at {K : PySem.W.Frag} {x : Str} {sp : Sp} : ∀ {L : List (Str × Sp)}, (L.map fun p => ga K p.1).Nodup → L.lookup x = some sp → fnS K L (ga K x) = some sp
  | [], _, h => by simp at h
  | (y, s) :: r, nd, h => by
    obtain ⟨n1, n2⟩ := List.nodup_cons.mp nd
    rw [fnS]
    by_cases e : x = y
    · subst e
      rw [if_pos rfl]
      simpa using h
    · have h' : r.lookup x = some sp := by
        rw [List.lookup_cons] at h
        rw [show (x == y) = false from by simpa using e] at h
        exact h
      have ne : ga K x ≠ ga K y := fun z => by
        have hm : (x, sp) ∈ r := by
          clear n1 n2 nd h
          induction r with
          | nil => simp at h'
          | cons p r ih =>
            obtain ⟨a, b⟩ := p
            rw [List.lookup_cons] at h'
            by_cases q : x = a
            · subst q
              simp at h'
              rw [h']; exact List.mem_cons_self ..
            · rw [show (x == a) = false from by simpa using q] at h'
              exact List.mem_cons_of_mem _ (ih h')
        exact n1 (List.mem_map.mpr ⟨_, hm, z⟩)
      rw [if_neg ne]
      exact fnS_at n2 h'
def callFn (L : List (Str × (List D → Option D))) (d : D) (as : List D) : Option D := match d with
  | .fn x => match L.lookup x with
    | some f => f as
    | none => none
  | _ => none
def fnSp (K : PySem.W.Frag) (w : World) (tq : Tb) (L : List (Str × (List D → Option D))) : List (Str × Sp) := L.map fun p => (p.1, mSp K w tq p.2)
theorem re_callA {i : Nat} {d : D} {L : List (Str × (List D → Option D))} (nd : (L.map fun p => ga K p.1).Nodup) (hi : ρ[i]? = some (.va d)) (ha : RunsA K w tq tr ρ cr) : RunsE K w tq (tCallA i (fnS K (fnSp K w tq L)) tr) ρ (cr.bind fun as => callFn L d as) := fun Γ φ σ H Q x E hc k => by
  cases cr with
  | none => cases hc
  | some as =>
    have hc : callFn L d as = some x := hc
    cases d with
    | fn y =>
      have hc : (match L.lookup y with | some f => f as | none => none) = some x := hc
      cases hl : L.lookup y with
      | none => rw [hl] at hc; cases hc
      | some f =>
        rw [hl] at hc
        obtain ⟨v, h1, h2⟩ := E.va i _ hi
        cases h2
        refine ⟨ga K y, mSp K w tq f, h1, fnS_at (by unfold fnSp; rw [List.map_map]; exact nd) ?_, ?_⟩
        · have : ∀ (L : List (Str × (List D → Option D))), L.lookup y = some f → (fnSp K w tq L).lookup y = some (mSp K w tq f) := by
            intro L
            induction L with
            | nil => intro h; simp at h
            | cons p r ih =>
              obtain ⟨a, b⟩ := p
              intro h
              show ((a, mSp K w tq b) :: fnSp K w tq r).lookup y = _
              rw [List.lookup_cons] at h ⊢
              by_cases e : y = a
              · subst e; simp at h ⊢; rw [h]
              · rw [show (y == a) = false from by simpa using e] at h ⊢
                exact ih h
          exact this L hl
        · exact ha Γ φ σ H _ as E rfl fun vs H1 e1 r1 => ⟨Av Γ ρ φ, as, x, (E.ex e1).alA, (E.ex e1).tbl, r1, hc, fun v H' e r => k v H' (e1.trans e) r⟩
    | _ => cases hc
theorem re_vdp {i : Nat} {d : D} (h : ρ[i]? = some (.va d)) : RunsE K w tq (tVar i) ρ (some (dpv d)) := fun Γ φ σ H Q d' E hc k => by
  cases hc
  obtain ⟨v, h1, h2⟩ := E.va i _ h
  exact ⟨v, h1, k v H (Xt.refl H) (rp_dpv h2)⟩
theorem ln1 {is : List Nat} {k : D → Option D} (h : ∀ a, RunsN K w tq te (setL is [a] ρ) (k a)) : ∀ ls, RunsN K w tq te (setL is ls ρ) (fn1 k ls) := fun ls Γ φ σ H Q d E hc kk => by
  obtain ⟨a, rfl, h'⟩ := fn1_ok hc
  exact h a Γ φ σ H Q d E h' kk
theorem ln2 {is : List Nat} {k : D → D → Option D} (h : ∀ a b, RunsN K w tq te (setL is [a, b] ρ) (k a b)) : ∀ ls, RunsN K w tq te (setL is ls ρ) (fn2 k ls) := fun ls Γ φ σ H Q d E hc kk => by
  obtain ⟨a, b, rfl, h'⟩ := fn2_ok hc
  exact h a b Γ φ σ H Q d E h' kk
theorem ln3 {is : List Nat} {k : D → D → D → Option D} (h : ∀ a b c, RunsN K w tq te (setL is [a, b, c] ρ) (k a b c)) : ∀ ls, RunsN K w tq te (setL is ls ρ) (fn3 k ls) := fun ls Γ φ σ H Q d E hc kk => by
  obtain ⟨a, b, c, rfl, h'⟩ := fn3_ok hc
  exact h a b c Γ φ σ H Q d E h' kk
theorem ln4 {is : List Nat} {k : D → D → D → D → Option D} (h : ∀ a b c f, RunsN K w tq te (setL is [a, b, c, f] ρ) (k a b c f)) : ∀ ls, RunsN K w tq te (setL is ls ρ) (fn4 k ls) := fun ls Γ φ σ H Q d E hc kk => by
  obtain ⟨a, b, c, f, rfl, h'⟩ := fn4_ok hc
  exact h a b c f Γ φ σ H Q d E h' kk
end
end M
end
section
set_option Elab.async false
set_option linter.all false
set_option maxRecDepth 100000
set_option maxHeartbeats 4000000
namespace U
open PySem PySem.Spec PyProof.Rows L2
/-- a def's promise, for calls under which no repr is under way -/
structure FnG (P : Program) (w : World) (K : PySem.W.Frag) (mg : Str → Option Value) (base : Heap) (k : Nat) (f : Addr) (fd : FuncData) (ps : List Str) (sp : Sp) : Prop where
  many : ∀ vs H Q E, sp vs H Q E → vs.length = ps.length
  go : ∀ (A : Around) (ou : List Env) (z : Shared) (M : Hp) (ar : Args) (us : List Value) (vs : List V) (Q : VK) (E : XK), Room k A → A.guards = some [] → Env0 P w K mg base A ou z M →
    BindsTo z fd ar (ps.zip us) → Vals vs us → sp vs M Q E → codeAny (model P w) A (.call (.ref f) ar) (CR C8.CX0 ou P w M z Q E) z
theorem FnG.of {P : Program} {w : World} {K : PySem.W.Frag} {mg : Str → Option Value} {base : Heap} {k : Nat} {f : Addr} {fd : FuncData} {ps : List Str} {sp : Sp} (F : FnOk P w K mg base C8.CX0 k f fd ps sp) : FnG P w K mg base k f fd ps sp :=
  ⟨F.len, fun A ou z M ar us vs Q E r _ => F.run A ou z M ar us vs Q E r⟩
theorem FnG.mono {P : Program} {w : World} {K : PySem.W.Frag} {mg : Str → Option Value} {base : Heap} {j k : Nat} {f : Addr} {fd : FuncData} {ps : List Str} {sp : Sp} (F : FnG P w K mg base j f fd ps sp) (h : j ≤ k) : FnG P w K mg base k f fd ps sp :=
  ⟨F.many, fun A ou z M ar us vs Q E r => F.go A ou z M ar us vs Q E (r.mono h)⟩
section
variable {P : Program} {w : World} {K : PySem.W.Frag} {mg : Str → Option Value} {base : Heap}
/-- by its body -/
theorem fng_of {k : Nat} {f : Addr} {x q : Str} {pa : Arguments} {bd : List Stmt} {sc : Scope} {dvs : List V} {kws : List (Str × V)} {fd : FuncData} {N ps : List Str} {sp : Sp} (F : FunD K x q pa bd sc dvs kws f fd) (S : FnScope N ps sc)
    (many : ∀ vs H Q E, sp vs H Q E → vs.length = ps.length)
    (body : ∀ (cdv : Value) (A : Around) (ou : List Env) (z : Shared) (M : Hp) (vs : List V) (Q : VK) (E : XK), Room k (A.deeper (envOfC q sc z.heap.objs.size f cdv)) → (A.deeper (envOfC q sc z.heap.objs.size f cdv)).guards = some [] → sp vs M Q E →
      ∃ t, PSs (cxOf C8.CX0 P w K mg base N q sc f cdv A ou z M E) bd t ∧ t { nx := fun _ M' => Q .non M', rt := Q } (start N vs) M) : FnG P w K mg base (k + 1) f fd ps sp := by
  obtain ⟨oc, od, dV, kV, doc, pm, an, cdv, ct, osl, e, lk, cd, _, _⟩ := F.ex
  subst e
  refine ⟨many, ?_⟩
  intro A ou z M ar us vs Q E room guard env bind rel hsp
  have nl := many _ _ _ _ hsp
  have Kz : K.In z.heap := env.mod.kin.keeps (fun b o y => (env.bs b o y).1)
  have locals : ∀ y ∈ ps.zip us, sc.names.lookup y.1 = some .local ∨ (sc.names.lookup y.1 = some .cell ∧ ((cellsFrom (z.heap.objs.size + 1) sc.names []).lookup y.1).isSome = true) := by
    rintro ⟨n, v⟩ hy
    exact (S.par n (List.of_mem_zip hy).1).imp id fun c => ⟨c, PySem.W.cellsFrom_some _ _ _ (.inl c)⟩
  refine codeAny_call_function room.depth (Kz _ _ lk) rfl S.co S.gen rfl
    (PySem.W.codeRec_of Kz cd) (bind _ _ _ _ ?_)
  refine wpAny_newFunctionEnv_cells S.kind locals ?_
  rintro en rfl z1 fresh
  refine ⟨(env.mod.nolimit.keeps (fun b o y => (env.bs b o y).1)).keeps fresh.toInCall.keep, codeAny_func ?_⟩
  obtain ⟨t, run, holds⟩ := body cdv A ou z M vs Q E (room.deeper _) guard hsp
  have inv0 : Inv (cxOf C8.CX0 P w K mg base N q sc f cdv A ou z M E) [] (start N vs) M z1 :=
    inv_start S room.hd env nl rel fresh
  refine wpAny_mono (run.run [] z1 (start N vs) M _ inv0 holds) ?_ (fun _ _ y => y)
  intro fl z2 y
  match fl, y with
  | .ret u, ⟨v, τ, M2, J, rv, qq⟩ => exact ⟨v, M2, J.os, J.bare, J.base, J.hok, rv, qq⟩
  | .next, ⟨τ, M2, J, qq⟩ => exact ⟨V.non, M2, J.os, J.bare, J.base, J.hok, rfl, qq⟩
  | .brk, ⟨_, _, _, qq⟩ => exact qq.elim
  | .cont, ⟨_, _, _, qq⟩ => exact qq.elim
end
/-- a def by its name -/
structure CalG (P : Program) (w : World) (K : PySem.W.Frag) (mg : Str → Option Value) (base : Heap) (k : Nat) (x : Str) (sp : Sp) (dvs : List V) : Prop where
  ex : ∃ (f : Addr) (fd : FuncData) (ps : List Str) (ds : List Value), FnG P w K mg base k f fd ps sp ∧ mg x = some (.ref f) ∧ PySem.W.keepIn K (.ref f) = true ∧ Binds K fd ps ds ∧ Vals dvs ds
theorem calG {P : Program} {w : World} {K : PySem.W.Frag} {mg : Str → Option Value} {base : Heap} {k : Nat} {x : Str} {sp : Sp} {dvs : List V} (c : C8.Cal P w K mg base k x sp dvs) : CalG P w K mg base k x sp dvs := by
  obtain ⟨f, fd, ps, ds, F, r⟩ := c.ex
  exact ⟨f, fd, ps, ds, FnG.of F, r⟩
theorem calG_of {P : Program} {w : World} {K : PySem.W.Frag} {mg : Str → Option Value} {base : Heap} {x : Str} {st : Stmt} {N ps : List Str} {k : Nat} {sp : Sp} (F : Fn K mg x st) (S : FnScope N ps (defScope st))
    (hb : ∀ (kV doc pm : Value) (an : Option Addr) (cdv ct : Value) (us : List Value), us.length = ps.length → bindArgs (PySem.W.fnOf x x (defArgs st) (defBody st) (defScope st) .none kV doc pm an cdv ct) ⟨us, []⟩ = pure (ps.zip us))
    (len : ∀ vs H Q E, sp vs H Q E → vs.length = ps.length)
    (body : ∀ (f : Addr) (cdv : Value) (A : Around) (ou : List Env) (z : Shared) (M : Hp) (vs : List V) (Q : VK) (E : XK), Room k (A.deeper (envOfC x (defScope st) z.heap.objs.size f cdv)) → (A.deeper (envOfC x (defScope st) z.heap.objs.size f cdv)).guards = some [] → sp vs M Q E →
      ∃ t, PSs (cxOf C8.CX0 P w K mg base N x (defScope st) f cdv A ou z M E).nox (defBody st) t ∧ t { nx := fun _ M' => Q .non M', rt := Q } (start N vs) M) : CalG P w K mg base (k + 1) x sp [] := by
  obtain ⟨f, fd, F1, hm⟩ := F.ex
  refine ⟨f, fd, ps, [], fng_of F1 S len fun cdv A ou z M vs Q E hr hg h => ?_, hm, F1.kp, F1.bindsN hb, .nil⟩
  obtain ⟨t, h1, h2⟩ := body f cdv A ou z M vs Q E hr hg h
  exact ⟨t, h1.nox, h2⟩
section
variable {X : Cx} {x : Str} {p pos : Pos} {e : Expr} {es : List Expr} {t : TA} {j k : Nat} {sp : Sp} {dvs : List V}
/-- a call of it -/
theorem pe_cG (c : CalG X.prog X.w X.K X.mg X.base k x sp dvs) (hr : Room j X.A) (gu : X.A.guards = some []) (hk : k ≤ j) (hg : Gl X x) (ha : PA X (e :: es) t)
    (hdb : (x == ("__debug__" : Str)) = false := by decide) (he : starEach (e :: es) X.env = (false, eval e X.env) :: starEach es X.env := by rfl) (hpl : (backTo pos (starEach es X.env)).any (·.1) = false := by rfl) :
    PE X (.Call (.Name x p) (e :: es) [] pos) (tCall sp dvs C8.E0 t) := by
  obtain ⟨f, fd, ps, ds, F, hm, kp, b, d⟩ := c.ex
  constructor
  intro pins s σ H Q I h
  refine wpAny_Call_Name_kw (ld_glob I hg hm ?_ hdb)
  refine PySem.W.callWith_K (h₀ := X.base) I.ok.mod.kin kp (thn (ha.run pos pins s σ H _ I h) ?_) he hpl
  rintro us s1 ⟨vs, H1, I1, r, q⟩
  refine ⟨I1.kIn, ?_⟩
  have r2 : Vals (vs ++ dvs) (us ++ ds) := r.append d
  have hl : (us ++ ds).length = ps.length := r2.length.symm.trans (F.many _ _ _ _ q)
  refine wpAny_call (codeAny_mono (F.go X.A X.stack s1 H1 ⟨us, []⟩ (us ++ ds) (vs ++ dvs) Q C8.E0 (hr.mono hk) gu I1.env0 (b s1 us I1.kIn hl) r2 q) ?_)
  intro r' s' hq
  match r', hq with
  | .error _, hq => exact hq.elim
  | .ok (.ret _), hq => exact I1.after hq
  | .ok .next, hq => exact hq.elim
  | .ok .brk, hq => exact hq.elim
  | .ok .cont, hq => exact hq.elim
end
end U
end
section
set_option Elab.async false
set_option linter.all false
set_option maxRecDepth 100000
set_option maxHeartbeats 4000000
namespace U
open PySem PySem.Spec PyProof.Rows L2
section
variable {P : Program} {w : World} {K : PySem.W.Frag} {mg mb : Str → Option Value} {k : Nat} {fa a : Addr} {fd : FuncData} {x : Str} {sp : Sp} {z : Shared} {us : List Value} {ns : List Int}
/-- from a heap in which the script alone may be tracked -/
theorem lawG_core (Kz : K.In z.heap) (nsm : z.heap.Ns mainGlobals mg) (nsb : z.heap.Ns builtinsNs mb) (boot : ∀ y : Str, y ≠ "__name__" → mb y = bootBuiltins y) (lim : z.heap.NoLimit) (ng : z.gens = #[])
    (at_ : z.heap.get? a = some { cls := .type "list", data := .seq us.toArray }) (hr : Room k callerA)
    (F : ∀ b : Heap, K.In b → b.Ns mainGlobals mg → FnG P w K mg b k fa fd [x] sp) (bind : ∀ (s : Shared) (u : Value), BindsTo s fd ⟨[u], []⟩ [(x, u)])
    {M : Hp} (only : Only M) (ok : HOk P w M z.heap) (mine : ∀ b, M b ≠ none → b = a) (notK : M a ≠ none → K.lookup a = none)
    (hsp : sp [.ref a] M (fun v _ => v = .bl true) fun _ _ _ => False) :
    codeAny (model P w) callerA (.call (.ref fa) ⟨[.ref a], []⟩) (fun r t => r = .ok (.ret (.bool true)) ∧ OldK z.heap t.heap ∧ t.os = z.os ∧ AllBare t.gens) z := by
  -- what is no list stands apart
  have free : ∀ {b : Addr} {o : Obj}, z.heap.get? b = some o → (∀ c n, o.data ≠ .seq c n) → M b = none := by
    intro b o e nd
    by_cases q : M b = none
    · exact q
    · have := mine b q
      subst this
      rw [at_] at e
      cases e
      exact absurd rfl (nd _ _)
  have inB : ∀ {b : Addr} {o : Obj}, z.heap.get? b = some o → M b = none → (hidT z.heap M).get? b = some o := fun e n => hidT_get e n
  have spaces : ∀ {b : Addr} {m : Str → Option Value}, z.heap.Ns b m → (hidT z.heap M).Ns b m := by
    rintro b m ⟨o, es, ep, e, d, r⟩
    exact ⟨o, es, ep, inB e (free e (fun c n y => by rw [d] at y; cases y)), d, r⟩
  have KB : K.In (hidT z.heap M) := by
    intro b o e
    refine inB (Kz b o e) ?_
    by_cases q : M b = none
    · exact q
    · have := mine b q
      subst this
      rw [notK q] at e
      cases e
  obtain ⟨mc, l1, l2⟩ := lim
  have mod : Mod K mg (hidT z.heap M) := ⟨KB, spaces nsm, ⟨mb, spaces nsb, boot⟩, ⟨mc, spaces l1, l2⟩⟩
  have env : Env0 P w K mg (hidT z.heap M) callerA [] z M :=
    ⟨rfl, mod, fun b o e => of_hidT e, Nat.le_of_eq (hidT_size _ _), trivial, fun b y => absurd y List.not_mem_nil, ok, .of_eq ng⟩
  have run := (F _ KB (spaces nsm)).go callerA [] z M ⟨[.ref a], []⟩ [.ref a] [.ref a] (fun v _ => v = .bl true) (fun _ _ _ => False) hr rfl env (bind z (.ref a)) (.cons rfl .nil) hsp
  refine codeAny_mono run ?_
  intro r t y
  match r, y with
  | .error _, y => exact y.elim
  | .ok .next, y => exact y.elim
  | .ok .brk, y => exact y.elim
  | .ok .cont, y => exact y.elim
  | .ok (.ret u), ⟨v, M2, os, bare, un, ok2, rv, q⟩ =>
    have q : v = .bl true := q
    subst q
    have eu : u = Value.bool true := rv
    subst eu
    refine ⟨rfl, OldK.of_keep ?_, os, bare⟩
    intro b o e
    rcases only b with n | ⟨ob, xs, n⟩
    · exact un.keep b o e n (fun y => absurd y List.not_mem_nil) (fun y => absurd y List.not_mem_nil)
    · obtain ⟨g1, _⟩ := ok b _ n
      obtain ⟨g2, _⟩ := ok2 b _ (un.frzs b ob _ n)
      rw [e] at g1
      cases g1
      exact g2
theorem lawG (Kz : K.In z.heap) (nsm : z.heap.Ns mainGlobals mg) (nsb : z.heap.Ns builtinsNs mb) (boot : ∀ y : Str, y ≠ "__name__" → mb y = bootBuiltins y) (lim : z.heap.NoLimit) (ng : z.gens = #[])
    (at_ : z.heap.get? a = some { cls := .type "list", data := .seq us.toArray }) (hi : IntsAre us ns) (hl : ns.length ≤ sizeLine) (hr : Room k callerA)
    (F : ∀ b : Heap, K.In b → b.Ns mainGlobals mg → FnG P w K mg b k fa fd [x] sp) (bind : ∀ (s : Shared) (u : Value), BindsTo s fd ⟨[u], []⟩ [(x, u)])
    (hsp : ∀ M : Hp, Only M → _root_.M.FrL K M a (ns.map V.int) → sp [.ref a] M (fun v _ => v = .bl true) fun _ _ _ => False) :
    codeAny (model P w) callerA (.call (.ref fa) ⟨[.ref a], []⟩) (fun r t => r = .ok (.ret (.bool true)) ∧ OldK z.heap t.heap ∧ t.os = z.os ∧ AllBare t.gens) z := by
  have rel : Vals (ns.map V.int) us := vals_ints hi
  have size : us.length ≤ sizeLine := by rw [hi.length]; exact hl
  by_cases own : K.lookup a = none
  · -- it is locked
    have hit : ∀ b, b = a → (fun b => if b = a then some (HO.frz { cls := .type "list", data := .seq us.toArray } (.lst (ns.map V.int))) else none : Hp) b = some (HO.frz { cls := .type "list", data := .seq us.toArray } (.lst (ns.map V.int))) := fun b e => if_pos e
    have miss : ∀ b, b ≠ a → (fun b => if b = a then some (HO.frz { cls := .type "list", data := .seq us.toArray } (.lst (ns.map V.int))) else none : Hp) b = none := fun b e => if_neg e
    generalize (fun b => if b = a then some (HO.frz { cls := .type "list", data := .seq us.toArray } (.lst (ns.map V.int))) else none : Hp) = M at hit miss
    refine lawG_core Kz nsm nsb boot lim ng at_ hr F bind (M := M) ?_ ?_ ?_ (fun _ => own) (hsp M ?_ (.inl ⟨_, hit a rfl⟩))
    · intro b
      by_cases e : b = a
      · exact .inr ⟨_, _, hit b e⟩
      · exact .inl (miss b e)
    · intro b o y
      by_cases e : b = a
      · rw [hit b e] at y
        cases y
        subst e
        exact ⟨at_, by rw [List.length_map]; exact hl, us, _, rel, at_⟩
      · rw [miss b e] at y
        cases y
    · intro b y
      by_cases e : b = a
      · exact e
      · exact absurd (miss b e) y
    · intro b
      by_cases e : b = a
      · exact .inr ⟨_, _, hit b e⟩
      · exact .inl (miss b e)
  · -- it is the module's own
    cases e : K.lookup a with
    | none => exact absurd e own
    | some o =>
      have g := Kz a o e
      rw [at_] at g
      cases g
      refine lawG_core Kz nsm nsb boot lim ng at_ hr F bind (M := fun _ => none) (fun _ => .inl rfl) (fun b u y => by cases y) (fun b y => absurd rfl y) (fun y => absurd rfl y) (hsp _ (fun _ => .inl rfl) (.inr ⟨_, us.toArray, _, e, rfl, rfl, rfl, ?_, ?_⟩))
      · rw [List.size_toArray]; exact size
      · simpa using rel
end
/-- the end over a head by facts -/
theorem walk_ofG {l : PySem.W.OpenLaw} {n k : Nat} {q : Program} {loose : List Str} {XP : (Str → Option Value) → Heap → Prop} {YP : World → Heap → Prop} {d : DefRec} {x : Str}
    (most : l.most = some n) (small : n ≤ sizeLine) (nodef : d.params.defaults = []) (room : Room k callerA)
    (F : ∀ (w : World) (mg : Str → Option Value) (fa : Addr) (h : Heap), YP w h → h.Ns mainGlobals mg → mg d.name = some (.ref fa) →
      ∃ (K : PySem.W.Frag) (fd : FuncData) (sp : Sp), K.In h ∧ (∀ (s : Shared) (u : Value), BindsTo s fd ⟨[u], []⟩ [(x, u)]) ∧
        (∀ (M : Hp) (a : Addr) (ns : List Int), ns.length ≤ n → Only M → _root_.M.FrL K M a (ns.map V.int) → sp [.ref a] M (fun v _ => v = .bl true) fun _ _ _ => False) ∧
        ∀ b : Heap, K.In b → b.Ns mainGlobals mg → FnG l.prog w K mg b k fa fd [x] sp) :
    PySem.W.WalkO q loose XP YP l.row.toRowW d [] (fun f vs => PySem.call f vs) := by
  refine Att.attach_call most nodef ?_
  intro w z0 z mg mb fa o pm cd doc a us ns G Y _ _ _ named at_ isi few ng
  obtain ⟨K, fd, sp, Kz, bind, hsp, hF⟩ := F w mg fa _ Y G.T.g named
  exact lawG Kz G.T.g G.T.b G.T.builtins G.T.nolimit ng at_ isi (Nat.le_trans few small) room hF bind (fun M o s => hsp M a ns few o s)
inductive RepU (K : PySem.W.Frag) (xs : List V) (H : Hp) (Q : VK) : Prop where
  | dat {x : V} {d : PyData} (e : xs = [x]) (h : Dp K H x d) (sh : d.showable = true) (nd : d.hasDict = false) (dp : d.depth ≤ 60) (sz : d.shown.length ≤ sizeLine) (q : Q (.str d.shown) H)
def rReprD (K : PySem.W.Frag) : List V → Hp → VK → Prop := fun xs H Q => RepU K xs H Q
theorem cr_reprD {X : Cx} (hu : X.A.units + 64 < cLine) (gu : X.A.guards = some []) : CallR X (.builtin "repr") (rReprD X.K) := by
  intro pins s σ H xs us Q I r h
  cases h with
  | @dat x d e h sh nd dp sz q =>
    subst e
    obtain ⟨u, rfl, rx⟩ := vals1 r
    obtain ⟨as, rd⟩ := Dp.reads I d x u h rx
    have done : ∀ (h' : Heap) (tk tk2 : Nat), (∀ b o, s.heap.get? b = some o → h'.get? b = some o) → EP X pins σ Q (.str d.shown tk2) { s with heap := h', toks := tk } := fun h' tk tk2 kp => ⟨.str d.shown, H, I.kept kp, ⟨_, rfl⟩, q⟩
    cases h with
    | non => cases rx; exact PySem.P.repr_of_none (done s.heap _ _ fun _ _ e => e)
    | bl b =>
      cases rx
      exact PySem.P.repr_of_bool (done s.heap _ _ fun _ _ e => e)
    | int i =>
      obtain ⟨t, rfl⟩ := rx
      exact PySem.P.repr_of_int (of_decide_eq_true sh) (done s.heap _ _ fun _ _ e => e)
    | str y =>
      obtain ⟨t, rfl⟩ := rx
      exact PySem.P.repr_of_str (done s.heap _ _ fun _ _ e => e) sz
    | lst h a =>
      cases rx
      exact PySem.repr_of_reads' rd sh (fun z => by rw [nd] at z; cases z) gu (by omega) (fun _ _ e => e) (fun h' u tk kp => done h' tk u kp) sz
    | tup h a =>
      cases rx
      exact PySem.repr_of_reads' rd sh (fun z => by rw [nd] at z; cases z) gu (by omega) (fun _ _ e => e) (fun h' u tk kp => done h' tk u kp) sz
end U
end
section
set_option Elab.async false
set_option linter.all false
set_option maxRecDepth 100000
set_option maxHeartbeats 4000000
namespace M
open PySem PySem.Spec PyProof.Rows L2 U
open He (ga)
section
variable {P : Program} {w : World} {K : PySem.W.Frag} {mg : Str → Option Value} {base : Heap} {tq : Tb}
theorem fnS_held {k : Nat} : ∀ {L : List (Str × (List D → Option D))}, (∀ p ∈ L, Held P w K mg base k (ga K p.1) (mSp K w tq p.2)) → ∀ f sp, fnS K (fnSp K w tq L) f = some sp → Held P w K mg base k f sp
  | [], _, f, sp, h => nomatch h
  | (x, g) :: r, hL, f, sp, h => by
    have h : (if f = ga K x then some (mSp K w tq g) else fnS K (fnSp K w tq r) f) = some sp := h
    by_cases e : f = ga K x
    · rw [if_pos e] at h
      cases h
      rw [e]
      exact hL (x, g) (List.mem_cons_self ..)
    · rw [if_neg e] at h
      exact fnS_held (fun p hp => hL p (List.mem_cons_of_mem _ hp)) f sp h
theorem held_of {x : Str} {sp : Sp} {j k : Nat} (c : C8.Cal P w K mg base j x sp []) (hg : mg x = some (.ref (ga K x))) (hjk : j ≤ k) : Held P w K mg base k (ga K x) sp := by
  obtain ⟨f, fd, ps, ds, h1, h2, h3, h4, h5⟩ := c.ex
  cases (h2.symm.trans hg)
  cases h5
  exact ⟨fd, ps, h1.mono hjk, h3, h4⟩
theorem law_end {f : List D → Option D} {ns : List Int} {H : Hp} {a : Addr} (h : f [.scr (ns.map D.int)] = some (.bl true)) (hS : FrL K H a (ns.map V.int)) : mSp K w [] f [.ref a] H (fun v _ => v = .bl true) (fun _ _ _ => False) :=
  ⟨fun _ => False, [.scr (ns.map D.int)], .bl true, fun _ z => z.elim, (fun p hp => absurd hp List.not_mem_nil), .cons (.scr hS RpA.ints) .nil, h, fun v H' _ r => by cases r; rfl⟩
end
/-- a written tuple without a dict -/
def tupP (K : PySem.W.Frag) (x : Str) (vs : List He.Dv) : Bool := He.tupB K x vs && (match K.lookup (ga K x) with | some o => o.dict.isNone | none => false)
theorem tupP_ok {K : PySem.W.Frag} {x : Str} {vs : List He.Dv} (h : tupP K x vs = true) (H : Hp) : PT K H (ga K x) (vs.map (He.Dv.v K)) := by
  unfold tupP at h
  rw [Bool.and_eq_true] at h
  rcases He.tupB_ok h.1 (fun _ => none) with (z | ⟨_, z⟩) | ⟨o, its, n, h1, h2, h3⟩
  · cases z
  · cases z
  · have h4 := h.2
    rw [h1] at h4
    exact .inr ⟨o, its, n, h1, h2, by simpa using h4, h3⟩
end M
end
section
set_option Elab.async false
set_option linter.all false
set_option maxRecDepth 100000
set_option maxHeartbeats 4000000
namespace U.P
open PySem PySem.Spec PyProof.Rows L2 U M
open He (ga codeOf tabOf)
def d_SORTS : D := (.tup [(.str "kind"), (.str "box"), (.str "tool"), (.str "hand"), (.str "set"), (.str "gauge"), (.str "work"), (.str "keep")])
def d_FEWEST : D := (.tup [(.int 1), (.int 0), (.int 0), (.int 0), (.int 0), (.int 0), (.int 0), (.int 0)])
def d_MOST : D := (.tup [(.int 6), (.int 5), (.int 12), (.int 5), (.int 4), (.int 3), (.int 8), (.int 6)])
def d_FITS : D := (.tup [(.fn "is_kind"), (.fn "is_box"), (.fn "is_tool"), (.fn "is_hand"), (.fn "is_set"), (.fn "is_gauge"), (.fn "is_work"), (.fn "is_keep")])
structure MC (K : PySem.W.Frag) (w : World) : Prop where
  SORTS : ∀ B H, Rp K w B H (.ref (ga K "SORTS")) d_SORTS
  FEWEST : ∀ B H, Rp K w B H (.ref (ga K "FEWEST")) d_FEWEST
  MOST : ∀ B H, Rp K w B H (.ref (ga K "MOST")) d_MOST
  FITS : ∀ B H, Rp K w B H (.ref (ga K "FITS")) d_FITS
  nd_FITS : ((["is_kind", "is_box", "is_tool", "is_hand", "is_set", "is_gauge", "is_work", "is_keep"] : List Str).map (ga K)).Nodup
noncomputable def c_are_apart (p_job p_later : D) : Option (Fl Unit Empty) :=
  ((orV (((some p_job).bind fun q1 => (some (D.int 0)).bind fun q2 => ixD q1 q2).bind fun q5 => ((some p_later).bind fun q3 => (some (D.int 0)).bind fun q4 => ixD q3 q4).bind fun q6 => neD q5 q6) (((some p_later).bind fun q7 => (some (D.int 1)).bind fun q8 => ixD q7 q8).bind fun q11 => ((some p_job).bind fun q9 => (some (D.int 2)).bind fun q10 => ixD q9 q10).bind fun q12 => gtD q11 q12)).map fun q13 => .rt q13 .non)
noncomputable def f_are_apart : List D → Option D := fV (fn2 c_are_apart)
abbrev sp_are_apart (K : PySem.W.Frag) (w : World) (tq : Tb) : Sp := mSp K w tq f_are_apart
def t_are_apart (K : PySem.W.Frag) (w : World) (tq : Tb) : TS := (tRet (tOrV (tOp (rEqU K true) (tOp (rIxU K w) (tVar 0) (tC (.int 0))) (tOp (rIxU K w) (tVar 1) (tC (.int 0)))) (tOp rGtU (tOp (rIxU K w) (tVar 1) (tC (.int 1))) (tOp (rIxU K w) (tVar 0) (tC (.int 2))))))
theorem ru_are_apart {K : PySem.W.Frag} {w : World} {tq : Tb} (p_job p_later : D) : RunsS K w tq false false (t_are_apart K w tq) (vas [p_job, p_later] 2) (fun _ => [.no, .no]) (fun l : Empty => nomatch l) (c_are_apart p_job p_later) := by
  unfold t_are_apart c_are_apart
  refine rs_cv (ρ' := [.va p_job, .va p_later]) rfl ?_
  exact (rs_ret (re_orV (re_op o_ne (re_op o_ix (re_v rfl) re_int) (re_op o_ix (re_v rfl) re_int)) (re_op o_gt (re_op o_ix (re_v rfl) re_int) (re_op o_ix (re_v rfl) re_int))))
theorem rd_are_apart {K : PySem.W.Frag} {w : World} {tq : Tb} {vs : List V} {H : Hp} {Q : VK} {E : XK} (h : sp_are_apart K w tq vs H Q E) : t_are_apart K w tq { nx := fun _ H' => Q .non H', rt := Q } (start ["job", "later"] vs) H :=
  go_val (N := ["job", "later"]) (fun ds fl h => len_v2 h) (la2 (fun a0 a1 => ru_are_apart a0 a1)) h
theorem len_are_apart {K : PySem.W.Frag} {w : World} {tq : Tb} {vs : List V} {H : Hp} {Q : VK} {E : XK} (h : sp_are_apart K w tq vs H Q E) : vs.length = 2 := lv_2 h
noncomputable def c_runs_to (p_jobs : D) : Option (Fl Unit Empty) :=
  ((((some []).bind szG).map D.lst).bind fun v_runs_14 => (((((some p_jobs).bind fun q15 => (some []).bind fun q16 => some (q15 :: q16)).bind enumD).bind fun q58 => M.forM (fun q55 (s17 : D) => (un (.tp [(.nm 2), (.nm 3)]) q55).bind fun ls56 => fn2 (fun v_at_18 v_job_19 => ((((((some s17).bind itD).bind fun q39 => compM (compB (.nm 5) (fn1 fun v_run_20 => (M.andM (((((some p_jobs).bind fun q23 => ((some v_run_20).bind fun q21 => ((some (D.int 1)).bind negD).bind fun q22 => ixD q21 q22).bind fun q24 => ixD q23 q24).bind fun q25 => (some (D.int 0)).bind fun q26 => ixD q25 q26).bind fun q29 => ((some v_job_19).bind fun q27 => (some (D.int 0)).bind fun q28 => ixD q27 q28).bind fun q30 => eqD q29 q30).bind isBl) (((((some p_jobs).bind fun q33 => ((some v_run_20).bind fun q31 => ((some (D.int 1)).bind negD).bind fun q32 => ixD q31 q32).bind fun q34 => ixD q33 q34).bind fun q37 => ((some v_job_19).bind fun q35 => (some []).bind fun q36 => some (q35 :: q36)).bind fun q38 => some (q37 :: q38)).bind f_are_apart).bind tru))) (fn1 fun v_run_20 => (some v_run_20))) q39).map D.lst).bind noLsG).bind fun v_ahead_40 => (bX (bX (bX (lX (((some v_ahead_40).bind fun q41 => (((some []).bind szG).map D.tup).bind fun q42 => maxLenD q41 q42).bind fun q45 => ((((some v_at_18).bind fun q43 => (some []).bind fun q44 => some (q43 :: q44)).bind szG).map D.tup).bind fun q46 => addD q45 q46) s17) fun q47 t48 => bX (some ([], t48)) fun q49 t50 => some (q47 :: q49, t50)) fun q51 t52 => (appF s17 q51).map fun q53 => (q53.1, q53.2)) fun _ t54 => (some (.nx t54))))) ls56) q58 v_runs_14).bind (Fl.thn fun (j57 : D) => ((some j57).map fun q59 => .rt q59 .non))))
noncomputable def f_runs_to : List D → Option D := fV (fn1 c_runs_to)
abbrev sp_runs_to (K : PySem.W.Frag) (w : World) (tq : Tb) : Sp := mSp K w tq f_runs_to
def t_runs_to (K : PySem.W.Frag) (w : World) (tq : Tb) : TS := (tSeq (tAsg (tLst tNil) (gName 1)) (tSeq (tFor (iEnumU K (tCons (tVar 0) tNil)) (gTup K 2 (gCons (gName 2) (gCons (gName 3) gNil))) (tSeq (tAsg (tLc (iAny K (tVar 1)) (gName 5) (tAnd (tTest (tOp (rEqU K false) (tOp (rIxU K w) (tOp (rIxU K w) (tVar 0) (tOp (rIxU K w) (tVar 5) (tUn rNeg (tC (.int 1))))) (tC (.int 0))) (tOp (rIxU K w) (tVar 3) (tC (.int 0))))) (tTru K (tCall (sp_are_apart K w tq) [] C8.E0 (tCons (tOp (rIxU K w) (tVar 0) (tOp (rIxU K w) (tVar 5) (tUn rNeg (tC (.int 1))))) (tCons (tVar 3) tNil))))) (tVar 5) [5]) (gName 4)) (tDrop (tBM K "list" rAppend (tVar 1) (tCons (tOp (rAdd2 K) (tMaxLen K (tVar 4) (tTupP tNil)) (tTupP (tCons (tVar 2) tNil))) tNil))))) (tRet (tVar 1))))
theorem ru_runs_to {K : PySem.W.Frag} {w : World} {tq : Tb} (p_jobs : D) : RunsS K w tq false false (t_runs_to K w tq) (vas [p_jobs] 6) (fun _ => [.no, .no, .no, .no, .no, .no]) (fun l : Empty => nomatch l) (c_runs_to p_jobs) := by
  unfold t_runs_to c_runs_to
  refine rs_cv (ρ' := [.va p_jobs, .no, .no, .no, .no, .no]) rfl ?_
  exact (rs_asgN (rn_lst ra_nil) rfl (fun v_runs_14 => rs_cv (ρ' := [.va p_jobs, .ow false v_runs_14, .no, .no, .no, .no]) rfl (rs_seq (eM := (fun (s_ : D) => [.va p_jobs, .ow false s_, .no, .no, .no, .no])) (rs_for (p := (.tp [(.nm 2), (.nm 3)])) (eS := (fun (s_ : D) => [.va p_jobs, .ow false s_, .no, .no, .no, .no])) (s0 := v_runs_14) (ri_enum (ra_cons (re_v rfl) ra_nil)) (sub_cons ss_va (sub_cons ss_ow (sub_cons ss_no (sub_cons ss_no (sub_cons ss_no (sub_cons ss_no sub_nil)))))) (bnd_tp (bnds_cons (bnd_nm 2) (bnds_cons (bnd_nm 3) bnds_nil)) rfl) (fun _ => rfl) (fun ls56 s17 => ls2 (fun v_at_18 v_job_19 => rs_cv (ρ' := [.va p_jobs, .ow false s17, .va v_at_18, .va v_job_19, .no, .no]) rfl (rs_asg1 (re_of_n (rn_pk (rn_lc (p := (.nm 5)) (ri_any (re_v rfl)) (bnd_nm 5) rfl (by decide) rfl (lt1 fun v_run_20 => (rt_and (rt_test (re_op o_eq (re_op o_ix (re_op o_ix (re_v rfl) (re_op o_ix (re_v rfl) (re_un o_neg re_int))) re_int) (re_op o_ix (re_v rfl) re_int))) (rt_tru (re_call (ra_cons (re_op o_ix (re_v rfl) (re_op o_ix (re_v rfl) (re_un o_neg re_int))) (ra_cons (re_v rfl) ra_nil)))))) (le1 fun v_run_20 => (re_v rfl))))) rfl (fun v_ahead_40 => rs_cv (ρ' := [.va p_jobs, .ow false s17, .va v_at_18, .va v_job_19, .va v_ahead_40, .no]) rfl (rs_last (ys_dropX (e := (fun (t_ : D) => [.va p_jobs, .ow false t_, .va v_at_18, .va v_job_19, .va v_ahead_40, .no])) (yx_meth (T := D) (f := appF) (d := s17) (i := 1) (put := (fun (_ d_ : D) => d_)) (e1 := (fun (t_ : D) => [.va p_jobs, .ow false s17, .va v_at_18, .va v_job_19, .va v_ahead_40, .no])) (e := (fun (t_ : D) => [.va p_jobs, .ow false t_, .va v_at_18, .va v_job_19, .va v_ahead_40, .no])) m_app (fun _ => rfl) (fun _ _ => rfl) ⟨s17, rfl⟩ (yxa_cons (yx_lift (T := D) (e := (fun (t_ : D) => [.va p_jobs, .ow false s17, .va v_at_18, .va v_job_19, .va v_ahead_40, .no])) (t := s17) (re_op o_add (re_maxLen (re_v rfl) (re_tup ra_nil)) (re_tup (ra_cons (re_v rfl) ra_nil)))) (fun t48 => (yxa_nil (T := D) (e := (fun (t_ : D) => [.va p_jobs, .ow false s17, .va v_at_18, .va v_job_19, .va v_ahead_40, .no])) (t := t48))))) (fun t54 => rs_cv (ρ' := [.va p_jobs, .ow false t54, .va v_at_18, .va v_job_19, .va v_ahead_40, .no]) rfl (rs_next (n := t54) (sub_cons ss_va (sub_cons ss_ow (sub_cons ss_no (sub_cons ss_no (sub_cons ss_no (sub_cons ss_no sub_nil))))))))))))) ls56)) (fun j57 => rs_cv (ρ' := [.va p_jobs, .ow false j57, .no, .no, .no, .no]) rfl (rs_sub (ρ' := [.va p_jobs, .va j57, .no, .no, .no, .no]) (sub_cons ss_va (sub_cons ss_fr (sub_cons ss_no (sub_cons ss_no (sub_cons ss_no (sub_cons ss_no sub_nil)))))) (rs_ret (re_v rfl)))))))
theorem rd_runs_to {K : PySem.W.Frag} {w : World} {tq : Tb} {vs : List V} {H : Hp} {Q : VK} {E : XK} (h : sp_runs_to K w tq vs H Q E) : t_runs_to K w tq { nx := fun _ H' => Q .non H', rt := Q } (start ["jobs", "runs", "at", "job", "ahead", "run"] vs) H :=
  go_val (N := ["jobs", "runs", "at", "job", "ahead", "run"]) (fun ds fl h => len_v1 h) (la1 (fun a0 => ru_runs_to a0)) h
theorem len_runs_to {K : PySem.W.Frag} {w : World} {tq : Tb} {vs : List V} {H : Hp} {Q : VK} {E : XK} (h : sp_runs_to K w tq vs H Q E) : vs.length = 1 := lv_1 h
noncomputable def c_plan_of (p_jobs : D) : Option (Fl Unit Empty) :=
  ((((some []).bind szG).map D.lst).bind fun v_plan_60 => (((((((some p_jobs).bind fun q61 => (some []).bind fun q62 => some (q61 :: q62)).bind f_runs_to).bind fun q63 => (some []).bind fun q64 => some (q63 :: q64)).bind enumD).bind fun q115 => M.forM (fun q112 (s65 : D) => (un (.tp [(.nm 2), (.nm 3)]) q112).bind fun ls113 => fn2 (fun v_at_66 v_run_67 => (((some p_jobs).bind fun q68 => (some v_at_66).bind fun q69 => ixD q68 q69).bind fun q70 => (un (.tp [(.nm 4), (.nm 5), (.nm 6)]) q70).bind (fn3 fun v_kind_71 v_u_72 v_high_73 => (((((some v_kind_71).bind fun q80 => (((((some v_run_67).bind fun q74 => (some []).bind fun q75 => some (q74 :: q75)).bind M.lenD).bind fun q76 => (some (D.int 1)).bind fun q77 => subD q76 q77).bind fun q78 => (some []).bind fun q79 => some (q78 :: q79)).bind fun q81 => some (q80 :: q81)).bind szG).map D.tup).bind fun v_tool_82 => ((((((some s65).bind itD).bind fun q92 => compM (compB (.tp [(.nm 9), (.nm 10), (.nm 11)]) (fn3 fun v_its_83 v_number_84 v_size_85 => ((((((some v_its_83).bind fun q88 => ((some v_number_84).bind fun q86 => (some []).bind fun q87 => some (q86 :: q87)).bind fun q89 => some (q88 :: q89)).bind szG).map D.tup).bind fun q90 => (some v_tool_82).bind fun q91 => eqD q90 q91).bind isBl)) (fn3 fun v_its_83 v_number_84 v_size_85 => (some v_size_85))) q92).map D.lst).bind noLsG).bind fun v_sizes_93 => (bX (bX (bX (lX (((((some v_tool_82).bind seqOf).bind fun q102 => ((((((((some v_high_73).bind fun q94 => (some []).bind fun q95 => some (q94 :: q95)).bind szG).map D.lst).bind fun q96 => (some v_sizes_93).bind fun q97 => addD q96 q97).bind fun q98 => (some []).bind fun q99 => some (q98 :: q99)).bind minD).bind fun q100 => (some []).bind fun q101 => some (q100 :: q101)).bind fun q103 => some (q102 ++ q103)).bind szG).map D.tup) s65) fun q104 t105 => bX (some ([], t105)) fun q106 t107 => some (q104 :: q106, t107)) fun q108 t109 => (appF s65 q108).map fun q110 => (q110.1, q110.2)) fun _ t111 => (some (.nx t111)))))))) ls113) q115 v_plan_60).bind (Fl.thn fun (j114 : D) => ((((some j114).bind fun q116 => (some []).bind fun q117 => some (q116 :: q117)).bind tupOfD).map fun q118 => .rt q118 .non))))
noncomputable def f_plan_of : List D → Option D := fV (fn1 c_plan_of)
abbrev sp_plan_of (K : PySem.W.Frag) (w : World) (tq : Tb) : Sp := mSp K w tq f_plan_of
def t_plan_of (K : PySem.W.Frag) (w : World) (tq : Tb) : TS := (tSeq (tAsg (tLst tNil) (gName 1)) (tSeq (tFor (iEnumU K (tCons (tCall (sp_runs_to K w tq) [] C8.E0 (tCons (tVar 0) tNil)) tNil)) (gTup K 2 (gCons (gName 2) (gCons (gName 3) gNil))) (tSeq (tAsg (tOp (rIxU K w) (tVar 0) (tVar 2)) (gTup K 3 (gCons (gName 4) (gCons (gName 5) (gCons (gName 6) gNil))))) (tSeq (tAsg (tTupP (tCons (tVar 4) (tCons (tOp rSub (tCB (rLenU K) (tCons (tVar 3) tNil)) (tC (.int 1))) tNil))) (gName 7)) (tSeq (tAsg (tLc (iAny K (tVar 1)) (gTup K 3 (gCons (gName 9) (gCons (gName 10) (gCons (gName 11) gNil)))) (tTest (tOp (rEqU K false) (tTupP (tCons (tVar 9) (tCons (tVar 10) tNil))) (tVar 7))) (tVar 11) [9, 10, 11]) (gName 8)) (tDrop (tBM K "list" rAppend (tVar 1) (tCons (tTupP (StX.tStar K (tVar 7) (tCons (tCB (rMinU K) (tCons (tOp (rAdd2 K) (tLst (tCons (tVar 6) tNil)) (tVar 8)) tNil)) tNil))) tNil))))))) (tRet (tCB (rTup2 K) (tCons (tVar 1) tNil)))))
theorem ru_plan_of {K : PySem.W.Frag} {w : World} {tq : Tb} (p_jobs : D) : RunsS K w tq false false (t_plan_of K w tq) (vas [p_jobs] 12) (fun _ => [.no, .no, .no, .no, .no, .no, .no, .no, .no, .no, .no, .no]) (fun l : Empty => nomatch l) (c_plan_of p_jobs) := by
  unfold t_plan_of c_plan_of
  refine rs_cv (ρ' := [.va p_jobs, .no, .no, .no, .no, .no, .no, .no, .no, .no, .no, .no]) rfl ?_
  exact (rs_asgN (rn_lst ra_nil) rfl (fun v_plan_60 => rs_cv (ρ' := [.va p_jobs, .ow false v_plan_60, .no, .no, .no, .no, .no, .no, .no, .no, .no, .no]) rfl (rs_seq (eM := (fun (s_ : D) => [.va p_jobs, .ow false s_, .no, .no, .no, .no, .no, .no, .no, .no, .no, .no])) (rs_for (p := (.tp [(.nm 2), (.nm 3)])) (eS := (fun (s_ : D) => [.va p_jobs, .ow false s_, .no, .no, .no, .no, .no, .no, .no, .no, .no, .no])) (s0 := v_plan_60) (ri_enum (ra_cons (re_call (ra_cons (re_v rfl) ra_nil)) ra_nil)) (sub_cons ss_va (sub_cons ss_ow (sub_cons ss_no (sub_cons ss_no (sub_cons ss_no (sub_cons ss_no (sub_cons ss_no (sub_cons ss_no (sub_cons ss_no (sub_cons ss_no (sub_cons ss_no (sub_cons ss_no sub_nil)))))))))))) (bnd_tp (bnds_cons (bnd_nm 2) (bnds_cons (bnd_nm 3) bnds_nil)) rfl) (fun _ => rfl) (fun ls113 s65 => ls2 (fun v_at_66 v_run_67 => rs_cv (ρ' := [.va p_jobs, .ow false s65, .va v_at_66, .va v_run_67, .no, .no, .no, .no, .no, .no, .no, .no]) rfl (rs_asg (p := (.tp [(.nm 4), (.nm 5), (.nm 6)])) (re_op o_ix (re_v rfl) (re_v rfl)) (bnd_tp (bnds_cons (bnd_nm 4) (bnds_cons (bnd_nm 5) (bnds_cons (bnd_nm 6) bnds_nil))) rfl) rfl (ls3 fun v_kind_71 v_u_72 v_high_73 => rs_cv (ρ' := [.va p_jobs, .ow false s65, .va v_at_66, .va v_run_67, .va v_kind_71, .va v_u_72, .va v_high_73, .no, .no, .no, .no, .no]) rfl (rs_asg1 (re_tup (ra_cons (re_v rfl) (ra_cons (re_op o_sub (re_cb o_len (ra_cons (re_v rfl) ra_nil)) re_int) ra_nil))) rfl (fun v_tool_82 => rs_cv (ρ' := [.va p_jobs, .ow false s65, .va v_at_66, .va v_run_67, .va v_kind_71, .va v_u_72, .va v_high_73, .va v_tool_82, .no, .no, .no, .no]) rfl (rs_asg1 (re_of_n (rn_pk (rn_lc (p := (.tp [(.nm 9), (.nm 10), (.nm 11)])) (ri_any (re_v rfl)) (bnd_tp (bnds_cons (bnd_nm 9) (bnds_cons (bnd_nm 10) (bnds_cons (bnd_nm 11) bnds_nil))) rfl) rfl (by decide) rfl (lt3 fun v_its_83 v_number_84 v_size_85 => (rt_test (re_op o_eq (re_tup (ra_cons (re_v rfl) (ra_cons (re_v rfl) ra_nil))) (re_v rfl)))) (le3 fun v_its_83 v_number_84 v_size_85 => (re_v rfl))))) rfl (fun v_sizes_93 => rs_cv (ρ' := [.va p_jobs, .ow false s65, .va v_at_66, .va v_run_67, .va v_kind_71, .va v_u_72, .va v_high_73, .va v_tool_82, .va v_sizes_93, .no, .no, .no]) rfl (rs_last (ys_dropX (e := (fun (t_ : D) => [.va p_jobs, .ow false t_, .va v_at_66, .va v_run_67, .va v_kind_71, .va v_u_72, .va v_high_73, .va v_tool_82, .va v_sizes_93, .no, .no, .no])) (yx_meth (T := D) (f := appF) (d := s65) (i := 1) (put := (fun (_ d_ : D) => d_)) (e1 := (fun (t_ : D) => [.va p_jobs, .ow false s65, .va v_at_66, .va v_run_67, .va v_kind_71, .va v_u_72, .va v_high_73, .va v_tool_82, .va v_sizes_93, .no, .no, .no])) (e := (fun (t_ : D) => [.va p_jobs, .ow false t_, .va v_at_66, .va v_run_67, .va v_kind_71, .va v_u_72, .va v_high_73, .va v_tool_82, .va v_sizes_93, .no, .no, .no])) m_app (fun _ => rfl) (fun _ _ => rfl) ⟨s65, rfl⟩ (yxa_cons (yx_lift (T := D) (e := (fun (t_ : D) => [.va p_jobs, .ow false s65, .va v_at_66, .va v_run_67, .va v_kind_71, .va v_u_72, .va v_high_73, .va v_tool_82, .va v_sizes_93, .no, .no, .no])) (t := s65) (re_tup (ra_star (re_v rfl) (ra_cons (re_cb o_min (ra_cons (re_op o_add (re_of_n (rn_lst (ra_cons (re_v rfl) ra_nil))) (re_v rfl)) ra_nil)) ra_nil)))) (fun t105 => (yxa_nil (T := D) (e := (fun (t_ : D) => [.va p_jobs, .ow false s65, .va v_at_66, .va v_run_67, .va v_kind_71, .va v_u_72, .va v_high_73, .va v_tool_82, .va v_sizes_93, .no, .no, .no])) (t := t105))))) (fun t111 => rs_cv (ρ' := [.va p_jobs, .ow false t111, .va v_at_66, .va v_run_67, .va v_kind_71, .va v_u_72, .va v_high_73, .va v_tool_82, .va v_sizes_93, .no, .no, .no]) rfl (rs_next (n := t111) (sub_cons ss_va (sub_cons ss_ow (sub_cons ss_no (sub_cons ss_no (sub_cons ss_no (sub_cons ss_no (sub_cons ss_no (sub_cons ss_no (sub_cons ss_no (sub_cons ss_no (sub_cons ss_no (sub_cons ss_no sub_nil))))))))))))))))))))))) ls113)) (fun j114 => rs_cv (ρ' := [.va p_jobs, .ow false j114, .no, .no, .no, .no, .no, .no, .no, .no, .no, .no]) rfl (rs_sub (ρ' := [.va p_jobs, .va j114, .no, .no, .no, .no, .no, .no, .no, .no, .no, .no]) (sub_cons ss_va (sub_cons ss_fr (sub_cons ss_no (sub_cons ss_no (sub_cons ss_no (sub_cons ss_no (sub_cons ss_no (sub_cons ss_no (sub_cons ss_no (sub_cons ss_no (sub_cons ss_no (sub_cons ss_no sub_nil)))))))))))) (rs_ret (re_cb o_tupOf (ra_cons (re_v rfl) ra_nil))))))))
theorem rd_plan_of {K : PySem.W.Frag} {w : World} {tq : Tb} {vs : List V} {H : Hp} {Q : VK} {E : XK} (h : sp_plan_of K w tq vs H Q E) : t_plan_of K w tq { nx := fun _ H' => Q .non H', rt := Q } (start ["jobs", "plan", "at", "run", "kind", "_", "high", "tool", "sizes", "its", "number", "size"] vs) H :=
  go_val (N := ["jobs", "plan", "at", "run", "kind", "_", "high", "tool", "sizes", "its", "number", "size"]) (fun ds fl h => len_v1 h) (la1 (fun a0 => ru_plan_of a0)) h
theorem len_plan_of {K : PySem.W.Frag} {w : World} {tq : Tb} {vs : List V} {H : Hp} {Q : VK} {E : XK} (h : sp_plan_of K w tq vs H Q E) : vs.length = 1 := lv_1 h
noncomputable def c_named (p_things p_name : D) : Option (Fl Unit Empty) :=
  (iteM (((some p_name).bind (isTyD "str" true)).bind isBl) ((some D.non).map fun q119 => .rt q119 .non) ((((some p_things).bind itD).bind fun q130 => M.forM (fun q127 (s120 : Unit) => (un (.nm 2) q127).bind fun ls128 => fn1 (fun v_thing_121 => (iteM ((((some v_thing_121).bind fun q122 => (some (D.int 0)).bind fun q123 => ixD q122 q123).bind fun q124 => (some p_name).bind fun q125 => eqD q124 q125).bind isBl) ((some v_thing_121).map fun q126 => .rt q126 .non) (some (.nx ())))) ls128) q130 ()).bind (Fl.thn fun (j129 : Unit) => ((some D.non).map fun q131 => .rt q131 .non))))
noncomputable def f_named : List D → Option D := fV (fn2 c_named)
abbrev sp_named (K : PySem.W.Frag) (w : World) (tq : Tb) : Sp := mSp K w tq f_named
def t_named (K : PySem.W.Frag) (w : World) (tq : Tb) : TS := (tSeq (tIfS (tTest (tOp (rIsU true) (tCB (rTyp K) (tCons (tVar 1) tNil)) (tC (.ty "str")))) (tRet (tC .non)) tNext) (tSeq (tFor (iAny K (tVar 0)) (gName 2) (tIfS (tTest (tOp (rEqU K false) (tOp (rIxU K w) (tVar 2) (tC (.int 0))) (tVar 1))) (tRet (tVar 2)) tNext)) (tRet (tC .non))))
theorem ru_named {K : PySem.W.Frag} {w : World} {tq : Tb} (p_things p_name : D) : RunsS K w tq false false (t_named K w tq) (vas [p_things, p_name] 3) (fun _ => [.no, .no, .no]) (fun l : Empty => nomatch l) (c_named p_things p_name) := by
  unfold t_named c_named
  refine rs_cv (ρ' := [.va p_things, .va p_name, .no]) rfl ?_
  exact (rs_ifR (rt_test (re_isTy (re_v rfl))) (rs_dead (rs_ret re_non)) (rs_skip (rs_seq (eM := (fun (s_ : Unit) => [.va p_things, .va p_name, .no])) (rs_for (p := (.nm 2)) (eS := (fun (s_ : Unit) => [.va p_things, .va p_name, .no])) (s0 := ()) (ri_any (re_v rfl)) (sub_cons ss_va (sub_cons ss_va (sub_cons ss_no sub_nil))) (bnd_nm 2) (fun _ => rfl) (fun ls128 s120 => ls1 (fun v_thing_121 => rs_cv (ρ' := [.va p_things, .va p_name, .va v_thing_121]) rfl (rs_last (rs_ifR (rt_test (re_op o_eq (re_op o_ix (re_v rfl) re_int) (re_v rfl))) (rs_dead (rs_ret (re_v rfl))) (rs_skip (rs_next (n := ()) (sub_cons ss_va (sub_cons ss_va (sub_cons ss_no sub_nil)))))))) ls128)) (fun j129 => rs_cv (ρ' := [.va p_things, .va p_name, .no]) rfl (rs_ret re_non)))))
theorem rd_named {K : PySem.W.Frag} {w : World} {tq : Tb} {vs : List V} {H : Hp} {Q : VK} {E : XK} (h : sp_named K w tq vs H Q E) : t_named K w tq { nx := fun _ H' => Q .non H', rt := Q } (start ["things", "name", "thing"] vs) H :=
  go_val (N := ["things", "name", "thing"]) (fun ds fl h => len_v2 h) (la2 (fun a0 a1 => ru_named a0 a1)) h
theorem len_named {K : PySem.W.Frag} {w : World} {tq : Tb} {vs : List V} {H : Hp} {Q : VK} {E : XK} (h : sp_named K w tq vs H Q E) : vs.length = 2 := lv_2 h
noncomputable def c_need_named (p_things p_name : D) : Option (Fl Unit Empty) :=
  ((((some p_things).bind fun q134 => ((some p_name).bind fun q132 => (some []).bind fun q133 => some (q132 :: q133)).bind fun q135 => some (q134 :: q135)).bind f_named).bind fun v_thing_136 => (iteM (((some v_thing_136).map fun q137 => D.bl (if false then !isNonD q137 else isNonD q137)).bind isBl) none ((some v_thing_136).map fun q138 => .rt q138 .non)))
noncomputable def f_need_named : List D → Option D := fV (fn2 c_need_named)
abbrev sp_need_named (K : PySem.W.Frag) (w : World) (tq : Tb) : Sp := mSp K w tq f_need_named
def t_need_named (K : PySem.W.Frag) (w : World) (tq : Tb) : TS := (tSeq (tAsg (tCall (sp_named K w tq) [] C8.E0 (tCons (tVar 0) (tCons (tVar 1) tNil))) (gName 2)) (tSeq (tIfS (tTest (tOp (rIsU false) (tVar 2) (tC .non))) tNever tNext) (tRet (tVar 2))))
theorem ru_need_named {K : PySem.W.Frag} {w : World} {tq : Tb} (p_things p_name : D) : RunsS K w tq false false (t_need_named K w tq) (vas [p_things, p_name] 3) (fun _ => [.no, .no, .no]) (fun l : Empty => nomatch l) (c_need_named p_things p_name) := by
  unfold t_need_named c_need_named
  refine rs_cv (ρ' := [.va p_things, .va p_name, .no]) rfl ?_
  exact (rs_asg1 (re_call (ra_cons (re_v rfl) (ra_cons (re_v rfl) ra_nil))) rfl (fun v_thing_136 => rs_cv (ρ' := [.va p_things, .va p_name, .va v_thing_136]) rfl (rs_ifR (rt_test (re_isN (re_v rfl))) rs_none (rs_skip (rs_ret (re_v rfl))))))
theorem rd_need_named {K : PySem.W.Frag} {w : World} {tq : Tb} {vs : List V} {H : Hp} {Q : VK} {E : XK} (h : sp_need_named K w tq vs H Q E) : t_need_named K w tq { nx := fun _ H' => Q .non H', rt := Q } (start ["things", "name", "thing"] vs) H :=
  go_val (N := ["things", "name", "thing"]) (fun ds fl h => len_v2 h) (la2 (fun a0 a1 => ru_need_named a0 a1)) h
theorem len_need_named {K : PySem.W.Frag} {w : World} {tq : Tb} {vs : List V} {H : Hp} {Q : VK} {E : XK} (h : sp_need_named K w tq vs H Q E) : vs.length = 2 := lv_2 h
noncomputable def c_need_works (p_stock p_works p_most : D) : Option (Fl Unit Empty) :=
  (iteM (M.orM (((some p_works).bind (isTyD "tuple" true)).bind isBl) (((((some p_works).bind fun q139 => (some []).bind fun q140 => some (q139 :: q140)).bind M.lenD).bind fun q141 => (some p_most).bind fun q142 => gtD q141 q142).bind isBl)) none (((((some p_works).bind itD).bind fun q150 => compM (compB (.nm 3) (fun _ => some true) (fn1 fun v_name_143 => ((((some p_stock).bind fun q144 => (some (D.int 6)).bind fun q145 => ixD q144 q145).bind fun q148 => ((some v_name_143).bind fun q146 => (some []).bind fun q147 => some (q146 :: q147)).bind fun q149 => some (q148 :: q149)).bind f_need_named))) q150).map D.lst).map fun q151 => .rt q151 .non))
noncomputable def f_need_works : List D → Option D := fV (fn3 c_need_works)
abbrev sp_need_works (K : PySem.W.Frag) (w : World) (tq : Tb) : Sp := mSp K w tq f_need_works
def t_need_works (K : PySem.W.Frag) (w : World) (tq : Tb) : TS := (tSeq (tIfS (tOr (tTest (tOp (rIsU true) (tCB (rTyp K) (tCons (tVar 1) tNil)) (tC (.ty "tuple")))) (tTest (tOp rGtU (tCB (rLenU K) (tCons (tVar 1) tNil)) (tVar 2)))) tNever tNext) (tRet (tLc (iAny K (tVar 1)) (gName 3) tYes (tCall (sp_need_named K w tq) [] C8.E0 (tCons (tOp (rIxU K w) (tVar 0) (tC (.int 6))) (tCons (tVar 3) tNil))) [3])))
theorem ru_need_works {K : PySem.W.Frag} {w : World} {tq : Tb} (p_stock p_works p_most : D) : RunsS K w tq false false (t_need_works K w tq) (vas [p_stock, p_works, p_most] 4) (fun _ => [.no, .no, .no, .no]) (fun l : Empty => nomatch l) (c_need_works p_stock p_works p_most) := by
  unfold t_need_works c_need_works
  refine rs_cv (ρ' := [.va p_stock, .va p_works, .va p_most, .no]) rfl ?_
  exact (rs_ifR (rt_or (rt_test (re_isTy (re_v rfl))) (rt_test (re_op o_gt (re_cb o_len (ra_cons (re_v rfl) ra_nil)) (re_v rfl)))) rs_none (rs_skip (rs_ret (re_of_n (rn_lc (p := (.nm 3)) (ri_any (re_v rfl)) (bnd_nm 3) rfl (by decide) rfl lyes (le1 fun v_name_143 => (re_call (ra_cons (re_op o_ix (re_v rfl) re_int) (ra_cons (re_v rfl) ra_nil)))))))))
theorem rd_need_works {K : PySem.W.Frag} {w : World} {tq : Tb} {vs : List V} {H : Hp} {Q : VK} {E : XK} (h : sp_need_works K w tq vs H Q E) : t_need_works K w tq { nx := fun _ H' => Q .non H', rt := Q } (start ["stock", "works", "most", "name"] vs) H :=
  go_val (N := ["stock", "works", "most", "name"]) (fun ds fl h => len_v3 h) (la3 (fun a0 a1 a2 => ru_need_works a0 a1 a2)) h
theorem len_need_works {K : PySem.W.Frag} {w : World} {tq : Tb} {vs : List V} {H : Hp} {Q : VK} {E : XK} (h : sp_need_works K w tq vs H Q E) : vs.length = 3 := lv_3 h
noncomputable def c_is_row (p_thing p_many : D) : Option (Fl Unit Empty) :=
  ((andV ((some p_thing).bind (isTyD "tuple" false)) ((((some p_thing).bind fun q152 => (some []).bind fun q153 => some (q152 :: q153)).bind M.lenD).bind fun q154 => (some p_many).bind fun q155 => eqD q154 q155)).map fun q156 => .rt q156 .non)
noncomputable def f_is_row : List D → Option D := fV (fn2 c_is_row)
abbrev sp_is_row (K : PySem.W.Frag) (w : World) (tq : Tb) : Sp := mSp K w tq f_is_row
def t_is_row (K : PySem.W.Frag) (w : World) (tq : Tb) : TS := (tRet (tAndV (tOp (rIsU false) (tCB (rTyp K) (tCons (tVar 0) tNil)) (tC (.ty "tuple"))) (tOp (rEqU K false) (tCB (rLenU K) (tCons (tVar 0) tNil)) (tVar 1))))
theorem ru_is_row {K : PySem.W.Frag} {w : World} {tq : Tb} (p_thing p_many : D) : RunsS K w tq false false (t_is_row K w tq) (vas [p_thing, p_many] 2) (fun _ => [.no, .no]) (fun l : Empty => nomatch l) (c_is_row p_thing p_many) := by
  unfold t_is_row c_is_row
  refine rs_cv (ρ' := [.va p_thing, .va p_many]) rfl ?_
  exact (rs_ret (re_andV (re_isTy (re_v rfl)) (re_op o_eq (re_cb o_len (ra_cons (re_v rfl) ra_nil)) (re_v rfl))))
theorem rd_is_row {K : PySem.W.Frag} {w : World} {tq : Tb} {vs : List V} {H : Hp} {Q : VK} {E : XK} (h : sp_is_row K w tq vs H Q E) : t_is_row K w tq { nx := fun _ H' => Q .non H', rt := Q } (start ["thing", "many"] vs) H :=
  go_val (N := ["thing", "many"]) (fun ds fl h => len_v2 h) (la2 (fun a0 a1 => ru_is_row a0 a1)) h
theorem len_is_row {K : PySem.W.Frag} {w : World} {tq : Tb} {vs : List V} {H : Hp} {Q : VK} {E : XK} (h : sp_is_row K w tq vs H Q E) : vs.length = 2 := lv_2 h
noncomputable def c_is_stock_form (p_thing : D) : Option (Fl Unit Empty) :=
  (iteM (((((some p_thing).bind fun q161 => ((((some d_SORTS).bind fun q157 => (some []).bind fun q158 => some (q157 :: q158)).bind M.lenD).bind fun q159 => (some []).bind fun q160 => some (q159 :: q160)).bind fun q162 => some (q161 :: q162)).bind f_is_row).bind tru).map (!·)) ((some (D.bl false)).map fun q163 => .rt q163 .non) (((((some p_thing).bind fun q164 => (some []).bind fun q165 => some (q164 :: q165)).bind enumD).bind fun q183 => M.forM (fun q180 (s166 : Unit) => (un (.tp [(.nm 1), (.nm 2)]) q180).bind fun ls181 => fn2 (fun v_sort_167 v_things_168 => (iteM (M.orM (((some v_things_168).bind (isTyD "tuple" true)).bind isBl) (((((some d_FEWEST).bind fun q169 => (some v_sort_167).bind fun q170 => ixD q169 q170).bind fun q175 => (((some v_things_168).bind fun q171 => (some []).bind fun q172 => some (q171 :: q172)).bind M.lenD).bind fun q176 => (((leD q175 q176).bind isBl).bind fun q177 => if q177 = true then ((some d_MOST).bind fun q173 => (some v_sort_167).bind fun q174 => ixD q173 q174).bind fun q178 => leD q176 q178 else some (.bl false))).bind isBl).map (!·))) ((some (D.bl false)).map fun q179 => .rt q179 .non) (some (.nx ())))) ls181) q183 ()).bind (Fl.thn fun (j182 : Unit) => ((some (D.bl true)).map fun q184 => .rt q184 .non))))
noncomputable def f_is_stock_form : List D → Option D := fV (fn1 c_is_stock_form)
abbrev sp_is_stock_form (K : PySem.W.Frag) (w : World) (tq : Tb) : Sp := mSp K w tq f_is_stock_form
def t_is_stock_form (K : PySem.W.Frag) (w : World) (tq : Tb) : TS := (tSeq (tIfS (tNot (tTru K (tCall (sp_is_row K w tq) [] C8.E0 (tCons (tVar 0) (tCons (tCB (rLenU K) (tCons (tC (.ref (ga K "SORTS"))) tNil)) tNil))))) (tRet (tC (.bl false))) tNext) (tSeq (tFor (iEnumU K (tCons (tVar 0) tNil)) (gTup K 2 (gCons (gName 1) (gCons (gName 2) gNil))) (tIfS (tOr (tTest (tOp (rIsU true) (tCB (rTyp K) (tCons (tVar 2) tNil)) (tC (.ty "tuple")))) (tNot (tChT rLeU rLeU (tOp (rIxU K w) (tC (.ref (ga K "FEWEST"))) (tVar 1)) (tCB (rLenU K) (tCons (tVar 2) tNil)) (tOp (rIxU K w) (tC (.ref (ga K "MOST"))) (tVar 1))))) (tRet (tC (.bl false))) tNext)) (tRet (tC (.bl true)))))
theorem ru_is_stock_form {K : PySem.W.Frag} {w : World} {tq : Tb} (T : MC K w) (p_thing : D) : RunsS K w tq false false (t_is_stock_form K w tq) (vas [p_thing] 3) (fun _ => [.no, .no, .no]) (fun l : Empty => nomatch l) (c_is_stock_form p_thing) := by
  unfold t_is_stock_form c_is_stock_form
  refine rs_cv (ρ' := [.va p_thing, .no, .no]) rfl ?_
  exact (rs_ifR (rt_not (rt_tru (re_call (ra_cons (re_v rfl) (ra_cons (re_cb o_len (ra_cons (re_c T.SORTS) ra_nil)) ra_nil))))) (rs_dead (rs_ret re_bl)) (rs_skip (rs_seq (eM := (fun (s_ : Unit) => [.va p_thing, .no, .no])) (rs_for (p := (.tp [(.nm 1), (.nm 2)])) (eS := (fun (s_ : Unit) => [.va p_thing, .no, .no])) (s0 := ()) (ri_enum (ra_cons (re_v rfl) ra_nil)) (sub_cons ss_va (sub_cons ss_no (sub_cons ss_no sub_nil))) (bnd_tp (bnds_cons (bnd_nm 1) (bnds_cons (bnd_nm 2) bnds_nil)) rfl) (fun _ => rfl) (fun ls181 s166 => ls2 (fun v_sort_167 v_things_168 => rs_cv (ρ' := [.va p_thing, .va v_sort_167, .va v_things_168]) rfl (rs_last (rs_ifR (rt_or (rt_test (re_isTy (re_v rfl))) (rt_not (rt_chT (re_chain o_le o_le (re_op o_ix (re_c T.FEWEST) (re_v rfl)) (re_cb o_len (ra_cons (re_v rfl) ra_nil)) (re_op o_ix (re_c T.MOST) (re_v rfl)))))) (rs_dead (rs_ret re_bl)) (rs_skip (rs_next (n := ()) (sub_cons ss_va (sub_cons ss_no (sub_cons ss_no sub_nil)))))))) ls181)) (fun j182 => rs_cv (ρ' := [.va p_thing, .no, .no]) rfl (rs_ret re_bl)))))
theorem rd_is_stock_form {K : PySem.W.Frag} {w : World} {tq : Tb} (T : MC K w) {vs : List V} {H : Hp} {Q : VK} {E : XK} (h : sp_is_stock_form K w tq vs H Q E) : t_is_stock_form K w tq { nx := fun _ H' => Q .non H', rt := Q } (start ["thing", "sort", "things"] vs) H :=
  go_val (N := ["thing", "sort", "things"]) (fun ds fl h => len_v1 h) (la1 (fun a0 => ru_is_stock_form T a0)) h
theorem len_is_stock_form {K : PySem.W.Frag} {w : World} {tq : Tb} {vs : List V} {H : Hp} {Q : VK} {E : XK} (h : sp_is_stock_form K w tq vs H Q E) : vs.length = 1 := lv_1 h
noncomputable def c_is_name (p_thing : D) : Option (Fl Unit Empty) :=
  (iteM (M.orM (((some p_thing).bind (isTyD "str" true)).bind isBl) ((((some (D.int 1)).bind fun q187 => (((some p_thing).bind fun q185 => (some []).bind fun q186 => some (q185 :: q186)).bind M.lenD).bind fun q188 => (((leD q187 q188).bind isBl).bind fun q189 => if q189 = true then (some (D.int 8)).bind fun q190 => leD q188 q190 else some (.bl false))).bind isBl).map (!·))) ((some (D.bl false)).map fun q191 => .rt q191 .non) (((((((some p_thing).bind itD).bind fun q197 => compM (compB (.nm 1) (fun _ => some true) (fn1 fun v_sign_192 => ((some (D.str "a")).bind fun q193 => (some v_sign_192).bind fun q194 => (((leD q193 q194).bind isBl).bind fun q195 => if q195 = true then (some (D.str "z")).bind fun q196 => leD q194 q196 else some (.bl false))))) q197).map D.lst).bind fun q198 => (some []).bind fun q199 => some (q198 :: q199)).bind allD).map fun q200 => .rt q200 .non))
noncomputable def f_is_name : List D → Option D := fV (fn1 c_is_name)
abbrev sp_is_name (K : PySem.W.Frag) (w : World) (tq : Tb) : Sp := mSp K w tq f_is_name
def t_is_name (K : PySem.W.Frag) (w : World) (tq : Tb) : TS := (tSeq (tIfS (tOr (tTest (tOp (rIsU true) (tCB (rTyp K) (tCons (tVar 0) tNil)) (tC (.ty "str")))) (tNot (tChT rLeU rLeU (tC (.int 1)) (tCB (rLenU K) (tCons (tVar 0) tNil)) (tC (.int 8))))) (tRet (tC (.bl false))) tNext) (tRet (tCB (rAll K) (tCons (tLc (iAny K (tVar 0)) (gName 1) tYes (tChain rLeU rLeU (tC (.str "a")) (tVar 1) (tC (.str "z"))) [1]) tNil))))
theorem ru_is_name {K : PySem.W.Frag} {w : World} {tq : Tb} (p_thing : D) : RunsS K w tq false false (t_is_name K w tq) (vas [p_thing] 2) (fun _ => [.no, .no]) (fun l : Empty => nomatch l) (c_is_name p_thing) := by
  unfold t_is_name c_is_name
  refine rs_cv (ρ' := [.va p_thing, .no]) rfl ?_
  exact (rs_ifR (rt_or (rt_test (re_isTy (re_v rfl))) (rt_not (rt_chT (re_chain o_le o_le re_int (re_cb o_len (ra_cons (re_v rfl) ra_nil)) re_int)))) (rs_dead (rs_ret re_bl)) (rs_skip (rs_ret (re_cb o_all (ra_cons (re_of_n (rn_lc (p := (.nm 1)) (ri_any (re_v rfl)) (bnd_nm 1) rfl (by decide) rfl lyes (le1 fun v_sign_192 => (re_chain o_le o_le re_str (re_v rfl) re_str)))) ra_nil)))))
theorem rd_is_name {K : PySem.W.Frag} {w : World} {tq : Tb} {vs : List V} {H : Hp} {Q : VK} {E : XK} (h : sp_is_name K w tq vs H Q E) : t_is_name K w tq { nx := fun _ H' => Q .non H', rt := Q } (start ["thing", "sign"] vs) H :=
  go_val (N := ["thing", "sign"]) (fun ds fl h => len_v1 h) (la1 (fun a0 => ru_is_name a0)) h
theorem len_is_name {K : PySem.W.Frag} {w : World} {tq : Tb} {vs : List V} {H : Hp} {Q : VK} {E : XK} (h : sp_is_name K w tq vs H Q E) : vs.length = 1 := lv_1 h
noncomputable def c_is_new (p_things p_name : D) : Option (Fl Unit Empty) :=
  ((andV (((some p_name).bind fun q201 => (some []).bind fun q202 => some (q201 :: q202)).bind f_is_name) ((((some p_things).bind fun q205 => ((some p_name).bind fun q203 => (some []).bind fun q204 => some (q203 :: q204)).bind fun q206 => some (q205 :: q206)).bind f_named).map fun q207 => D.bl (if false then !isNonD q207 else isNonD q207))).map fun q208 => .rt q208 .non)
noncomputable def f_is_new : List D → Option D := fV (fn2 c_is_new)
abbrev sp_is_new (K : PySem.W.Frag) (w : World) (tq : Tb) : Sp := mSp K w tq f_is_new
def t_is_new (K : PySem.W.Frag) (w : World) (tq : Tb) : TS := (tRet (tAndV (tCall (sp_is_name K w tq) [] C8.E0 (tCons (tVar 1) tNil)) (tOp (rIsU false) (tCall (sp_named K w tq) [] C8.E0 (tCons (tVar 0) (tCons (tVar 1) tNil))) (tC .non))))
theorem ru_is_new {K : PySem.W.Frag} {w : World} {tq : Tb} (p_things p_name : D) : RunsS K w tq false false (t_is_new K w tq) (vas [p_things, p_name] 2) (fun _ => [.no, .no]) (fun l : Empty => nomatch l) (c_is_new p_things p_name) := by
  unfold t_is_new c_is_new
  refine rs_cv (ρ' := [.va p_things, .va p_name]) rfl ?_
  exact (rs_ret (re_andV (re_call (ra_cons (re_v rfl) ra_nil)) (re_isN (re_call (ra_cons (re_v rfl) (ra_cons (re_v rfl) ra_nil))))))
theorem rd_is_new {K : PySem.W.Frag} {w : World} {tq : Tb} {vs : List V} {H : Hp} {Q : VK} {E : XK} (h : sp_is_new K w tq vs H Q E) : t_is_new K w tq { nx := fun _ H' => Q .non H', rt := Q } (start ["things", "name"] vs) H :=
  go_val (N := ["things", "name"]) (fun ds fl h => len_v2 h) (la2 (fun a0 a1 => ru_is_new a0 a1)) h
theorem len_is_new {K : PySem.W.Frag} {w : World} {tq : Tb} {vs : List V} {H : Hp} {Q : VK} {E : XK} (h : sp_is_new K w tq vs H Q E) : vs.length = 2 := lv_2 h
noncomputable def c_is_number (p_thing p_last : D) : Option (Fl Unit Empty) :=
  ((andV ((some p_thing).bind (isTyD "int" false)) ((some (D.int 0)).bind fun q209 => (some p_thing).bind fun q210 => (((leD q209 q210).bind isBl).bind fun q211 => if q211 = true then (some p_last).bind fun q212 => leD q210 q212 else some (.bl false)))).map fun q213 => .rt q213 .non)
noncomputable def f_is_number : List D → Option D := fV (fn2 c_is_number)
abbrev sp_is_number (K : PySem.W.Frag) (w : World) (tq : Tb) : Sp := mSp K w tq f_is_number
def t_is_number (K : PySem.W.Frag) (w : World) (tq : Tb) : TS := (tRet (tAndV (tOp (rIsU false) (tCB (rTyp K) (tCons (tVar 0) tNil)) (tC (.ty "int"))) (tChain rLeU rLeU (tC (.int 0)) (tVar 0) (tVar 1))))
theorem ru_is_number {K : PySem.W.Frag} {w : World} {tq : Tb} (p_thing p_last : D) : RunsS K w tq false false (t_is_number K w tq) (vas [p_thing, p_last] 2) (fun _ => [.no, .no]) (fun l : Empty => nomatch l) (c_is_number p_thing p_last) := by
  unfold t_is_number c_is_number
  refine rs_cv (ρ' := [.va p_thing, .va p_last]) rfl ?_
  exact (rs_ret (re_andV (re_isTy (re_v rfl)) (re_chain o_le o_le re_int (re_v rfl) (re_v rfl))))
theorem rd_is_number {K : PySem.W.Frag} {w : World} {tq : Tb} {vs : List V} {H : Hp} {Q : VK} {E : XK} (h : sp_is_number K w tq vs H Q E) : t_is_number K w tq { nx := fun _ H' => Q .non H', rt := Q } (start ["thing", "last"] vs) H :=
  go_val (N := ["thing", "last"]) (fun ds fl h => len_v2 h) (la2 (fun a0 a1 => ru_is_number a0 a1)) h
theorem len_is_number {K : PySem.W.Frag} {w : World} {tq : Tb} {vs : List V} {H : Hp} {Q : VK} {E : XK} (h : sp_is_number K w tq vs H Q E) : vs.length = 2 := lv_2 h
noncomputable def c_is_size (p_thing : D) : Option (Fl Unit Empty) :=
  ((((some p_thing).bind fun q216 => ((some (D.int 99)).bind fun q214 => (some []).bind fun q215 => some (q214 :: q215)).bind fun q217 => some (q216 :: q217)).bind f_is_number).map fun q218 => .rt q218 .non)
noncomputable def f_is_size : List D → Option D := fV (fn1 c_is_size)
abbrev sp_is_size (K : PySem.W.Frag) (w : World) (tq : Tb) : Sp := mSp K w tq f_is_size
def t_is_size (K : PySem.W.Frag) (w : World) (tq : Tb) : TS := (tRet (tCall (sp_is_number K w tq) [] C8.E0 (tCons (tVar 0) (tCons (tC (.int 99)) tNil))))
theorem ru_is_size {K : PySem.W.Frag} {w : World} {tq : Tb} (p_thing : D) : RunsS K w tq false false (t_is_size K w tq) (vas [p_thing] 1) (fun _ => [.no]) (fun l : Empty => nomatch l) (c_is_size p_thing) := by
  unfold t_is_size c_is_size
  refine rs_cv (ρ' := [.va p_thing]) rfl ?_
  exact (rs_ret (re_call (ra_cons (re_v rfl) (ra_cons re_int ra_nil))))
theorem rd_is_size {K : PySem.W.Frag} {w : World} {tq : Tb} {vs : List V} {H : Hp} {Q : VK} {E : XK} (h : sp_is_size K w tq vs H Q E) : t_is_size K w tq { nx := fun _ H' => Q .non H', rt := Q } (start ["thing"] vs) H :=
  go_val (N := ["thing"]) (fun ds fl h => len_v1 h) (la1 (fun a0 => ru_is_size a0)) h
theorem len_is_size {K : PySem.W.Frag} {w : World} {tq : Tb} {vs : List V} {H : Hp} {Q : VK} {E : XK} (h : sp_is_size K w tq vs H Q E) : vs.length = 1 := lv_1 h
noncomputable def c_is_kind (p_ahead p_thing : D) : Option (Fl Unit Empty) :=
  ((andV (((some p_thing).bind fun q221 => ((some (D.int 2)).bind fun q219 => (some []).bind fun q220 => some (q219 :: q220)).bind fun q222 => some (q221 :: q222)).bind f_is_row) (andV ((((some p_ahead).bind fun q223 => (some (D.int 0)).bind fun q224 => ixD q223 q224).bind fun q229 => (((some p_thing).bind fun q225 => (some (D.int 0)).bind fun q226 => ixD q225 q226).bind fun q227 => (some []).bind fun q228 => some (q227 :: q228)).bind fun q230 => some (q229 :: q230)).bind f_is_new) ((((some p_thing).bind fun q231 => (some (D.int 1)).bind fun q232 => ixD q231 q232).bind fun q233 => (some []).bind fun q234 => some (q233 :: q234)).bind f_is_size))).map fun q235 => .rt q235 .non)
noncomputable def f_is_kind : List D → Option D := fV (fn2 c_is_kind)
abbrev sp_is_kind (K : PySem.W.Frag) (w : World) (tq : Tb) : Sp := mSp K w tq f_is_kind
def t_is_kind (K : PySem.W.Frag) (w : World) (tq : Tb) : TS := (tRet (tAndV (tCall (sp_is_row K w tq) [] C8.E0 (tCons (tVar 1) (tCons (tC (.int 2)) tNil))) (tAndV (tCall (sp_is_new K w tq) [] C8.E0 (tCons (tOp (rIxU K w) (tVar 0) (tC (.int 0))) (tCons (tOp (rIxU K w) (tVar 1) (tC (.int 0))) tNil))) (tCall (sp_is_size K w tq) [] C8.E0 (tCons (tOp (rIxU K w) (tVar 1) (tC (.int 1))) tNil)))))
theorem ru_is_kind {K : PySem.W.Frag} {w : World} {tq : Tb} (p_ahead p_thing : D) : RunsS K w tq false false (t_is_kind K w tq) (vas [p_ahead, p_thing] 2) (fun _ => [.no, .no]) (fun l : Empty => nomatch l) (c_is_kind p_ahead p_thing) := by
  unfold t_is_kind c_is_kind
  refine rs_cv (ρ' := [.va p_ahead, .va p_thing]) rfl ?_
  exact (rs_ret (re_andV (re_call (ra_cons (re_v rfl) (ra_cons re_int ra_nil))) (re_andV (re_call (ra_cons (re_op o_ix (re_v rfl) re_int) (ra_cons (re_op o_ix (re_v rfl) re_int) ra_nil))) (re_call (ra_cons (re_op o_ix (re_v rfl) re_int) ra_nil)))))
theorem rd_is_kind {K : PySem.W.Frag} {w : World} {tq : Tb} {vs : List V} {H : Hp} {Q : VK} {E : XK} (h : sp_is_kind K w tq vs H Q E) : t_is_kind K w tq { nx := fun _ H' => Q .non H', rt := Q } (start ["ahead", "thing"] vs) H :=
  go_val (N := ["ahead", "thing"]) (fun ds fl h => len_v2 h) (la2 (fun a0 a1 => ru_is_kind a0 a1)) h
theorem len_is_kind {K : PySem.W.Frag} {w : World} {tq : Tb} {vs : List V} {H : Hp} {Q : VK} {E : XK} (h : sp_is_kind K w tq vs H Q E) : vs.length = 2 := lv_2 h
noncomputable def c_is_box (p_ahead p_thing : D) : Option (Fl Unit Empty) :=
  ((andV (((some p_thing).bind fun q236 => (some []).bind fun q237 => some (q236 :: q237)).bind f_is_name) ((some p_thing).bind fun q240 => ((some p_ahead).bind fun q238 => (some (D.int 1)).bind fun q239 => ixD q238 q239).bind fun q241 => ninD q240 q241)).map fun q242 => .rt q242 .non)
noncomputable def f_is_box : List D → Option D := fV (fn2 c_is_box)
abbrev sp_is_box (K : PySem.W.Frag) (w : World) (tq : Tb) : Sp := mSp K w tq f_is_box
def t_is_box (K : PySem.W.Frag) (w : World) (tq : Tb) : TS := (tRet (tAndV (tCall (sp_is_name K w tq) [] C8.E0 (tCons (tVar 1) tNil)) (tOp (rInV K w true) (tVar 1) (tOp (rIxU K w) (tVar 0) (tC (.int 1))))))
theorem ru_is_box {K : PySem.W.Frag} {w : World} {tq : Tb} (p_ahead p_thing : D) : RunsS K w tq false false (t_is_box K w tq) (vas [p_ahead, p_thing] 2) (fun _ => [.no, .no]) (fun l : Empty => nomatch l) (c_is_box p_ahead p_thing) := by
  unfold t_is_box c_is_box
  refine rs_cv (ρ' := [.va p_ahead, .va p_thing]) rfl ?_
  exact (rs_ret (re_andV (re_call (ra_cons (re_v rfl) ra_nil)) (re_op o_nin (re_v rfl) (re_op o_ix (re_v rfl) re_int))))
theorem rd_is_box {K : PySem.W.Frag} {w : World} {tq : Tb} {vs : List V} {H : Hp} {Q : VK} {E : XK} (h : sp_is_box K w tq vs H Q E) : t_is_box K w tq { nx := fun _ H' => Q .non H', rt := Q } (start ["ahead", "thing"] vs) H :=
  go_val (N := ["ahead", "thing"]) (fun ds fl h => len_v2 h) (la2 (fun a0 a1 => ru_is_box a0 a1)) h
theorem len_is_box {K : PySem.W.Frag} {w : World} {tq : Tb} {vs : List V} {H : Hp} {Q : VK} {E : XK} (h : sp_is_box K w tq vs H Q E) : vs.length = 2 := lv_2 h
noncomputable def c_has_box (p_stock p_name : D) : Option (Fl Unit Empty) :=
  ((andV ((some p_name).bind (isTyD "str" false)) ((some p_name).bind fun q245 => ((some p_stock).bind fun q243 => (some (D.int 1)).bind fun q244 => ixD q243 q244).bind fun q246 => inD q245 q246)).map fun q247 => .rt q247 .non)
noncomputable def f_has_box : List D → Option D := fV (fn2 c_has_box)
abbrev sp_has_box (K : PySem.W.Frag) (w : World) (tq : Tb) : Sp := mSp K w tq f_has_box
def t_has_box (K : PySem.W.Frag) (w : World) (tq : Tb) : TS := (tRet (tAndV (tOp (rIsU false) (tCB (rTyp K) (tCons (tVar 1) tNil)) (tC (.ty "str"))) (tOp (rInV K w false) (tVar 1) (tOp (rIxU K w) (tVar 0) (tC (.int 1))))))
theorem ru_has_box {K : PySem.W.Frag} {w : World} {tq : Tb} (p_stock p_name : D) : RunsS K w tq false false (t_has_box K w tq) (vas [p_stock, p_name] 2) (fun _ => [.no, .no]) (fun l : Empty => nomatch l) (c_has_box p_stock p_name) := by
  unfold t_has_box c_has_box
  refine rs_cv (ρ' := [.va p_stock, .va p_name]) rfl ?_
  exact (rs_ret (re_andV (re_isTy (re_v rfl)) (re_op o_in (re_v rfl) (re_op o_ix (re_v rfl) re_int))))
theorem rd_has_box {K : PySem.W.Frag} {w : World} {tq : Tb} {vs : List V} {H : Hp} {Q : VK} {E : XK} (h : sp_has_box K w tq vs H Q E) : t_has_box K w tq { nx := fun _ H' => Q .non H', rt := Q } (start ["stock", "name"] vs) H :=
  go_val (N := ["stock", "name"]) (fun ds fl h => len_v2 h) (la2 (fun a0 a1 => ru_has_box a0 a1)) h
theorem len_has_box {K : PySem.W.Frag} {w : World} {tq : Tb} {vs : List V} {H : Hp} {Q : VK} {E : XK} (h : sp_has_box K w tq vs H Q E) : vs.length = 2 := lv_2 h
noncomputable def c_is_tool (p_ahead p_thing : D) : Option (Fl Unit Empty) :=
  (iteM (M.orM (((((some p_thing).bind fun q250 => ((some (D.int 4)).bind fun q248 => (some []).bind fun q249 => some (q248 :: q249)).bind fun q251 => some (q250 :: q251)).bind f_is_row).bind tru).map (!·)) ((((((some p_ahead).bind fun q252 => (some (D.int 2)).bind fun q253 => ixD q252 q253).bind fun q258 => (((some p_thing).bind fun q254 => (some (D.int 0)).bind fun q255 => ixD q254 q255).bind fun q256 => (some []).bind fun q257 => some (q256 :: q257)).bind fun q259 => some (q258 :: q259)).bind f_is_new).bind tru).map (!·))) ((some (D.bl false)).map fun q260 => .rt q260 .non) (((((some p_ahead).bind fun q261 => (some (D.int 0)).bind fun q262 => ixD q261 q262).bind fun q267 => (((some p_thing).bind fun q263 => (some (D.int 1)).bind fun q264 => ixD q263 q264).bind fun q265 => (some []).bind fun q266 => some (q265 :: q266)).bind fun q268 => some (q267 :: q268)).bind f_named).bind fun v_kind_269 => (iteM (M.orM (((some v_kind_269).map fun q270 => D.bl (if false then !isNonD q270 else isNonD q270)).bind isBl) (M.orM ((((((some p_thing).bind fun q271 => (some (D.int 2)).bind fun q272 => ixD q271 q272).bind fun q273 => (some []).bind fun q274 => some (q273 :: q274)).bind f_is_size).bind tru).map (!·)) ((((some p_thing).bind fun q275 => (some (D.int 2)).bind fun q276 => ixD q275 q276).bind fun q279 => ((some v_kind_269).bind fun q277 => (some (D.int 1)).bind fun q278 => ixD q277 q278).bind fun q280 => ltD q279 q280).bind isBl))) ((some (D.bl false)).map fun q281 => .rt q281 .non) ((((some p_ahead).bind fun q286 => (((some p_thing).bind fun q282 => (some (D.int 3)).bind fun q283 => ixD q282 q283).bind fun q284 => (some []).bind fun q285 => some (q284 :: q285)).bind fun q287 => some (q286 :: q287)).bind f_has_box).map fun q288 => .rt q288 .non))))
noncomputable def f_is_tool : List D → Option D := fV (fn2 c_is_tool)
abbrev sp_is_tool (K : PySem.W.Frag) (w : World) (tq : Tb) : Sp := mSp K w tq f_is_tool
def t_is_tool (K : PySem.W.Frag) (w : World) (tq : Tb) : TS := (tSeq (tIfS (tOr (tNot (tTru K (tCall (sp_is_row K w tq) [] C8.E0 (tCons (tVar 1) (tCons (tC (.int 4)) tNil))))) (tNot (tTru K (tCall (sp_is_new K w tq) [] C8.E0 (tCons (tOp (rIxU K w) (tVar 0) (tC (.int 2))) (tCons (tOp (rIxU K w) (tVar 1) (tC (.int 0))) tNil)))))) (tRet (tC (.bl false))) tNext) (tSeq (tAsg (tCall (sp_named K w tq) [] C8.E0 (tCons (tOp (rIxU K w) (tVar 0) (tC (.int 0))) (tCons (tOp (rIxU K w) (tVar 1) (tC (.int 1))) tNil))) (gName 2)) (tSeq (tIfS (tOr (tTest (tOp (rIsU false) (tVar 2) (tC .non))) (tOr (tNot (tTru K (tCall (sp_is_size K w tq) [] C8.E0 (tCons (tOp (rIxU K w) (tVar 1) (tC (.int 2))) tNil)))) (tTest (tOp rLtU (tOp (rIxU K w) (tVar 1) (tC (.int 2))) (tOp (rIxU K w) (tVar 2) (tC (.int 1))))))) (tRet (tC (.bl false))) tNext) (tRet (tCall (sp_has_box K w tq) [] C8.E0 (tCons (tVar 0) (tCons (tOp (rIxU K w) (tVar 1) (tC (.int 3))) tNil)))))))
theorem ru_is_tool {K : PySem.W.Frag} {w : World} {tq : Tb} (p_ahead p_thing : D) : RunsS K w tq false false (t_is_tool K w tq) (vas [p_ahead, p_thing] 3) (fun _ => [.no, .no, .no]) (fun l : Empty => nomatch l) (c_is_tool p_ahead p_thing) := by
  unfold t_is_tool c_is_tool
  refine rs_cv (ρ' := [.va p_ahead, .va p_thing, .no]) rfl ?_
  exact (rs_ifR (rt_or (rt_not (rt_tru (re_call (ra_cons (re_v rfl) (ra_cons re_int ra_nil))))) (rt_not (rt_tru (re_call (ra_cons (re_op o_ix (re_v rfl) re_int) (ra_cons (re_op o_ix (re_v rfl) re_int) ra_nil)))))) (rs_dead (rs_ret re_bl)) (rs_skip (rs_asg1 (re_call (ra_cons (re_op o_ix (re_v rfl) re_int) (ra_cons (re_op o_ix (re_v rfl) re_int) ra_nil))) rfl (fun v_kind_269 => rs_cv (ρ' := [.va p_ahead, .va p_thing, .va v_kind_269]) rfl (rs_ifR (rt_or (rt_test (re_isN (re_v rfl))) (rt_or (rt_not (rt_tru (re_call (ra_cons (re_op o_ix (re_v rfl) re_int) ra_nil)))) (rt_test (re_op o_lt (re_op o_ix (re_v rfl) re_int) (re_op o_ix (re_v rfl) re_int))))) (rs_dead (rs_ret re_bl)) (rs_skip (rs_ret (re_call (ra_cons (re_v rfl) (ra_cons (re_op o_ix (re_v rfl) re_int) ra_nil))))))))))
theorem rd_is_tool {K : PySem.W.Frag} {w : World} {tq : Tb} {vs : List V} {H : Hp} {Q : VK} {E : XK} (h : sp_is_tool K w tq vs H Q E) : t_is_tool K w tq { nx := fun _ H' => Q .non H', rt := Q } (start ["ahead", "thing", "kind"] vs) H :=
  go_val (N := ["ahead", "thing", "kind"]) (fun ds fl h => len_v2 h) (la2 (fun a0 a1 => ru_is_tool a0 a1)) h
theorem len_is_tool {K : PySem.W.Frag} {w : World} {tq : Tb} {vs : List V} {H : Hp} {Q : VK} {E : XK} (h : sp_is_tool K w tq vs H Q E) : vs.length = 2 := lv_2 h
noncomputable def c_is_hand (p_ahead p_thing : D) : Option (Fl Unit Empty) :=
  ((andV (((some p_thing).bind fun q291 => ((some (D.int 2)).bind fun q289 => (some []).bind fun q290 => some (q289 :: q290)).bind fun q292 => some (q291 :: q292)).bind f_is_row) (andV ((((some p_ahead).bind fun q293 => (some (D.int 3)).bind fun q294 => ixD q293 q294).bind fun q299 => (((some p_thing).bind fun q295 => (some (D.int 0)).bind fun q296 => ixD q295 q296).bind fun q297 => (some []).bind fun q298 => some (q297 :: q298)).bind fun q300 => some (q299 :: q300)).bind f_is_new) ((((some p_thing).bind fun q301 => (some (D.int 1)).bind fun q302 => ixD q301 q302).bind fun q303 => (some []).bind fun q304 => some (q303 :: q304)).bind f_is_name))).map fun q305 => .rt q305 .non)
noncomputable def f_is_hand : List D → Option D := fV (fn2 c_is_hand)
abbrev sp_is_hand (K : PySem.W.Frag) (w : World) (tq : Tb) : Sp := mSp K w tq f_is_hand
def t_is_hand (K : PySem.W.Frag) (w : World) (tq : Tb) : TS := (tRet (tAndV (tCall (sp_is_row K w tq) [] C8.E0 (tCons (tVar 1) (tCons (tC (.int 2)) tNil))) (tAndV (tCall (sp_is_new K w tq) [] C8.E0 (tCons (tOp (rIxU K w) (tVar 0) (tC (.int 3))) (tCons (tOp (rIxU K w) (tVar 1) (tC (.int 0))) tNil))) (tCall (sp_is_name K w tq) [] C8.E0 (tCons (tOp (rIxU K w) (tVar 1) (tC (.int 1))) tNil)))))
theorem ru_is_hand {K : PySem.W.Frag} {w : World} {tq : Tb} (p_ahead p_thing : D) : RunsS K w tq false false (t_is_hand K w tq) (vas [p_ahead, p_thing] 2) (fun _ => [.no, .no]) (fun l : Empty => nomatch l) (c_is_hand p_ahead p_thing) := by
  unfold t_is_hand c_is_hand
  refine rs_cv (ρ' := [.va p_ahead, .va p_thing]) rfl ?_
  exact (rs_ret (re_andV (re_call (ra_cons (re_v rfl) (ra_cons re_int ra_nil))) (re_andV (re_call (ra_cons (re_op o_ix (re_v rfl) re_int) (ra_cons (re_op o_ix (re_v rfl) re_int) ra_nil))) (re_call (ra_cons (re_op o_ix (re_v rfl) re_int) ra_nil)))))
theorem rd_is_hand {K : PySem.W.Frag} {w : World} {tq : Tb} {vs : List V} {H : Hp} {Q : VK} {E : XK} (h : sp_is_hand K w tq vs H Q E) : t_is_hand K w tq { nx := fun _ H' => Q .non H', rt := Q } (start ["ahead", "thing"] vs) H :=
  go_val (N := ["ahead", "thing"]) (fun ds fl h => len_v2 h) (la2 (fun a0 a1 => ru_is_hand a0 a1)) h
theorem len_is_hand {K : PySem.W.Frag} {w : World} {tq : Tb} {vs : List V} {H : Hp} {Q : VK} {E : XK} (h : sp_is_hand K w tq vs H Q E) : vs.length = 2 := lv_2 h
noncomputable def c_set_with (p_stock p_tool : D) : Option (Fl Unit Empty) :=
  (((((some p_stock).bind fun q306 => (some (D.int 4)).bind fun q307 => ixD q306 q307).bind itD).bind fun q317 => M.forM (fun q314 (s308 : Unit) => (un (.tp [(.nm 2), (.nm 3)]) q314).bind fun ls315 => fn2 (fun v_name_309 v_pieces_310 => (iteM (((some p_tool).bind fun q311 => (some v_pieces_310).bind fun q312 => inD q311 q312).bind isBl) ((some v_name_309).map fun q313 => .rt q313 .non) (some (.nx ())))) ls315) q317 ()).bind (Fl.thn fun (j316 : Unit) => ((some D.non).map fun q318 => .rt q318 .non)))
noncomputable def f_set_with : List D → Option D := fV (fn2 c_set_with)
abbrev sp_set_with (K : PySem.W.Frag) (w : World) (tq : Tb) : Sp := mSp K w tq f_set_with
def t_set_with (K : PySem.W.Frag) (w : World) (tq : Tb) : TS := (tSeq (tFor (iAny K (tOp (rIxU K w) (tVar 0) (tC (.int 4)))) (gTup K 2 (gCons (gName 2) (gCons (gName 3) gNil))) (tIfS (tTest (tOp (rInV K w false) (tVar 1) (tVar 3))) (tRet (tVar 2)) tNext)) (tRet (tC .non)))
theorem ru_set_with {K : PySem.W.Frag} {w : World} {tq : Tb} (p_stock p_tool : D) : RunsS K w tq false false (t_set_with K w tq) (vas [p_stock, p_tool] 4) (fun _ => [.no, .no, .no, .no]) (fun l : Empty => nomatch l) (c_set_with p_stock p_tool) := by
  unfold t_set_with c_set_with
  refine rs_cv (ρ' := [.va p_stock, .va p_tool, .no, .no]) rfl ?_
  exact (rs_seq (eM := (fun (s_ : Unit) => [.va p_stock, .va p_tool, .no, .no])) (rs_for (p := (.tp [(.nm 2), (.nm 3)])) (eS := (fun (s_ : Unit) => [.va p_stock, .va p_tool, .no, .no])) (s0 := ()) (ri_any (re_op o_ix (re_v rfl) re_int)) (sub_cons ss_va (sub_cons ss_va (sub_cons ss_no (sub_cons ss_no sub_nil)))) (bnd_tp (bnds_cons (bnd_nm 2) (bnds_cons (bnd_nm 3) bnds_nil)) rfl) (fun _ => rfl) (fun ls315 s308 => ls2 (fun v_name_309 v_pieces_310 => rs_cv (ρ' := [.va p_stock, .va p_tool, .va v_name_309, .va v_pieces_310]) rfl (rs_last (rs_ifR (rt_test (re_op o_in (re_v rfl) (re_v rfl))) (rs_dead (rs_ret (re_v rfl))) (rs_skip (rs_next (n := ()) (sub_cons ss_va (sub_cons ss_va (sub_cons ss_no (sub_cons ss_no sub_nil))))))))) ls315)) (fun j316 => rs_cv (ρ' := [.va p_stock, .va p_tool, .no, .no]) rfl (rs_ret re_non)))
theorem rd_set_with {K : PySem.W.Frag} {w : World} {tq : Tb} {vs : List V} {H : Hp} {Q : VK} {E : XK} (h : sp_set_with K w tq vs H Q E) : t_set_with K w tq { nx := fun _ H' => Q .non H', rt := Q } (start ["stock", "tool", "name", "pieces"] vs) H :=
  go_val (N := ["stock", "tool", "name", "pieces"]) (fun ds fl h => len_v2 h) (la2 (fun a0 a1 => ru_set_with a0 a1)) h
theorem len_set_with {K : PySem.W.Frag} {w : World} {tq : Tb} {vs : List V} {H : Hp} {Q : VK} {E : XK} (h : sp_set_with K w tq vs H Q E) : vs.length = 2 := lv_2 h
noncomputable def c_is_set (p_ahead p_thing : D) : Option (Fl Unit Empty) :=
  (iteM (M.orM (((((some p_thing).bind fun q321 => ((some (D.int 2)).bind fun q319 => (some []).bind fun q320 => some (q319 :: q320)).bind fun q322 => some (q321 :: q322)).bind f_is_row).bind tru).map (!·)) ((((((some p_ahead).bind fun q323 => (some (D.int 4)).bind fun q324 => ixD q323 q324).bind fun q329 => (((some p_thing).bind fun q325 => (some (D.int 0)).bind fun q326 => ixD q325 q326).bind fun q327 => (some []).bind fun q328 => some (q327 :: q328)).bind fun q330 => some (q329 :: q330)).bind f_is_new).bind tru).map (!·))) ((some (D.bl false)).map fun q331 => .rt q331 .non) (((some p_thing).bind fun q332 => (some (D.int 1)).bind fun q333 => ixD q332 q333).bind fun v_pieces_334 => (iteM (M.orM (((some v_pieces_334).bind (isTyD "tuple" true)).bind isBl) ((((some (D.int 1)).bind fun q337 => (((some v_pieces_334).bind fun q335 => (some []).bind fun q336 => some (q335 :: q336)).bind M.lenD).bind fun q338 => (((leD q337 q338).bind isBl).bind fun q339 => if q339 = true then (some (D.int 5)).bind fun q340 => leD q338 q340 else some (.bl false))).bind isBl).map (!·))) ((some (D.bl false)).map fun q341 => .rt q341 .non) ((((some v_pieces_334).bind itD).bind fun q360 => M.forM (fun q357 (s342 : Unit) => (un (.nm 3) q357).bind fun ls358 => fn1 (fun v_piece_343 => (iteM (M.orM ((((((some p_ahead).bind fun q344 => (some (D.int 2)).bind fun q345 => ixD q344 q345).bind fun q348 => ((some v_piece_343).bind fun q346 => (some []).bind fun q347 => some (q346 :: q347)).bind fun q349 => some (q348 :: q349)).bind f_named).map fun q350 => D.bl (if false then !isNonD q350 else isNonD q350)).bind isBl) (((((some p_ahead).bind fun q353 => ((some v_piece_343).bind fun q351 => (some []).bind fun q352 => some (q351 :: q352)).bind fun q354 => some (q353 :: q354)).bind f_set_with).map fun q355 => D.bl (if true then !isNonD q355 else isNonD q355)).bind isBl)) ((some (D.bl false)).map fun q356 => .rt q356 .non) (some (.nx ())))) ls358) q360 ()).bind (Fl.thn fun (j359 : Unit) => ((((some v_pieces_334).bind cntD).bind fun q363 => (((some v_pieces_334).bind fun q361 => (some []).bind fun q362 => some (q361 :: q362)).bind M.lenD).bind fun q364 => eqD q363 q364).map fun q365 => .rt q365 .non))))))
noncomputable def f_is_set : List D → Option D := fV (fn2 c_is_set)
abbrev sp_is_set (K : PySem.W.Frag) (w : World) (tq : Tb) : Sp := mSp K w tq f_is_set
def t_is_set (K : PySem.W.Frag) (w : World) (tq : Tb) : TS := (tSeq (tIfS (tOr (tNot (tTru K (tCall (sp_is_row K w tq) [] C8.E0 (tCons (tVar 1) (tCons (tC (.int 2)) tNil))))) (tNot (tTru K (tCall (sp_is_new K w tq) [] C8.E0 (tCons (tOp (rIxU K w) (tVar 0) (tC (.int 4))) (tCons (tOp (rIxU K w) (tVar 1) (tC (.int 0))) tNil)))))) (tRet (tC (.bl false))) tNext) (tSeq (tAsg (tOp (rIxU K w) (tVar 1) (tC (.int 1))) (gName 2)) (tSeq (tIfS (tOr (tTest (tOp (rIsU true) (tCB (rTyp K) (tCons (tVar 2) tNil)) (tC (.ty "tuple")))) (tNot (tChT rLeU rLeU (tC (.int 1)) (tCB (rLenU K) (tCons (tVar 2) tNil)) (tC (.int 5))))) (tRet (tC (.bl false))) tNext) (tSeq (tFor (iAny K (tVar 2)) (gName 3) (tIfS (tOr (tTest (tOp (rIsU false) (tCall (sp_named K w tq) [] C8.E0 (tCons (tOp (rIxU K w) (tVar 0) (tC (.int 2))) (tCons (tVar 3) tNil))) (tC .non))) (tTest (tOp (rIsU true) (tCall (sp_set_with K w tq) [] C8.E0 (tCons (tVar 0) (tCons (tVar 3) tNil))) (tC .non)))) (tRet (tC (.bl false))) tNext)) (tRet (tOp (rEqU K false) (tLenSetU K (tVar 2)) (tCB (rLenU K) (tCons (tVar 2) tNil))))))))
theorem ru_is_set {K : PySem.W.Frag} {w : World} {tq : Tb} (p_ahead p_thing : D) : RunsS K w tq false false (t_is_set K w tq) (vas [p_ahead, p_thing] 4) (fun _ => [.no, .no, .no, .no]) (fun l : Empty => nomatch l) (c_is_set p_ahead p_thing) := by
  unfold t_is_set c_is_set
  refine rs_cv (ρ' := [.va p_ahead, .va p_thing, .no, .no]) rfl ?_
  exact (rs_ifR (rt_or (rt_not (rt_tru (re_call (ra_cons (re_v rfl) (ra_cons re_int ra_nil))))) (rt_not (rt_tru (re_call (ra_cons (re_op o_ix (re_v rfl) re_int) (ra_cons (re_op o_ix (re_v rfl) re_int) ra_nil)))))) (rs_dead (rs_ret re_bl)) (rs_skip (rs_asg1 (re_op o_ix (re_v rfl) re_int) rfl (fun v_pieces_334 => rs_cv (ρ' := [.va p_ahead, .va p_thing, .va v_pieces_334, .no]) rfl (rs_ifR (rt_or (rt_test (re_isTy (re_v rfl))) (rt_not (rt_chT (re_chain o_le o_le re_int (re_cb o_len (ra_cons (re_v rfl) ra_nil)) re_int)))) (rs_dead (rs_ret re_bl)) (rs_skip (rs_seq (eM := (fun (s_ : Unit) => [.va p_ahead, .va p_thing, .va v_pieces_334, .no])) (rs_for (p := (.nm 3)) (eS := (fun (s_ : Unit) => [.va p_ahead, .va p_thing, .va v_pieces_334, .no])) (s0 := ()) (ri_any (re_v rfl)) (sub_cons ss_va (sub_cons ss_va (sub_cons ss_va (sub_cons ss_no sub_nil)))) (bnd_nm 3) (fun _ => rfl) (fun ls358 s342 => ls1 (fun v_piece_343 => rs_cv (ρ' := [.va p_ahead, .va p_thing, .va v_pieces_334, .va v_piece_343]) rfl (rs_last (rs_ifR (rt_or (rt_test (re_isN (re_call (ra_cons (re_op o_ix (re_v rfl) re_int) (ra_cons (re_v rfl) ra_nil))))) (rt_test (re_isN (re_call (ra_cons (re_v rfl) (ra_cons (re_v rfl) ra_nil)))))) (rs_dead (rs_ret re_bl)) (rs_skip (rs_next (n := ()) (sub_cons ss_va (sub_cons ss_va (sub_cons ss_va (sub_cons ss_no sub_nil))))))))) ls358)) (fun j359 => rs_cv (ρ' := [.va p_ahead, .va p_thing, .va v_pieces_334, .no]) rfl (rs_ret (re_op o_eq (re_lenSetU (re_v rfl)) (re_cb o_len (ra_cons (re_v rfl) ra_nil))))))))))))
theorem rd_is_set {K : PySem.W.Frag} {w : World} {tq : Tb} {vs : List V} {H : Hp} {Q : VK} {E : XK} (h : sp_is_set K w tq vs H Q E) : t_is_set K w tq { nx := fun _ H' => Q .non H', rt := Q } (start ["ahead", "thing", "pieces", "piece"] vs) H :=
  go_val (N := ["ahead", "thing", "pieces", "piece"]) (fun ds fl h => len_v2 h) (la2 (fun a0 a1 => ru_is_set a0 a1)) h
theorem len_is_set {K : PySem.W.Frag} {w : World} {tq : Tb} {vs : List V} {H : Hp} {Q : VK} {E : XK} (h : sp_is_set K w tq vs H Q E) : vs.length = 2 := lv_2 h
noncomputable def c_is_range (p_ahead p_sort p_thing : D) : Option (Fl Unit Empty) :=
  (iteM (M.orM (((((some p_thing).bind fun q368 => ((some (D.int 4)).bind fun q366 => (some []).bind fun q367 => some (q366 :: q367)).bind fun q369 => some (q368 :: q369)).bind f_is_row).bind tru).map (!·)) ((((((some p_ahead).bind fun q370 => (some p_sort).bind fun q371 => ixD q370 q371).bind fun q376 => (((some p_thing).bind fun q372 => (some (D.int 0)).bind fun q373 => ixD q372 q373).bind fun q374 => (some []).bind fun q375 => some (q374 :: q375)).bind fun q377 => some (q376 :: q377)).bind f_is_new).bind tru).map (!·))) ((some (D.bl false)).map fun q378 => .rt q378 .non) (iteM ((((((some p_ahead).bind fun q379 => (some (D.int 0)).bind fun q380 => ixD q379 q380).bind fun q385 => (((some p_thing).bind fun q381 => (some (D.int 1)).bind fun q382 => ixD q381 q382).bind fun q383 => (some []).bind fun q384 => some (q383 :: q384)).bind fun q386 => some (q385 :: q386)).bind f_named).map fun q387 => D.bl (if false then !isNonD q387 else isNonD q387)).bind isBl) ((some (D.bl false)).map fun q388 => .rt q388 .non) ((andV ((((some p_thing).bind fun q389 => (some (D.int 2)).bind fun q390 => ixD q389 q390).bind fun q391 => (some []).bind fun q392 => some (q391 :: q392)).bind f_is_size) (andV ((((some p_thing).bind fun q393 => (some (D.int 3)).bind fun q394 => ixD q393 q394).bind fun q395 => (some []).bind fun q396 => some (q395 :: q396)).bind f_is_size) (((some p_thing).bind fun q397 => (some (D.int 2)).bind fun q398 => ixD q397 q398).bind fun q401 => ((some p_thing).bind fun q399 => (some (D.int 3)).bind fun q400 => ixD q399 q400).bind fun q402 => leD q401 q402))).map fun q403 => .rt q403 .non)))
noncomputable def f_is_range : List D → Option D := fV (fn3 c_is_range)
abbrev sp_is_range (K : PySem.W.Frag) (w : World) (tq : Tb) : Sp := mSp K w tq f_is_range
def t_is_range (K : PySem.W.Frag) (w : World) (tq : Tb) : TS := (tSeq (tIfS (tOr (tNot (tTru K (tCall (sp_is_row K w tq) [] C8.E0 (tCons (tVar 2) (tCons (tC (.int 4)) tNil))))) (tNot (tTru K (tCall (sp_is_new K w tq) [] C8.E0 (tCons (tOp (rIxU K w) (tVar 0) (tVar 1)) (tCons (tOp (rIxU K w) (tVar 2) (tC (.int 0))) tNil)))))) (tRet (tC (.bl false))) tNext) (tSeq (tIfS (tTest (tOp (rIsU false) (tCall (sp_named K w tq) [] C8.E0 (tCons (tOp (rIxU K w) (tVar 0) (tC (.int 0))) (tCons (tOp (rIxU K w) (tVar 2) (tC (.int 1))) tNil))) (tC .non))) (tRet (tC (.bl false))) tNext) (tRet (tAndV (tCall (sp_is_size K w tq) [] C8.E0 (tCons (tOp (rIxU K w) (tVar 2) (tC (.int 2))) tNil)) (tAndV (tCall (sp_is_size K w tq) [] C8.E0 (tCons (tOp (rIxU K w) (tVar 2) (tC (.int 3))) tNil)) (tOp rLeU (tOp (rIxU K w) (tVar 2) (tC (.int 2))) (tOp (rIxU K w) (tVar 2) (tC (.int 3)))))))))
theorem ru_is_range {K : PySem.W.Frag} {w : World} {tq : Tb} (p_ahead p_sort p_thing : D) : RunsS K w tq false false (t_is_range K w tq) (vas [p_ahead, p_sort, p_thing] 3) (fun _ => [.no, .no, .no]) (fun l : Empty => nomatch l) (c_is_range p_ahead p_sort p_thing) := by
  unfold t_is_range c_is_range
  refine rs_cv (ρ' := [.va p_ahead, .va p_sort, .va p_thing]) rfl ?_
  exact (rs_ifR (rt_or (rt_not (rt_tru (re_call (ra_cons (re_v rfl) (ra_cons re_int ra_nil))))) (rt_not (rt_tru (re_call (ra_cons (re_op o_ix (re_v rfl) (re_v rfl)) (ra_cons (re_op o_ix (re_v rfl) re_int) ra_nil)))))) (rs_dead (rs_ret re_bl)) (rs_skip (rs_ifR (rt_test (re_isN (re_call (ra_cons (re_op o_ix (re_v rfl) re_int) (ra_cons (re_op o_ix (re_v rfl) re_int) ra_nil))))) (rs_dead (rs_ret re_bl)) (rs_skip (rs_ret (re_andV (re_call (ra_cons (re_op o_ix (re_v rfl) re_int) ra_nil)) (re_andV (re_call (ra_cons (re_op o_ix (re_v rfl) re_int) ra_nil)) (re_op o_le (re_op o_ix (re_v rfl) re_int) (re_op o_ix (re_v rfl) re_int)))))))))
theorem rd_is_range {K : PySem.W.Frag} {w : World} {tq : Tb} {vs : List V} {H : Hp} {Q : VK} {E : XK} (h : sp_is_range K w tq vs H Q E) : t_is_range K w tq { nx := fun _ H' => Q .non H', rt := Q } (start ["ahead", "sort", "thing"] vs) H :=
  go_val (N := ["ahead", "sort", "thing"]) (fun ds fl h => len_v3 h) (la3 (fun a0 a1 a2 => ru_is_range a0 a1 a2)) h
theorem len_is_range {K : PySem.W.Frag} {w : World} {tq : Tb} {vs : List V} {H : Hp} {Q : VK} {E : XK} (h : sp_is_range K w tq vs H Q E) : vs.length = 3 := lv_3 h
noncomputable def c_is_gauge (p_ahead p_thing : D) : Option (Fl Unit Empty) :=
  ((((some p_ahead).bind fun q408 => ((some (D.int 5)).bind fun q406 => ((some p_thing).bind fun q404 => (some []).bind fun q405 => some (q404 :: q405)).bind fun q407 => some (q406 :: q407)).bind fun q409 => some (q408 :: q409)).bind f_is_range).map fun q410 => .rt q410 .non)
noncomputable def f_is_gauge : List D → Option D := fV (fn2 c_is_gauge)
abbrev sp_is_gauge (K : PySem.W.Frag) (w : World) (tq : Tb) : Sp := mSp K w tq f_is_gauge
def t_is_gauge (K : PySem.W.Frag) (w : World) (tq : Tb) : TS := (tRet (tCall (sp_is_range K w tq) [] C8.E0 (tCons (tVar 0) (tCons (tC (.int 5)) (tCons (tVar 1) tNil)))))
theorem ru_is_gauge {K : PySem.W.Frag} {w : World} {tq : Tb} (p_ahead p_thing : D) : RunsS K w tq false false (t_is_gauge K w tq) (vas [p_ahead, p_thing] 2) (fun _ => [.no, .no]) (fun l : Empty => nomatch l) (c_is_gauge p_ahead p_thing) := by
  unfold t_is_gauge c_is_gauge
  refine rs_cv (ρ' := [.va p_ahead, .va p_thing]) rfl ?_
  exact (rs_ret (re_call (ra_cons (re_v rfl) (ra_cons re_int (ra_cons (re_v rfl) ra_nil)))))
theorem rd_is_gauge {K : PySem.W.Frag} {w : World} {tq : Tb} {vs : List V} {H : Hp} {Q : VK} {E : XK} (h : sp_is_gauge K w tq vs H Q E) : t_is_gauge K w tq { nx := fun _ H' => Q .non H', rt := Q } (start ["ahead", "thing"] vs) H :=
  go_val (N := ["ahead", "thing"]) (fun ds fl h => len_v2 h) (la2 (fun a0 a1 => ru_is_gauge a0 a1)) h
theorem len_is_gauge {K : PySem.W.Frag} {w : World} {tq : Tb} {vs : List V} {H : Hp} {Q : VK} {E : XK} (h : sp_is_gauge K w tq vs H Q E) : vs.length = 2 := lv_2 h
noncomputable def c_is_work (p_ahead p_thing : D) : Option (Fl Unit Empty) :=
  ((((some p_ahead).bind fun q415 => ((some (D.int 6)).bind fun q413 => ((some p_thing).bind fun q411 => (some []).bind fun q412 => some (q411 :: q412)).bind fun q414 => some (q413 :: q414)).bind fun q416 => some (q415 :: q416)).bind f_is_range).map fun q417 => .rt q417 .non)
noncomputable def f_is_work : List D → Option D := fV (fn2 c_is_work)
abbrev sp_is_work (K : PySem.W.Frag) (w : World) (tq : Tb) : Sp := mSp K w tq f_is_work
def t_is_work (K : PySem.W.Frag) (w : World) (tq : Tb) : TS := (tRet (tCall (sp_is_range K w tq) [] C8.E0 (tCons (tVar 0) (tCons (tC (.int 6)) (tCons (tVar 1) tNil)))))
theorem ru_is_work {K : PySem.W.Frag} {w : World} {tq : Tb} (p_ahead p_thing : D) : RunsS K w tq false false (t_is_work K w tq) (vas [p_ahead, p_thing] 2) (fun _ => [.no, .no]) (fun l : Empty => nomatch l) (c_is_work p_ahead p_thing) := by
  unfold t_is_work c_is_work
  refine rs_cv (ρ' := [.va p_ahead, .va p_thing]) rfl ?_
  exact (rs_ret (re_call (ra_cons (re_v rfl) (ra_cons re_int (ra_cons (re_v rfl) ra_nil)))))
theorem rd_is_work {K : PySem.W.Frag} {w : World} {tq : Tb} {vs : List V} {H : Hp} {Q : VK} {E : XK} (h : sp_is_work K w tq vs H Q E) : t_is_work K w tq { nx := fun _ H' => Q .non H', rt := Q } (start ["ahead", "thing"] vs) H :=
  go_val (N := ["ahead", "thing"]) (fun ds fl h => len_v2 h) (la2 (fun a0 a1 => ru_is_work a0 a1)) h
theorem len_is_work {K : PySem.W.Frag} {w : World} {tq : Tb} {vs : List V} {H : Hp} {Q : VK} {E : XK} (h : sp_is_work K w tq vs H Q E) : vs.length = 2 := lv_2 h
noncomputable def c_is_keep (p_ahead p_thing : D) : Option (Fl Unit Empty) :=
  (iteM (((((some p_thing).bind fun q420 => ((some (D.int 2)).bind fun q418 => (some []).bind fun q419 => some (q418 :: q419)).bind fun q421 => some (q420 :: q421)).bind f_is_row).bind tru).map (!·)) ((some (D.bl false)).map fun q422 => .rt q422 .non) (((((some p_ahead).bind fun q423 => (some (D.int 2)).bind fun q424 => ixD q423 q424).bind fun q429 => (((some p_thing).bind fun q425 => (some (D.int 0)).bind fun q426 => ixD q425 q426).bind fun q427 => (some []).bind fun q428 => some (q427 :: q428)).bind fun q430 => some (q429 :: q430)).bind f_named).bind fun v_tool_431 => (((((some p_ahead).bind fun q432 => (some (D.int 6)).bind fun q433 => ixD q432 q433).bind fun q438 => (((some p_thing).bind fun q434 => (some (D.int 1)).bind fun q435 => ixD q434 q435).bind fun q436 => (some []).bind fun q437 => some (q436 :: q437)).bind fun q439 => some (q438 :: q439)).bind f_named).bind fun v_work_440 => (iteM (M.orM (((some v_tool_431).map fun q441 => D.bl (if false then !isNonD q441 else isNonD q441)).bind isBl) (((some v_work_440).map fun q442 => D.bl (if false then !isNonD q442 else isNonD q442)).bind isBl)) ((some (D.bl false)).map fun q443 => .rt q443 .non) ((andV (((some v_tool_431).bind fun q444 => (some (D.int 1)).bind fun q445 => ixD q444 q445).bind fun q448 => ((some v_work_440).bind fun q446 => (some (D.int 1)).bind fun q447 => ixD q446 q447).bind fun q449 => eqD q448 q449) (((((some p_ahead).bind fun q450 => (some (D.int 7)).bind fun q451 => ixD q450 q451).bind fun q456 => (((some v_tool_431).bind fun q452 => (some (D.int 0)).bind fun q453 => ixD q452 q453).bind fun q454 => (some []).bind fun q455 => some (q454 :: q455)).bind fun q457 => some (q456 :: q457)).bind f_named).map fun q458 => D.bl (if false then !isNonD q458 else isNonD q458))).map fun q459 => .rt q459 .non)))))
noncomputable def f_is_keep : List D → Option D := fV (fn2 c_is_keep)
abbrev sp_is_keep (K : PySem.W.Frag) (w : World) (tq : Tb) : Sp := mSp K w tq f_is_keep
def t_is_keep (K : PySem.W.Frag) (w : World) (tq : Tb) : TS := (tSeq (tIfS (tNot (tTru K (tCall (sp_is_row K w tq) [] C8.E0 (tCons (tVar 1) (tCons (tC (.int 2)) tNil))))) (tRet (tC (.bl false))) tNext) (tSeq (tAsg (tCall (sp_named K w tq) [] C8.E0 (tCons (tOp (rIxU K w) (tVar 0) (tC (.int 2))) (tCons (tOp (rIxU K w) (tVar 1) (tC (.int 0))) tNil))) (gName 2)) (tSeq (tAsg (tCall (sp_named K w tq) [] C8.E0 (tCons (tOp (rIxU K w) (tVar 0) (tC (.int 6))) (tCons (tOp (rIxU K w) (tVar 1) (tC (.int 1))) tNil))) (gName 3)) (tSeq (tIfS (tOr (tTest (tOp (rIsU false) (tVar 2) (tC .non))) (tTest (tOp (rIsU false) (tVar 3) (tC .non)))) (tRet (tC (.bl false))) tNext) (tRet (tAndV (tOp (rEqU K false) (tOp (rIxU K w) (tVar 2) (tC (.int 1))) (tOp (rIxU K w) (tVar 3) (tC (.int 1)))) (tOp (rIsU false) (tCall (sp_named K w tq) [] C8.E0 (tCons (tOp (rIxU K w) (tVar 0) (tC (.int 7))) (tCons (tOp (rIxU K w) (tVar 2) (tC (.int 0))) tNil))) (tC .non))))))))
theorem ru_is_keep {K : PySem.W.Frag} {w : World} {tq : Tb} (p_ahead p_thing : D) : RunsS K w tq false false (t_is_keep K w tq) (vas [p_ahead, p_thing] 4) (fun _ => [.no, .no, .no, .no]) (fun l : Empty => nomatch l) (c_is_keep p_ahead p_thing) := by
  unfold t_is_keep c_is_keep
  refine rs_cv (ρ' := [.va p_ahead, .va p_thing, .no, .no]) rfl ?_
  exact (rs_ifR (rt_not (rt_tru (re_call (ra_cons (re_v rfl) (ra_cons re_int ra_nil))))) (rs_dead (rs_ret re_bl)) (rs_skip (rs_asg1 (re_call (ra_cons (re_op o_ix (re_v rfl) re_int) (ra_cons (re_op o_ix (re_v rfl) re_int) ra_nil))) rfl (fun v_tool_431 => rs_cv (ρ' := [.va p_ahead, .va p_thing, .va v_tool_431, .no]) rfl (rs_asg1 (re_call (ra_cons (re_op o_ix (re_v rfl) re_int) (ra_cons (re_op o_ix (re_v rfl) re_int) ra_nil))) rfl (fun v_work_440 => rs_cv (ρ' := [.va p_ahead, .va p_thing, .va v_tool_431, .va v_work_440]) rfl (rs_ifR (rt_or (rt_test (re_isN (re_v rfl))) (rt_test (re_isN (re_v rfl)))) (rs_dead (rs_ret re_bl)) (rs_skip (rs_ret (re_andV (re_op o_eq (re_op o_ix (re_v rfl) re_int) (re_op o_ix (re_v rfl) re_int)) (re_isN (re_call (ra_cons (re_op o_ix (re_v rfl) re_int) (ra_cons (re_op o_ix (re_v rfl) re_int) ra_nil))))))))))))))
theorem rd_is_keep {K : PySem.W.Frag} {w : World} {tq : Tb} {vs : List V} {H : Hp} {Q : VK} {E : XK} (h : sp_is_keep K w tq vs H Q E) : t_is_keep K w tq { nx := fun _ H' => Q .non H', rt := Q } (start ["ahead", "thing", "tool", "work"] vs) H :=
  go_val (N := ["ahead", "thing", "tool", "work"]) (fun ds fl h => len_v2 h) (la2 (fun a0 a1 => ru_is_keep a0 a1)) h
theorem len_is_keep {K : PySem.W.Frag} {w : World} {tq : Tb} {vs : List V} {H : Hp} {Q : VK} {E : XK} (h : sp_is_keep K w tq vs H Q E) : vs.length = 2 := lv_2 h
noncomputable abbrev L_FITS : List (Str × (List D → Option D)) := [("is_kind", f_is_kind), ("is_box", f_is_box), ("is_tool", f_is_tool), ("is_hand", f_is_hand), ("is_set", f_is_set), ("is_gauge", f_is_gauge), ("is_work", f_is_work), ("is_keep", f_is_keep)]
noncomputable def c_fits (p_ahead p_sort p_thing : D) : Option (Fl Unit Empty) :=
  (((some d_FITS).bind fun q460 => (some p_sort).bind fun q461 => ixD q460 q461).bind fun v_fit_462 => ((((some p_ahead).bind fun q465 => ((some p_thing).bind fun q463 => (some []).bind fun q464 => some (q463 :: q464)).bind fun q466 => some (q465 :: q466)).bind fun q467 => callFn L_FITS v_fit_462 q467).map fun q468 => .rt q468 .non))
noncomputable def f_fits : List D → Option D := fV (fn3 c_fits)
abbrev sp_fits (K : PySem.W.Frag) (w : World) (tq : Tb) : Sp := mSp K w tq f_fits
def t_fits (K : PySem.W.Frag) (w : World) (tq : Tb) : TS := (tSeq (tAsg (tOp (rIxU K w) (tC (.ref (ga K "FITS"))) (tVar 1)) (gName 3)) (tRet (tCallA 3 (fnS K (fnSp K w tq L_FITS)) (tCons (tVar 0) (tCons (tVar 2) tNil)))))
theorem ru_fits {K : PySem.W.Frag} {w : World} {tq : Tb} (T : MC K w) (p_ahead p_sort p_thing : D) : RunsS K w tq false false (t_fits K w tq) (vas [p_ahead, p_sort, p_thing] 4) (fun _ => [.no, .no, .no, .no]) (fun l : Empty => nomatch l) (c_fits p_ahead p_sort p_thing) := by
  unfold t_fits c_fits
  refine rs_cv (ρ' := [.va p_ahead, .va p_sort, .va p_thing, .no]) rfl ?_
  exact (rs_asg1 (re_op o_ix (re_c T.FITS) (re_v rfl)) rfl (fun v_fit_462 => rs_cv (ρ' := [.va p_ahead, .va p_sort, .va p_thing, .va v_fit_462]) rfl (rs_ret (re_callA (L := L_FITS) (i := 3) (d := v_fit_462) T.nd_FITS rfl (ra_cons (re_v rfl) (ra_cons (re_v rfl) ra_nil))))))
theorem rd_fits {K : PySem.W.Frag} {w : World} {tq : Tb} (T : MC K w) {vs : List V} {H : Hp} {Q : VK} {E : XK} (h : sp_fits K w tq vs H Q E) : t_fits K w tq { nx := fun _ H' => Q .non H', rt := Q } (start ["ahead", "sort", "thing", "fit"] vs) H :=
  go_val (N := ["ahead", "sort", "thing", "fit"]) (fun ds fl h => len_v3 h) (la3 (fun a0 a1 a2 => ru_fits T a0 a1 a2)) h
theorem len_fits {K : PySem.W.Frag} {w : World} {tq : Tb} {vs : List V} {H : Hp} {Q : VK} {E : XK} (h : sp_fits K w tq vs H Q E) : vs.length = 3 := lv_3 h
noncomputable def c_stock_fault (p_thing : D) : Option (Fl Unit Empty) :=
  (iteM (((((some p_thing).bind fun q469 => (some []).bind fun q470 => some (q469 :: q470)).bind f_is_stock_form).bind tru).map (!·)) (((((some (D.str "form")).bind fun q471 => (some []).bind fun q472 => some (q471 :: q472)).bind szG).map D.tup).map fun q473 => .rt q473 .non) (((((some d_SORTS).bind itD).bind fun q475 => compM (compB (.nm 6) (fun _ => some true) (fn1 fun v_u_474 => (((some []).bind szG).map D.lst))) q475).map fun q476 => D.dp (.own (.lst (q476.map ownD)))).bind fun v_ahead_477 => (((((some p_thing).bind fun q478 => (some []).bind fun q479 => some (q478 :: q479)).bind enumD).bind fun q514 => M.forM (fun q511 (s480 : D) => (un (.tp [(.nm 2), (.nm 3)]) q511).bind fun ls512 => fn2 (fun v_sort_481 v_things_482 => (((((some v_things_482).bind fun q483 => (some []).bind fun q484 => some (q483 :: q484)).bind enumD).bind fun q510 => M.forM (fun q507 (s485 : D) => (un (.tp [(.nm 4), (.nm 5)]) q507).bind fun ls508 => fn2 (fun v_number_486 v_one_487 => (iteM (((((some (dpv s485)).bind fun q492 => ((some v_sort_481).bind fun q490 => ((some v_one_487).bind fun q488 => (some []).bind fun q489 => some (q488 :: q489)).bind fun q491 => some (q490 :: q491)).bind fun q493 => some (q492 :: q493)).bind f_fits).bind tru).map (!·)) ((((((some d_SORTS).bind fun q494 => (some v_sort_481).bind fun q495 => ixD q494 q495).bind fun q498 => ((some v_number_486).bind fun q496 => (some []).bind fun q497 => some (q496 :: q497)).bind fun q499 => some (q498 :: q499)).bind szG).map D.tup).map fun q500 => .rt q500 .non) (bX ((some v_sort_481).bind fun q503 => ((some v_one_487).bind fun q501 => (some []).bind fun q502 => some (q501 :: q502)).bind fun q504 => (pathF appF s485 q503 q504).map fun q505 => (q505.1, q505.2)) fun _ t506 => (some (.nx t506))))) ls508) q510 s480).bind (Fl.thn fun (j509 : D) => (some (.nx j509))))) ls512) q514 v_ahead_477).bind (Fl.thn fun (j513 : D) => ((some D.non).map fun q515 => .rt q515 .non)))))
noncomputable def f_stock_fault : List D → Option D := fV (fn1 c_stock_fault)
abbrev sp_stock_fault (K : PySem.W.Frag) (w : World) (tq : Tb) : Sp := mSp K w tq f_stock_fault
def t_stock_fault (K : PySem.W.Frag) (w : World) (tq : Tb) : TS := (tSeq (tIfS (tNot (tTru K (tCall (sp_is_stock_form K w tq) [] C8.E0 (tCons (tVar 0) tNil)))) (tRet (tTupP (tCons (tC (.str "form")) tNil))) tNext) (tSeq (tAsg (tLc (iAny K (tC (.ref (ga K "SORTS")))) (gName 6) tYes (tLst tNil) [6]) (gName 1)) (tSeq (tFor (iEnumU K (tCons (tVar 0) tNil)) (gTup K 2 (gCons (gName 2) (gCons (gName 3) gNil))) (tFor (iEnumU K (tCons (tVar 3) tNil)) (gTup K 2 (gCons (gName 4) (gCons (gName 5) gNil))) (tSeq (tIfS (tNot (tTru K (tCall (sp_fits K w tq) [] C8.E0 (tCons (tVar 1) (tCons (tVar 2) (tCons (tVar 5) tNil)))))) (tRet (tTupP (tCons (tOp (rIxU K w) (tC (.ref (ga K "SORTS"))) (tVar 2)) (tCons (tVar 4) tNil)))) tNext) (tDrop (tBM K "list" rAppend (tOp (rIxU K w) (tVar 1) (tVar 2)) (tCons (tVar 5) tNil)))))) (tRet (tC .non)))))
theorem ru_stock_fault {K : PySem.W.Frag} {w : World} {tq : Tb} (T : MC K w) (p_thing : D) : RunsS K w tq false false (t_stock_fault K w tq) (vas [p_thing] 7) (fun _ => [.no, .no, .no, .no, .no, .no, .no]) (fun l : Empty => nomatch l) (c_stock_fault p_thing) := by
  unfold t_stock_fault c_stock_fault
  refine rs_cv (ρ' := [.va p_thing, .no, .no, .no, .no, .no, .no]) rfl ?_
  exact (rs_ifR (rt_not (rt_tru (re_call (ra_cons (re_v rfl) ra_nil)))) (rs_dead (rs_ret (re_tup (ra_cons re_str ra_nil)))) (rs_skip (rs_asgN (rn_lcO (p := (.nm 6)) (ri_any (re_c T.SORTS)) (bnd_nm 6) rfl (by decide) rfl lyes (ln1 fun v_u_474 => (rn_lst ra_nil))) rfl (fun v_ahead_477 => rs_cv (ρ' := [.va p_thing, .ow false v_ahead_477, .no, .no, .no, .no, .no]) rfl (rs_seq (eM := (fun (s_ : D) => [.va p_thing, .ow false s_, .no, .no, .no, .no, .no])) (rs_for (p := (.tp [(.nm 2), (.nm 3)])) (eS := (fun (s_ : D) => [.va p_thing, .ow false s_, .no, .no, .no, .no, .no])) (s0 := v_ahead_477) (ri_enum (ra_cons (re_v rfl) ra_nil)) (sub_cons ss_va (sub_cons ss_ow (sub_cons ss_no (sub_cons ss_no (sub_cons ss_no (sub_cons ss_no (sub_cons ss_no sub_nil))))))) (bnd_tp (bnds_cons (bnd_nm 2) (bnds_cons (bnd_nm 3) bnds_nil)) rfl) (fun _ => rfl) (fun ls512 s480 => ls2 (fun v_sort_481 v_things_482 => rs_cv (ρ' := [.va p_thing, .ow false s480, .va v_sort_481, .va v_things_482, .no, .no, .no]) rfl (rs_last (rs_seq (eM := (fun (s_ : D) => [.va p_thing, .ow false s_, .va v_sort_481, .va v_things_482, .no, .no, .no])) (rs_for (p := (.tp [(.nm 4), (.nm 5)])) (eS := (fun (s_ : D) => [.va p_thing, .ow false s_, .va v_sort_481, .va v_things_482, .no, .no, .no])) (s0 := s480) (ri_enum (ra_cons (re_v rfl) ra_nil)) (sub_cons ss_va (sub_cons ss_ow (sub_cons ss_va (sub_cons ss_va (sub_cons ss_no (sub_cons ss_no (sub_cons ss_no sub_nil))))))) (bnd_tp (bnds_cons (bnd_nm 4) (bnds_cons (bnd_nm 5) bnds_nil)) rfl) (fun _ => rfl) (fun ls508 s485 => ls2 (fun v_number_486 v_one_487 => rs_cv (ρ' := [.va p_thing, .ow false s485, .va v_sort_481, .va v_things_482, .va v_number_486, .va v_one_487, .no]) rfl (rs_ifR (rt_pk (rt_not (rt_tru (re_call (ra_cons (re_vdp rfl) (ra_cons (re_v rfl) (ra_cons (re_v rfl) ra_nil))))))) (rs_dead (rs_sub (ρ' := [.va p_thing, .va (dpv s485), .va v_sort_481, .va v_things_482, .va v_number_486, .va v_one_487, .no]) (sub_cons ss_va (sub_cons ss_dp (sub_cons ss_va (sub_cons ss_va (sub_cons ss_va (sub_cons ss_va (sub_cons ss_no sub_nil))))))) (rs_ret (re_tup (ra_cons (re_op o_ix (re_c T.SORTS) (re_v rfl)) (ra_cons (re_v rfl) ra_nil)))))) (rs_skip (rs_last (ys_dropX (e := (fun (t_ : D) => [.va p_thing, .ow false t_, .va v_sort_481, .va v_things_482, .va v_number_486, .va v_one_487, .no])) (yx_methP (T := D) (i := 1) (d := s485) (e := (fun (t_ : D) => [.va p_thing, .ow false t_, .va v_sort_481, .va v_things_482, .va v_number_486, .va v_one_487, .no])) (put := fun d_ => d_) m_app rfl (fun _ => rfl) (re_v rfl) (ra_cons (re_v rfl) ra_nil)) (fun t506 => rs_cv (ρ' := [.va p_thing, .ow false t506, .va v_sort_481, .va v_things_482, .va v_number_486, .va v_one_487, .no]) rfl (rs_next (n := t506) (sub_cons ss_va (sub_cons ss_ow (sub_cons ss_va (sub_cons ss_va (sub_cons ss_no (sub_cons ss_no (sub_cons ss_no sub_nil)))))))))))))) ls508)) (fun j509 => rs_cv (ρ' := [.va p_thing, .ow false j509, .va v_sort_481, .va v_things_482, .no, .no, .no]) rfl (rs_next (n := j509) (sub_cons ss_va (sub_cons ss_ow (sub_cons ss_no (sub_cons ss_no (sub_cons ss_no (sub_cons ss_no (sub_cons ss_no sub_nil)))))))))))) ls512)) (fun j513 => rs_cv (ρ' := [.va p_thing, .ow false j513, .no, .no, .no, .no, .no]) rfl (rs_sub (ρ' := [.va p_thing, .va (dpv j513), .no, .no, .no, .no, .no]) (sub_cons ss_va (sub_cons ss_dp (sub_cons ss_no (sub_cons ss_no (sub_cons ss_no (sub_cons ss_no (sub_cons ss_no sub_nil))))))) (rs_ret re_non))))))))
theorem rd_stock_fault {K : PySem.W.Frag} {w : World} {tq : Tb} (T : MC K w) {vs : List V} {H : Hp} {Q : VK} {E : XK} (h : sp_stock_fault K w tq vs H Q E) : t_stock_fault K w tq { nx := fun _ H' => Q .non H', rt := Q } (start ["thing", "ahead", "sort", "things", "number", "one", "_"] vs) H :=
  go_val (N := ["thing", "ahead", "sort", "things", "number", "one", "_"]) (fun ds fl h => len_v1 h) (la1 (fun a0 => ru_stock_fault T a0)) h
theorem len_stock_fault {K : PySem.W.Frag} {w : World} {tq : Tb} {vs : List V} {H : Hp} {Q : VK} {E : XK} (h : sp_stock_fault K w tq vs H Q E) : vs.length = 1 := lv_1 h
noncomputable def c_need_stock (p_thing : D) : Option (Fl Unit Empty) :=
  ((((some p_thing).bind fun q516 => (some []).bind fun q517 => some (q516 :: q517)).bind f_stock_fault).bind fun v_place_518 => (iteM (((some v_place_518).map fun q519 => D.bl (if true then !isNonD q519 else isNonD q519)).bind isBl) none ((some p_thing).map fun q520 => .rt q520 .non)))
noncomputable def f_need_stock : List D → Option D := fV (fn1 c_need_stock)
abbrev sp_need_stock (K : PySem.W.Frag) (w : World) (tq : Tb) : Sp := mSp K w tq f_need_stock
def t_need_stock (K : PySem.W.Frag) (w : World) (tq : Tb) : TS := (tSeq (tAsg (tCall (sp_stock_fault K w tq) [] C8.E0 (tCons (tVar 0) tNil)) (gName 1)) (tSeq (tIfS (tTest (tOp (rIsU true) (tVar 1) (tC .non))) tNever tNext) (tRet (tVar 0))))
theorem ru_need_stock {K : PySem.W.Frag} {w : World} {tq : Tb} (p_thing : D) : RunsS K w tq false false (t_need_stock K w tq) (vas [p_thing] 2) (fun _ => [.no, .no]) (fun l : Empty => nomatch l) (c_need_stock p_thing) := by
  unfold t_need_stock c_need_stock
  refine rs_cv (ρ' := [.va p_thing, .no]) rfl ?_
  exact (rs_asg1 (re_call (ra_cons (re_v rfl) ra_nil)) rfl (fun v_place_518 => rs_cv (ρ' := [.va p_thing, .va v_place_518]) rfl (rs_ifR (rt_test (re_isN (re_v rfl))) rs_none (rs_skip (rs_ret (re_v rfl))))))
theorem rd_need_stock {K : PySem.W.Frag} {w : World} {tq : Tb} {vs : List V} {H : Hp} {Q : VK} {E : XK} (h : sp_need_stock K w tq vs H Q E) : t_need_stock K w tq { nx := fun _ H' => Q .non H', rt := Q } (start ["thing", "place"] vs) H :=
  go_val (N := ["thing", "place"]) (fun ds fl h => len_v1 h) (la1 (fun a0 => ru_need_stock a0)) h
theorem len_need_stock {K : PySem.W.Frag} {w : World} {tq : Tb} {vs : List V} {H : Hp} {Q : VK} {E : XK} (h : sp_need_stock K w tq vs H Q E) : vs.length = 1 := lv_1 h
noncomputable def c_need_jobs (p_stock p_works : D) : Option (Fl Unit Empty) :=
  ((((some []).bind szG).map D.lst).bind fun v_jobs_521 => ((((((((some p_stock).bind fun q522 => (some []).bind fun q523 => some (q522 :: q523)).bind f_need_stock).bind fun q528 => ((some p_works).bind fun q526 => ((some (D.int 12)).bind fun q524 => (some []).bind fun q525 => some (q524 :: q525)).bind fun q527 => some (q526 :: q527)).bind fun q529 => some (q528 :: q529)).bind f_need_works).bind itD).bind fun q567 => M.forM (fun q564 (s530 : D) => (un (.tp [(.nm 3), (.nm 4), (.nm 5), (.nm 6)]) q564).bind fun ls565 => fn4 (fun v_name_531 v_kind_532 v_low_533 v_high_534 => ((((((some p_stock).bind fun q535 => (some (D.int 0)).bind fun q536 => ixD q535 q536).bind fun q539 => ((some v_kind_532).bind fun q537 => (some []).bind fun q538 => some (q537 :: q538)).bind fun q540 => some (q539 :: q540)).bind f_named).bind fun q541 => (some (D.int 1)).bind fun q542 => ixD q541 q542).bind fun v_least_543 => (iteM (((some v_high_534).bind fun q544 => (some v_least_543).bind fun q545 => ltD q544 q545).bind isBl) none (bX (bX (bX (lX ((((some v_kind_532).bind fun q554 => ((((some v_low_533).bind fun q548 => ((some v_least_543).bind fun q546 => (some []).bind fun q547 => some (q546 :: q547)).bind fun q549 => some (q548 :: q549)).bind maxD).bind fun q552 => ((some v_high_534).bind fun q550 => (some []).bind fun q551 => some (q550 :: q551)).bind fun q553 => some (q552 :: q553)).bind fun q555 => some (q554 :: q555)).bind szG).map D.tup) s530) fun q556 t557 => bX (some ([], t557)) fun q558 t559 => some (q556 :: q558, t559)) fun q560 t561 => (appF s530 q560).map fun q562 => (q562.1, q562.2)) fun _ t563 => (some (.nx t563)))))) ls565) q567 v_jobs_521).bind (Fl.thn fun (j566 : D) => ((some j566).map fun q568 => .rt q568 .non))))
noncomputable def f_need_jobs : List D → Option D := fV (fn2 c_need_jobs)
abbrev sp_need_jobs (K : PySem.W.Frag) (w : World) (tq : Tb) : Sp := mSp K w tq f_need_jobs
def t_need_jobs (K : PySem.W.Frag) (w : World) (tq : Tb) : TS := (tSeq (tAsg (tLst tNil) (gName 2)) (tSeq (tFor (iAny K (tCall (sp_need_works K w tq) [] C8.E0 (tCons (tCall (sp_need_stock K w tq) [] C8.E0 (tCons (tVar 0) tNil)) (tCons (tVar 1) (tCons (tC (.int 12)) tNil))))) (gTup K 4 (gCons (gName 3) (gCons (gName 4) (gCons (gName 5) (gCons (gName 6) gNil))))) (tSeq (tAsg (tOp (rIxU K w) (tCall (sp_named K w tq) [] C8.E0 (tCons (tOp (rIxU K w) (tVar 0) (tC (.int 0))) (tCons (tVar 4) tNil))) (tC (.int 1))) (gName 7)) (tSeq (tIfS (tTest (tOp rLtU (tVar 6) (tVar 7))) tNever tNext) (tDrop (tBM K "list" rAppend (tVar 2) (tCons (tTupP (tCons (tVar 4) (tCons (tCB (rMaxU K) (tCons (tVar 5) (tCons (tVar 7) tNil))) (tCons (tVar 6) tNil)))) tNil)))))) (tRet (tVar 2))))
theorem ru_need_jobs {K : PySem.W.Frag} {w : World} {tq : Tb} (p_stock p_works : D) : RunsS K w tq false false (t_need_jobs K w tq) (vas [p_stock, p_works] 8) (fun _ => [.no, .no, .no, .no, .no, .no, .no, .no]) (fun l : Empty => nomatch l) (c_need_jobs p_stock p_works) := by
  unfold t_need_jobs c_need_jobs
  refine rs_cv (ρ' := [.va p_stock, .va p_works, .no, .no, .no, .no, .no, .no]) rfl ?_
  exact (rs_asgN (rn_lst ra_nil) rfl (fun v_jobs_521 => rs_cv (ρ' := [.va p_stock, .va p_works, .ow false v_jobs_521, .no, .no, .no, .no, .no]) rfl (rs_seq (eM := (fun (s_ : D) => [.va p_stock, .va p_works, .ow false s_, .no, .no, .no, .no, .no])) (rs_for (p := (.tp [(.nm 3), (.nm 4), (.nm 5), (.nm 6)])) (eS := (fun (s_ : D) => [.va p_stock, .va p_works, .ow false s_, .no, .no, .no, .no, .no])) (s0 := v_jobs_521) (ri_any (re_call (ra_cons (re_call (ra_cons (re_v rfl) ra_nil)) (ra_cons (re_v rfl) (ra_cons re_int ra_nil))))) (sub_cons ss_va (sub_cons ss_va (sub_cons ss_ow (sub_cons ss_no (sub_cons ss_no (sub_cons ss_no (sub_cons ss_no (sub_cons ss_no sub_nil)))))))) (bnd_tp (bnds_cons (bnd_nm 3) (bnds_cons (bnd_nm 4) (bnds_cons (bnd_nm 5) (bnds_cons (bnd_nm 6) bnds_nil)))) rfl) (fun _ => rfl) (fun ls565 s530 => ls4 (fun v_name_531 v_kind_532 v_low_533 v_high_534 => rs_cv (ρ' := [.va p_stock, .va p_works, .ow false s530, .va v_name_531, .va v_kind_532, .va v_low_533, .va v_high_534, .no]) rfl (rs_asg1 (re_op o_ix (re_call (ra_cons (re_op o_ix (re_v rfl) re_int) (ra_cons (re_v rfl) ra_nil))) re_int) rfl (fun v_least_543 => rs_cv (ρ' := [.va p_stock, .va p_works, .ow false s530, .va v_name_531, .va v_kind_532, .va v_low_533, .va v_high_534, .va v_least_543]) rfl (rs_ifR (rt_test (re_op o_lt (re_v rfl) (re_v rfl))) rs_none (rs_skip (rs_last (ys_dropX (e := (fun (t_ : D) => [.va p_stock, .va p_works, .ow false t_, .va v_name_531, .va v_kind_532, .va v_low_533, .va v_high_534, .va v_least_543])) (yx_meth (T := D) (f := appF) (d := s530) (i := 2) (put := (fun (_ d_ : D) => d_)) (e1 := (fun (t_ : D) => [.va p_stock, .va p_works, .ow false s530, .va v_name_531, .va v_kind_532, .va v_low_533, .va v_high_534, .va v_least_543])) (e := (fun (t_ : D) => [.va p_stock, .va p_works, .ow false t_, .va v_name_531, .va v_kind_532, .va v_low_533, .va v_high_534, .va v_least_543])) m_app (fun _ => rfl) (fun _ _ => rfl) ⟨s530, rfl⟩ (yxa_cons (yx_lift (T := D) (e := (fun (t_ : D) => [.va p_stock, .va p_works, .ow false s530, .va v_name_531, .va v_kind_532, .va v_low_533, .va v_high_534, .va v_least_543])) (t := s530) (re_tup (ra_cons (re_v rfl) (ra_cons (re_cb o_max (ra_cons (re_v rfl) (ra_cons (re_v rfl) ra_nil))) (ra_cons (re_v rfl) ra_nil))))) (fun t557 => (yxa_nil (T := D) (e := (fun (t_ : D) => [.va p_stock, .va p_works, .ow false s530, .va v_name_531, .va v_kind_532, .va v_low_533, .va v_high_534, .va v_least_543])) (t := t557))))) (fun t563 => rs_cv (ρ' := [.va p_stock, .va p_works, .ow false t563, .va v_name_531, .va v_kind_532, .va v_low_533, .va v_high_534, .va v_least_543]) rfl (rs_next (n := t563) (sub_cons ss_va (sub_cons ss_va (sub_cons ss_ow (sub_cons ss_no (sub_cons ss_no (sub_cons ss_no (sub_cons ss_no (sub_cons ss_no sub_nil))))))))))))))))) ls565)) (fun j566 => rs_cv (ρ' := [.va p_stock, .va p_works, .ow false j566, .no, .no, .no, .no, .no]) rfl (rs_sub (ρ' := [.va p_stock, .va p_works, .va j566, .no, .no, .no, .no, .no]) (sub_cons ss_va (sub_cons ss_va (sub_cons ss_fr (sub_cons ss_no (sub_cons ss_no (sub_cons ss_no (sub_cons ss_no (sub_cons ss_no sub_nil)))))))) (rs_ret (re_v rfl)))))))
theorem rd_need_jobs {K : PySem.W.Frag} {w : World} {tq : Tb} {vs : List V} {H : Hp} {Q : VK} {E : XK} (h : sp_need_jobs K w tq vs H Q E) : t_need_jobs K w tq { nx := fun _ H' => Q .non H', rt := Q } (start ["stock", "works", "jobs", "name", "kind", "low", "high", "least"] vs) H :=
  go_val (N := ["stock", "works", "jobs", "name", "kind", "low", "high", "least"]) (fun ds fl h => len_v2 h) (la2 (fun a0 a1 => ru_need_jobs a0 a1)) h
theorem len_need_jobs {K : PySem.W.Frag} {w : World} {tq : Tb} {vs : List V} {H : Hp} {Q : VK} {E : XK} (h : sp_need_jobs K w tq vs H Q E) : vs.length = 2 := lv_2 h
noncomputable def c_plan_for (p_stock p_works : D) : Option (Fl Unit Empty) :=
  ((((((some p_stock).bind fun q571 => ((some p_works).bind fun q569 => (some []).bind fun q570 => some (q569 :: q570)).bind fun q572 => some (q571 :: q572)).bind f_need_jobs).bind fun q573 => (some []).bind fun q574 => some (q573 :: q574)).bind f_plan_of).map fun q575 => .rt q575 .non)
noncomputable def f_plan_for : List D → Option D := fV (fn2 c_plan_for)
abbrev sp_plan_for (K : PySem.W.Frag) (w : World) (tq : Tb) : Sp := mSp K w tq f_plan_for
def t_plan_for (K : PySem.W.Frag) (w : World) (tq : Tb) : TS := (tRet (tCall (sp_plan_of K w tq) [] C8.E0 (tCons (tCall (sp_need_jobs K w tq) [] C8.E0 (tCons (tVar 0) (tCons (tVar 1) tNil))) tNil)))
theorem ru_plan_for {K : PySem.W.Frag} {w : World} {tq : Tb} (p_stock p_works : D) : RunsS K w tq false false (t_plan_for K w tq) (vas [p_stock, p_works] 2) (fun _ => [.no, .no]) (fun l : Empty => nomatch l) (c_plan_for p_stock p_works) := by
  unfold t_plan_for c_plan_for
  refine rs_cv (ρ' := [.va p_stock, .va p_works]) rfl ?_
  exact (rs_ret (re_call (ra_cons (re_call (ra_cons (re_v rfl) (ra_cons (re_v rfl) ra_nil))) ra_nil)))
theorem rd_plan_for {K : PySem.W.Frag} {w : World} {tq : Tb} {vs : List V} {H : Hp} {Q : VK} {E : XK} (h : sp_plan_for K w tq vs H Q E) : t_plan_for K w tq { nx := fun _ H' => Q .non H', rt := Q } (start ["stock", "works"] vs) H :=
  go_val (N := ["stock", "works"]) (fun ds fl h => len_v2 h) (la2 (fun a0 a1 => ru_plan_for a0 a1)) h
theorem len_plan_for {K : PySem.W.Frag} {w : World} {tq : Tb} {vs : List V} {H : Hp} {Q : VK} {E : XK} (h : sp_plan_for K w tq vs H Q E) : vs.length = 2 := lv_2 h
noncomputable def c_many_tools (p_plan : D) : Option (Fl Unit Empty) :=
  ((((((some p_plan).bind itD).bind fun q583 => compM (compB (.tp [(.nm 1), (.nm 2), (.nm 3)]) (fun _ => some true) (fn3 fun v_kind_576 v_number_577 v_u_578 => ((((some v_kind_576).bind fun q581 => ((some v_number_577).bind fun q579 => (some []).bind fun q580 => some (q579 :: q580)).bind fun q582 => some (q581 :: q582)).bind szG).map D.tup))) q583).map D.lst).bind cntD).map fun q584 => .rt q584 .non)
noncomputable def f_many_tools : List D → Option D := fV (fn1 c_many_tools)
abbrev sp_many_tools (K : PySem.W.Frag) (w : World) (tq : Tb) : Sp := mSp K w tq f_many_tools
def t_many_tools (K : PySem.W.Frag) (w : World) (tq : Tb) : TS := (tRet (tLenSetU K (tLc (iAny K (tVar 0)) (gTup K 3 (gCons (gName 1) (gCons (gName 2) (gCons (gName 3) gNil)))) tYes (tTupP (tCons (tVar 1) (tCons (tVar 2) tNil))) [1, 2, 3])))
theorem ru_many_tools {K : PySem.W.Frag} {w : World} {tq : Tb} (p_plan : D) : RunsS K w tq false false (t_many_tools K w tq) (vas [p_plan] 4) (fun _ => [.no, .no, .no, .no]) (fun l : Empty => nomatch l) (c_many_tools p_plan) := by
  unfold t_many_tools c_many_tools
  refine rs_cv (ρ' := [.va p_plan, .no, .no, .no]) rfl ?_
  exact (rs_ret (re_lenSetU (re_of_n (rn_lc (p := (.tp [(.nm 1), (.nm 2), (.nm 3)])) (ri_any (re_v rfl)) (bnd_tp (bnds_cons (bnd_nm 1) (bnds_cons (bnd_nm 2) (bnds_cons (bnd_nm 3) bnds_nil))) rfl) rfl (by decide) rfl lyes (le3 fun v_kind_576 v_number_577 v_u_578 => (re_tup (ra_cons (re_v rfl) (ra_cons (re_v rfl) ra_nil))))))))
theorem rd_many_tools {K : PySem.W.Frag} {w : World} {tq : Tb} {vs : List V} {H : Hp} {Q : VK} {E : XK} (h : sp_many_tools K w tq vs H Q E) : t_many_tools K w tq { nx := fun _ H' => Q .non H', rt := Q } (start ["plan", "kind", "number", "_"] vs) H :=
  go_val (N := ["plan", "kind", "number", "_"]) (fun ds fl h => len_v1 h) (la1 (fun a0 => ru_many_tools a0)) h
theorem len_many_tools {K : PySem.W.Frag} {w : World} {tq : Tb} {vs : List V} {H : Hp} {Q : VK} {E : XK} (h : sp_many_tools K w tq vs H Q E) : vs.length = 1 := lv_1 h
noncomputable def c_fewest (p_stock p_works : D) : Option (Fl Unit Empty) :=
  ((((((((some p_stock).bind fun q587 => ((some p_works).bind fun q585 => (some []).bind fun q586 => some (q585 :: q586)).bind fun q588 => some (q587 :: q588)).bind f_need_jobs).bind fun q589 => (some []).bind fun q590 => some (q589 :: q590)).bind f_plan_of).bind fun q591 => (some []).bind fun q592 => some (q591 :: q592)).bind f_many_tools).map fun q593 => .rt q593 .non)
noncomputable def f_fewest : List D → Option D := fV (fn2 c_fewest)
abbrev sp_fewest (K : PySem.W.Frag) (w : World) (tq : Tb) : Sp := mSp K w tq f_fewest
def t_fewest (K : PySem.W.Frag) (w : World) (tq : Tb) : TS := (tRet (tCall (sp_many_tools K w tq) [] C8.E0 (tCons (tCall (sp_plan_of K w tq) [] C8.E0 (tCons (tCall (sp_need_jobs K w tq) [] C8.E0 (tCons (tVar 0) (tCons (tVar 1) tNil))) tNil)) tNil)))
theorem ru_fewest {K : PySem.W.Frag} {w : World} {tq : Tb} (p_stock p_works : D) : RunsS K w tq false false (t_fewest K w tq) (vas [p_stock, p_works] 2) (fun _ => [.no, .no]) (fun l : Empty => nomatch l) (c_fewest p_stock p_works) := by
  unfold t_fewest c_fewest
  refine rs_cv (ρ' := [.va p_stock, .va p_works]) rfl ?_
  exact (rs_ret (re_call (ra_cons (re_call (ra_cons (re_call (ra_cons (re_v rfl) (ra_cons (re_v rfl) ra_nil))) ra_nil)) ra_nil)))
theorem rd_fewest {K : PySem.W.Frag} {w : World} {tq : Tb} {vs : List V} {H : Hp} {Q : VK} {E : XK} (h : sp_fewest K w tq vs H Q E) : t_fewest K w tq { nx := fun _ H' => Q .non H', rt := Q } (start ["stock", "works"] vs) H :=
  go_val (N := ["stock", "works"]) (fun ds fl h => len_v2 h) (la2 (fun a0 a1 => ru_fewest a0 a1)) h
theorem len_fewest {K : PySem.W.Frag} {w : World} {tq : Tb} {vs : List V} {H : Hp} {Q : VK} {E : XK} (h : sp_fewest K w tq vs H Q E) : vs.length = 2 := lv_2 h
end U.P
end
section
set_option Elab.async false
set_option linter.all false
set_option maxRecDepth 100000
set_option maxHeartbeats 4000000
namespace U.A35
open PySem PySem.Spec PyProof.Rows L2 U M
open He (ga codeOf tabOf)
noncomputable def c__law_draw (p_script p_k : D) : Option (Fl Empty Empty) :=
  ((iteM (((some p_k).bind fun q3 => (((some p_script).bind fun q1 => (some []).bind fun q2 => some (q1 :: q2)).bind M.lenD).bind fun q4 => ltD q3 q4).bind isBl) ((some p_script).bind fun q5 => (some p_k).bind fun q6 => ixD q5 q6) (some p_k)).bind fun v_cell_7 => (((((some (D.str "cell")).bind keyD).bind fun q18 => (some v_cell_7).bind fun q19 => (((some (D.str "rest")).bind keyD).bind fun q15 => (iteM (((some v_cell_7).bind fun q13 => ((some (D.int 10)).bind fun q11 => (some (D.int 18)).bind fun q12 => powD q11 q12).bind fun q14 => geD q13 q14).bind isBl) (some v_cell_7) (some (D.int 0))).bind fun q16 => (((some (D.str "at")).bind keyD).bind fun q8 => (some (D.int 0)).bind fun q9 => (some []).bind fun q10 => some ((q8, q9) :: q10)).bind fun q17 => some ((q15, q16) :: q17)).bind fun q20 => some ((q18, q19) :: q20)).bind fun q21 => if q21.length ≤ 15 then some (D.dK (mergeD [] q21)) else none).map fun q22 => .rt q22 .non))
noncomputable def f__law_draw : List D → Option D := fN (fn2 c__law_draw)
abbrev sp__law_draw (K : PySem.W.Frag) (w : World) (tq : Tb) : Sp := mSpN K w tq f__law_draw
def t__law_draw (K : PySem.W.Frag) (w : World) (tq : Tb) : TS := (tSeq (tAsg (tIf (tTest (tOp rLtU (tVar 1) (tCB (rLenU K) (tCons (tVar 0) tNil)))) (tOp (rIxU K w) (tVar 0) (tVar 1)) (tVar 1)) (gName 2)) (tRet (tDisp (((tC (.str "cell")), (tVar 2)) :: (((tC (.str "rest")), (tIf (tTest (tOp rGeU (tVar 2) (tOp rPow (tC (.int 10)) (tC (.int 18))))) (tVar 2) (tC (.int 0)))) :: (((tC (.str "at")), (tC (.int 0))) :: []))))))
theorem ru__law_draw {K : PySem.W.Frag} {w : World} {tq : Tb} (p_script p_k : D) : RunsS K w tq false true (t__law_draw K w tq) (vas [p_script, p_k] 3) (fun n => nomatch n) (fun l : Empty => nomatch l) (c__law_draw p_script p_k) := by
  unfold t__law_draw c__law_draw
  refine rs_cv (ρ' := [.va p_script, .va p_k, .no]) rfl ?_
  exact (rs_asg1 (re_if (rt_test (re_op o_lt (re_v rfl) (re_cb o_len (ra_cons (re_v rfl) ra_nil)))) (re_op o_ix (re_v rfl) (re_v rfl)) (re_v rfl)) rfl (fun v_cell_7 => rs_cv (ρ' := [.va p_script, .va p_k, .va v_cell_7]) rfl ((rs_retN (rn_disp (rp_cons re_str (re_v rfl) (rp_cons re_str (re_if (rt_test (re_op o_ge (re_v rfl) (re_op o_pow re_int re_int))) (re_v rfl) re_int) (rp_cons re_str re_int rp_nil))))))))
theorem rd__law_draw {K : PySem.W.Frag} {w : World} {tq : Tb} {vs : List V} {H : Hp} {Q : VK} {E : XK} (h : sp__law_draw K w tq vs H Q E) : t__law_draw K w tq { nx := fun _ H' => Q .non H', rt := Q } (start ["script", "k", "cell"] vs) H :=
  go_new (N := ["script", "k", "cell"]) (fun ds fl h => len_v2 h) (la2 (fun a0 a1 => ru__law_draw a0 a1)) h
theorem len__law_draw {K : PySem.W.Frag} {w : World} {tq : Tb} {vs : List V} {H : Hp} {Q : VK} {E : XK} (h : sp__law_draw K w tq vs H Q E) : vs.length = 2 := ln_2 h
noncomputable def c__law_mixed (p_cell p_k : D) : Option (Fl Unit Empty) :=
  (((((((some p_cell).bind fun q23 => (some (D.int 2147483647)).bind fun q24 => modD q23 q24).bind fun q29 => (((some (D.int 7919)).bind fun q25 => (some p_k).bind fun q26 => mulD q25 q26).bind fun q27 => (some p_k).bind fun q28 => mulD q27 q28).bind fun q30 => addD q29 q30).bind fun q31 => (some (D.int 3)).bind fun q32 => addD q31 q32).bind fun q33 => (some (D.int 48271)).bind fun q34 => mulD q33 q34).bind fun q35 => (some (D.int 2147483647)).bind fun q36 => modD q35 q36).bind fun v_number_37 => ((((some v_number_37).bind fun q38 => (some v_number_37).bind fun q39 => mulD q38 q39).bind fun q40 => (some (D.int 2147483629)).bind fun q41 => modD q40 q41).map fun q42 => .rt q42 .non))
noncomputable def f__law_mixed : List D → Option D := fV (fn2 c__law_mixed)
abbrev sp__law_mixed (K : PySem.W.Frag) (w : World) (tq : Tb) : Sp := mSp K w tq f__law_mixed
def t__law_mixed (K : PySem.W.Frag) (w : World) (tq : Tb) : TS := (tSeq (tAsg (tOp rMod (tOp rMul2 (tOp (rAdd2 K) (tOp (rAdd2 K) (tOp rMod (tVar 0) (tC (.int 2147483647))) (tOp rMul2 (tOp rMul2 (tC (.int 7919)) (tVar 1)) (tVar 1))) (tC (.int 3))) (tC (.int 48271))) (tC (.int 2147483647))) (gName 2)) (tRet (tOp rMod (tOp rMul2 (tVar 2) (tVar 2)) (tC (.int 2147483629)))))
theorem ru__law_mixed {K : PySem.W.Frag} {w : World} {tq : Tb} (p_cell p_k : D) : RunsS K w tq false false (t__law_mixed K w tq) (vas [p_cell, p_k] 3) (fun _ => [.no, .no, .no]) (fun l : Empty => nomatch l) (c__law_mixed p_cell p_k) := by
  unfold t__law_mixed c__law_mixed
  refine rs_cv (ρ' := [.va p_cell, .va p_k, .no]) rfl ?_
  exact (rs_asg1 (re_op o_mod (re_op o_mul (re_op o_add (re_op o_add (re_op o_mod (re_v rfl) re_int) (re_op o_mul (re_op o_mul re_int (re_v rfl)) (re_v rfl))) re_int) re_int) re_int) rfl (fun v_number_37 => rs_cv (ρ' := [.va p_cell, .va p_k, .va v_number_37]) rfl (rs_ret (re_op o_mod (re_op o_mul (re_v rfl) (re_v rfl)) re_int))))
theorem rd__law_mixed {K : PySem.W.Frag} {w : World} {tq : Tb} {vs : List V} {H : Hp} {Q : VK} {E : XK} (h : sp__law_mixed K w tq vs H Q E) : t__law_mixed K w tq { nx := fun _ H' => Q .non H', rt := Q } (start ["cell", "k", "number"] vs) H :=
  go_val (N := ["cell", "k", "number"]) (fun ds fl h => len_v2 h) (la2 (fun a0 a1 => ru__law_mixed a0 a1)) h
theorem len__law_mixed {K : PySem.W.Frag} {w : World} {tq : Tb} {vs : List V} {H : Hp} {Q : VK} {E : XK} (h : sp__law_mixed K w tq vs H Q E) : vs.length = 2 := lv_2 h
noncomputable def c__law_take (s_0 p_many : D) : Option (Fl D Empty) :=
  (iteM ((((some s_0).bind fun q43 => (some (D.str "rest")).bind fun q44 => ixD q43 q44).bind fun q45 => (some (D.int 0)).bind fun q46 => gtD q45 q46).bind isBl) (((((some s_0).bind fun q47 => (some (D.str "rest")).bind fun q48 => ixD q47 q48).bind noLG).bind fun q49 => (some p_many).bind fun q50 => modD q49 q50).bind fun v_found_51 => (bX (lX ((((some s_0).bind fun q52 => (some (D.str "rest")).bind fun q53 => ixD q52 q53).bind noLG).bind fun q54 => (some p_many).bind fun q55 => divW q54 q55) s_0) fun q56 t57 => (some (D.str "rest")).bind fun q58 => (setD t57 q58 q56).bind fun d59 => ((some v_found_51).map fun q60 => .rt q60 d59))) (bX (lX ((((some s_0).bind fun q61 => (some (D.str "at")).bind fun q62 => ixD q61 q62).bind noLG).bind fun q63 => (some (D.int 1)).bind fun q64 => addD q63 q64) s_0) fun q65 t66 => (some (D.str "at")).bind fun q67 => (setD t66 q67 q65).bind fun d68 => ((((((((some d68).bind fun q69 => (some (D.str "cell")).bind fun q70 => ixD q69 q70).bind fun q75 => (((some d68).bind fun q71 => (some (D.str "at")).bind fun q72 => ixD q71 q72).bind fun q73 => (some []).bind fun q74 => some (q73 :: q74)).bind fun q76 => some (q75 :: q76)).bind f__law_mixed).bind noLG).bind fun q77 => (some (D.int 31)).bind fun q78 => mulD q77 q78).bind fun q91 => ((((((some d68).bind fun q79 => (some (D.str "cell")).bind fun q80 => ixD q79 q80).bind fun q81 => (some (D.int 1000003)).bind fun q82 => divW q81 q82).bind fun q89 => ((((some d68).bind fun q83 => (some (D.str "at")).bind fun q84 => ixD q83 q84).bind fun q85 => (some (D.int 9001)).bind fun q86 => addD q85 q86).bind fun q87 => (some []).bind fun q88 => some (q87 :: q88)).bind fun q90 => some (q89 :: q90)).bind f__law_mixed).bind noLG).bind fun q92 => addD q91 q92).bind fun v_number_93 => ((((some v_number_93).bind fun q94 => (some (D.int 11)).bind fun q95 => divW q94 q95).bind fun q96 => (some p_many).bind fun q97 => modD q96 q97).map fun q98 => .rt q98 d68))))
noncomputable def f__law_take : List D → Option (D × D) := fX (fun s => fn1 (c__law_take s))
abbrev sp__law_take (K : PySem.W.Frag) (w : World) (tq : Tb) : Sp := mSpX K w tq f__law_take
def t__law_take (K : PySem.W.Frag) (w : World) (tq : Tb) : TS := (tSeq (tIfS (tTest (tOp rGtU (tOp (rIxU K w) (tVar 0) (tC (.str "rest"))) (tC (.int 0)))) (tSeq (tAsg (tOp rMod (tOp (rIxU K w) (tVar 0) (tC (.str "rest"))) (tVar 1)) (gName 2)) (tSeq (sSetU (tVar 0) (tC (.str "rest")) (tOp rDivW (tOp (rIxU K w) (tVar 0) (tC (.str "rest"))) (tVar 1))) (tRet (tVar 2)))) tNext) (tSeq (sSetU (tVar 0) (tC (.str "at")) (tOp (rAdd2 K) (tOp (rIxU K w) (tVar 0) (tC (.str "at"))) (tC (.int 1)))) (tSeq (tAsg (tOp (rAdd2 K) (tOp rMul2 (tCall (sp__law_mixed K w tq) [] C8.E0 (tCons (tOp (rIxU K w) (tVar 0) (tC (.str "cell"))) (tCons (tOp (rIxU K w) (tVar 0) (tC (.str "at"))) tNil))) (tC (.int 31))) (tCall (sp__law_mixed K w tq) [] C8.E0 (tCons (tOp rDivW (tOp (rIxU K w) (tVar 0) (tC (.str "cell"))) (tC (.int 1000003))) (tCons (tOp (rAdd2 K) (tOp (rIxU K w) (tVar 0) (tC (.str "at"))) (tC (.int 9001))) tNil)))) (gName 3)) (tRet (tOp rMod (tOp rDivW (tVar 3) (tC (.int 11))) (tVar 1))))))
theorem ru__law_take {K : PySem.W.Frag} {w : World} {tq : Tb} (s_0 p_many : D) : RunsS K w tq true false (t__law_take K w tq) (vasX s_0 [p_many] 4) (fun n => [.ow true n, .no, .no, .no]) (fun l : Empty => nomatch l) (c__law_take s_0 p_many) := by
  unfold t__law_take c__law_take
  refine rs_cv (ρ' := [.ow true s_0, .va p_many, .no, .no]) rfl ?_
  exact (rs_ifR (rt_pk (rt_test (re_op o_gt (re_op o_ix (re_v rfl) re_str) re_int))) (rs_ass (rs_asg1 (re_op o_mod (re_pk (re_op o_ix (re_v rfl) re_str)) (re_v rfl)) rfl (fun v_found_51 => rs_cv (ρ' := [.ow true s_0, .va p_many, .va v_found_51, .no]) rfl (rs_ass (ys_setX (T := D) (e := (fun (t_ : D) => [.ow true t_, .va p_many, .va v_found_51, .no])) (i := 0) (fl := true) (st := (fun (t_ : D) => t_)) (fun _ => rfl) (yx_lift (T := D) (e := (fun (t_ : D) => [.ow true t_, .va p_many, .va v_found_51, .no])) (t := s_0) (re_op o_divW (re_pk (re_op o_ix (re_v rfl) re_str)) (re_v rfl))) (fun t57 => re_str) (fun t57 d59 => rs_cv (ρ' := [.ow true d59, .va p_many, .va v_found_51, .no]) rfl (rs_dead (rs_retIo (s := d59) rfl (re_v rfl))))))))) (rs_skip (ys_setX (T := D) (e := (fun (t_ : D) => [.ow true t_, .va p_many, .no, .no])) (i := 0) (fl := true) (st := (fun (t_ : D) => t_)) (fun _ => rfl) (yx_lift (T := D) (e := (fun (t_ : D) => [.ow true t_, .va p_many, .no, .no])) (t := s_0) (re_op o_add (re_pk (re_op o_ix (re_v rfl) re_str)) re_int)) (fun t66 => re_str) (fun t66 d68 => rs_cv (ρ' := [.ow true d68, .va p_many, .no, .no]) rfl (rs_asg1 (re_op o_add (re_op o_mul (re_pk (re_call (ra_cons (re_op o_ix (re_v rfl) re_str) (ra_cons (re_op o_ix (re_v rfl) re_str) ra_nil)))) re_int) (re_pk (re_call (ra_cons (re_op o_divW (re_op o_ix (re_v rfl) re_str) re_int) (ra_cons (re_op o_add (re_op o_ix (re_v rfl) re_str) re_int) ra_nil))))) rfl (fun v_number_93 => rs_cv (ρ' := [.ow true d68, .va p_many, .no, .va v_number_93]) rfl (rs_retIo (s := d68) rfl (re_op o_mod (re_op o_divW (re_v rfl) re_int) (re_v rfl)))))))))
theorem rd__law_take {K : PySem.W.Frag} {w : World} {tq : Tb} {vs : List V} {H : Hp} {Q : VK} {E : XK} (h : sp__law_take K w tq vs H Q E) : t__law_take K w tq { nx := fun _ H' => Q .non H', rt := Q } (start ["draw", "many", "found", "number"] vs) H :=
  go_x (N := ["draw", "many", "found", "number"]) (fun s ds fl h => len_x1 h) (fun _ => rfl) (lb1 (fun a0 a1 => ru__law_take a0 a1)) h
theorem len__law_take {K : PySem.W.Frag} {w : World} {tq : Tb} {vs : List V} {H : Hp} {Q : VK} {E : XK} (h : sp__law_take K w tq vs H Q E) : vs.length = 2 := lx_1 h
noncomputable def c__law_names (s_0 p_many : D) : Option (Fl D Empty) :=
  (bX (bX (bX (bX (bX (lX (some (D.int 3)) s_0) fun q99 t100 => bX (some ([], t100)) fun q101 t102 => some (q99 :: q101, t102)) fun q103 t104 => (f__law_take (t104 :: q103)).map fun q105 => (q105.1, q105.2)) fun q106 t107 => bX (bX (bX (bX (lX (some (D.int 26)) t107) fun q108 t109 => bX (some ([], t109)) fun q110 t111 => some (q108 :: q110, t111)) fun q112 t113 => (f__law_take (t113 :: q112)).map fun q114 => (q114.1, q114.2)) fun q115 t116 => bX (some ([], t116)) fun q117 t118 => some (q115 :: q117, t118)) fun q119 t120 => some (q106 :: q119, t120)) fun q121 t122 => (szG q121).map fun q123 => (D.tup q123, t122)) fun q124 t125 => (un (.tp [(.nm 2), (.nm 3)]) q124).bind fun ls126 => fn2 (fun v_way_127 v_first_128 => ((some (D.str "abcdefghijklmnopqrstuvwxyz")).bind fun v_letters_129 => (iteM (((some v_way_127).bind fun q130 => (some (D.int 0)).bind fun q131 => eqD q130 q131).bind isBl) (((some (D.str "kind box tool hand set gauge work keep lend pass back sharp find stone lose new lost")).bind fun q132 => (some (D.str " ")).bind fun q133 => splitD q132 q133).bind fun v_words_134 => ((((((some p_many).bind fun q135 => (some []).bind fun q136 => some (q135 :: q136)).bind rg1).bind fun q146 => compM (compB (.nm 7) (fun _ => some true) (fn1 fun v_k_137 => ((some v_words_134).bind fun q144 => (((some v_first_128).bind fun q140 => ((some (D.int 3)).bind fun q138 => (some v_k_137).bind fun q139 => mulD q138 q139).bind fun q141 => addD q140 q141).bind fun q142 => (some (D.int 17)).bind fun q143 => modD q142 q143).bind fun q145 => ixD q144 q145))) q146).map D.lst).map fun q147 => .rt q147 t125)) (iteM (((some v_way_127).bind fun q148 => (some (D.int 1)).bind fun q149 => eqD q148 q149).bind isBl) ((((((some p_many).bind fun q150 => (some []).bind fun q151 => some (q150 :: q151)).bind rg1).bind fun q159 => compM (compB (.nm 7) (fun _ => some true) (fn1 fun v_k_152 => (((some v_letters_129).bind fun q153 => (some v_first_128).bind fun q154 => ixD q153 q154).bind fun q157 => ((some (D.int 1)).bind fun q155 => (some v_k_152).bind fun q156 => addD q155 q156).bind fun q158 => mulD q157 q158))) q159).map D.lst).map fun q160 => .rt q160 t125) (bX (bX (lX (some (D.str "")) t125) fun q161 t162 => bX (bX (bX (bX (bX (bX (lX (some (D.int 8)) t162) fun q163 t164 => bX (some ([], t164)) fun q165 t166 => some (q163 :: q165, t166)) fun q167 t168 => (f__law_take (t168 :: q167)).map fun q169 => (q169.1, q169.2)) fun q170 t171 => bX (some ([], t171)) fun q172 t173 => some (q170 :: q172, t173)) fun q174 t175 => lX (rg1 q174) t175) fun q176 t177 => (compX (compBX (.nm 7) (fun _ t179 => some (true, t179)) (fun ls_ t179 => fn1 (fun v_k_178 => (bX (lX (some v_letters_129) t179) fun q180 t181 => bX (bX (bX (lX (some (D.int 26)) t181) fun q182 t183 => bX (some ([], t183)) fun q184 t185 => some (q182 :: q184, t185)) fun q186 t187 => (f__law_take (t187 :: q186)).map fun q188 => (q188.1, q188.2)) fun q189 t190 => lX (ixD q180 q189) t190)) ls_)) q176 t177).map fun q191 => (D.lst q191.1, q191.2)) fun q192 t193 => lX (joinD q161 q192) t193) fun v_base_194 t195 => ((((((some p_many).bind fun q196 => (some []).bind fun q197 => some (q196 :: q197)).bind rg1).bind fun q209 => compM (compB (.nm 7) (fun _ => some true) (fn1 fun v_k_198 => ((some v_base_194).bind fun q207 => ((some v_letters_129).bind fun q205 => (((some v_first_128).bind fun q201 => ((some (D.int 3)).bind fun q199 => (some v_k_198).bind fun q200 => mulD q199 q200).bind fun q202 => addD q201 q202).bind fun q203 => (some (D.int 26)).bind fun q204 => modD q203 q204).bind fun q206 => ixD q205 q206).bind fun q208 => addD q207 q208))) q209).map D.lst).map fun q210 => .rt q210 t195)))))) ls126)
noncomputable def f__law_names : List D → Option (D × D) := fX (fun s => fn1 (c__law_names s))
abbrev sp__law_names (K : PySem.W.Frag) (w : World) (tq : Tb) : Sp := mSpX K w tq f__law_names
def t__law_names (K : PySem.W.Frag) (w : World) (tq : Tb) : TS := (tSeq (tAsg (tTupP (tCons (tCall (sp__law_take K w tq) [] C8.E0 (tCons (tVar 0) (tCons (tC (.int 3)) tNil))) (tCons (tCall (sp__law_take K w tq) [] C8.E0 (tCons (tVar 0) (tCons (tC (.int 26)) tNil))) tNil))) (gTup K 2 (gCons (gName 2) (gCons (gName 3) gNil)))) (tSeq (tAsg (tC (.str "abcdefghijklmnopqrstuvwxyz")) (gName 4)) (tSeq (tIfS (tTest (tOp (rEqU K false) (tVar 2) (tC (.int 0)))) (tSeq (tAsg (tM1 rSplit (tC (.str "kind box tool hand set gauge work keep lend pass back sharp find stone lose new lost")) (tC (.str " "))) (gName 5)) (tRet (tLc (iRng1 (tCons (tVar 1) tNil)) (gName 7) tYes (tOp (rIxU K w) (tVar 5) (tOp rMod (tOp (rAdd2 K) (tVar 3) (tOp rMul2 (tC (.int 3)) (tVar 7))) (tC (.int 17)))) [7]))) tNext) (tSeq (tIfS (tTest (tOp (rEqU K false) (tVar 2) (tC (.int 1)))) (tRet (tLc (iRng1 (tCons (tVar 1) tNil)) (gName 7) tYes (tOp rMul2 (tOp (rIxU K w) (tVar 4) (tVar 3)) (tOp (rAdd2 K) (tC (.int 1)) (tVar 7))) [7])) tNext) (tSeq (tAsg (tM1 (rJoin K) (tC (.str "")) (tLc (iRng1 (tCons (tCall (sp__law_take K w tq) [] C8.E0 (tCons (tVar 0) (tCons (tC (.int 8)) tNil))) tNil)) (gName 7) tYes (tOp (rIxU K w) (tVar 4) (tCall (sp__law_take K w tq) [] C8.E0 (tCons (tVar 0) (tCons (tC (.int 26)) tNil)))) [7])) (gName 6)) (tRet (tLc (iRng1 (tCons (tVar 1) tNil)) (gName 7) tYes (tOp (rAdd2 K) (tVar 6) (tOp (rIxU K w) (tVar 4) (tOp rMod (tOp (rAdd2 K) (tVar 3) (tOp rMul2 (tC (.int 3)) (tVar 7))) (tC (.int 26))))) [7])))))))
theorem ru__law_names {K : PySem.W.Frag} {w : World} {tq : Tb} (s_0 p_many : D) : RunsS K w tq true false (t__law_names K w tq) (vasX s_0 [p_many] 8) (fun n => [.ow true n, .no, .no, .no, .no, .no, .no, .no]) (fun l : Empty => nomatch l) (c__law_names s_0 p_many) := by
  unfold t__law_names c__law_names
  refine rs_cv (ρ' := [.ow true s_0, .va p_many, .no, .no, .no, .no, .no, .no]) rfl ?_
  exact (ys_asgX (e := (fun (t_ : D) => [.ow true t_, .va p_many, .no, .no, .no, .no, .no, .no])) (p := (.tp [(.nm 2), (.nm 3)])) (yx_tup (yxa_cons (yx_call (T := D) (e := (fun (t_ : D) => [.ow true t_, .va p_many, .no, .no, .no, .no, .no, .no])) (f := f__law_take) (i := 0) (fl := true) (st0 := (fun (t_ : D) => t_)) (put := (fun (_ d_ : D) => d_)) (fun _ => rfl) (fun _ _ => rfl) ⟨s_0, rfl⟩ (yxa_cons (yx_lift (T := D) (e := (fun (t_ : D) => [.ow true t_, .va p_many, .no, .no, .no, .no, .no, .no])) (t := s_0) re_int) (fun t100 => (yxa_nil (T := D) (e := (fun (t_ : D) => [.ow true t_, .va p_many, .no, .no, .no, .no, .no, .no])) (t := t100))))) (fun t107 => (yxa_cons (yx_call (T := D) (e := (fun (t_ : D) => [.ow true t_, .va p_many, .no, .no, .no, .no, .no, .no])) (f := f__law_take) (i := 0) (fl := true) (st0 := (fun (t_ : D) => t_)) (put := (fun (_ d_ : D) => d_)) (fun _ => rfl) (fun _ _ => rfl) ⟨t107, rfl⟩ (yxa_cons (yx_lift (T := D) (e := (fun (t_ : D) => [.ow true t_, .va p_many, .no, .no, .no, .no, .no, .no])) (t := t107) re_int) (fun t109 => (yxa_nil (T := D) (e := (fun (t_ : D) => [.ow true t_, .va p_many, .no, .no, .no, .no, .no, .no])) (t := t109))))) (fun t116 => (yxa_nil (T := D) (e := (fun (t_ : D) => [.ow true t_, .va p_many, .no, .no, .no, .no, .no, .no])) (t := t116))))))) (bnd_tp (bnds_cons (bnd_nm 2) (bnds_cons (bnd_nm 3) bnds_nil)) rfl) (fun _ => rfl) (lxs2 fun v_way_127 v_first_128 t125 => rs_cv (ρ' := [.ow true t125, .va p_many, .va v_way_127, .va v_first_128, .no, .no, .no, .no]) rfl (rs_asg1 re_str rfl (fun v_letters_129 => rs_cv (ρ' := [.ow true t125, .va p_many, .va v_way_127, .va v_first_128, .va v_letters_129, .no, .no, .no]) rfl (rs_ifR (rt_test (re_op o_eq (re_v rfl) re_int)) (rs_ass (rs_asg1 (re_split re_str re_str) rfl (fun v_words_134 => rs_cv (ρ' := [.ow true t125, .va p_many, .va v_way_127, .va v_first_128, .va v_letters_129, .va v_words_134, .no, .no]) rfl (rs_dead (rs_retIo (s := t125) rfl (re_of_n (rn_lc (p := (.nm 7)) (ri_rng1 (ra_cons (re_v rfl) ra_nil)) (bnd_nm 7) rfl (by decide) rfl lyes (le1 fun v_k_137 => (re_op o_ix (re_v rfl) (re_op o_mod (re_op o_add (re_v rfl) (re_op o_mul re_int (re_v rfl))) re_int)))))))))) (rs_skip (rs_ifR (rt_test (re_op o_eq (re_v rfl) re_int)) (rs_dead (rs_retIo (s := t125) rfl (re_of_n (rn_lc (p := (.nm 7)) (ri_rng1 (ra_cons (re_v rfl) ra_nil)) (bnd_nm 7) rfl (by decide) rfl lyes (le1 fun v_k_152 => (re_op o_mul (re_op o_ix (re_v rfl) (re_v rfl)) (re_op o_add re_int (re_v rfl)))))))) (rs_skip (ys_asgX1 (e := (fun (t_ : D) => [.ow true t_, .va p_many, .va v_way_127, .va v_first_128, .va v_letters_129, .no, .no, .no])) (yx_join (yx_lift (T := D) (e := (fun (t_ : D) => [.ow true t_, .va p_many, .va v_way_127, .va v_first_128, .va v_letters_129, .no, .no, .no])) (t := t125) re_str) (fun t162 => (yx_lc (e := (fun (t_ : D) => [.ow true t_, .va p_many, .va v_way_127, .va v_first_128, .va v_letters_129, .no, .no, .no])) (p := (.nm 7)) (yxi_rng1 (yxa_cons (yx_call (T := D) (e := (fun (t_ : D) => [.ow true t_, .va p_many, .va v_way_127, .va v_first_128, .va v_letters_129, .no, .no, .no])) (f := f__law_take) (i := 0) (fl := true) (st0 := (fun (t_ : D) => t_)) (put := (fun (_ d_ : D) => d_)) (fun _ => rfl) (fun _ _ => rfl) ⟨t162, rfl⟩ (yxa_cons (yx_lift (T := D) (e := (fun (t_ : D) => [.ow true t_, .va p_many, .va v_way_127, .va v_first_128, .va v_letters_129, .no, .no, .no])) (t := t162) re_int) (fun t164 => (yxa_nil (T := D) (e := (fun (t_ : D) => [.ow true t_, .va p_many, .va v_way_127, .va v_first_128, .va v_letters_129, .no, .no, .no])) (t := t164))))) (fun t171 => (yxa_nil (T := D) (e := (fun (t_ : D) => [.ow true t_, .va p_many, .va v_way_127, .va v_first_128, .va v_letters_129, .no, .no, .no])) (t := t171))))) (bnd_nm 7) (fun _ => rfl) (fun _ => rfl) (by decide) (fun _ => rfl) lxyes (lx1 fun v_k_178 t179 => (yx_op o_ix (yx_lift (T := D) (e := (fun (t_ : D) => [.ow true t_, .va p_many, .va v_way_127, .va v_first_128, .va v_letters_129, .no, .no, .va v_k_178])) (t := t179) (re_v rfl)) (fun t181 => (yx_call (T := D) (e := (fun (t_ : D) => [.ow true t_, .va p_many, .va v_way_127, .va v_first_128, .va v_letters_129, .no, .no, .va v_k_178])) (f := f__law_take) (i := 0) (fl := true) (st0 := (fun (t_ : D) => t_)) (put := (fun (_ d_ : D) => d_)) (fun _ => rfl) (fun _ _ => rfl) ⟨t181, rfl⟩ (yxa_cons (yx_lift (T := D) (e := (fun (t_ : D) => [.ow true t_, .va p_many, .va v_way_127, .va v_first_128, .va v_letters_129, .no, .no, .va v_k_178])) (t := t181) re_int) (fun t183 => (yxa_nil (T := D) (e := (fun (t_ : D) => [.ow true t_, .va p_many, .va v_way_127, .va v_first_128, .va v_letters_129, .no, .no, .va v_k_178])) (t := t183))))))))))) (fun _ => rfl) (fun v_base_194 t195 => rs_cv (ρ' := [.ow true t195, .va p_many, .va v_way_127, .va v_first_128, .va v_letters_129, .no, .va v_base_194, .no]) rfl (rs_retIo (s := t195) rfl (re_of_n (rn_lc (p := (.nm 7)) (ri_rng1 (ra_cons (re_v rfl) ra_nil)) (bnd_nm 7) rfl (by decide) rfl lyes (le1 fun v_k_198 => (re_op o_add (re_v rfl) (re_op o_ix (re_v rfl) (re_op o_mod (re_op o_add (re_v rfl) (re_op o_mul re_int (re_v rfl))) re_int)))))))))))))))))
theorem rd__law_names {K : PySem.W.Frag} {w : World} {tq : Tb} {vs : List V} {H : Hp} {Q : VK} {E : XK} (h : sp__law_names K w tq vs H Q E) : t__law_names K w tq { nx := fun _ H' => Q .non H', rt := Q } (start ["draw", "many", "way", "first", "letters", "words", "base", "k"] vs) H :=
  go_x (N := ["draw", "many", "way", "first", "letters", "words", "base", "k"]) (fun s ds fl h => len_x1 h) (fun _ => rfl) (lb1 (fun a0 a1 => ru__law_names a0 a1)) h
theorem len__law_names {K : PySem.W.Frag} {w : World} {tq : Tb} {vs : List V} {H : Hp} {Q : VK} {E : XK} (h : sp__law_names K w tq vs H Q E) : vs.length = 2 := lx_1 h
noncomputable def c__law_stock (s_0 p_kinds p_works : D) : Option (Fl D Empty) :=
  (bX (bX (bX (lX (some p_kinds) s_0) fun q211 t212 => bX (some ([], t212)) fun q213 t214 => some (q211 :: q213, t214)) fun q215 t216 => (f__law_names (t216 :: q215)).map fun q217 => (q217.1, q217.2)) fun v_called_218 t219 => (bX (bX (lX ((some v_called_218).bind itD) t219) fun q220 t221 => (compX (compBX (.nm 6) (fun _ t223 => some (true, t223)) (fun ls_ t223 => fn1 (fun v_name_222 => (bX (bX (lX (some v_name_222) t223) fun q224 t225 => bX (bX (bX (bX (bX (lX (some (D.int 0)) t225) fun q226 t227 => bX (bX (bX (bX (lX (some (D.int 12)) t227) fun q228 t229 => bX (some ([], t229)) fun q230 t231 => some (q228 :: q230, t231)) fun q232 t233 => (f__law_take (t233 :: q232)).map fun q234 => (q234.1, q234.2)) fun q235 t236 => bX (bX (bX (bX (lX (some (D.int 100)) t236) fun q237 t238 => bX (some ([], t238)) fun q239 t240 => some (q237 :: q239, t240)) fun q241 t242 => (f__law_take (t242 :: q241)).map fun q243 => (q243.1, q243.2)) fun q244 t245 => bX (some ([], t245)) fun q246 t247 => some (q244 :: q246, t247)) fun q248 t249 => some (q235 :: q248, t249)) fun q250 t251 => some (q226 :: q250, t251)) fun q252 t253 => (szG q252).map fun q254 => (D.lst q254, t253)) fun q255 t256 => bX (bX (bX (lX (some (D.int 3)) t256) fun q257 t258 => bX (some ([], t258)) fun q259 t260 => some (q257 :: q259, t260)) fun q261 t262 => (f__law_take (t262 :: q261)).map fun q263 => (q263.1, q263.2)) fun q264 t265 => lX (ixD q255 q264) t265) fun q266 t267 => bX (some ([], t267)) fun q268 t269 => some (q266 :: q268, t269)) fun q270 t271 => some (q224 :: q270, t271)) fun q272 t273 => (szG q272).map fun q274 => (D.tup q274, t273))) ls_)) q220 t221).map fun q275 => (D.lst q275.1, q275.2)) fun v_rows_276 t277 => ((((some []).bind szG).map D.lst).bind fun v_found_278 => ((bX (bX (bX (bX (lX (some p_works) t277) fun q279 t280 => bX (some ([], t280)) fun q281 t282 => some (q279 :: q281, t282)) fun q283 t284 => (f__law_names (t284 :: q283)).map fun q285 => (q285.1, q285.2)) fun q286 t287 => lX (itD q286) t287) fun q288 t289 => M.forM (fun q439 (s290 : D × D) => (un (.nm 6) q439).bind fun ls440 => fn1 (fun v_name_291 => (bX (bX (lX (some v_called_218) s290.1) fun q292 t293 => bX (bX (bX (lX (some p_kinds) t293) fun q294 t295 => bX (some ([], t295)) fun q296 t297 => some (q294 :: q296, t297)) fun q298 t299 => (f__law_take (t299 :: q298)).map fun q300 => (q300.1, q300.2)) fun q301 t302 => lX (ixD q292 q301) t302) fun v_kind_303 t304 => (bX (bX (bX (bX (bX (lX (some (D.int 12)) t304) fun q305 t306 => bX (some ([], t306)) fun q307 t308 => some (q305 :: q307, t308)) fun q309 t310 => (f__law_take (t310 :: q309)).map fun q311 => (q311.1, q311.2)) fun q312 t313 => bX (bX (bX (bX (lX (some (D.int 12)) t313) fun q314 t315 => bX (some ([], t315)) fun q316 t317 => some (q314 :: q316, t317)) fun q318 t319 => (f__law_take (t319 :: q318)).map fun q320 => (q320.1, q320.2)) fun q321 t322 => bX (bX (bX (lX (some (D.int 90)) t322) fun q323 t324 => bX (bX (bX (lX (some (D.int 10)) t324) fun q325 t326 => bX (some ([], t326)) fun q327 t328 => some (q325 :: q327, t328)) fun q329 t330 => (f__law_take (t330 :: q329)).map fun q331 => (q331.1, q331.2)) fun q332 t333 => lX (addD q323 q332) t333) fun q334 t335 => bX (bX (bX (bX (lX (some (D.int 100)) t335) fun q336 t337 => bX (some ([], t337)) fun q338 t339 => some (q336 :: q338, t339)) fun q340 t341 => (f__law_take (t341 :: q340)).map fun q342 => (q342.1, q342.2)) fun q343 t344 => bX (some ([], t344)) fun q345 t346 => some (q343 :: q345, t346)) fun q347 t348 => some (q334 :: q347, t348)) fun q349 t350 => some (q321 :: q349, t350)) fun q351 t352 => some (q312 :: q351, t352)) fun q353 t354 => (szG q353).map fun q355 => (D.lst q355, t354)) fun v_lows_356 t357 => (bX (bX (lX (some v_lows_356) t357) fun q358 t359 => bX (bX (bX (lX (some (D.int 4)) t359) fun q360 t361 => bX (some ([], t361)) fun q362 t363 => some (q360 :: q362, t363)) fun q364 t365 => (f__law_take (t365 :: q364)).map fun q366 => (q366.1, q366.2)) fun q367 t368 => lX (ixD q358 q367) t368) fun v_low_369 t370 => (bX (bX (bX (bX (lX (some (D.int 0)) t370) fun q371 t372 => bX (bX (bX (bX (lX (some (D.int 3)) t372) fun q373 t374 => bX (some ([], t374)) fun q375 t376 => some (q373 :: q375, t376)) fun q377 t378 => (f__law_take (t378 :: q377)).map fun q379 => (q379.1, q379.2)) fun q380 t381 => bX (bX (bX (bX (lX (some (D.int 9)) t381) fun q382 t383 => bX (some ([], t383)) fun q384 t385 => some (q382 :: q384, t385)) fun q386 t387 => (f__law_take (t387 :: q386)).map fun q388 => (q388.1, q388.2)) fun q389 t390 => bX (bX (lX (some (D.int 99)) t390) fun q391 t392 => bX (some ([], t392)) fun q393 t394 => some (q391 :: q393, t394)) fun q395 t396 => some (q389 :: q395, t396)) fun q397 t398 => some (q380 :: q397, t398)) fun q399 t400 => some (q371 :: q399, t400)) fun q401 t402 => (szG q401).map fun q403 => (D.lst q403, t402)) fun q404 t405 => bX (bX (bX (lX (some (D.int 4)) t405) fun q406 t407 => bX (some ([], t407)) fun q408 t409 => some (q406 :: q408, t409)) fun q410 t411 => (f__law_take (t411 :: q410)).map fun q412 => (q412.1, q412.2)) fun q413 t414 => lX (ixD q404 q413) t414) fun v_more_415 t416 => (bX (bX (bX (lX ((((some v_name_291).bind fun q429 => ((some v_kind_303).bind fun q427 => ((some v_low_369).bind fun q425 => ((((some (D.int 99)).bind fun q421 => (((some v_low_369).bind fun q417 => (some v_more_415).bind fun q418 => addD q417 q418).bind fun q419 => (some []).bind fun q420 => some (q419 :: q420)).bind fun q422 => some (q421 :: q422)).bind minD).bind fun q423 => (some []).bind fun q424 => some (q423 :: q424)).bind fun q426 => some (q425 :: q426)).bind fun q428 => some (q427 :: q428)).bind fun q430 => some (q429 :: q430)).bind szG).map D.tup) s290.2) fun q431 t432 => bX (some ([], t432)) fun q433 t434 => some (q431 :: q433, t434)) fun q435 t436 => (appF s290.2 q435).map fun q437 => (q437.1, q437.2)) fun _ t438 => (some (.nx (t416, t438))))))))) ls440) q288 (t289, v_found_278)).bind (Fl.thn fun (j441 : D × D) => (((((((some v_rows_276).bind fun q442 => (some []).bind fun q443 => some (q442 :: q443)).bind tupOfD).bind fun q460 => ((((some []).bind szG).map D.tup).bind fun q458 => ((((some []).bind szG).map D.tup).bind fun q456 => ((((some []).bind szG).map D.tup).bind fun q454 => ((((some []).bind szG).map D.tup).bind fun q452 => ((((some []).bind szG).map D.tup).bind fun q450 => ((((some j441.2).bind fun q444 => (some []).bind fun q445 => some (q444 :: q445)).bind tupOfD).bind fun q448 => ((((some []).bind szG).map D.tup).bind fun q446 => (some []).bind fun q447 => some (q446 :: q447)).bind fun q449 => some (q448 :: q449)).bind fun q451 => some (q450 :: q451)).bind fun q453 => some (q452 :: q453)).bind fun q455 => some (q454 :: q455)).bind fun q457 => some (q456 :: q457)).bind fun q459 => some (q458 :: q459)).bind fun q461 => some (q460 :: q461)).bind szG).map D.tup).map fun q462 => .rt q462 j441.1))))))
noncomputable def f__law_stock : List D → Option (D × D) := fX (fun s => fn2 (c__law_stock s))
abbrev sp__law_stock (K : PySem.W.Frag) (w : World) (tq : Tb) : Sp := mSpX K w tq f__law_stock
def t__law_stock (K : PySem.W.Frag) (w : World) (tq : Tb) : TS := (tSeq (tAsg (tCall (sp__law_names K w tq) [] C8.E0 (tCons (tVar 0) (tCons (tVar 1) tNil))) (gName 3)) (tSeq (tAsg (tLc (iAny K (tVar 3)) (gName 6) tYes (tTupP (tCons (tVar 6) (tCons (tOp (rIxU K w) (tLst (tCons (tC (.int 0)) (tCons (tCall (sp__law_take K w tq) [] C8.E0 (tCons (tVar 0) (tCons (tC (.int 12)) tNil))) (tCons (tCall (sp__law_take K w tq) [] C8.E0 (tCons (tVar 0) (tCons (tC (.int 100)) tNil))) tNil)))) (tCall (sp__law_take K w tq) [] C8.E0 (tCons (tVar 0) (tCons (tC (.int 3)) tNil)))) tNil))) [6]) (gName 4)) (tSeq (tAsg (tLst tNil) (gName 5)) (tSeq (tFor (iAny K (tCall (sp__law_names K w tq) [] C8.E0 (tCons (tVar 0) (tCons (tVar 2) tNil)))) (gName 6) (tSeq (tAsg (tOp (rIxU K w) (tVar 3) (tCall (sp__law_take K w tq) [] C8.E0 (tCons (tVar 0) (tCons (tVar 1) tNil)))) (gName 7)) (tSeq (tAsg (tLst (tCons (tCall (sp__law_take K w tq) [] C8.E0 (tCons (tVar 0) (tCons (tC (.int 12)) tNil))) (tCons (tCall (sp__law_take K w tq) [] C8.E0 (tCons (tVar 0) (tCons (tC (.int 12)) tNil))) (tCons (tOp (rAdd2 K) (tC (.int 90)) (tCall (sp__law_take K w tq) [] C8.E0 (tCons (tVar 0) (tCons (tC (.int 10)) tNil)))) (tCons (tCall (sp__law_take K w tq) [] C8.E0 (tCons (tVar 0) (tCons (tC (.int 100)) tNil))) tNil))))) (gName 8)) (tSeq (tAsg (tOp (rIxU K w) (tVar 8) (tCall (sp__law_take K w tq) [] C8.E0 (tCons (tVar 0) (tCons (tC (.int 4)) tNil)))) (gName 9)) (tSeq (tAsg (tOp (rIxU K w) (tLst (tCons (tC (.int 0)) (tCons (tCall (sp__law_take K w tq) [] C8.E0 (tCons (tVar 0) (tCons (tC (.int 3)) tNil))) (tCons (tCall (sp__law_take K w tq) [] C8.E0 (tCons (tVar 0) (tCons (tC (.int 9)) tNil))) (tCons (tC (.int 99)) tNil))))) (tCall (sp__law_take K w tq) [] C8.E0 (tCons (tVar 0) (tCons (tC (.int 4)) tNil)))) (gName 10)) (tDrop (tBM K "list" rAppend (tVar 5) (tCons (tTupP (tCons (tVar 6) (tCons (tVar 7) (tCons (tVar 9) (tCons (tCB (rMinU K) (tCons (tC (.int 99)) (tCons (tOp (rAdd2 K) (tVar 9) (tVar 10)) tNil))) tNil))))) tNil)))))))) (tRet (tTupP (tCons (tCB (rTup2 K) (tCons (tVar 4) tNil)) (tCons (tTupP tNil) (tCons (tTupP tNil) (tCons (tTupP tNil) (tCons (tTupP tNil) (tCons (tTupP tNil) (tCons (tCB (rTup2 K) (tCons (tVar 5) tNil)) (tCons (tTupP tNil) tNil))))))))))))))
theorem ru__law_stock {K : PySem.W.Frag} {w : World} {tq : Tb} (s_0 p_kinds p_works : D) : RunsS K w tq true false (t__law_stock K w tq) (vasX s_0 [p_kinds, p_works] 11) (fun n => [.ow true n, .no, .no, .no, .no, .no, .no, .no, .no, .no, .no]) (fun l : Empty => nomatch l) (c__law_stock s_0 p_kinds p_works) := by
  unfold t__law_stock c__law_stock
  refine rs_cv (ρ' := [.ow true s_0, .va p_kinds, .va p_works, .no, .no, .no, .no, .no, .no, .no, .no]) rfl ?_
  exact (ys_asgX1 (e := (fun (t_ : D) => [.ow true t_, .va p_kinds, .va p_works, .no, .no, .no, .no, .no, .no, .no, .no])) (yx_call (T := D) (e := (fun (t_ : D) => [.ow true t_, .va p_kinds, .va p_works, .no, .no, .no, .no, .no, .no, .no, .no])) (f := f__law_names) (i := 0) (fl := true) (st0 := (fun (t_ : D) => t_)) (put := (fun (_ d_ : D) => d_)) (fun _ => rfl) (fun _ _ => rfl) ⟨s_0, rfl⟩ (yxa_cons (yx_lift (T := D) (e := (fun (t_ : D) => [.ow true t_, .va p_kinds, .va p_works, .no, .no, .no, .no, .no, .no, .no, .no])) (t := s_0) (re_v rfl)) (fun t212 => (yxa_nil (T := D) (e := (fun (t_ : D) => [.ow true t_, .va p_kinds, .va p_works, .no, .no, .no, .no, .no, .no, .no, .no])) (t := t212))))) (fun _ => rfl) (fun v_called_218 t219 => rs_cv (ρ' := [.ow true t219, .va p_kinds, .va p_works, .va v_called_218, .no, .no, .no, .no, .no, .no, .no]) rfl (ys_asgX1 (e := (fun (t_ : D) => [.ow true t_, .va p_kinds, .va p_works, .va v_called_218, .no, .no, .no, .no, .no, .no, .no])) (yx_lc (e := (fun (t_ : D) => [.ow true t_, .va p_kinds, .va p_works, .va v_called_218, .no, .no, .no, .no, .no, .no, .no])) (p := (.nm 6)) (yxi_lift (T := D) (e := (fun (t_ : D) => [.ow true t_, .va p_kinds, .va p_works, .va v_called_218, .no, .no, .no, .no, .no, .no, .no])) (t := t219) (ri_any (re_v rfl))) (bnd_nm 6) (fun _ => rfl) (fun _ => rfl) (by decide) (fun _ => rfl) lxyes (lx1 fun v_name_222 t223 => (yx_tup (yxa_cons (yx_lift (T := D) (e := (fun (t_ : D) => [.ow true t_, .va p_kinds, .va p_works, .va v_called_218, .no, .no, .va v_name_222, .no, .no, .no, .no])) (t := t223) (re_v rfl)) (fun t225 => (yxa_cons (yx_op o_ix (yx_lst (yxa_cons (yx_lift (T := D) (e := (fun (t_ : D) => [.ow true t_, .va p_kinds, .va p_works, .va v_called_218, .no, .no, .va v_name_222, .no, .no, .no, .no])) (t := t225) re_int) (fun t227 => (yxa_cons (yx_call (T := D) (e := (fun (t_ : D) => [.ow true t_, .va p_kinds, .va p_works, .va v_called_218, .no, .no, .va v_name_222, .no, .no, .no, .no])) (f := f__law_take) (i := 0) (fl := true) (st0 := (fun (t_ : D) => t_)) (put := (fun (_ d_ : D) => d_)) (fun _ => rfl) (fun _ _ => rfl) ⟨t227, rfl⟩ (yxa_cons (yx_lift (T := D) (e := (fun (t_ : D) => [.ow true t_, .va p_kinds, .va p_works, .va v_called_218, .no, .no, .va v_name_222, .no, .no, .no, .no])) (t := t227) re_int) (fun t229 => (yxa_nil (T := D) (e := (fun (t_ : D) => [.ow true t_, .va p_kinds, .va p_works, .va v_called_218, .no, .no, .va v_name_222, .no, .no, .no, .no])) (t := t229))))) (fun t236 => (yxa_cons (yx_call (T := D) (e := (fun (t_ : D) => [.ow true t_, .va p_kinds, .va p_works, .va v_called_218, .no, .no, .va v_name_222, .no, .no, .no, .no])) (f := f__law_take) (i := 0) (fl := true) (st0 := (fun (t_ : D) => t_)) (put := (fun (_ d_ : D) => d_)) (fun _ => rfl) (fun _ _ => rfl) ⟨t236, rfl⟩ (yxa_cons (yx_lift (T := D) (e := (fun (t_ : D) => [.ow true t_, .va p_kinds, .va p_works, .va v_called_218, .no, .no, .va v_name_222, .no, .no, .no, .no])) (t := t236) re_int) (fun t238 => (yxa_nil (T := D) (e := (fun (t_ : D) => [.ow true t_, .va p_kinds, .va p_works, .va v_called_218, .no, .no, .va v_name_222, .no, .no, .no, .no])) (t := t238))))) (fun t245 => (yxa_nil (T := D) (e := (fun (t_ : D) => [.ow true t_, .va p_kinds, .va p_works, .va v_called_218, .no, .no, .va v_name_222, .no, .no, .no, .no])) (t := t245))))))))) (fun t256 => (yx_call (T := D) (e := (fun (t_ : D) => [.ow true t_, .va p_kinds, .va p_works, .va v_called_218, .no, .no, .va v_name_222, .no, .no, .no, .no])) (f := f__law_take) (i := 0) (fl := true) (st0 := (fun (t_ : D) => t_)) (put := (fun (_ d_ : D) => d_)) (fun _ => rfl) (fun _ _ => rfl) ⟨t256, rfl⟩ (yxa_cons (yx_lift (T := D) (e := (fun (t_ : D) => [.ow true t_, .va p_kinds, .va p_works, .va v_called_218, .no, .no, .va v_name_222, .no, .no, .no, .no])) (t := t256) re_int) (fun t258 => (yxa_nil (T := D) (e := (fun (t_ : D) => [.ow true t_, .va p_kinds, .va p_works, .va v_called_218, .no, .no, .va v_name_222, .no, .no, .no, .no])) (t := t258))))))) (fun t267 => (yxa_nil (T := D) (e := (fun (t_ : D) => [.ow true t_, .va p_kinds, .va p_works, .va v_called_218, .no, .no, .va v_name_222, .no, .no, .no, .no])) (t := t267))))))))) (fun _ => rfl) (fun v_rows_276 t277 => rs_cv (ρ' := [.ow true t277, .va p_kinds, .va p_works, .va v_called_218, .va v_rows_276, .no, .no, .no, .no, .no, .no]) rfl (rs_asgN (rn_lst ra_nil) rfl (fun v_found_278 => rs_cv (ρ' := [.ow true t277, .va p_kinds, .va p_works, .va v_called_218, .va v_rows_276, .ow false v_found_278, .no, .no, .no, .no, .no]) rfl (rs_seq (eM := (fun (s_ : D × D) => [.ow true s_.1, .va p_kinds, .va p_works, .va v_called_218, .va v_rows_276, .ow false s_.2, .no, .no, .no, .no, .no])) (ys_forX (e := (fun (t_ : D) => [.ow true t_, .va p_kinds, .va p_works, .va v_called_218, .va v_rows_276, .ow false v_found_278, .no, .no, .no, .no, .no])) (p := (.nm 6)) (eS := (fun (s_ : D × D) => [.ow true s_.1, .va p_kinds, .va p_works, .va v_called_218, .va v_rows_276, .ow false s_.2, .no, .no, .no, .no, .no])) (s0 := fun t289 => (t289, v_found_278)) (yxi_any (yx_call (T := D) (e := (fun (t_ : D) => [.ow true t_, .va p_kinds, .va p_works, .va v_called_218, .va v_rows_276, .ow false v_found_278, .no, .no, .no, .no, .no])) (f := f__law_names) (i := 0) (fl := true) (st0 := (fun (t_ : D) => t_)) (put := (fun (_ d_ : D) => d_)) (fun _ => rfl) (fun _ _ => rfl) ⟨t277, rfl⟩ (yxa_cons (yx_lift (T := D) (e := (fun (t_ : D) => [.ow true t_, .va p_kinds, .va p_works, .va v_called_218, .va v_rows_276, .ow false v_found_278, .no, .no, .no, .no, .no])) (t := t277) (re_v rfl)) (fun t280 => (yxa_nil (T := D) (e := (fun (t_ : D) => [.ow true t_, .va p_kinds, .va p_works, .va v_called_218, .va v_rows_276, .ow false v_found_278, .no, .no, .no, .no, .no])) (t := t280)))))) (fun t289 => (sub_cons ss_ow (sub_cons ss_va (sub_cons ss_va (sub_cons ss_va (sub_cons ss_va (sub_cons ss_ow (sub_cons ss_no (sub_cons ss_no (sub_cons ss_no (sub_cons ss_no (sub_cons ss_no sub_nil)))))))))))) (bnd_nm 6) (fun _ => rfl) (fun ls440 s290 => ls1 (fun v_name_291 => rs_cv (ρ' := [.ow true s290.1, .va p_kinds, .va p_works, .va v_called_218, .va v_rows_276, .ow false s290.2, .va v_name_291, .no, .no, .no, .no]) rfl (ys_asgX1 (e := (fun (t_ : D) => [.ow true t_, .va p_kinds, .va p_works, .va v_called_218, .va v_rows_276, .ow false s290.2, .va v_name_291, .no, .no, .no, .no])) (yx_op o_ix (yx_lift (T := D) (e := (fun (t_ : D) => [.ow true t_, .va p_kinds, .va p_works, .va v_called_218, .va v_rows_276, .ow false s290.2, .va v_name_291, .no, .no, .no, .no])) (t := s290.1) (re_v rfl)) (fun t293 => (yx_call (T := D) (e := (fun (t_ : D) => [.ow true t_, .va p_kinds, .va p_works, .va v_called_218, .va v_rows_276, .ow false s290.2, .va v_name_291, .no, .no, .no, .no])) (f := f__law_take) (i := 0) (fl := true) (st0 := (fun (t_ : D) => t_)) (put := (fun (_ d_ : D) => d_)) (fun _ => rfl) (fun _ _ => rfl) ⟨t293, rfl⟩ (yxa_cons (yx_lift (T := D) (e := (fun (t_ : D) => [.ow true t_, .va p_kinds, .va p_works, .va v_called_218, .va v_rows_276, .ow false s290.2, .va v_name_291, .no, .no, .no, .no])) (t := t293) (re_v rfl)) (fun t295 => (yxa_nil (T := D) (e := (fun (t_ : D) => [.ow true t_, .va p_kinds, .va p_works, .va v_called_218, .va v_rows_276, .ow false s290.2, .va v_name_291, .no, .no, .no, .no])) (t := t295))))))) (fun _ => rfl) (fun v_kind_303 t304 => rs_cv (ρ' := [.ow true t304, .va p_kinds, .va p_works, .va v_called_218, .va v_rows_276, .ow false s290.2, .va v_name_291, .va v_kind_303, .no, .no, .no]) rfl (ys_asgX1 (e := (fun (t_ : D) => [.ow true t_, .va p_kinds, .va p_works, .va v_called_218, .va v_rows_276, .ow false s290.2, .va v_name_291, .va v_kind_303, .no, .no, .no])) (yx_lst (yxa_cons (yx_call (T := D) (e := (fun (t_ : D) => [.ow true t_, .va p_kinds, .va p_works, .va v_called_218, .va v_rows_276, .ow false s290.2, .va v_name_291, .va v_kind_303, .no, .no, .no])) (f := f__law_take) (i := 0) (fl := true) (st0 := (fun (t_ : D) => t_)) (put := (fun (_ d_ : D) => d_)) (fun _ => rfl) (fun _ _ => rfl) ⟨t304, rfl⟩ (yxa_cons (yx_lift (T := D) (e := (fun (t_ : D) => [.ow true t_, .va p_kinds, .va p_works, .va v_called_218, .va v_rows_276, .ow false s290.2, .va v_name_291, .va v_kind_303, .no, .no, .no])) (t := t304) re_int) (fun t306 => (yxa_nil (T := D) (e := (fun (t_ : D) => [.ow true t_, .va p_kinds, .va p_works, .va v_called_218, .va v_rows_276, .ow false s290.2, .va v_name_291, .va v_kind_303, .no, .no, .no])) (t := t306))))) (fun t313 => (yxa_cons (yx_call (T := D) (e := (fun (t_ : D) => [.ow true t_, .va p_kinds, .va p_works, .va v_called_218, .va v_rows_276, .ow false s290.2, .va v_name_291, .va v_kind_303, .no, .no, .no])) (f := f__law_take) (i := 0) (fl := true) (st0 := (fun (t_ : D) => t_)) (put := (fun (_ d_ : D) => d_)) (fun _ => rfl) (fun _ _ => rfl) ⟨t313, rfl⟩ (yxa_cons (yx_lift (T := D) (e := (fun (t_ : D) => [.ow true t_, .va p_kinds, .va p_works, .va v_called_218, .va v_rows_276, .ow false s290.2, .va v_name_291, .va v_kind_303, .no, .no, .no])) (t := t313) re_int) (fun t315 => (yxa_nil (T := D) (e := (fun (t_ : D) => [.ow true t_, .va p_kinds, .va p_works, .va v_called_218, .va v_rows_276, .ow false s290.2, .va v_name_291, .va v_kind_303, .no, .no, .no])) (t := t315))))) (fun t322 => (yxa_cons (yx_op o_add (yx_lift (T := D) (e := (fun (t_ : D) => [.ow true t_, .va p_kinds, .va p_works, .va v_called_218, .va v_rows_276, .ow false s290.2, .va v_name_291, .va v_kind_303, .no, .no, .no])) (t := t322) re_int) (fun t324 => (yx_call (T := D) (e := (fun (t_ : D) => [.ow true t_, .va p_kinds, .va p_works, .va v_called_218, .va v_rows_276, .ow false s290.2, .va v_name_291, .va v_kind_303, .no, .no, .no])) (f := f__law_take) (i := 0) (fl := true) (st0 := (fun (t_ : D) => t_)) (put := (fun (_ d_ : D) => d_)) (fun _ => rfl) (fun _ _ => rfl) ⟨t324, rfl⟩ (yxa_cons (yx_lift (T := D) (e := (fun (t_ : D) => [.ow true t_, .va p_kinds, .va p_works, .va v_called_218, .va v_rows_276, .ow false s290.2, .va v_name_291, .va v_kind_303, .no, .no, .no])) (t := t324) re_int) (fun t326 => (yxa_nil (T := D) (e := (fun (t_ : D) => [.ow true t_, .va p_kinds, .va p_works, .va v_called_218, .va v_rows_276, .ow false s290.2, .va v_name_291, .va v_kind_303, .no, .no, .no])) (t := t326))))))) (fun t335 => (yxa_cons (yx_call (T := D) (e := (fun (t_ : D) => [.ow true t_, .va p_kinds, .va p_works, .va v_called_218, .va v_rows_276, .ow false s290.2, .va v_name_291, .va v_kind_303, .no, .no, .no])) (f := f__law_take) (i := 0) (fl := true) (st0 := (fun (t_ : D) => t_)) (put := (fun (_ d_ : D) => d_)) (fun _ => rfl) (fun _ _ => rfl) ⟨t335, rfl⟩ (yxa_cons (yx_lift (T := D) (e := (fun (t_ : D) => [.ow true t_, .va p_kinds, .va p_works, .va v_called_218, .va v_rows_276, .ow false s290.2, .va v_name_291, .va v_kind_303, .no, .no, .no])) (t := t335) re_int) (fun t337 => (yxa_nil (T := D) (e := (fun (t_ : D) => [.ow true t_, .va p_kinds, .va p_works, .va v_called_218, .va v_rows_276, .ow false s290.2, .va v_name_291, .va v_kind_303, .no, .no, .no])) (t := t337))))) (fun t344 => (yxa_nil (T := D) (e := (fun (t_ : D) => [.ow true t_, .va p_kinds, .va p_works, .va v_called_218, .va v_rows_276, .ow false s290.2, .va v_name_291, .va v_kind_303, .no, .no, .no])) (t := t344))))))))))) (fun _ => rfl) (fun v_lows_356 t357 => rs_cv (ρ' := [.ow true t357, .va p_kinds, .va p_works, .va v_called_218, .va v_rows_276, .ow false s290.2, .va v_name_291, .va v_kind_303, .va v_lows_356, .no, .no]) rfl (ys_asgX1 (e := (fun (t_ : D) => [.ow true t_, .va p_kinds, .va p_works, .va v_called_218, .va v_rows_276, .ow false s290.2, .va v_name_291, .va v_kind_303, .va v_lows_356, .no, .no])) (yx_op o_ix (yx_lift (T := D) (e := (fun (t_ : D) => [.ow true t_, .va p_kinds, .va p_works, .va v_called_218, .va v_rows_276, .ow false s290.2, .va v_name_291, .va v_kind_303, .va v_lows_356, .no, .no])) (t := t357) (re_v rfl)) (fun t359 => (yx_call (T := D) (e := (fun (t_ : D) => [.ow true t_, .va p_kinds, .va p_works, .va v_called_218, .va v_rows_276, .ow false s290.2, .va v_name_291, .va v_kind_303, .va v_lows_356, .no, .no])) (f := f__law_take) (i := 0) (fl := true) (st0 := (fun (t_ : D) => t_)) (put := (fun (_ d_ : D) => d_)) (fun _ => rfl) (fun _ _ => rfl) ⟨t359, rfl⟩ (yxa_cons (yx_lift (T := D) (e := (fun (t_ : D) => [.ow true t_, .va p_kinds, .va p_works, .va v_called_218, .va v_rows_276, .ow false s290.2, .va v_name_291, .va v_kind_303, .va v_lows_356, .no, .no])) (t := t359) re_int) (fun t361 => (yxa_nil (T := D) (e := (fun (t_ : D) => [.ow true t_, .va p_kinds, .va p_works, .va v_called_218, .va v_rows_276, .ow false s290.2, .va v_name_291, .va v_kind_303, .va v_lows_356, .no, .no])) (t := t361))))))) (fun _ => rfl) (fun v_low_369 t370 => rs_cv (ρ' := [.ow true t370, .va p_kinds, .va p_works, .va v_called_218, .va v_rows_276, .ow false s290.2, .va v_name_291, .va v_kind_303, .va v_lows_356, .va v_low_369, .no]) rfl (ys_asgX1 (e := (fun (t_ : D) => [.ow true t_, .va p_kinds, .va p_works, .va v_called_218, .va v_rows_276, .ow false s290.2, .va v_name_291, .va v_kind_303, .va v_lows_356, .va v_low_369, .no])) (yx_op o_ix (yx_lst (yxa_cons (yx_lift (T := D) (e := (fun (t_ : D) => [.ow true t_, .va p_kinds, .va p_works, .va v_called_218, .va v_rows_276, .ow false s290.2, .va v_name_291, .va v_kind_303, .va v_lows_356, .va v_low_369, .no])) (t := t370) re_int) (fun t372 => (yxa_cons (yx_call (T := D) (e := (fun (t_ : D) => [.ow true t_, .va p_kinds, .va p_works, .va v_called_218, .va v_rows_276, .ow false s290.2, .va v_name_291, .va v_kind_303, .va v_lows_356, .va v_low_369, .no])) (f := f__law_take) (i := 0) (fl := true) (st0 := (fun (t_ : D) => t_)) (put := (fun (_ d_ : D) => d_)) (fun _ => rfl) (fun _ _ => rfl) ⟨t372, rfl⟩ (yxa_cons (yx_lift (T := D) (e := (fun (t_ : D) => [.ow true t_, .va p_kinds, .va p_works, .va v_called_218, .va v_rows_276, .ow false s290.2, .va v_name_291, .va v_kind_303, .va v_lows_356, .va v_low_369, .no])) (t := t372) re_int) (fun t374 => (yxa_nil (T := D) (e := (fun (t_ : D) => [.ow true t_, .va p_kinds, .va p_works, .va v_called_218, .va v_rows_276, .ow false s290.2, .va v_name_291, .va v_kind_303, .va v_lows_356, .va v_low_369, .no])) (t := t374))))) (fun t381 => (yxa_cons (yx_call (T := D) (e := (fun (t_ : D) => [.ow true t_, .va p_kinds, .va p_works, .va v_called_218, .va v_rows_276, .ow false s290.2, .va v_name_291, .va v_kind_303, .va v_lows_356, .va v_low_369, .no])) (f := f__law_take) (i := 0) (fl := true) (st0 := (fun (t_ : D) => t_)) (put := (fun (_ d_ : D) => d_)) (fun _ => rfl) (fun _ _ => rfl) ⟨t381, rfl⟩ (yxa_cons (yx_lift (T := D) (e := (fun (t_ : D) => [.ow true t_, .va p_kinds, .va p_works, .va v_called_218, .va v_rows_276, .ow false s290.2, .va v_name_291, .va v_kind_303, .va v_lows_356, .va v_low_369, .no])) (t := t381) re_int) (fun t383 => (yxa_nil (T := D) (e := (fun (t_ : D) => [.ow true t_, .va p_kinds, .va p_works, .va v_called_218, .va v_rows_276, .ow false s290.2, .va v_name_291, .va v_kind_303, .va v_lows_356, .va v_low_369, .no])) (t := t383))))) (fun t390 => (yxa_cons (yx_lift (T := D) (e := (fun (t_ : D) => [.ow true t_, .va p_kinds, .va p_works, .va v_called_218, .va v_rows_276, .ow false s290.2, .va v_name_291, .va v_kind_303, .va v_lows_356, .va v_low_369, .no])) (t := t390) re_int) (fun t392 => (yxa_nil (T := D) (e := (fun (t_ : D) => [.ow true t_, .va p_kinds, .va p_works, .va v_called_218, .va v_rows_276, .ow false s290.2, .va v_name_291, .va v_kind_303, .va v_lows_356, .va v_low_369, .no])) (t := t392))))))))))) (fun t405 => (yx_call (T := D) (e := (fun (t_ : D) => [.ow true t_, .va p_kinds, .va p_works, .va v_called_218, .va v_rows_276, .ow false s290.2, .va v_name_291, .va v_kind_303, .va v_lows_356, .va v_low_369, .no])) (f := f__law_take) (i := 0) (fl := true) (st0 := (fun (t_ : D) => t_)) (put := (fun (_ d_ : D) => d_)) (fun _ => rfl) (fun _ _ => rfl) ⟨t405, rfl⟩ (yxa_cons (yx_lift (T := D) (e := (fun (t_ : D) => [.ow true t_, .va p_kinds, .va p_works, .va v_called_218, .va v_rows_276, .ow false s290.2, .va v_name_291, .va v_kind_303, .va v_lows_356, .va v_low_369, .no])) (t := t405) re_int) (fun t407 => (yxa_nil (T := D) (e := (fun (t_ : D) => [.ow true t_, .va p_kinds, .va p_works, .va v_called_218, .va v_rows_276, .ow false s290.2, .va v_name_291, .va v_kind_303, .va v_lows_356, .va v_low_369, .no])) (t := t407))))))) (fun _ => rfl) (fun v_more_415 t416 => rs_cv (ρ' := [.ow true t416, .va p_kinds, .va p_works, .va v_called_218, .va v_rows_276, .ow false s290.2, .va v_name_291, .va v_kind_303, .va v_lows_356, .va v_low_369, .va v_more_415]) rfl (rs_last (ys_dropX (e := (fun (t_ : D) => [.ow true t416, .va p_kinds, .va p_works, .va v_called_218, .va v_rows_276, .ow false t_, .va v_name_291, .va v_kind_303, .va v_lows_356, .va v_low_369, .va v_more_415])) (yx_meth (T := D) (f := appF) (d := s290.2) (i := 5) (put := (fun (_ d_ : D) => d_)) (e1 := (fun (t_ : D) => [.ow true t416, .va p_kinds, .va p_works, .va v_called_218, .va v_rows_276, .ow false s290.2, .va v_name_291, .va v_kind_303, .va v_lows_356, .va v_low_369, .va v_more_415])) (e := (fun (t_ : D) => [.ow true t416, .va p_kinds, .va p_works, .va v_called_218, .va v_rows_276, .ow false t_, .va v_name_291, .va v_kind_303, .va v_lows_356, .va v_low_369, .va v_more_415])) m_app (fun _ => rfl) (fun _ _ => rfl) ⟨s290.2, rfl⟩ (yxa_cons (yx_lift (T := D) (e := (fun (t_ : D) => [.ow true t416, .va p_kinds, .va p_works, .va v_called_218, .va v_rows_276, .ow false s290.2, .va v_name_291, .va v_kind_303, .va v_lows_356, .va v_low_369, .va v_more_415])) (t := s290.2) (re_tup (ra_cons (re_v rfl) (ra_cons (re_v rfl) (ra_cons (re_v rfl) (ra_cons (re_cb o_min (ra_cons re_int (ra_cons (re_op o_add (re_v rfl) (re_v rfl)) ra_nil))) ra_nil)))))) (fun t432 => (yxa_nil (T := D) (e := (fun (t_ : D) => [.ow true t416, .va p_kinds, .va p_works, .va v_called_218, .va v_rows_276, .ow false s290.2, .va v_name_291, .va v_kind_303, .va v_lows_356, .va v_low_369, .va v_more_415])) (t := t432))))) (fun t438 => rs_cv (ρ' := [.ow true t416, .va p_kinds, .va p_works, .va v_called_218, .va v_rows_276, .ow false t438, .va v_name_291, .va v_kind_303, .va v_lows_356, .va v_low_369, .va v_more_415]) rfl (rs_next (n := (t416, t438)) (sub_cons ss_ow (sub_cons ss_va (sub_cons ss_va (sub_cons ss_va (sub_cons ss_va (sub_cons ss_ow (sub_cons ss_no (sub_cons ss_no (sub_cons ss_no (sub_cons ss_no (sub_cons ss_no sub_nil)))))))))))))))))))))))) ls440)) (fun j441 => rs_cv (ρ' := [.ow true j441.1, .va p_kinds, .va p_works, .va v_called_218, .va v_rows_276, .ow false j441.2, .no, .no, .no, .no, .no]) rfl (rs_sub (ρ' := [.ow true j441.1, .va p_kinds, .va p_works, .va v_called_218, .va v_rows_276, .va j441.2, .no, .no, .no, .no, .no]) (sub_cons ss_ow (sub_cons ss_va (sub_cons ss_va (sub_cons ss_va (sub_cons ss_va (sub_cons ss_fr (sub_cons ss_no (sub_cons ss_no (sub_cons ss_no (sub_cons ss_no (sub_cons ss_no sub_nil))))))))))) (rs_retIo (s := j441.1) rfl (re_tup (ra_cons (re_cb o_tupOf (ra_cons (re_v rfl) ra_nil)) (ra_cons (re_tup ra_nil) (ra_cons (re_tup ra_nil) (ra_cons (re_tup ra_nil) (ra_cons (re_tup ra_nil) (ra_cons (re_tup ra_nil) (ra_cons (re_cb o_tupOf (ra_cons (re_v rfl) ra_nil)) (ra_cons (re_tup ra_nil) ra_nil)))))))))))))))))))
theorem rd__law_stock {K : PySem.W.Frag} {w : World} {tq : Tb} {vs : List V} {H : Hp} {Q : VK} {E : XK} (h : sp__law_stock K w tq vs H Q E) : t__law_stock K w tq { nx := fun _ H' => Q .non H', rt := Q } (start ["draw", "kinds", "works", "called", "rows", "found", "name", "kind", "lows", "low", "more"] vs) H :=
  go_x (N := ["draw", "kinds", "works", "called", "rows", "found", "name", "kind", "lows", "low", "more"]) (fun s ds fl h => len_x2 h) (fun _ => rfl) (lb2 (fun a0 a1 a2 => ru__law_stock a0 a1 a2)) h
theorem len__law_stock {K : PySem.W.Frag} {w : World} {tq : Tb} {vs : List V} {H : Hp} {Q : VK} {E : XK} (h : sp__law_stock K w tq vs H Q E) : vs.length = 3 := lx_2 h
noncomputable def c__law_list (s_0 p_stock p_most : D) : Option (Fl D Empty) :=
  (((((some p_stock).bind fun q463 => (some (D.int 0)).bind fun q464 => ixD q463 q464).bind fun q465 => (some []).bind fun q466 => some (q465 :: q466)).bind dictD).bind fun v_least_467 => ((((((some p_stock).bind fun q468 => (some (D.int 6)).bind fun q469 => ixD q468 q469).bind itD).bind fun q481 => compM (compB (.nm 5) (fn1 fun v_row_470 => ((((some v_row_470).bind fun q471 => (some (D.int 3)).bind fun q472 => ixD q471 q472).bind fun q477 => ((some v_least_467).bind fun q475 => ((some v_row_470).bind fun q473 => (some (D.int 1)).bind fun q474 => ixD q473 q474).bind fun q476 => ixD q475 q476).bind fun q478 => geD q477 q478).bind isBl)) (fn1 fun v_row_470 => ((some v_row_470).bind fun q479 => (some (D.int 0)).bind fun q480 => ixD q479 q480))) q481).map D.lst).bind fun v_good_482 => (bX (bX (bX (bX (bX (bX (bX (bX (bX (lX ((some p_most).bind fun q483 => (some (D.int 1)).bind fun q484 => addD q483 q484) s_0) fun q485 t486 => bX (some ([], t486)) fun q487 t488 => some (q485 :: q487, t488)) fun q489 t490 => (f__law_take (t490 :: q489)).map fun q491 => (q491.1, q491.2)) fun q492 t493 => bX (lX ((((some v_good_482).bind fun q494 => (((some []).bind szG).map D.lst).bind fun q495 => neD q494 q495).bind fun q496 => (some []).bind fun q497 => some (q496 :: q497)).bind int1D) t493) fun q498 t499 => lX (mulD q492 q498) t499) fun q500 t501 => bX (some ([], t501)) fun q502 t503 => some (q500 :: q502, t503)) fun q504 t505 => lX (rg1 q504) t505) fun q506 t507 => (compX (compBX (.nm 6) (fun _ t509 => some (true, t509)) (fun ls_ t509 => fn1 (fun v_k_508 => (bX (lX (some v_good_482) t509) fun q510 t511 => bX (bX (bX (lX (((some v_good_482).bind fun q512 => (some []).bind fun q513 => some (q512 :: q513)).bind M.lenD) t511) fun q514 t515 => bX (some ([], t515)) fun q516 t517 => some (q514 :: q516, t517)) fun q518 t519 => (f__law_take (t519 :: q518)).map fun q520 => (q520.1, q520.2)) fun q521 t522 => lX (ixD q510 q521) t522)) ls_)) q506 t507).map fun q523 => (D.lst q523.1, q523.2)) fun q524 t525 => bX (some ([], t525)) fun q526 t527 => some (q524 :: q526, t527)) fun q528 t529 => lX (tupOfD q528) t529) fun q530 t531 => some (.rt q530 t531))))
noncomputable def f__law_list : List D → Option (D × D) := fX (fun s => fn2 (c__law_list s))
abbrev sp__law_list (K : PySem.W.Frag) (w : World) (tq : Tb) : Sp := mSpX K w tq f__law_list
def t__law_list (K : PySem.W.Frag) (w : World) (tq : Tb) : TS := (tSeq (tAsg (tCB (rDict3 K) (tCons (tOp (rIxU K w) (tVar 1) (tC (.int 0))) tNil)) (gName 3)) (tSeq (tAsg (tLc (iAny K (tOp (rIxU K w) (tVar 1) (tC (.int 6)))) (gName 5) (tTest (tOp rGeU (tOp (rIxU K w) (tVar 5) (tC (.int 3))) (tOp (rIxU K w) (tVar 3) (tOp (rIxU K w) (tVar 5) (tC (.int 1)))))) (tOp (rIxU K w) (tVar 5) (tC (.int 0))) [5]) (gName 4)) (tRet (tCB (rTup2 K) (tCons (tLc (iRng1 (tCons (tOp rMul2 (tCall (sp__law_take K w tq) [] C8.E0 (tCons (tVar 0) (tCons (tOp (rAdd2 K) (tVar 2) (tC (.int 1))) tNil))) (tCB rInt1 (tCons (tOp (rEqU K true) (tVar 4) (tLst tNil)) tNil))) tNil)) (gName 6) tYes (tOp (rIxU K w) (tVar 4) (tCall (sp__law_take K w tq) [] C8.E0 (tCons (tVar 0) (tCons (tCB (rLenU K) (tCons (tVar 4) tNil)) tNil)))) [6]) tNil)))))
theorem ru__law_list {K : PySem.W.Frag} {w : World} {tq : Tb} (s_0 p_stock p_most : D) : RunsS K w tq true false (t__law_list K w tq) (vasX s_0 [p_stock, p_most] 7) (fun n => [.ow true n, .no, .no, .no, .no, .no, .no]) (fun l : Empty => nomatch l) (c__law_list s_0 p_stock p_most) := by
  unfold t__law_list c__law_list
  refine rs_cv (ρ' := [.ow true s_0, .va p_stock, .va p_most, .no, .no, .no, .no]) rfl ?_
  exact (rs_asg1 (re_of_n (rn_dict (ra_cons (re_op o_ix (re_v rfl) re_int) ra_nil))) rfl (fun v_least_467 => rs_cv (ρ' := [.ow true s_0, .va p_stock, .va p_most, .va v_least_467, .no, .no, .no]) rfl (rs_asg1 (re_of_n (rn_lc (p := (.nm 5)) (ri_any (re_op o_ix (re_v rfl) re_int)) (bnd_nm 5) rfl (by decide) rfl (lt1 fun v_row_470 => (rt_test (re_op o_ge (re_op o_ix (re_v rfl) re_int) (re_op o_ix (re_v rfl) (re_op o_ix (re_v rfl) re_int))))) (le1 fun v_row_470 => (re_op o_ix (re_v rfl) re_int)))) rfl (fun v_good_482 => rs_cv (ρ' := [.ow true s_0, .va p_stock, .va p_most, .va v_least_467, .va v_good_482, .no, .no]) rfl ((ys_retX (T := D) (e := (fun (t_ : D) => [.ow true t_, .va p_stock, .va p_most, .va v_least_467, .va v_good_482, .no, .no])) (st := (fun (t_ : D) => t_)) (fun _ => rfl) (yx_cb o_tupOf (yxa_cons (yx_lc (e := (fun (t_ : D) => [.ow true t_, .va p_stock, .va p_most, .va v_least_467, .va v_good_482, .no, .no])) (p := (.nm 6)) (yxi_rng1 (yxa_cons (yx_op o_mul (yx_call (T := D) (e := (fun (t_ : D) => [.ow true t_, .va p_stock, .va p_most, .va v_least_467, .va v_good_482, .no, .no])) (f := f__law_take) (i := 0) (fl := true) (st0 := (fun (t_ : D) => t_)) (put := (fun (_ d_ : D) => d_)) (fun _ => rfl) (fun _ _ => rfl) ⟨s_0, rfl⟩ (yxa_cons (yx_lift (T := D) (e := (fun (t_ : D) => [.ow true t_, .va p_stock, .va p_most, .va v_least_467, .va v_good_482, .no, .no])) (t := s_0) (re_op o_add (re_v rfl) re_int)) (fun t486 => (yxa_nil (T := D) (e := (fun (t_ : D) => [.ow true t_, .va p_stock, .va p_most, .va v_least_467, .va v_good_482, .no, .no])) (t := t486))))) (fun t493 => (yx_lift (T := D) (e := (fun (t_ : D) => [.ow true t_, .va p_stock, .va p_most, .va v_least_467, .va v_good_482, .no, .no])) (t := t493) (re_cb o_int1 (ra_cons (re_op o_ne (re_v rfl) (re_of_n (rn_lst ra_nil))) ra_nil))))) (fun t501 => (yxa_nil (T := D) (e := (fun (t_ : D) => [.ow true t_, .va p_stock, .va p_most, .va v_least_467, .va v_good_482, .no, .no])) (t := t501))))) (bnd_nm 6) (fun _ => rfl) (fun _ => rfl) (by decide) (fun _ => rfl) lxyes (lx1 fun v_k_508 t509 => (yx_op o_ix (yx_lift (T := D) (e := (fun (t_ : D) => [.ow true t_, .va p_stock, .va p_most, .va v_least_467, .va v_good_482, .no, .va v_k_508])) (t := t509) (re_v rfl)) (fun t511 => (yx_call (T := D) (e := (fun (t_ : D) => [.ow true t_, .va p_stock, .va p_most, .va v_least_467, .va v_good_482, .no, .va v_k_508])) (f := f__law_take) (i := 0) (fl := true) (st0 := (fun (t_ : D) => t_)) (put := (fun (_ d_ : D) => d_)) (fun _ => rfl) (fun _ _ => rfl) ⟨t511, rfl⟩ (yxa_cons (yx_lift (T := D) (e := (fun (t_ : D) => [.ow true t_, .va p_stock, .va p_most, .va v_least_467, .va v_good_482, .no, .va v_k_508])) (t := t511) (re_cb o_len (ra_cons (re_v rfl) ra_nil))) (fun t515 => (yxa_nil (T := D) (e := (fun (t_ : D) => [.ow true t_, .va p_stock, .va p_most, .va v_least_467, .va v_good_482, .no, .va v_k_508])) (t := t515))))))))) (fun t525 => (yxa_nil (T := D) (e := (fun (t_ : D) => [.ow true t_, .va p_stock, .va p_most, .va v_least_467, .va v_good_482, .no, .no])) (t := t525)))))))))))
theorem rd__law_list {K : PySem.W.Frag} {w : World} {tq : Tb} {vs : List V} {H : Hp} {Q : VK} {E : XK} (h : sp__law_list K w tq vs H Q E) : t__law_list K w tq { nx := fun _ H' => Q .non H', rt := Q } (start ["draw", "stock", "most", "least", "good", "row", "k"] vs) H :=
  go_x (N := ["draw", "stock", "most", "least", "good", "row", "k"]) (fun s ds fl h => len_x2 h) (fun _ => rfl) (lb2 (fun a0 a1 a2 => ru__law_list a0 a1 a2)) h
theorem len__law_list {K : PySem.W.Frag} {w : World} {tq : Tb} {vs : List V} {H : Hp} {Q : VK} {E : XK} (h : sp__law_list K w tq vs H Q E) : vs.length = 3 := lx_2 h
noncomputable def c__law_apart (p_one p_other : D) : Option (Fl Unit Empty) :=
  ((orV (((some p_one).bind fun q532 => (some (D.int 0)).bind fun q533 => ixD q532 q533).bind fun q536 => ((some p_other).bind fun q534 => (some (D.int 0)).bind fun q535 => ixD q534 q535).bind fun q537 => neD q536 q537) (((some p_other).bind fun q538 => (some (D.int 1)).bind fun q539 => ixD q538 q539).bind fun q542 => ((some p_one).bind fun q540 => (some (D.int 2)).bind fun q541 => ixD q540 q541).bind fun q543 => gtD q542 q543)).map fun q544 => .rt q544 .non)
noncomputable def f__law_apart : List D → Option D := fV (fn2 c__law_apart)
abbrev sp__law_apart (K : PySem.W.Frag) (w : World) (tq : Tb) : Sp := mSp K w tq f__law_apart
def t__law_apart (K : PySem.W.Frag) (w : World) (tq : Tb) : TS := (tRet (tOrV (tOp (rEqU K true) (tOp (rIxU K w) (tVar 0) (tC (.int 0))) (tOp (rIxU K w) (tVar 1) (tC (.int 0)))) (tOp rGtU (tOp (rIxU K w) (tVar 1) (tC (.int 1))) (tOp (rIxU K w) (tVar 0) (tC (.int 2))))))
theorem ru__law_apart {K : PySem.W.Frag} {w : World} {tq : Tb} (p_one p_other : D) : RunsS K w tq false false (t__law_apart K w tq) (vas [p_one, p_other] 2) (fun _ => [.no, .no]) (fun l : Empty => nomatch l) (c__law_apart p_one p_other) := by
  unfold t__law_apart c__law_apart
  refine rs_cv (ρ' := [.va p_one, .va p_other]) rfl ?_
  exact (rs_ret (re_orV (re_op o_ne (re_op o_ix (re_v rfl) re_int) (re_op o_ix (re_v rfl) re_int)) (re_op o_gt (re_op o_ix (re_v rfl) re_int) (re_op o_ix (re_v rfl) re_int))))
theorem rd__law_apart {K : PySem.W.Frag} {w : World} {tq : Tb} {vs : List V} {H : Hp} {Q : VK} {E : XK} (h : sp__law_apart K w tq vs H Q E) : t__law_apart K w tq { nx := fun _ H' => Q .non H', rt := Q } (start ["one", "other"] vs) H :=
  go_val (N := ["one", "other"]) (fun ds fl h => len_v2 h) (la2 (fun a0 a1 => ru__law_apart a0 a1)) h
theorem len__law_apart {K : PySem.W.Frag} {w : World} {tq : Tb} {vs : List V} {H : Hp} {Q : VK} {E : XK} (h : sp__law_apart K w tq vs H Q E) : vs.length = 2 := lv_2 h
noncomputable def c__law_runs (p_rows : D) : Option (Fl Unit Empty) :=
  (((((((some []).bind szG).map D.tup).bind fun q545 => (some []).bind fun q546 => some (q545 :: q546)).bind szG).map D.lst).bind fun v_found_547 => (((((some p_rows).bind fun q548 => (some []).bind fun q549 => some (q548 :: q549)).bind enumD).bind fun q575 => M.forM (fun q572 (s550 : D) => (un (.tp [(.nm 2), (.nm 3)]) q572).bind fun ls573 => fn2 (fun v_number_551 v_row_552 => (((some s550).bind fun q569 => ((((some s550).bind itD).bind fun q568 => compM (compB (.nm 4) (fn1 fun v_run_553 => (((((((some v_run_553).bind itD).bind fun q561 => compM (compB (.nm 5) (fun _ => some true) (fn1 fun v_one_554 => ((((some p_rows).bind fun q555 => (some v_one_554).bind fun q556 => ixD q555 q556).bind fun q559 => ((some v_row_552).bind fun q557 => (some []).bind fun q558 => some (q557 :: q558)).bind fun q560 => some (q559 :: q560)).bind f__law_apart))) q561).map D.lst).bind fun q562 => (some []).bind fun q563 => some (q562 :: q563)).bind allD).bind tru)) (fn1 fun v_run_553 => ((some v_run_553).bind fun q566 => ((((some v_number_551).bind fun q564 => (some []).bind fun q565 => some (q564 :: q565)).bind szG).map D.tup).bind fun q567 => addD q566 q567))) q568).map D.lst).bind fun q570 => addD q569 q570).bind fun v_found_571 => (some (.nx v_found_571)))) ls573) q575 v_found_547).bind (Fl.thn fun (j574 : D) => ((some j574).map fun q576 => .rt q576 .non))))
noncomputable def f__law_runs : List D → Option D := fV (fn1 c__law_runs)
abbrev sp__law_runs (K : PySem.W.Frag) (w : World) (tq : Tb) : Sp := mSp K w tq f__law_runs
def t__law_runs (K : PySem.W.Frag) (w : World) (tq : Tb) : TS := (tSeq (tAsg (tLst (tCons (tTupP tNil) tNil)) (gName 1)) (tSeq (tFor (iEnumU K (tCons (tVar 0) tNil)) (gTup K 2 (gCons (gName 2) (gCons (gName 3) gNil))) (tAsg (tOp (rAdd2 K) (tVar 1) (tLc (iAny K (tVar 1)) (gName 4) (tTru K (tCB (rAll K) (tCons (tLc (iAny K (tVar 4)) (gName 5) tYes (tCall (sp__law_apart K w tq) [] C8.E0 (tCons (tOp (rIxU K w) (tVar 0) (tVar 5)) (tCons (tVar 3) tNil))) [5]) tNil))) (tOp (rAdd2 K) (tVar 4) (tTupP (tCons (tVar 2) tNil))) [4])) (gName 1))) (tRet (tVar 1))))
theorem ru__law_runs {K : PySem.W.Frag} {w : World} {tq : Tb} (p_rows : D) : RunsS K w tq false false (t__law_runs K w tq) (vas [p_rows] 6) (fun _ => [.no, .no, .no, .no, .no, .no]) (fun l : Empty => nomatch l) (c__law_runs p_rows) := by
  unfold t__law_runs c__law_runs
  refine rs_cv (ρ' := [.va p_rows, .no, .no, .no, .no, .no]) rfl ?_
  exact (rs_asg1 (re_of_n (rn_lst (ra_cons (re_tup ra_nil) ra_nil))) rfl (fun v_found_547 => rs_cv (ρ' := [.va p_rows, .va v_found_547, .no, .no, .no, .no]) rfl (rs_seq (eM := (fun (s_ : D) => [.va p_rows, .va s_, .no, .no, .no, .no])) (rs_for (p := (.tp [(.nm 2), (.nm 3)])) (eS := (fun (s_ : D) => [.va p_rows, .va s_, .no, .no, .no, .no])) (s0 := v_found_547) (ri_enum (ra_cons (re_v rfl) ra_nil)) (sub_cons ss_va (sub_cons ss_va (sub_cons ss_no (sub_cons ss_no (sub_cons ss_no (sub_cons ss_no sub_nil)))))) (bnd_tp (bnds_cons (bnd_nm 2) (bnds_cons (bnd_nm 3) bnds_nil)) rfl) (fun _ => rfl) (fun ls573 s550 => ls2 (fun v_number_551 v_row_552 => rs_cv (ρ' := [.va p_rows, .va s550, .va v_number_551, .va v_row_552, .no, .no]) rfl (rs_last (rs_asg1 (re_op o_add (re_v rfl) (re_of_n (rn_lc (p := (.nm 4)) (ri_any (re_v rfl)) (bnd_nm 4) rfl (by decide) rfl (lt1 fun v_run_553 => (rt_tru (re_cb o_all (ra_cons (re_of_n (rn_lc (p := (.nm 5)) (ri_any (re_v rfl)) (bnd_nm 5) rfl (by decide) rfl lyes (le1 fun v_one_554 => (re_call (ra_cons (re_op o_ix (re_v rfl) (re_v rfl)) (ra_cons (re_v rfl) ra_nil)))))) ra_nil)))) (le1 fun v_run_553 => (re_op o_add (re_v rfl) (re_tup (ra_cons (re_v rfl) ra_nil))))))) rfl (fun v_found_571 => rs_cv (ρ' := [.va p_rows, .va v_found_571, .va v_number_551, .va v_row_552, .no, .no]) rfl (rs_next (n := v_found_571) (sub_cons ss_va (sub_cons ss_va (sub_cons ss_no (sub_cons ss_no (sub_cons ss_no (sub_cons ss_no sub_nil))))))))))) ls573)) (fun j574 => rs_cv (ρ' := [.va p_rows, .va j574, .no, .no, .no, .no]) rfl (rs_ret (re_v rfl))))))
theorem rd__law_runs {K : PySem.W.Frag} {w : World} {tq : Tb} {vs : List V} {H : Hp} {Q : VK} {E : XK} (h : sp__law_runs K w tq vs H Q E) : t__law_runs K w tq { nx := fun _ H' => Q .non H', rt := Q } (start ["rows", "found", "number", "row", "run", "one"] vs) H :=
  go_val (N := ["rows", "found", "number", "row", "run", "one"]) (fun ds fl h => len_v1 h) (la1 (fun a0 => ru__law_runs a0)) h
theorem len__law_runs {K : PySem.W.Frag} {w : World} {tq : Tb} {vs : List V} {H : Hp} {Q : VK} {E : XK} (h : sp__law_runs K w tq vs H Q E) : vs.length = 1 := lv_1 h
noncomputable def c__law_jobs (p_stock p_works : D) : Option (Fl Unit Empty) :=
  ((((((((some p_stock).bind fun q577 => (some (D.int 0)).bind fun q578 => ixD q577 q578).bind fun q579 => (some []).bind fun q580 => some (q579 :: q580)).bind dictD).bind fun q598 => ((((((((some p_stock).bind fun q581 => (some (D.int 6)).bind fun q582 => ixD q581 q582).bind itD).bind fun q593 => compM (compB (.nm 4) (fun _ => some true) (fn1 fun v_row_583 => (((((some v_row_583).bind fun q584 => (some (D.int 0)).bind fun q585 => ixD q584 q585).bind fun q591 => (((some v_row_583).bind fun q586 => (((some (D.int 1)).bind isInt).map some).bind fun q587 => (some none).bind fun q588 => slD q586 q587 q588).bind fun q589 => (some []).bind fun q590 => some (q589 :: q590)).bind fun q592 => some (q591 :: q592)).bind szG).map D.tup))) q593).map D.lst).bind fun q594 => (some []).bind fun q595 => some (q594 :: q595)).bind dictD).bind fun q596 => (some []).bind fun q597 => some (q596 :: q597)).bind fun q599 => some (q598 :: q599)).bind szG).map D.tup).bind fun q600 => (un (.tp [(.nm 2), (.nm 3)]) q600).bind (fn2 fun v_least_601 v_jobs_602 => (((((some p_works).bind itD).bind fun q632 => compM (compB (.nm 5) (fun _ => some true) (fn1 fun v_name_603 => ((((((some v_jobs_602).bind fun q604 => (some v_name_603).bind fun q605 => ixD q604 q605).bind fun q606 => (some (D.int 0)).bind fun q607 => ixD q606 q607).bind fun q630 => ((((((some v_jobs_602).bind fun q608 => (some v_name_603).bind fun q609 => ixD q608 q609).bind fun q610 => (some (D.int 1)).bind fun q611 => ixD q610 q611).bind fun q620 => (((some v_least_601).bind fun q616 => (((some v_jobs_602).bind fun q612 => (some v_name_603).bind fun q613 => ixD q612 q613).bind fun q614 => (some (D.int 0)).bind fun q615 => ixD q614 q615).bind fun q617 => ixD q616 q617).bind fun q618 => (some []).bind fun q619 => some (q618 :: q619)).bind fun q621 => some (q620 :: q621)).bind maxD).bind fun q628 => ((((some v_jobs_602).bind fun q622 => (some v_name_603).bind fun q623 => ixD q622 q623).bind fun q624 => (some (D.int 2)).bind fun q625 => ixD q624 q625).bind fun q626 => (some []).bind fun q627 => some (q626 :: q627)).bind fun q629 => some (q628 :: q629)).bind fun q631 => some (q630 :: q631)).bind szG).map D.tup))) q632).map D.lst).map fun q633 => .rt q633 .non)))
noncomputable def f__law_jobs : List D → Option D := fV (fn2 c__law_jobs)
abbrev sp__law_jobs (K : PySem.W.Frag) (w : World) (tq : Tb) : Sp := mSp K w tq f__law_jobs
def t__law_jobs (K : PySem.W.Frag) (w : World) (tq : Tb) : TS := (tSeq (tAsg (tTupP (tCons (tCB (rDict3 K) (tCons (tOp (rIxU K w) (tVar 0) (tC (.int 0))) tNil)) (tCons (tCB (rDict3 K) (tCons (tLc (iAny K (tOp (rIxU K w) (tVar 0) (tC (.int 6)))) (gName 4) tYes (tTupP (tCons (tOp (rIxU K w) (tVar 4) (tC (.int 0))) (tCons (tSl (rSlP K) (tVar 4) (tPart (tC (.int 1))) tNoPart) tNil))) [4]) tNil)) tNil))) (gTup K 2 (gCons (gName 2) (gCons (gName 3) gNil)))) (tRet (tLc (iAny K (tVar 1)) (gName 5) tYes (tTupP (tCons (tOp (rIxU K w) (tOp (rIxU K w) (tVar 3) (tVar 5)) (tC (.int 0))) (tCons (tCB (rMaxU K) (tCons (tOp (rIxU K w) (tOp (rIxU K w) (tVar 3) (tVar 5)) (tC (.int 1))) (tCons (tOp (rIxU K w) (tVar 2) (tOp (rIxU K w) (tOp (rIxU K w) (tVar 3) (tVar 5)) (tC (.int 0)))) tNil))) (tCons (tOp (rIxU K w) (tOp (rIxU K w) (tVar 3) (tVar 5)) (tC (.int 2))) tNil)))) [5])))
theorem ru__law_jobs {K : PySem.W.Frag} {w : World} {tq : Tb} (p_stock p_works : D) : RunsS K w tq false false (t__law_jobs K w tq) (vas [p_stock, p_works] 6) (fun _ => [.no, .no, .no, .no, .no, .no]) (fun l : Empty => nomatch l) (c__law_jobs p_stock p_works) := by
  unfold t__law_jobs c__law_jobs
  refine rs_cv (ρ' := [.va p_stock, .va p_works, .no, .no, .no, .no]) rfl ?_
  exact (rs_asg (p := (.tp [(.nm 2), (.nm 3)])) (re_tup (ra_cons (re_of_n (rn_dict (ra_cons (re_op o_ix (re_v rfl) re_int) ra_nil))) (ra_cons (re_of_n (rn_dict (ra_cons (re_of_n (rn_lc (p := (.nm 4)) (ri_any (re_op o_ix (re_v rfl) re_int)) (bnd_nm 4) rfl (by decide) rfl lyes (le1 fun v_row_583 => (re_tup (ra_cons (re_op o_ix (re_v rfl) re_int) (ra_cons (re_sl (re_v rfl) (ro_some re_int) ro_no) ra_nil)))))) ra_nil))) ra_nil))) (bnd_tp (bnds_cons (bnd_nm 2) (bnds_cons (bnd_nm 3) bnds_nil)) rfl) rfl (ls2 fun v_least_601 v_jobs_602 => rs_cv (ρ' := [.va p_stock, .va p_works, .va v_least_601, .va v_jobs_602, .no, .no]) rfl (rs_ret (re_of_n (rn_lc (p := (.nm 5)) (ri_any (re_v rfl)) (bnd_nm 5) rfl (by decide) rfl lyes (le1 fun v_name_603 => (re_tup (ra_cons (re_op o_ix (re_op o_ix (re_v rfl) (re_v rfl)) re_int) (ra_cons (re_cb o_max (ra_cons (re_op o_ix (re_op o_ix (re_v rfl) (re_v rfl)) re_int) (ra_cons (re_op o_ix (re_v rfl) (re_op o_ix (re_op o_ix (re_v rfl) (re_v rfl)) re_int)) ra_nil))) (ra_cons (re_op o_ix (re_op o_ix (re_v rfl) (re_v rfl)) re_int) ra_nil))))))))))
theorem rd__law_jobs {K : PySem.W.Frag} {w : World} {tq : Tb} {vs : List V} {H : Hp} {Q : VK} {E : XK} (h : sp__law_jobs K w tq vs H Q E) : t__law_jobs K w tq { nx := fun _ H' => Q .non H', rt := Q } (start ["stock", "works", "least", "jobs", "row", "name"] vs) H :=
  go_val (N := ["stock", "works", "least", "jobs", "row", "name"]) (fun ds fl h => len_v2 h) (la2 (fun a0 a1 => ru__law_jobs a0 a1)) h
theorem len__law_jobs {K : PySem.W.Frag} {w : World} {tq : Tb} {vs : List V} {H : Hp} {Q : VK} {E : XK} (h : sp__law_jobs K w tq vs H Q E) : vs.length = 2 := lv_2 h
noncomputable def c_law (p_script : D) : Option (Fl Unit Empty) :=
  (((((((some (D.int 3)).bind fun q642 => ((((some (D.int 8)).bind fun q638 => ((((some p_script).bind fun q634 => (some []).bind fun q635 => some (q634 :: q635)).bind M.lenD).bind fun q636 => (some []).bind fun q637 => some (q636 :: q637)).bind fun q639 => some (q638 :: q639)).bind minD).bind fun q640 => (some []).bind fun q641 => some (q640 :: q641)).bind fun q643 => some (q642 :: q643)).bind maxD).bind fun q644 => (some []).bind fun q645 => some (q644 :: q645)).bind rg1).bind fun q779 => M.forM (fun q776 (s646 : Unit) => (un (.nm 1) q776).bind fun ls777 => fn1 (fun v_k_647 => ((((some p_script).bind fun q650 => ((some v_k_647).bind fun q648 => (some []).bind fun q649 => some (q648 :: q649)).bind fun q651 => some (q650 :: q651)).bind f__law_draw).bind fun v_draw_652 => (bX (bX (bX (lX ((((some (D.int 1)).bind fun q663 => ((some (D.int 2)).bind fun q661 => ((some (D.int 1)).bind fun q659 => ((some (D.int 3)).bind fun q657 => ((some (D.int 6)).bind fun q655 => ((some (D.int 2)).bind fun q653 => (some []).bind fun q654 => some (q653 :: q654)).bind fun q656 => some (q655 :: q656)).bind fun q658 => some (q657 :: q658)).bind fun q660 => some (q659 :: q660)).bind fun q662 => some (q661 :: q662)).bind fun q664 => some (q663 :: q664)).bind szG).map D.lst) v_draw_652) fun q665 t666 => bX (bX (bX (lX (some (D.int 6)) t666) fun q667 t668 => bX (some ([], t668)) fun q669 t670 => some (q667 :: q669, t670)) fun q671 t672 => (f__law_take (t672 :: q671)).map fun q673 => (q673.1, q673.2)) fun q674 t675 => lX (ixD q665 q674) t675) fun q676 t677 => bX (bX (bX (lX ((((some (D.int 8)).bind fun q688 => ((some (D.int 6)).bind fun q686 => ((some (D.int 3)).bind fun q684 => ((some (D.int 1)).bind fun q682 => ((some (D.int 8)).bind fun q680 => ((some (D.int 0)).bind fun q678 => (some []).bind fun q679 => some (q678 :: q679)).bind fun q681 => some (q680 :: q681)).bind fun q683 => some (q682 :: q683)).bind fun q685 => some (q684 :: q685)).bind fun q687 => some (q686 :: q687)).bind fun q689 => some (q688 :: q689)).bind szG).map D.lst) t677) fun q690 t691 => bX (bX (bX (lX (some (D.int 6)) t691) fun q692 t693 => bX (some ([], t693)) fun q694 t695 => some (q692 :: q694, t695)) fun q696 t697 => (f__law_take (t697 :: q696)).map fun q698 => (q698.1, q698.2)) fun q699 t700 => lX (ixD q690 q699) t700) fun q701 t702 => bX (some ([], t702)) fun q703 t704 => some (q701 :: q703, t704)) fun q705 t706 => some (q676 :: q705, t706)) fun q707 t708 => fn2 (fun v_kinds_709 v_works_710 => (bX (bX (bX (lX (some v_kinds_709) t708) fun q711 t712 => bX (bX (lX (some v_works_710) t712) fun q713 t714 => bX (some ([], t714)) fun q715 t716 => some (q713 :: q715, t716)) fun q717 t718 => some (q711 :: q717, t718)) fun q719 t720 => (f__law_stock (t720 :: q719)).map fun q721 => (q721.1, q721.2)) fun v_stock_722 t723 => (bX (bX (bX (lX (some v_stock_722) t723) fun q724 t725 => bX (bX (bX (lX ((((some (D.int 9)).bind fun q728 => ((some (D.int 6)).bind fun q726 => (some []).bind fun q727 => some (q726 :: q727)).bind fun q729 => some (q728 :: q729)).bind szG).map D.lst) t725) fun q730 t731 => bX (bX (bX (lX (some (D.int 2)) t731) fun q732 t733 => bX (some ([], t733)) fun q734 t735 => some (q732 :: q734, t735)) fun q736 t737 => (f__law_take (t737 :: q736)).map fun q738 => (q738.1, q738.2)) fun q739 t740 => lX (ixD q730 q739) t740) fun q741 t742 => bX (some ([], t742)) fun q743 t744 => some (q741 :: q743, t744)) fun q745 t746 => some (q724 :: q745, t746)) fun q747 t748 => (f__law_list (t748 :: q747)).map fun q749 => (q749.1, q749.2)) fun v_some_750 t751 => (((((((((((some v_stock_722).bind fun q754 => ((some v_some_750).bind fun q752 => (some []).bind fun q753 => some (q752 :: q753)).bind fun q755 => some (q754 :: q755)).bind f__law_jobs).bind fun q756 => (some []).bind fun q757 => some (q756 :: q757)).bind f__law_runs).bind itD).bind fun q761 => compM (compB (.nm 8) (fun _ => some true) (fn1 fun v_run_758 => (((some v_run_758).bind fun q759 => (some []).bind fun q760 => some (q759 :: q760)).bind M.lenD))) q761).map D.lst).bind fun q762 => (some []).bind fun q763 => some (q762 :: q763)).bind maxD).bind fun v_due_764 => (iteM (((((((some v_stock_722).bind fun q767 => ((some v_some_750).bind fun q765 => (some []).bind fun q766 => some (q765 :: q766)).bind fun q768 => some (q767 :: q768)).bind U.P.f_fewest).bind fun q769 => (some []).bind fun q770 => some (q769 :: q770)).bind reprD).bind fun q773 => (((some v_due_764).bind fun q771 => (some []).bind fun q772 => some (q771 :: q772)).bind reprD).bind fun q774 => neD q773 q774).bind isBl) ((some (D.bl false)).map fun q775 => .rt q775 .non) (some (.nx ()))))))) q707))) ls777) q779 ()).bind (Fl.thn fun (j778 : Unit) => ((some (D.bl true)).map fun q780 => .rt q780 .non)))
noncomputable def f_law : List D → Option D := fV (fn1 c_law)
abbrev sp_law (K : PySem.W.Frag) (w : World) (tq : Tb) : Sp := mSp K w tq f_law
def t_law (K : PySem.W.Frag) (w : World) (tq : Tb) : TS := (tSeq (tFor (iRng1 (tCons (tCB (rMaxU K) (tCons (tC (.int 3)) (tCons (tCB (rMinU K) (tCons (tC (.int 8)) (tCons (tCB (rLenU K) (tCons (tVar 0) tNil)) tNil))) tNil))) tNil)) (gName 1) (tSeq (tAsg (tCall (sp__law_draw K w tq) [] C8.E0 (tCons (tVar 0) (tCons (tVar 1) tNil))) (gName 2)) (tSeq (tPar 3 4 (tCons (tOp (rIxU K w) (tLst (tCons (tC (.int 1)) (tCons (tC (.int 2)) (tCons (tC (.int 1)) (tCons (tC (.int 3)) (tCons (tC (.int 6)) (tCons (tC (.int 2)) tNil))))))) (tCall (sp__law_take K w tq) [] C8.E0 (tCons (tVar 2) (tCons (tC (.int 6)) tNil)))) (tCons (tOp (rIxU K w) (tLst (tCons (tC (.int 8)) (tCons (tC (.int 6)) (tCons (tC (.int 3)) (tCons (tC (.int 1)) (tCons (tC (.int 8)) (tCons (tC (.int 0)) tNil))))))) (tCall (sp__law_take K w tq) [] C8.E0 (tCons (tVar 2) (tCons (tC (.int 6)) tNil)))) tNil))) (tSeq (tAsg (tCall (sp__law_stock K w tq) [] C8.E0 (tCons (tVar 2) (tCons (tVar 3) (tCons (tVar 4) tNil)))) (gName 5)) (tSeq (tAsg (tCall (sp__law_list K w tq) [] C8.E0 (tCons (tVar 2) (tCons (tVar 5) (tCons (tOp (rIxU K w) (tLst (tCons (tC (.int 9)) (tCons (tC (.int 6)) tNil))) (tCall (sp__law_take K w tq) [] C8.E0 (tCons (tVar 2) (tCons (tC (.int 2)) tNil)))) tNil)))) (gName 6)) (tSeq (tAsg (tCB (rMaxU K) (tCons (tLc (iAny K (tCall (sp__law_runs K w tq) [] C8.E0 (tCons (tCall (sp__law_jobs K w tq) [] C8.E0 (tCons (tVar 5) (tCons (tVar 6) tNil))) tNil))) (gName 8) tYes (tCB (rLenU K) (tCons (tVar 8) tNil)) [8]) tNil)) (gName 7)) (tIfS (tTest (tOp (rEqU K true) (tCB (rRepr K) (tCons (tCall (U.P.sp_fewest K w tq) [] C8.E0 (tCons (tVar 5) (tCons (tVar 6) tNil))) tNil)) (tCB (rRepr K) (tCons (tVar 7) tNil)))) (tRet (tC (.bl false))) tNext))))))) (tRet (tC (.bl true))))
theorem ru_law {K : PySem.W.Frag} {w : World} {tq : Tb} (p_script : D) : RunsS K w tq false false (t_law K w tq) (vas [p_script] 9) (fun _ => [.no, .no, .no, .no, .no, .no, .no, .no, .no]) (fun l : Empty => nomatch l) (c_law p_script) := by
  unfold t_law c_law
  refine rs_cv (ρ' := [.va p_script, .no, .no, .no, .no, .no, .no, .no, .no]) rfl ?_
  exact (rs_seq (eM := (fun (s_ : Unit) => [.va p_script, .no, .no, .no, .no, .no, .no, .no, .no])) (rs_for (p := (.nm 1)) (eS := (fun (s_ : Unit) => [.va p_script, .no, .no, .no, .no, .no, .no, .no, .no])) (s0 := ()) (ri_rng1 (ra_cons (re_cb o_max (ra_cons re_int (ra_cons (re_cb o_min (ra_cons re_int (ra_cons (re_cb o_len (ra_cons (re_v rfl) ra_nil)) ra_nil))) ra_nil))) ra_nil)) (sub_cons ss_va (sub_cons ss_no (sub_cons ss_no (sub_cons ss_no (sub_cons ss_no (sub_cons ss_no (sub_cons ss_no (sub_cons ss_no (sub_cons ss_no sub_nil))))))))) (bnd_nm 1) (fun _ => rfl) (fun ls777 s646 => ls1 (fun v_k_647 => rs_cv (ρ' := [.va p_script, .va v_k_647, .no, .no, .no, .no, .no, .no, .no]) rfl (rs_asgN (rn_call (ra_cons (re_v rfl) (ra_cons (re_v rfl) ra_nil))) rfl (fun v_draw_652 => rs_cv (ρ' := [.va p_script, .va v_k_647, .ow false v_draw_652, .no, .no, .no, .no, .no, .no]) rfl (ys_parX (e := (fun (t_ : D) => [.va p_script, .va v_k_647, .ow false t_, .no, .no, .no, .no, .no, .no])) (by decide) (yxa_cons (yx_op o_ix (yx_lift (T := D) (e := (fun (t_ : D) => [.va p_script, .va v_k_647, .ow false t_, .no, .no, .no, .no, .no, .no])) (t := v_draw_652) (re_of_n (rn_lst (ra_cons re_int (ra_cons re_int (ra_cons re_int (ra_cons re_int (ra_cons re_int (ra_cons re_int ra_nil))))))))) (fun t666 => (yx_call (T := D) (e := (fun (t_ : D) => [.va p_script, .va v_k_647, .ow false t_, .no, .no, .no, .no, .no, .no])) (f := f__law_take) (i := 2) (fl := false) (st0 := (fun (t_ : D) => t_)) (put := (fun (_ d_ : D) => d_)) (fun _ => rfl) (fun _ _ => rfl) ⟨t666, rfl⟩ (yxa_cons (yx_lift (T := D) (e := (fun (t_ : D) => [.va p_script, .va v_k_647, .ow false t_, .no, .no, .no, .no, .no, .no])) (t := t666) re_int) (fun t668 => (yxa_nil (T := D) (e := (fun (t_ : D) => [.va p_script, .va v_k_647, .ow false t_, .no, .no, .no, .no, .no, .no])) (t := t668))))))) (fun t677 => (yxa_cons (yx_op o_ix (yx_lift (T := D) (e := (fun (t_ : D) => [.va p_script, .va v_k_647, .ow false t_, .no, .no, .no, .no, .no, .no])) (t := t677) (re_of_n (rn_lst (ra_cons re_int (ra_cons re_int (ra_cons re_int (ra_cons re_int (ra_cons re_int (ra_cons re_int ra_nil))))))))) (fun t691 => (yx_call (T := D) (e := (fun (t_ : D) => [.va p_script, .va v_k_647, .ow false t_, .no, .no, .no, .no, .no, .no])) (f := f__law_take) (i := 2) (fl := false) (st0 := (fun (t_ : D) => t_)) (put := (fun (_ d_ : D) => d_)) (fun _ => rfl) (fun _ _ => rfl) ⟨t691, rfl⟩ (yxa_cons (yx_lift (T := D) (e := (fun (t_ : D) => [.va p_script, .va v_k_647, .ow false t_, .no, .no, .no, .no, .no, .no])) (t := t691) re_int) (fun t693 => (yxa_nil (T := D) (e := (fun (t_ : D) => [.va p_script, .va v_k_647, .ow false t_, .no, .no, .no, .no, .no, .no])) (t := t693))))))) (fun t702 => (yxa_nil (T := D) (e := (fun (t_ : D) => [.va p_script, .va v_k_647, .ow false t_, .no, .no, .no, .no, .no, .no])) (t := t702)))))) (fun _ => rfl) (fun _ => rfl) (fun v_kinds_709 v_works_710 t708 => rs_cv (ρ' := [.va p_script, .va v_k_647, .ow false t708, .va v_kinds_709, .va v_works_710, .no, .no, .no, .no]) rfl (ys_asgX1 (e := (fun (t_ : D) => [.va p_script, .va v_k_647, .ow false t_, .va v_kinds_709, .va v_works_710, .no, .no, .no, .no])) (yx_call (T := D) (e := (fun (t_ : D) => [.va p_script, .va v_k_647, .ow false t_, .va v_kinds_709, .va v_works_710, .no, .no, .no, .no])) (f := f__law_stock) (i := 2) (fl := false) (st0 := (fun (t_ : D) => t_)) (put := (fun (_ d_ : D) => d_)) (fun _ => rfl) (fun _ _ => rfl) ⟨t708, rfl⟩ (yxa_cons (yx_lift (T := D) (e := (fun (t_ : D) => [.va p_script, .va v_k_647, .ow false t_, .va v_kinds_709, .va v_works_710, .no, .no, .no, .no])) (t := t708) (re_v rfl)) (fun t712 => (yxa_cons (yx_lift (T := D) (e := (fun (t_ : D) => [.va p_script, .va v_k_647, .ow false t_, .va v_kinds_709, .va v_works_710, .no, .no, .no, .no])) (t := t712) (re_v rfl)) (fun t714 => (yxa_nil (T := D) (e := (fun (t_ : D) => [.va p_script, .va v_k_647, .ow false t_, .va v_kinds_709, .va v_works_710, .no, .no, .no, .no])) (t := t714))))))) (fun _ => rfl) (fun v_stock_722 t723 => rs_cv (ρ' := [.va p_script, .va v_k_647, .ow false t723, .va v_kinds_709, .va v_works_710, .va v_stock_722, .no, .no, .no]) rfl (ys_asgX1 (e := (fun (t_ : D) => [.va p_script, .va v_k_647, .ow false t_, .va v_kinds_709, .va v_works_710, .va v_stock_722, .no, .no, .no])) (yx_call (T := D) (e := (fun (t_ : D) => [.va p_script, .va v_k_647, .ow false t_, .va v_kinds_709, .va v_works_710, .va v_stock_722, .no, .no, .no])) (f := f__law_list) (i := 2) (fl := false) (st0 := (fun (t_ : D) => t_)) (put := (fun (_ d_ : D) => d_)) (fun _ => rfl) (fun _ _ => rfl) ⟨t723, rfl⟩ (yxa_cons (yx_lift (T := D) (e := (fun (t_ : D) => [.va p_script, .va v_k_647, .ow false t_, .va v_kinds_709, .va v_works_710, .va v_stock_722, .no, .no, .no])) (t := t723) (re_v rfl)) (fun t725 => (yxa_cons (yx_op o_ix (yx_lift (T := D) (e := (fun (t_ : D) => [.va p_script, .va v_k_647, .ow false t_, .va v_kinds_709, .va v_works_710, .va v_stock_722, .no, .no, .no])) (t := t725) (re_of_n (rn_lst (ra_cons re_int (ra_cons re_int ra_nil))))) (fun t731 => (yx_call (T := D) (e := (fun (t_ : D) => [.va p_script, .va v_k_647, .ow false t_, .va v_kinds_709, .va v_works_710, .va v_stock_722, .no, .no, .no])) (f := f__law_take) (i := 2) (fl := false) (st0 := (fun (t_ : D) => t_)) (put := (fun (_ d_ : D) => d_)) (fun _ => rfl) (fun _ _ => rfl) ⟨t731, rfl⟩ (yxa_cons (yx_lift (T := D) (e := (fun (t_ : D) => [.va p_script, .va v_k_647, .ow false t_, .va v_kinds_709, .va v_works_710, .va v_stock_722, .no, .no, .no])) (t := t731) re_int) (fun t733 => (yxa_nil (T := D) (e := (fun (t_ : D) => [.va p_script, .va v_k_647, .ow false t_, .va v_kinds_709, .va v_works_710, .va v_stock_722, .no, .no, .no])) (t := t733))))))) (fun t742 => (yxa_nil (T := D) (e := (fun (t_ : D) => [.va p_script, .va v_k_647, .ow false t_, .va v_kinds_709, .va v_works_710, .va v_stock_722, .no, .no, .no])) (t := t742))))))) (fun _ => rfl) (fun v_some_750 t751 => rs_cv (ρ' := [.va p_script, .va v_k_647, .ow false t751, .va v_kinds_709, .va v_works_710, .va v_stock_722, .va v_some_750, .no, .no]) rfl (rs_asg1 (re_cb o_max (ra_cons (re_of_n (rn_lc (p := (.nm 8)) (ri_any (re_call (ra_cons (re_call (ra_cons (re_v rfl) (ra_cons (re_v rfl) ra_nil))) ra_nil))) (bnd_nm 8) rfl (by decide) rfl lyes (le1 fun v_run_758 => (re_cb o_len (ra_cons (re_v rfl) ra_nil))))) ra_nil)) rfl (fun v_due_764 => rs_cv (ρ' := [.va p_script, .va v_k_647, .ow false t751, .va v_kinds_709, .va v_works_710, .va v_stock_722, .va v_some_750, .va v_due_764, .no]) rfl (rs_last (rs_ifR (rt_test (re_op o_ne (re_cb o_repr (ra_cons (re_call (ra_cons (re_v rfl) (ra_cons (re_v rfl) ra_nil))) ra_nil)) (re_cb o_repr (ra_cons (re_v rfl) ra_nil)))) (rs_dead (rs_sub (ρ' := [.va p_script, .va v_k_647, .va t751, .va v_kinds_709, .va v_works_710, .va v_stock_722, .va v_some_750, .va v_due_764, .no]) (sub_cons ss_va (sub_cons ss_va (sub_cons ss_fr (sub_cons ss_va (sub_cons ss_va (sub_cons ss_va (sub_cons ss_va (sub_cons ss_va (sub_cons ss_no sub_nil))))))))) (rs_ret re_bl))) (rs_skip (rs_next (n := ()) (sub_cons ss_va (sub_cons ss_no (sub_cons ss_no (sub_cons ss_no (sub_cons ss_no (sub_cons ss_no (sub_cons ss_no (sub_cons ss_no (sub_cons ss_no sub_nil)))))))))))))))))))))))) ls777)) (fun j778 => rs_cv (ρ' := [.va p_script, .no, .no, .no, .no, .no, .no, .no, .no]) rfl (rs_ret re_bl)))
theorem rd_law {K : PySem.W.Frag} {w : World} {tq : Tb} {vs : List V} {H : Hp} {Q : VK} {E : XK} (h : sp_law K w tq vs H Q E) : t_law K w tq { nx := fun _ H' => Q .non H', rt := Q } (start ["script", "k", "draw", "kinds", "works", "stock", "some", "due", "run"] vs) H :=
  go_val (N := ["script", "k", "draw", "kinds", "works", "stock", "some", "due", "run"]) (fun ds fl h => len_v1 h) (la1 (fun a0 => ru_law a0)) h
theorem len_law {K : PySem.W.Frag} {w : World} {tq : Tb} {vs : List V} {H : Hp} {Q : VK} {E : XK} (h : sp_law K w tq vs H Q E) : vs.length = 1 := lv_1 h
end U.A35
end
section
set_option Elab.async false
set_option linter.all false
set_option maxRecDepth 100000
set_option maxHeartbeats 4000000
namespace M
open PySem L2
section
variable {α β N L S : Type}
@[simp] theorem iteM_t {a b : Option α} : iteM (some true) a b = a := rfl
@[simp] theorem iteM_f {a b : Option α} : iteM (some false) a b = b := rfl
theorem iteM_b {c : Bool} {a b : Option α} : iteM (some c) a b = if c = true then a else b := by cases c <;> rfl
@[simp] theorem andM_t {b : Option Bool} : M.andM (some true) b = b := rfl
@[simp] theorem andM_f {b : Option Bool} : M.andM (some false) b = some false := rfl
@[simp] theorem orM_t {b : Option Bool} : M.orM (some true) b = some true := rfl
@[simp] theorem orM_f {b : Option Bool} : M.orM (some false) b = b := rfl
@[simp] theorem andV_t {b : Option D} : andV (some (.bl true)) b = b := rfl
@[simp] theorem andV_f {b : Option D} : andV (some (.bl false)) b = some (.bl false) := rfl
@[simp] theorem orV_t {b : Option D} : orV (some (.bl true)) b = some (.bl true) := rfl
@[simp] theorem orV_f {b : Option D} : orV (some (.bl false)) b = b := rfl
theorem andV_b {c : Bool} {b : Option D} : andV (some (.bl c)) b = if c = true then b else some (.bl false) := by cases c <;> rfl
theorem orV_b {c : Bool} {b : Option D} : orV (some (.bl c)) b = if c = true then some (.bl true) else b := by cases c <;> rfl
@[simp] theorem isBl_bl {b : Bool} : isBl (.bl b) = some b := rfl
@[simp] theorem isInt_int {b : Int} : isInt (.int b) = some b := rfl
@[simp] theorem tru_bl {b : Bool} : tru (.bl b) = some b := rfl
@[simp] theorem tru_int {b : Int} : tru (.int b) = some (b != 0) := rfl
@[simp] theorem tru_lst {b : List D} : tru (.lst b) = some (!b.isEmpty) := rfl
@[simp] theorem tru_tup {b : List D} : tru (.tup b) = some (!b.isEmpty) := rfl
theorem szG_eq {ds : List D} (h : ds.length ≤ 1000000) : szG ds = some ds := if_pos h
@[simp] theorem szG0 : szG [] = some [] := rfl
@[simp] theorem szG1 {a : D} : szG [a] = some [a] := rfl
@[simp] theorem szG2 {a b : D} : szG [a, b] = some [a, b] := rfl
@[simp] theorem szG3 {a b c : D} : szG [a, b, c] = some [a, b, c] := rfl
@[simp] theorem szG4 {a b c d : D} : szG [a, b, c, d] = some [a, b, c, d] := rfl
@[simp] theorem szG5 {a b c d e : D} : szG [a, b, c, d, e] = some [a, b, c, d, e] := rfl
@[simp] theorem szG6 {a b c d e f : D} : szG [a, b, c, d, e, f] = some [a, b, c, d, e, f] := rfl
@[simp] theorem szG7 {a b c d e f g : D} : szG [a, b, c, d, e, f, g] = some [a, b, c, d, e, f, g] := rfl
@[simp] theorem szG8 {a b c d e f g h : D} : szG [a, b, c, d, e, f, g, h] = some [a, b, c, d, e, f, g, h] := rfl
theorem itG_eq {ds : List D} (h : ds.length < 1000000) : itG ds = some ds := if_pos h
@[simp] theorem fn0_e {f : Option α} : fn0 f [] = f := rfl
@[simp] theorem fn1_e {f : D → Option α} {a : D} : fn1 f [a] = f a := rfl
@[simp] theorem fn2_e {f : D → D → Option α} {a b : D} : fn2 f [a, b] = f a b := rfl
@[simp] theorem fn3_e {f : D → D → D → Option α} {a b c : D} : fn3 f [a, b, c] = f a b c := rfl
@[simp] theorem fn4_e {f : D → D → D → D → Option α} {a b c d : D} : fn4 f [a, b, c, d] = f a b c d := rfl
@[simp] theorem fn5_e {f : D → D → D → D → D → Option α} {a b c d e : D} : fn5 f [a, b, c, d, e] = f a b c d e := rfl
@[simp] theorem un_nm {i : Nat} {d : D} : un (.nm i) d = some [d] := by simp [un]
@[simp] theorem un_tp {ps : List Pt} {ds : List D} : un (.tp ps) (.tup ds) = uns ps ds := by simp [un]
@[simp] theorem un_pr {ps : List Pt} {ds : List D} : un (.tp ps) (.pr ds) = uns ps ds := by simp [un]
@[simp] theorem uns_nil : uns [] [] = some [] := by simp [uns]
@[simp] theorem uns_cons {p : Pt} {ps : List Pt} {d : D} {ds : List D} : uns (p :: ps) (d :: ds) = (un p d).bind fun a => (uns ps ds).bind fun b => some (a ++ b) := by simp [uns]
@[simp] theorem fV_e {c : List D → Option (Fl Unit Empty)} {ds : List D} : fV c ds = (c ds).map fin := rfl
@[simp] theorem fN_e {c : List D → Option (Fl Empty Empty)} {ds : List D} : fN c ds = (c ds).map fin := rfl
@[simp] theorem fX_e {c : D → List D → Option (Fl D Empty)} {s : D} {ds : List D} : fX c (s :: ds) = (c s ds).bind rtX := rfl
@[simp] theorem fin_rt {d e : D} : fin (.rt d e : Fl N L) = d := rfl
@[simp] theorem fin_nx {n : N} : fin (.nx n : Fl N L) = .non := rfl
@[simp] theorem rtX_rt {d e : D} : rtX (.rt d e) = some (d, e) := rfl
@[simp] theorem rtX_nx {n : D} : rtX (.nx n) = some (.non, n) := rfl
@[simp] theorem thn_nx {A : Type} {k : A → Option (Fl N L)} {a : A} : Fl.thn k (.nx a) = k a := rfl
@[simp] theorem thn_rt {A : Type} {k : A → Option (Fl N L)} {d e : D} : Fl.thn k (.rt d e) = some (.rt d e) := rfl
@[simp] theorem forM_nil {f : D → S → Option (Fl S S)} {s : S} : (M.forM f [] s : Option (Fl S L)) = some (.nx s) := rfl
theorem forM_cons {f : D → S → Option (Fl S S)} {x : D} {xs : List D} {s : S} : (M.forM f (x :: xs) s : Option (Fl S L)) = (f x s).bind (loopR (M.forM f xs)) := rfl
@[simp] theorem loopR_nx {k : S → Option (Fl S L)} {s : S} : loopR k (.nx s) = k s := rfl
@[simp] theorem loopR_ct {k : S → Option (Fl S L)} {s : S} : loopR k (.ct s) = k s := rfl
@[simp] theorem loopR_bk {k : S → Option (Fl S L)} {s : S} : loopR k (.bk s) = some (.nx s) := rfl
@[simp] theorem loopR_rt {k : S → Option (Fl S L)} {d e : D} : loopR k (.rt d e) = some (.rt d e) := rfl
end
section
variable {S L : Type}
/-- by an invariant -/
theorem forM_inv {f : D → S → Option (Fl S S)} (I : Nat → S → Prop) : ∀ (xs : List D) (n : Nat) (s : S), I n s → (∀ (i : Nat) (x : D) (s : S), xs[i]? = some x → I (n + i) s → ∃ s', f x s = some (.nx s') ∧ I (n + i + 1) s') →
    ∃ s', (M.forM f xs s : Option (Fl S L)) = some (.nx s') ∧ I (n + xs.length) s'
  | [], n, s, h, _ => ⟨s, rfl, h⟩
  | x :: xs, n, s, h, st => by
    obtain ⟨s1, h1, h2⟩ := st 0 x s rfl h
    obtain ⟨s2, g1, g2⟩ := forM_inv I xs (n + 1) s1 h2 fun i y t hy ht => by
      have := st (i + 1) y t (by simpa using hy) (by rw [show n + (i + 1) = n + 1 + i by omega]; exact ht)
      rw [show n + (i + 1) + 1 = n + 1 + i + 1 by omega] at this
      exact this
    refine ⟨s2, ?_, by rw [List.length_cons, show n + (xs.length + 1) = n + 1 + xs.length by omega]; exact g2⟩
    rw [forM_cons, h1]
    exact g1
theorem forM_use {β : Type} {f : D → S → Option (Fl S S)} {xs : List D} {s0 : S} {K : Fl S L → Option β} {r : Option β} (I : Nat → S → Prop) (h0 : I 0 s0) (step : ∀ (i : Nat) (x : D) (s : S), xs[i]? = some x → I i s → ∃ s', f x s = some (.nx s') ∧ I (i + 1) s') (last : ∀ s', I xs.length s' → K (.nx s') = r) : (M.forM f xs s0).bind K = r := by
  obtain ⟨s', h1, h2⟩ := forM_inv (L := L) I xs 0 s0 h0 fun i x s hx hs => by rw [Nat.zero_add] at hs ⊢; exact step i x s hx hs
  rw [h1]
  exact last s' (by rwa [Nat.zero_add] at h2)
/-- a fold -/
theorem forM_fold {α : Type} {f : D → S → Option (Fl S S)} {g : α → D} {h : S → α → S} : ∀ (l : List α) (s : S), (∀ x ∈ l, ∀ s, f (g x) s = some (.nx (h s x))) → (M.forM f (l.map g) s : Option (Fl S L)) = some (.nx (l.foldl h s))
  | [], s, _ => rfl
  | x :: l, s, st => by
    rw [List.map_cons, forM_cons, st x (List.mem_cons_self ..) s]
    exact forM_fold l _ fun y hy => st y (List.mem_cons_of_mem _ hy)
/-- a search: the first one is handed back -/
theorem forM_find {α : Type} {f : D → S → Option (Fl S S)} {g : α → D} {p : α → Bool} {r : α → D} {s : S} : ∀ (l : List α), (∀ x ∈ l, f (g x) s = if p x = true then some (.rt (r x) .non) else some (.nx s)) →
    (M.forM f (l.map g) s : Option (Fl S L)) = match l.find? p with | some x => some (.rt (r x) .non) | none => some (.nx s)
  | [], _ => rfl
  | x :: l, st => by
    rw [List.map_cons, forM_cons, st x (List.mem_cons_self ..), List.find?_cons]
    cases hp : p x with
    | true => rfl
    | false =>
      simp only [Bool.false_eq_true, if_false, Option.bind_some, loopR_nx]
      exact forM_find l fun y hy => st y (List.mem_cons_of_mem _ hy)
/-- each is let by -/
theorem forM_skip {f : D → S → Option (Fl S S)} {s : S} : ∀ (xs : List D), (∀ x ∈ xs, f x s = some (.nx s)) → (M.forM f xs s : Option (Fl S L)) = some (.nx s)
  | [], _ => rfl
  | x :: xs, st => by
    rw [forM_cons, st x (List.mem_cons_self ..)]
    exact forM_skip xs fun y hy => st y (List.mem_cons_of_mem _ hy)
theorem compM_map {α : Type} {f : D → Option (Option D)} {g : α → D} {h : α → D} : ∀ (l : List α), (∀ x ∈ l, f (g x) = some (some (h x))) → compM f (l.map g) = some (l.map h)
  | [], _ => rfl
  | x :: l, st => by
    rw [List.map_cons, compM, st x (List.mem_cons_self ..), compM_map l fun y hy => st y (List.mem_cons_of_mem _ hy)]; rfl
theorem compM_filter {α : Type} {f : D → Option (Option D)} {g : α → D} {p : α → Bool} {h : α → D} : ∀ (l : List α), (∀ x ∈ l, f (g x) = some (if p x = true then some (h x) else none)) → compM f (l.map g) = some ((l.filter p).map h)
  | [], _ => rfl
  | x :: l, st => by
    rw [List.map_cons, compM, st x (List.mem_cons_self ..), compM_filter l fun y hy => st y (List.mem_cons_of_mem _ hy), List.filter_cons]
    cases p x <;> rfl
theorem compM_id {f : D → Option (Option D)} {h : D → D} (l : List D) (st : ∀ x ∈ l, f x = some (some (h x))) : compM f l = some (l.map h) := by
  have := compM_map (f := f) (g := id) (h := h) l st
  rwa [List.map_id] at this
end
theorem compB_eq {p : Pt} {ct : List D → Option Bool} {ce : List D → Option D} {x : D} : compB p ct ce x = (un p x).bind fun ls => (ct ls).bind fun b => if b = true then (ce ls).map some else some none := rfl
theorem atI_nat {α : Type} {xs : List α} {j : Nat} : atI xs (j : Int) = xs[j]? := by
  unfold atI ixN
  have h0 : (0 : Int) ≤ (j : Nat) := Int.natCast_nonneg j
  rw [if_pos h0]
  by_cases h : (j : Int) < xs.length
  · rw [if_pos h]
    simp
  · rw [if_neg h]
    have : xs.length ≤ j := by omega
    rw [List.getElem?_eq_none this]; rfl
theorem ixD_tupN {xs : List D} {j : Nat} : ixD (.tup xs) (.int (j : Nat)) = xs[j]? := atI_nat
theorem ixD_lstN {xs : List D} {j : Nat} : ixD (.lst xs) (.int (j : Nat)) = xs[j]? := atI_nat
theorem ixD_scrN {xs : List D} {j : Nat} : ixD (.scr xs) (.int (j : Nat)) = xs[j]? := atI_nat
section
variable {a b c d e f g h : D} {r : List D}
@[simp] theorem ixT0 : ixD (.tup (a :: r)) (.int 0) = some a := ixD_tupN (j := 0)
@[simp] theorem ixT1 : ixD (.tup (a :: b :: r)) (.int 1) = some b := ixD_tupN (j := 1)
@[simp] theorem ixT2 : ixD (.tup (a :: b :: c :: r)) (.int 2) = some c := ixD_tupN (j := 2)
@[simp] theorem ixT3 : ixD (.tup (a :: b :: c :: d :: r)) (.int 3) = some d := ixD_tupN (j := 3)
@[simp] theorem ixT4 : ixD (.tup (a :: b :: c :: d :: e :: r)) (.int 4) = some e := ixD_tupN (j := 4)
@[simp] theorem ixT5 : ixD (.tup (a :: b :: c :: d :: e :: f :: r)) (.int 5) = some f := ixD_tupN (j := 5)
@[simp] theorem ixT6 : ixD (.tup (a :: b :: c :: d :: e :: f :: g :: r)) (.int 6) = some g := ixD_tupN (j := 6)
@[simp] theorem ixT7 : ixD (.tup (a :: b :: c :: d :: e :: f :: g :: h :: r)) (.int 7) = some h := ixD_tupN (j := 7)
@[simp] theorem ixL0 : ixD (.lst (a :: r)) (.int 0) = some a := ixD_lstN (j := 0)
@[simp] theorem ixL1 : ixD (.lst (a :: b :: r)) (.int 1) = some b := ixD_lstN (j := 1)
@[simp] theorem ixL2 : ixD (.lst (a :: b :: c :: r)) (.int 2) = some c := ixD_lstN (j := 2)
@[simp] theorem ixL3 : ixD (.lst (a :: b :: c :: d :: r)) (.int 3) = some d := ixD_lstN (j := 3)
@[simp] theorem ixL4 : ixD (.lst (a :: b :: c :: d :: e :: r)) (.int 4) = some e := ixD_lstN (j := 4)
@[simp] theorem ixL5 : ixD (.lst (a :: b :: c :: d :: e :: f :: r)) (.int 5) = some f := ixD_lstN (j := 5)
@[simp] theorem ixL6 : ixD (.lst (a :: b :: c :: d :: e :: f :: g :: r)) (.int 6) = some g := ixD_lstN (j := 6)
@[simp] theorem ixL7 : ixD (.lst (a :: b :: c :: d :: e :: f :: g :: h :: r)) (.int 7) = some h := ixD_lstN (j := 7)
end
@[simp] theorem addD_int {a b : Int} : addD (.int a) (.int b) = some (.int (a + b)) := rfl
@[simp] theorem subD_int {a b : Int} : subD (.int a) (.int b) = some (.int (a - b)) := rfl
@[simp] theorem negD_int {a : Int} : negD (.int a) = some (.int (-a)) := rfl
@[simp] theorem ltD_int {a b : Int} : ltD (.int a) (.int b) = some (.bl (decide (a < b))) := rfl
@[simp] theorem leD_int {a b : Int} : leD (.int a) (.int b) = some (.bl (decide (a ≤ b))) := rfl
@[simp] theorem gtD_int {a b : Int} : gtD (.int a) (.int b) = some (.bl (decide (b < a))) := rfl
@[simp] theorem geD_int {a b : Int} : geD (.int a) (.int b) = some (.bl (decide (b ≤ a))) := rfl
@[simp] theorem eqD_int {a b : Int} : eqD (.int a) (.int b) = some (.bl (decide (a = b))) := rfl
@[simp] theorem neD_int {a b : Int} : neD (.int a) (.int b) = some (.bl (!decide (a = b))) := rfl
@[simp] theorem eqD_str {a b : Str} : eqD (.str a) (.str b) = some (.bl (decide (a = b))) := rfl
@[simp] theorem neD_str {a b : Str} : neD (.str a) (.str b) = some (.bl (!decide (a = b))) := rfl
@[simp] theorem lenD_lst {xs : List D} : M.lenD [.lst xs] = some (.int (xs.length : Nat)) := rfl
@[simp] theorem lenD_tup {xs : List D} : M.lenD [.tup xs] = some (.int (xs.length : Nat)) := rfl
@[simp] theorem lenD_scr {xs : List D} : M.lenD [.scr xs] = some (.int (xs.length : Nat)) := rfl
theorem lenD_str {s : Str} (h : s.length ≤ 1000000) : M.lenD [.str s] = some (.int (s.length : Nat)) := if_pos h
@[simp] theorem minD_2 {a b : Int} : minD [.int a, .int b] = some (.int (min a b)) := rfl
@[simp] theorem maxD_2 {a b : Int} : maxD [.int a, .int b] = some (.int (max a b)) := rfl
@[simp] theorem tupOfD_lst {xs : List D} : tupOfD [.lst xs] = some (.tup xs) := rfl
@[simp] theorem int1D_int {b : Int} : int1D [.int b] = some (.int b) := rfl
@[simp] theorem int1D_bl {b : Bool} : int1D [.bl b] = some (.int (if b then 1 else 0)) := rfl
@[simp] theorem seqOf_lst {xs : List D} : seqOf (.lst xs) = some xs := rfl
@[simp] theorem seqOf_tup {xs : List D} : seqOf (.tup xs) = some xs := rfl
@[simp] theorem seqOf_scr {xs : List D} : seqOf (.scr xs) = some xs := rfl
theorem itD_lst {xs : List D} (h : xs.length < 1000000) : itD (.lst xs) = some xs := itG_eq h
theorem itD_tup {xs : List D} (h : xs.length < 1000000) : itD (.tup xs) = some xs := itG_eq h
theorem itD_scr {xs : List D} (h : xs.length < 1000000) : itD (.scr xs) = some xs := itG_eq h
theorem enD_map (n : Nat) (xs : List D) : enD n xs = (List.range xs.length).map fun i => .pr [.int ((n + i : Nat) : Int), xs.getD i .non] := by
  apply List.ext_getElem?
  intro i
  rw [enD_at, List.getElem?_map]
  by_cases h : i < xs.length
  · rw [List.getElem?_eq_getElem h, List.getElem?_range h]
    simp [List.getD, List.getElem?_eq_getElem h]
  · rw [List.getElem?_eq_none (by omega), List.getElem?_eq_none (by rw [List.length_range]; omega)]; rfl
theorem enumD_lst {xs : List D} (h : xs.length < 1000000) : enumD [.lst xs] = some (enD 0 xs) := by
  show ((seqOf (.lst xs)).bind itG).map (enD 0) = _
  rw [seqOf_lst, Option.bind_some, itG_eq h]; rfl
theorem enumD_tup {xs : List D} (h : xs.length < 1000000) : enumD [.tup xs] = some (enD 0 xs) := by
  show ((seqOf (.tup xs)).bind itG).map (enD 0) = _
  rw [seqOf_tup, Option.bind_some, itG_eq h]; rfl
theorem rngD_nat {n : Nat} : rngD 0 n = (List.range n).map fun i => .int (i : Nat) := by
  unfold rngD
  apply List.map_congr_left
  intro i _
  rw [Int.zero_add]
theorem rg1_nat {n : Nat} (h : n < 1000000) : rg1 [.int (n : Nat)] = some ((List.range n).map fun i => .int (i : Nat)) := by
  unfold rg1
  rw [fn1_e, isInt_int, Option.bind_some, if_pos ⟨by omega, by omega⟩, Int.toNat_natCast, rngD_nat]
@[simp] theorem isTy_str_str {n : Bool} {s : Str} : isTyD "str" n (.str s) = some (.bl (!n)) := by cases n <;> rfl
@[simp] theorem isTy_int_int {n : Bool} {s : Int} : isTyD "int" n (.int s) = some (.bl (!n)) := by cases n <;> rfl
@[simp] theorem isTy_tup_tup {n : Bool} {s : List D} : isTyD "tuple" n (.tup s) = some (.bl (!n)) := by cases n <;> rfl
@[simp] theorem isNonD_non : isNonD .non = true := rfl
@[simp] theorem isNonD_tup {xs : List D} : isNonD (.tup xs) = false := rfl
@[simp] theorem isNonD_str {xs : Str} : isNonD (.str xs) = false := rfl
@[simp] theorem isNonD_int {xs : Int} : isNonD (.int xs) = false := rfl
theorem blsD_map {α : Type} {f : α → Bool} : ∀ (l : List α), blsD (l.map fun x => D.bl (f x)) = some (l.map f)
  | [] => rfl
  | x :: l => by rw [List.map_cons, blsD, blsD_map l]; rfl
theorem allD_map {α : Type} {f : α → Bool} {l : List α} : allD [.lst (l.map fun x => D.bl (f x))] = some (.bl (l.all f)) := by
  show (blsD _).map _ = _
  rw [blsD_map]
  simp [List.all_map]
theorem anyD_map {α : Type} {f : α → Bool} {l : List α} : anyD [.lst (l.map fun x => D.bl (f x))] = some (.bl (l.any f)) := by
  show (blsD _).map _ = _
  rw [blsD_map]
  simp [List.any_map]
@[simp] theorem noLG_int {i : Int} : noLG (.int i) = some (.int i) := rfl
@[simp] theorem noLG_str {i : Str} : noLG (.str i) = some (.str i) := rfl
@[simp] theorem noLG_bl {i : Bool} : noLG (.bl i) = some (.bl i) := rfl
@[simp] theorem noLG_non : noLG .non = some .non := rfl
end M
end
section
set_option Elab.async false
set_option linter.all false
set_option maxRecDepth 100000
set_option maxHeartbeats 4000000
namespace U.P
open PySem L2 M
theorem is_number_int (i n : Int) : f_is_number [.int i, .int n] = some (.bl (decide (0 ≤ i ∧ i ≤ n))) := by
  simp only [f_is_number, c_is_number, fV_e, fn2_e, Option.bind_some, isTy_int_int, andV_b, leD_int, isBl_bl]
  by_cases h : 0 ≤ i <;> simp [h]
theorem is_size_int (i : Int) : f_is_size [.int i] = some (.bl (decide (0 ≤ i ∧ i ≤ 99))) := by
  simp only [f_is_size, c_is_size, fV_e, fn1_e, Option.bind_some, is_number_int]
  rfl
theorem is_row_tup (xs : List D) (n : Nat) : f_is_row [.tup xs, .int (n : Nat)] = some (.bl (decide (xs.length = n))) := by
  simp only [f_is_row, c_is_row, fV_e, fn2_e, Option.bind_some, isTy_tup_tup, andV_b, lenD_tup, eqD_int]
  simp
  omega
/-- it, or None -/
def fdD {α : Type} (g : α → D) : Option α → D
  | some x => g x
  | none => .non
@[simp] theorem fdD_some {α : Type} {g : α → D} {x : α} : fdD g (some x) = g x := rfl
@[simp] theorem fdD_none {α : Type} {g : α → D} : fdD g none = .non := rfl
theorem named_eq {α : Type} (g : α → D) (nm : α → Str) (hg : ∀ x, ∃ r, g x = .tup (.str (nm x) :: r)) (l : List α) (s : Str) (hl : l.length < 1000000) (ds : D) (hd : ds = .tup (l.map g) ∨ ds = .lst (l.map g)) :
    f_named [ds, .str s] = some (fdD g (l.find? (fun x => decide (nm x = s)))) := by
  have hi : itD ds = some (l.map g) := by rcases hd with rfl | rfl <;> first | exact itD_tup (by simpa using hl) | exact itD_lst (by simpa using hl)
  simp only [f_named, c_named, fV_e, fn2_e, Option.bind_some, isTy_str_str, isBl_bl, iteM_f, hi, Bool.not_true]
  rw [forM_find (g := g) (p := fun x => decide (nm x = s)) (r := g)]
  · cases h : l.find? (fun x => decide (nm x = s)) with
    | some x => simp [h]
    | none => simp [h]
  · intro x _
    obtain ⟨r, hr⟩ := hg x
    rw [hr]
    by_cases e : nm x = s <;> simp [e]
/-- a name -/
def Nm (s : Str) : Prop := 1 ≤ s.cps.toList.length ∧ s.cps.toList.length ≤ 8 ∧ ∀ c ∈ s.cps.toList, 97 ≤ c ∧ c ≤ 122
theorem sgn_str (s : Str) : sgn s = s.cps.toList.map fun c => .str ⟨#[c]⟩ := rfl
theorem leD_sign (a b : Nat) : leD (.str ⟨#[a]⟩) (.str ⟨#[b]⟩) = some (.bl (decide (a ≤ b))) := by
  show some (D.bl (!decide ([b] < [a]))) = _
  congr 2
  by_cases h : a ≤ b
  · rw [decide_eq_true h]
    have : ¬ ([b] < [a]) := by
      intro z
      rcases List.cons_lt_cons_iff.mp z with z | ⟨_, z⟩
      · omega
      · cases z
    rw [decide_eq_false this]; rfl
  · rw [decide_eq_false h]
    have : [b] < [a] := List.cons_lt_cons_iff.mpr (.inl (by omega))
    rw [decide_eq_true this]; rfl
theorem is_name_ok {s : Str} (h : Nm s) : f_is_name [.str s] = some (.bl true) := by
  obtain ⟨h1, h8, hc⟩ := h
  have hl : s.length = s.cps.toList.length := by show s.cps.size = _; exact Array.length_toList.symm
  have hi : itD (.str s) = some (s.cps.toList.map fun c => .str ⟨#[c]⟩) := itG_eq (by rw [sgn_str, List.length_map]; omega)
  have e1 : (1 : Int) ≤ (s.length : Nat) := by omega
  have e2 : ((s.length : Nat) : Int) ≤ 8 := by omega
  simp only [f_is_name, c_is_name, fV_e, fn1_e, Option.bind_some, isTy_str_str, Bool.not_true, isBl_bl, orM_f, lenD_str (show s.length ≤ 1000000 by omega), leD_int, e1, e2, decide_true, if_true, Option.map_some, iteM_f, hi, Option.bind_eq_bind]
  rw [compM_map (h := fun _ => .bl true)]
  · simp only [Option.map_some, Option.bind_some]
    rw [allD_map (f := fun _ => true)]
    simp
  · intro c hc'
    obtain ⟨q1, q2⟩ := hc c hc'
    have a1 : leD (.str "a") (.str ⟨#[c]⟩) = some (.bl true) := by
      rw [show (("a" : Str)) = ⟨#[97]⟩ from rfl, leD_sign]; simp [q1]
    have a2 : leD (.str ⟨#[c]⟩) (.str "z") = some (.bl true) := by
      rw [show (("z" : Str)) = ⟨#[122]⟩ from rfl, leD_sign]; simp [q2]
    simp [compB_eq, a1, a2]
structure Stk where
  kinds : List (Str × Int)
  boxes : List Str
  tools : List (Str × Str × Int × Str)
  hands : List (Str × Str)
  sets : List (Str × List Str)
  gauges : List (Str × Str × Int × Int)
  works : List (Str × Str × Int × Int)
  keeps : List (Str × Str)
def kD (k : Str × Int) : D := .tup [.str k.1, .int k.2]
def tD (t : Str × Str × Int × Str) : D := .tup [.str t.1, .str t.2.1, .int t.2.2.1, .str t.2.2.2]
def hD (h : Str × Str) : D := .tup [.str h.1, .str h.2]
def sD (s : Str × List Str) : D := .tup [.str s.1, .tup (s.2.map .str)]
def wD (r : Str × Str × Int × Int) : D := .tup [.str r.1, .str r.2.1, .int r.2.2.1, .int r.2.2.2]
def Stk.parts (S : Stk) : List (List D) := [S.kinds.map kD, S.boxes.map .str, S.tools.map tD, S.hands.map hD, S.sets.map sD, S.gauges.map wD, S.works.map wD, S.keeps.map hD]
def Stk.T (S : Stk) : D := .tup (S.parts.map .tup)
def Stk.A (S : Stk) : D := .lst (S.parts.map .lst)
theorem Stk.T_eq (S : Stk) : S.T = .tup [.tup (S.kinds.map kD), .tup (S.boxes.map .str), .tup (S.tools.map tD), .tup (S.hands.map hD), .tup (S.sets.map sD), .tup (S.gauges.map wD), .tup (S.works.map wD), .tup (S.keeps.map hD)] := rfl
theorem Stk.A_eq (S : Stk) : S.A = .lst [.lst (S.kinds.map kD), .lst (S.boxes.map .str), .lst (S.tools.map tD), .lst (S.hands.map hD), .lst (S.sets.map sD), .lst (S.gauges.map wD), .lst (S.works.map wD), .lst (S.keeps.map hD)] := rfl
/-- no list too long -/
structure Stk.Sm (S : Stk) : Prop where
  k : S.kinds.length < 1000
  b : S.boxes.length < 1000
  t : S.tools.length < 1000
  h : S.hands.length < 1000
  s : S.sets.length < 1000
  g : S.gauges.length < 1000
  w : S.works.length < 1000
  p : S.keeps.length < 1000
section
variable {l : List (Str × Int)} {lt : List (Str × Str × Int × Str)} {lh : List (Str × Str)} {ls : List (Str × List Str)} {lw : List (Str × Str × Int × Int)} {ds : D} {s : Str}
theorem named_k (hl : l.length < 1000) (hd : ds = .tup (l.map kD) ∨ ds = .lst (l.map kD)) : f_named [ds, .str s] = some (fdD kD (l.find? (fun x => decide (x.1 = s)))) := named_eq kD (·.1) (fun _ => ⟨_, rfl⟩) l s (by omega) ds hd
theorem named_t (hl : lt.length < 1000) (hd : ds = .tup (lt.map tD) ∨ ds = .lst (lt.map tD)) : f_named [ds, .str s] = some (fdD tD (lt.find? (fun x => decide (x.1 = s)))) := named_eq tD (·.1) (fun _ => ⟨_, rfl⟩) lt s (by omega) ds hd
theorem named_h (hl : lh.length < 1000) (hd : ds = .tup (lh.map hD) ∨ ds = .lst (lh.map hD)) : f_named [ds, .str s] = some (fdD hD (lh.find? (fun x => decide (x.1 = s)))) := named_eq hD (·.1) (fun _ => ⟨_, rfl⟩) lh s (by omega) ds hd
theorem named_s (hl : ls.length < 1000) (hd : ds = .tup (ls.map sD) ∨ ds = .lst (ls.map sD)) : f_named [ds, .str s] = some (fdD sD (ls.find? (fun x => decide (x.1 = s)))) := named_eq sD (·.1) (fun _ => ⟨_, rfl⟩) ls s (by omega) ds hd
theorem named_w (hl : lw.length < 1000) (hd : ds = .tup (lw.map wD) ∨ ds = .lst (lw.map wD)) : f_named [ds, .str s] = some (fdD wD (lw.find? (fun x => decide (x.1 = s)))) := named_eq wD (·.1) (fun _ => ⟨_, rfl⟩) lw s (by omega) ds hd
end
theorem is_new_ok {ds : D} {s : Str} (h : Nm s) (hn : f_named [ds, .str s] = some .non) : f_is_new [ds, .str s] = some (.bl true) := by
  simp [f_is_new, c_is_new, is_name_ok h, hn]
theorem find_none {α : Type} {nm : α → Str} {l : List α} {s : Str} (h : s ∉ l.map nm) : l.find? (fun x => decide (nm x = s)) = none := by
  rw [List.find?_eq_none]
  intro x hx z
  exact h (List.mem_map.mpr ⟨x, hx, of_decide_eq_true z⟩)
theorem find_some {α : Type} {nm : α → Str} {l : List α} {x : α} (nd : (l.map nm).Nodup) (h : x ∈ l) : l.find? (fun y => decide (nm y = nm x)) = some x := by
  induction l with
  | nil => cases h
  | cons y r ih =>
    rw [List.map_cons] at nd
    obtain ⟨n1, n2⟩ := List.nodup_cons.mp nd
    rw [List.find?_cons]
    rcases List.mem_cons.mp h with e | e
    · subst e; simp
    · have : nm y ≠ nm x := fun z => n1 (List.mem_map.mpr ⟨x, e, z.symm⟩)
      rw [decide_eq_false this]
      exact ih n2 e
theorem find_mem {α : Type} {nm : α → Str} {l : List α} {s : Str} (h : s ∈ l.map nm) : ∃ x ∈ l, nm x = s ∧ l.find? (fun y => decide (nm y = s)) = some x := by
  cases e : l.find? (fun y => decide (nm y = s)) with
  | some x => exact ⟨x, List.mem_of_find?_eq_some e, of_decide_eq_true (List.find?_some (p := fun y => decide (nm y = s)) e), rfl⟩
  | none =>
    obtain ⟨x, hx, ex⟩ := List.mem_map.mp h
    have := List.find?_eq_none.mp e x hx
    simp [ex] at this
theorem inT_strs {l : List Str} {s : Str} : M.inT (.str s) (.lst (l.map .str)) = some (decide (s ∈ l)) := by
  have f1 : (l.map D.str).all flatD = true := by simp [flatD]
  show (if flatD (.str s) = true ∧ (l.map D.str).all flatD = true then some ((l.map D.str).any fun y => eqB y (.str s)) else _) = _
  rw [if_pos ⟨rfl, f1⟩, List.any_map]
  congr 1
  rw [Bool.eq_iff_iff, List.any_eq_true, decide_eq_true_eq]
  exact ⟨fun ⟨x, hx, e⟩ => by have : x = s := by simpa [eqB] using e
                              exact this ▸ hx, fun h => ⟨s, h, by simp [eqB]⟩⟩
theorem inT_strsT {l : List Str} {s : Str} : M.inT (.str s) (.tup (l.map .str)) = some (decide (s ∈ l)) := by
  have f1 : (l.map D.str).all flatD = true := by simp [flatD]
  show (if flatD (.str s) = true ∧ (l.map D.str).all flatD = true then some ((l.map D.str).any fun y => eqB y (.str s)) else none) = _
  rw [if_pos ⟨rfl, f1⟩, List.any_map]
  congr 1
  rw [Bool.eq_iff_iff, List.any_eq_true, decide_eq_true_eq]
  exact ⟨fun ⟨x, hx, e⟩ => by have : x = s := by simpa [eqB] using e
                              exact this ▸ hx, fun h => ⟨s, h, by simp [eqB]⟩⟩
theorem inD_strs {l : List Str} {s : Str} : inD (.str s) (.lst (l.map .str)) = some (.bl (decide (s ∈ l))) := by unfold inD; rw [inT_strs]; rfl
theorem inD_strsT {l : List Str} {s : Str} : inD (.str s) (.tup (l.map .str)) = some (.bl (decide (s ∈ l))) := by unfold inD; rw [inT_strsT]; rfl
theorem ninD_strs {l : List Str} {s : Str} : ninD (.str s) (.lst (l.map .str)) = some (.bl (!decide (s ∈ l))) := by unfold ninD; rw [inT_strs]; rfl
section
variable {P : Stk}
theorem is_kind_ok (sm : P.Sm) {k : Str × Int} (h1 : Nm k.1) (h2 : k.1 ∉ P.kinds.map (·.1)) (h3 : 0 ≤ k.2) (h4 : k.2 ≤ 99) : f_is_kind [P.A, kD k] = some (.bl true) := by
  have hn : f_is_new [.lst (P.kinds.map kD), .str k.1] = some (.bl true) := is_new_ok h1 (by rw [named_k sm.k (.inr rfl), find_none h2]; rfl)
  have hr : f_is_row [kD k, .int 2] = some (.bl true) := is_row_tup _ 2
  simp only [f_is_kind, c_is_kind, fV_e, fn2_e, Option.bind_some, hr, andV_t, P.A_eq, ixL0]
  simp [kD, hn, is_size_int, h3, h4]
theorem is_box_ok {b : Str} (h1 : Nm b) (h2 : b ∉ P.boxes) : f_is_box [P.A, .str b] = some (.bl true) := by
  simp [f_is_box, c_is_box, is_name_ok h1, P.A_eq, ninD_strs, h2]
theorem is_tool_ok (sm : P.Sm) {t : Str × Str × Int × Str} {k : Str × Int} (h1 : Nm t.1) (h2 : t.1 ∉ P.tools.map (·.1)) (nd : (P.kinds.map (·.1)).Nodup) (hk : k ∈ P.kinds) (ek : t.2.1 = k.1) (h3 : 0 ≤ t.2.2.1) (h4 : t.2.2.1 ≤ 99) (h5 : k.2 ≤ t.2.2.1) (h6 : t.2.2.2 ∈ P.boxes) : f_is_tool [P.A, tD t] = some (.bl true) := by
  have hn : f_is_new [.lst (P.tools.map tD), .str t.1] = some (.bl true) := is_new_ok h1 (by rw [named_t sm.t (.inr rfl), find_none h2]; rfl)
  have hr : f_is_row [tD t, .int 4] = some (.bl true) := is_row_tup _ 4
  have hnk : f_named [.lst (P.kinds.map kD), .str t.2.1] = some (kD k) := by rw [named_k sm.k (.inr rfl), ek, find_some (nm := (·.1)) nd hk]; rfl
  have hb : f_has_box [P.A, .str t.2.2.2] = some (.bl true) := by simp [f_has_box, c_has_box, P.A_eq, inD_strs, h6]
  have e5 : ¬ (t.2.2.1 < k.2) := by omega
  simp only [f_is_tool, c_is_tool, fV_e, fn2_e, Option.bind_some, hr]
  rw [show (tD t) = .tup [.str t.1, .str t.2.1, .int t.2.2.1, .str t.2.2.2] from rfl]
  simp [P.A_eq, hn, hnk, kD, is_size_int, h3, h4, e5]
  rw [← P.A_eq, hb]
theorem is_hand_ok (sm : P.Sm) {k : Str × Str} (h1 : Nm k.1) (h2 : k.1 ∉ P.hands.map (·.1)) (h3 : Nm k.2) : f_is_hand [P.A, hD k] = some (.bl true) := by
  have hn : f_is_new [.lst (P.hands.map hD), .str k.1] = some (.bl true) := is_new_ok h1 (by rw [named_h sm.h (.inr rfl), find_none h2]; rfl)
  have hr : f_is_row [hD k, .int 2] = some (.bl true) := is_row_tup _ 2
  simp only [f_is_hand, c_is_hand, fV_e, fn2_e, Option.bind_some, hr, andV_t, P.A_eq, ixL3]
  simp [hD, hn, is_name_ok h3]
theorem is_range_ok (sm : P.Sm) {k : Str × Str × Int × Int} {l : List (Str × Str × Int × Int)} {n : Int} (ix : ixD P.A (.int n) = some (.lst (l.map wD))) (hl : l.length < 1000) (h1 : Nm k.1) (h2 : k.1 ∉ l.map (·.1)) (h3 : k.2.1 ∈ P.kinds.map (·.1)) (h4 : 0 ≤ k.2.2.1) (h5 : k.2.2.2 ≤ 99) (h6 : k.2.2.1 ≤ k.2.2.2) : f_is_range [P.A, .int n, wD k] = some (.bl true) := by
  have hn : f_is_new [.lst (l.map wD), .str k.1] = some (.bl true) := is_new_ok h1 (by rw [named_w hl (.inr rfl), find_none h2]; rfl)
  have hr : f_is_row [wD k, .int 4] = some (.bl true) := is_row_tup _ 4
  obtain ⟨kk, _, _, hf⟩ := find_mem (nm := fun x : Str × Int => x.1) h3
  have hnk : f_named [.lst (P.kinds.map kD), .str k.2.1] = some (kD kk) := by rw [named_k sm.k (.inr rfl), hf]; rfl
  have i0 : ixD P.A (.int 0) = some (.lst (P.kinds.map kD)) := by rw [P.A_eq, ixL0]
  simp only [f_is_range, c_is_range, fV_e, fn3_e, Option.bind_some, hr, ix, i0]
  rw [show (wD k) = .tup [.str k.1, .str k.2.1, .int k.2.2.1, .int k.2.2.2] from rfl]
  simp [hn, hnk, kD, is_size_int, h4, h5, h6, show k.2.2.1 ≤ 99 by omega, show 0 ≤ k.2.2.2 by omega]
theorem is_gauge_ok (sm : P.Sm) {k : Str × Str × Int × Int} (h1 : Nm k.1) (h2 : k.1 ∉ P.gauges.map (·.1)) (h3 : k.2.1 ∈ P.kinds.map (·.1)) (h4 : 0 ≤ k.2.2.1) (h5 : k.2.2.2 ≤ 99) (h6 : k.2.2.1 ≤ k.2.2.2) : f_is_gauge [P.A, wD k] = some (.bl true) := by
  simp [f_is_gauge, c_is_gauge, is_range_ok sm (n := 5) (by rw [P.A_eq, ixL5]) sm.g h1 h2 h3 h4 h5 h6]
theorem is_work_ok (sm : P.Sm) {k : Str × Str × Int × Int} (h1 : Nm k.1) (h2 : k.1 ∉ P.works.map (·.1)) (h3 : k.2.1 ∈ P.kinds.map (·.1)) (h4 : 0 ≤ k.2.2.1) (h5 : k.2.2.2 ≤ 99) (h6 : k.2.2.1 ≤ k.2.2.2) : f_is_work [P.A, wD k] = some (.bl true) := by
  simp [f_is_work, c_is_work, is_range_ok sm (n := 6) (by rw [P.A_eq, ixL6]) sm.w h1 h2 h3 h4 h5 h6]
theorem set_with_eq (hl : P.sets.length < 1000) (ds : D) (hd : ds = P.A ∨ ds = P.T) (s : Str) : f_set_with [ds, .str s] = some (fdD (fun x => .str x.1) (P.sets.find? fun x => decide (s ∈ x.2))) := by
  have hi : (ixD ds (.int 4)).bind itD = some (P.sets.map sD) := by
    rcases hd with rfl | rfl
    · rw [P.A_eq, ixL4]; exact itD_lst (by rw [List.length_map]; omega)
    · rw [P.T_eq, ixT4]; exact itD_tup (by rw [List.length_map]; omega)
  simp only [f_set_with, c_set_with, fV_e, fn2_e, Option.bind_some]
  rw [hi, Option.bind_some, forM_find (g := sD) (p := fun x => decide (s ∈ x.2)) (r := fun x => .str x.1)]
  · cases h : P.sets.find? (fun x => decide (s ∈ x.2)) with
    | some x => simp [h]
    | none => simp [h]
  · intro x _
    by_cases e : s ∈ x.2 <;> simp [sD, inD_strsT, e]
theorem is_keep_ok (sm : P.Sm) {p : Str × Str} {t : Str × Str × Int × Str} {w : Str × Str × Int × Int} (nt : (P.tools.map (·.1)).Nodup) (nw : (P.works.map (·.1)).Nodup) (ht : t ∈ P.tools) (hw : w ∈ P.works) (e1 : p.1 = t.1) (e2 : p.2 = w.1) (e3 : t.2.1 = w.2.1) (h2 : p.1 ∉ P.keeps.map (·.1)) : f_is_keep [P.A, hD p] = some (.bl true) := by
  have hr : f_is_row [hD p, .int 2] = some (.bl true) := is_row_tup _ 2
  have h3 : f_named [.lst (P.tools.map tD), .str p.1] = some (tD t) := by rw [named_t sm.t (.inr rfl), e1, find_some (nm := (·.1)) nt ht]; rfl
  have h4 : f_named [.lst (P.works.map wD), .str p.2] = some (wD w) := by rw [named_w sm.w (.inr rfl), e2, find_some (nm := (·.1)) nw hw]; rfl
  have h5 : f_named [.lst (P.keeps.map hD), .str t.1] = some .non := by rw [← e1, named_h sm.p (.inr rfl), find_none h2]; rfl
  simp only [f_is_keep, c_is_keep, fV_e, fn2_e, Option.bind_some, hr]
  rw [show (hD p) = .tup [.str p.1, .str p.2] from rfl]
  simp [P.A_eq, h3, h4]
  simp [tD, wD, e3, h5]
theorem strsD_map (l : List Str) : strsD (l.map D.str) = some l := by
  induction l with
  | nil => rfl
  | cons a r ih => rw [List.map_cons, strsD, ih]; rfl
theorem is_set_ok (sm : P.Sm) {s : Str × List Str} (h1 : Nm s.1) (h2 : s.1 ∉ P.sets.map (·.1)) (h3 : 1 ≤ s.2.length) (h4 : s.2.length ≤ 5) (nd : s.2.Nodup) (hp : ∀ x ∈ s.2, x ∈ P.tools.map (·.1) ∧ ∀ y ∈ P.sets, x ∉ y.2) : f_is_set [P.A, sD s] = some (.bl true) := by
  have hn : f_is_new [.lst (P.sets.map sD), .str s.1] = some (.bl true) := is_new_ok h1 (by rw [named_s sm.s (.inr rfl), find_none h2]; rfl)
  have hr : f_is_row [sD s, .int 2] = some (.bl true) := is_row_tup _ 2
  have hi : itD (.tup (s.2.map .str)) = some (s.2.map .str) := itD_tup (by rw [List.length_map]; omega)
  have e3 : (1 : Int) ≤ ((s.2.map D.str).length : Nat) := by rw [List.length_map]; omega
  have e4 : (((s.2.map D.str).length : Nat) : Int) ≤ 5 := by rw [List.length_map]; omega
  have i2 : ixD P.A (.int 2) = some (.lst (P.tools.map tD)) := by rw [P.A_eq, ixL2]
  have i4 : ixD P.A (.int 4) = some (.lst (P.sets.map sD)) := by rw [P.A_eq, ixL4]
  have cn : cntD (.tup (s.2.map .str)) = some (.int (s.2.length : Nat)) := by
    show ((strsD (s.2.map D.str)).bind fun xs => if xs.Nodup ∧ xs.length ≤ 62 then some (D.int (xs.length : Nat)) else none) = _
    rw [strsD_map, Option.bind_some, if_pos ⟨nd, by omega⟩]
  simp only [f_is_set, c_is_set, fV_e, fn2_e, Option.bind_some, hr, i2, i4]
  rw [show (sD s) = .tup [.str s.1, .tup (s.2.map .str)] from rfl]
  simp only [ixT0, ixT1, Option.bind_some, hn, tru_bl, Option.map_some, Bool.not_true, orM_f, iteM_f, isTy_tup_tup, isBl_bl, lenD_tup, leD_int, e3, e4, decide_true, if_true, hi]
  rw [forM_skip]
  · simp only [Option.bind_some, thn_nx, cn, eqD_int, List.length_map]
    simp
  · intro x hx
    obtain ⟨y, hy, rfl⟩ := List.mem_map.mp hx
    obtain ⟨q1, q2⟩ := hp y hy
    obtain ⟨t, _, _, hf⟩ := find_mem (nm := fun x : Str × Str × Int × Str => x.1) q1
    have a1 : f_named [.lst (P.tools.map tD), .str y] = some (tD t) := by rw [named_t sm.t (.inr rfl), hf]; rfl
    have a2 : f_set_with [P.A, .str y] = some .non := by
      rw [set_with_eq sm.s _ (.inl rfl)]
      have : P.sets.find? (fun x => decide (y ∈ x.2)) = none := by
        rw [List.find?_eq_none]
        intro z hz e
        exact q2 z hz (of_decide_eq_true e)
      rw [this]; rfl
    simp [a1, a2, tD]
end
end U.P
end
section
set_option Elab.async false
set_option linter.all false
set_option maxRecDepth 100000
set_option maxHeartbeats 4000000
namespace U.P
open PySem L2 M
/-- what is told up to thing i of sort j -/
def upTo (P : List (List D)) (j i : Nat) : List (List D) := P.mapIdx fun n l => if n < j then l else if n = j then l.take i else []
def ahD (P : List (List D)) : D := .dp (.own (.lst (P.map fun l => .ov (.lst l))))
theorem toDs_ov (P : List (List D)) : D.toDs (P.map fun l => .ov (.lst l)) = P.map .lst := by
  induction P with
  | nil => simp [D.toDs]
  | cons a r ih => simp [D.toDs, D.toD, ih]
theorem dpv_ah (P : List (List D)) : dpv (ahD P) = .lst (P.map .lst) := by
  simp [dpv, ahD, D.toD, toDs_ov]
theorem ixN_nat {n j : Nat} (h : j < n) : ixN n (j : Int) = some j := by
  unfold ixN
  rw [if_pos (Int.natCast_nonneg j), if_pos (by omega), Int.toNat_natCast]
theorem path_app (P : List (List D)) (j : Nat) (l : List D) (x : D) (hj : P[j]? = some l) (hl : l.length < 1000000) : pathF appF (ahD P) (.int (j : Nat)) [x] = some (.non, ahD (P.set j (l ++ [x]))) := by
  have h := (List.getElem?_eq_some_iff.mp hj).1
  have e : (P.map fun l => D.ov (.lst l))[j]? = some (.ov (.lst l)) := by rw [List.getElem?_map, hj]; rfl
  show (ixN (P.map fun l => D.ov (.lst l)).length (j : Int)).bind _ = _
  rw [List.length_map, ixN_nat h, Option.bind_some]
  simp only [e]
  have : appF (.lst l) [x] = some (.non, .lst (l ++ [x])) := if_pos hl
  rw [this]
  simp [ahD, List.map_set]
theorem upTo_at {P : List (List D)} {j i n : Nat} {l : List D} (h : P[n]? = some l) : (upTo P j i)[n]? = some (if n < j then l else if n = j then l.take i else []) := by
  unfold upTo
  rw [List.getElem?_mapIdx, h]; rfl
theorem upTo_len {P : List (List D)} {j i : Nat} : (upTo P j i).length = P.length := by unfold upTo; rw [List.length_mapIdx]
theorem upTo_step {P : List (List D)} {j i : Nat} {l : List D} {x : D} (h : P[j]? = some l) (hx : l[i]? = some x) : (upTo P j i).set j (l.take i ++ [x]) = upTo P j (i + 1) := by
  apply List.ext_getElem?
  intro n
  have hj := (List.getElem?_eq_some_iff.mp h).1
  by_cases e : j = n
  · subst e
    rw [List.getElem?_set]
    simp only [if_true, upTo_len, hj]
    rw [upTo_at h, if_neg (Nat.lt_irrefl _), if_pos rfl, List.take_add_one, hx]; rfl
  · rw [List.getElem?_set_ne e]
    cases hp : P[n]? with
    | none =>
      have := List.getElem?_eq_none_iff.mp hp
      rw [List.getElem?_eq_none (by rw [upTo_len]; exact this), List.getElem?_eq_none (by rw [upTo_len]; exact this)]
    | some m => rw [upTo_at hp, upTo_at hp, if_neg (Ne.symm e), if_neg (Ne.symm e)]
theorem upTo_next {P : List (List D)} {j : Nat} {l : List D} (h : P[j]? = some l) : upTo P j l.length = upTo P (j + 1) 0 := by
  apply List.ext_getElem?
  intro n
  cases hp : P[n]? with
  | none =>
    have := List.getElem?_eq_none_iff.mp hp
    rw [List.getElem?_eq_none (by rw [upTo_len]; exact this), List.getElem?_eq_none (by rw [upTo_len]; exact this)]
  | some m =>
    rw [upTo_at hp, upTo_at hp]
    by_cases e : n = j
    · subst e
      rw [h] at hp
      cases hp
      rw [if_neg (Nat.lt_irrefl _), if_pos rfl, if_pos (Nat.lt_succ_self _), List.take_length]
    · by_cases z : n < j
      · rw [if_pos z, if_pos (by omega)]
      · rw [if_neg z, if_neg e, if_neg (by omega)]
        by_cases y : n = j + 1
        · rw [if_pos y]; rfl
        · rw [if_neg y]
theorem upTo_zero {P : List (List D)} : upTo P 0 0 = P.map fun _ => [] := by
  apply List.ext_getElem?
  intro n
  cases hp : P[n]? with
  | none =>
    have := List.getElem?_eq_none_iff.mp hp
    rw [List.getElem?_eq_none (by rw [upTo_len]; exact this), List.getElem?_map, hp]; rfl
  | some m => rw [upTo_at hp, List.getElem?_map, hp, if_neg (Nat.not_lt_zero _)]; simp
theorem upTo_all {P : List (List D)} : upTo P P.length 0 = P := by
  apply List.ext_getElem?
  intro n
  cases hp : P[n]? with
  | none =>
    have := List.getElem?_eq_none_iff.mp hp
    rw [List.getElem?_eq_none (by rw [upTo_len]; exact this)]
  | some m => rw [upTo_at hp, if_pos (List.getElem?_eq_some_iff.mp hp).1]
theorem enD_get {xs : List D} {i : Nat} {x : D} (h : (enD 0 xs)[i]? = some x) : ∃ d, xs[i]? = some d ∧ x = .pr [.int (i : Nat), d] := by
  rw [enD_at] at h
  cases e : xs[i]? with
  | none => rw [e] at h; cases h
  | some d =>
    rw [e] at h
    cases h
    exact ⟨d, rfl, by rw [Nat.zero_add]⟩
/-- no fault is found where each thing fits behind those ahead -/
theorem stock_fault_none (P : List (List D)) (h8 : P.length = 8) (hform : f_is_stock_form [.tup (P.map .tup)] = some (.bl true)) (hsm : ∀ l ∈ P, l.length < 1000)
    (hfit : ∀ j i l x, P[j]? = some l → l[i]? = some x → f_fits [.lst ((upTo P j i).map .lst), .int (j : Nat), x] = some (.bl true)) : f_stock_fault [.tup (P.map .tup)] = some .non := by
  have a0 : compM (compB (.nm 6) (fun _ => some true) (fn1 fun _ => (szG []).map D.lst)) [.str "kind", .str "box", .str "tool", .str "hand", .str "set", .str "gauge", .str "work", .str "keep"] = some [.lst [], .lst [], .lst [], .lst [], .lst [], .lst [], .lst [], .lst []] := by
    simp [compM, compB_eq]
  have hs : itD d_SORTS = some [.str "kind", .str "box", .str "tool", .str "hand", .str "set", .str "gauge", .str "work", .str "keep"] := by
    unfold d_SORTS
    exact itD_tup (by decide)
  have start : (D.dp (.own (.lst ([D.lst [], .lst [], .lst [], .lst [], .lst [], .lst [], .lst [], .lst []].map ownD)))) = ahD (upTo P 0 0) := by
    rw [upTo_zero, ahD]
    match P, h8 with
    | [_, _, _, _, _, _, _, _], _ => rfl
  have en : enumD [.tup (P.map .tup)] = some (enD 0 (P.map .tup)) := enumD_tup (by rw [List.length_map]; omega)
  simp only [f_stock_fault, c_stock_fault, fV_e, fn1_e, Option.bind_some, hform, tru_bl, Option.map_some, Bool.not_true, iteM_f, hs, a0, start, en]
  rw [Option.map_bind]
  refine forM_use (fun j s => s = ahD (upTo P j 0)) rfl (fun j x s hx hs => ?_) fun s' _ => ?_
  rotate_left
  · rfl
  obtain ⟨d, hd, rfl⟩ := enD_get hx
  rw [List.getElem?_map] at hd
  subst hs
  cases hl : P[j]? with
  | none => rw [hl] at hd; cases hd
  | some l =>
    rw [hl] at hd
    cases hd
    have sm := hsm l (List.mem_of_getElem? hl)
    have en2 : enumD [.tup l] = some (enD 0 l) := enumD_tup (by omega)
    simp only [un_pr, uns_cons, un_nm, uns_nil, Option.bind_some, List.append_nil, List.cons_append, List.nil_append, fn2_e, en2]
    refine ⟨_, forM_use (fun i s => s = ahD (upTo P j i)) rfl (fun i x s hx hs => ?_) fun s' h => ?_, rfl⟩
    · obtain ⟨y, hy, rfl⟩ := enD_get hx
      subst hs
      have ff := hfit j i l y hl hy
      have il := (List.getElem?_eq_some_iff.mp hy).1
      have pa := path_app (upTo P j i) j (l.take i) y (by rw [upTo_at hl, if_neg (Nat.lt_irrefl _), if_pos rfl]) (by rw [List.length_take]; omega)
      rw [upTo_step hl hy] at pa
      simp only [un_pr, uns_cons, un_nm, uns_nil, Option.bind_some, List.append_nil, List.cons_append, List.nil_append, fn2_e, dpv_ah, ff, tru_bl, Option.map_some, Bool.not_true, iteM_f, pa, bX_some]
      exact ⟨_, rfl, rfl⟩
    · rw [enD_len, upTo_next hl] at h
      rw [h]; rfl
/-- the whole of a stock -/
structure Stk.Ok (S : Stk) : Prop where
  k1 : 1 ≤ S.kinds.length ∧ S.kinds.length ≤ 6
  k2 : (S.kinds.map (·.1)).Nodup
  k3 : ∀ k ∈ S.kinds, Nm k.1 ∧ 0 ≤ k.2 ∧ k.2 ≤ 99
  b1 : S.boxes.length ≤ 5
  b2 : S.boxes.Nodup
  b3 : ∀ b ∈ S.boxes, Nm b
  t1 : S.tools.length ≤ 12
  t2 : (S.tools.map (·.1)).Nodup
  t3 : ∀ t ∈ S.tools, Nm t.1 ∧ t.2.2.1 ≤ 99 ∧ t.2.2.2 ∈ S.boxes ∧ ∃ k ∈ S.kinds, t.2.1 = k.1 ∧ k.2 ≤ t.2.2.1
  h1 : S.hands.length ≤ 5
  h2 : (S.hands.map (·.1)).Nodup
  h3 : ∀ h ∈ S.hands, Nm h.1 ∧ Nm h.2
  s1 : S.sets.length ≤ 4
  s2 : (S.sets.map (·.1)).Nodup
  s3 : ∀ s ∈ S.sets, Nm s.1 ∧ 1 ≤ s.2.length ∧ s.2.length ≤ 5 ∧ s.2.Nodup ∧ ∀ x ∈ s.2, x ∈ S.tools.map (·.1)
  s4 : ∀ (i j : Nat) (s t : Str × List Str), i < j → S.sets[i]? = some s → S.sets[j]? = some t → ∀ x ∈ t.2, x ∉ s.2
  g1 : S.gauges.length ≤ 3
  g2 : (S.gauges.map (·.1)).Nodup
  g3 : ∀ g ∈ S.gauges, Nm g.1 ∧ g.2.1 ∈ S.kinds.map (·.1) ∧ 0 ≤ g.2.2.1 ∧ g.2.2.1 ≤ g.2.2.2 ∧ g.2.2.2 ≤ 99
  w1 : S.works.length ≤ 8
  w2 : (S.works.map (·.1)).Nodup
  w3 : ∀ g ∈ S.works, Nm g.1 ∧ g.2.1 ∈ S.kinds.map (·.1) ∧ 0 ≤ g.2.2.1 ∧ g.2.2.1 ≤ g.2.2.2 ∧ g.2.2.2 ≤ 99
  p1 : S.keeps.length ≤ 6
  p2 : (S.keeps.map (·.1)).Nodup
  p3 : ∀ p ∈ S.keeps, ∃ t ∈ S.tools, ∃ w ∈ S.works, p.1 = t.1 ∧ p.2 = w.1 ∧ t.2.1 = w.2.1
theorem take_new {α β : Type} {l : List α} {f : α → β} {i : Nat} {x : α} (nd : (l.map f).Nodup) (h : l[i]? = some x) : f x ∉ (l.take i).map f := by
  intro z
  obtain ⟨y, hy, e⟩ := List.mem_map.mp z
  obtain ⟨j, hj, ej⟩ := List.getElem_of_mem hy
  have hi := (List.getElem?_eq_some_iff.mp h).1
  rw [List.length_take] at hj
  rw [List.getElem_take] at ej
  have := List.pairwise_iff_getElem.mp nd j i (by rw [List.length_map]; omega) (by rw [List.length_map]; exact hi) (by omega)
  rw [List.getElem_map, List.getElem_map, ej, e] at this
  exact this (by rw [(List.getElem?_eq_some_iff.mp h).2])
theorem fits_eq {a x : D} {n : Int} {f : List D → Option D} {y : Str} (h1 : ixD d_FITS (.int n) = some (.fn y)) (h2 : L_FITS.lookup y = some f) (h3 : f [a, x] = some (.bl true)) : f_fits [a, .int n, x] = some (.bl true) := by
  have : callFn L_FITS (.fn y) [a, x] = some (.bl true) := by
    show (match L_FITS.lookup y with | some f => f [a, x] | none => none) = _
    rw [h2]; exact h3
  simp only [f_fits, c_fits, fV_e, fn3_e, Option.bind_some, h1, this]
  rfl
theorem Stk.form (S : Stk) (h : S.Ok) : f_is_stock_form [S.T] = some (.bl true) := by
  have hr : f_is_row [S.T, .int 8] = some (.bl true) := is_row_tup _ 8
  have hl : M.lenD [d_SORTS] = some (.int 8) := rfl
  have en : enumD [S.T] = some (enD 0 (S.parts.map .tup)) := enumD_tup (by simp [Stk.parts])
  simp only [f_is_stock_form, c_is_stock_form, fV_e, fn1_e, Option.bind_some, hl, hr, tru_bl, Option.map_some, Bool.not_true, iteM_f, en]
  rw [forM_skip]
  · rfl
  · have go : ∀ (n lo hi : Int) (l : List D), ixD d_FEWEST (.int n) = some (.int lo) → ixD d_MOST (.int n) = some (.int hi) → lo ≤ (l.length : Nat) → ((l.length : Nat) : Int) ≤ hi → _ := fun n lo hi l e1 e2 e3 e4 => by
      exact (⟨e1, e2, e3, e4⟩ : ixD d_FEWEST (.int n) = some (.int lo) ∧ ixD d_MOST (.int n) = some (.int hi) ∧ lo ≤ (l.length : Nat) ∧ ((l.length : Nat) : Int) ≤ hi)
    have all : ∀ x ∈ enD 0 (S.parts.map .tup), ∃ (n lo hi : Int) (l : List D), x = .pr [.int n, .tup l] ∧ ixD d_FEWEST (.int n) = some (.int lo) ∧ ixD d_MOST (.int n) = some (.int hi) ∧ lo ≤ (l.length : Nat) ∧ ((l.length : Nat) : Int) ≤ hi := by
      intro x hx
      simp only [Stk.parts, List.map_cons, List.map_nil, enD, List.mem_cons, List.not_mem_nil, or_false] at hx
      have := h.k1; have := h.b1; have := h.t1; have := h.h1; have := h.s1; have := h.g1; have := h.w1; have := h.p1
      rcases hx with rfl | rfl | rfl | rfl | rfl | rfl | rfl | rfl
      · exact ⟨_, 1, 6, _, rfl, rfl, rfl, by rw [List.length_map]; omega, by rw [List.length_map]; omega⟩
      · exact ⟨_, 0, 5, _, rfl, rfl, rfl, by rw [List.length_map]; omega, by rw [List.length_map]; omega⟩
      · exact ⟨_, 0, 12, _, rfl, rfl, rfl, by rw [List.length_map]; omega, by rw [List.length_map]; omega⟩
      · exact ⟨_, 0, 5, _, rfl, rfl, rfl, by rw [List.length_map]; omega, by rw [List.length_map]; omega⟩
      · exact ⟨_, 0, 4, _, rfl, rfl, rfl, by rw [List.length_map]; omega, by rw [List.length_map]; omega⟩
      · exact ⟨_, 0, 3, _, rfl, rfl, rfl, by rw [List.length_map]; omega, by rw [List.length_map]; omega⟩
      · exact ⟨_, 0, 8, _, rfl, rfl, rfl, by rw [List.length_map]; omega, by rw [List.length_map]; omega⟩
      · exact ⟨_, 0, 6, _, rfl, rfl, rfl, by rw [List.length_map]; omega, by rw [List.length_map]; omega⟩
    intro x hx
    obtain ⟨n, lo, hi, l, rfl, e1, e2, e3, e4⟩ := all x hx
    simp [e1, e2, e3, e4]
def Stk.emp : Stk := ⟨[], [], [], [], [], [], [], []⟩
section
variable (S : Stk) (i : Nat)
theorem up0 : (upTo S.parts 0 i).map D.lst = (⟨S.kinds.take i, [], [], [], [], [], [], []⟩ : Stk).parts.map D.lst := by simp [upTo, Stk.parts, List.map_take]
theorem up1 : (upTo S.parts 1 i).map D.lst = (⟨S.kinds, S.boxes.take i, [], [], [], [], [], []⟩ : Stk).parts.map D.lst := by simp [upTo, Stk.parts, List.map_take]
theorem up2 : (upTo S.parts 2 i).map D.lst = (⟨S.kinds, S.boxes, S.tools.take i, [], [], [], [], []⟩ : Stk).parts.map D.lst := by simp [upTo, Stk.parts, List.map_take]
theorem up3 : (upTo S.parts 3 i).map D.lst = (⟨S.kinds, S.boxes, S.tools, S.hands.take i, [], [], [], []⟩ : Stk).parts.map D.lst := by simp [upTo, Stk.parts, List.map_take]
theorem up4 : (upTo S.parts 4 i).map D.lst = (⟨S.kinds, S.boxes, S.tools, S.hands, S.sets.take i, [], [], []⟩ : Stk).parts.map D.lst := by simp [upTo, Stk.parts, List.map_take]
theorem up5 : (upTo S.parts 5 i).map D.lst = (⟨S.kinds, S.boxes, S.tools, S.hands, S.sets, S.gauges.take i, [], []⟩ : Stk).parts.map D.lst := by simp [upTo, Stk.parts, List.map_take]
theorem up6 : (upTo S.parts 6 i).map D.lst = (⟨S.kinds, S.boxes, S.tools, S.hands, S.sets, S.gauges, S.works.take i, []⟩ : Stk).parts.map D.lst := by simp [upTo, Stk.parts, List.map_take]
theorem up7 : (upTo S.parts 7 i).map D.lst = (⟨S.kinds, S.boxes, S.tools, S.hands, S.sets, S.gauges, S.works, S.keeps.take i⟩ : Stk).parts.map D.lst := by simp [upTo, Stk.parts, List.map_take]
end
theorem map_at {α : Type} {g : α → D} {l : List α} {i : Nat} {x : D} (h : (l.map g)[i]? = some x) : ∃ y, l[i]? = some y ∧ x = g y := by
  rw [List.getElem?_map] at h
  cases e : l[i]? with
  | none => rw [e] at h; cases h
  | some y => rw [e] at h; cases h; exact ⟨y, rfl, rfl⟩
theorem take_lt {α : Type} {l : List α} {n i : Nat} (h : l.length < n) : (l.take i).length < n := by rw [List.length_take]; omega
theorem Stk.fit (S : Stk) (h : S.Ok) : ∀ j i l x, S.parts[j]? = some l → l[i]? = some x → f_fits [.lst ((upTo S.parts j i).map .lst), .int (j : Nat), x] = some (.bl true) := by
  have k1 := h.k1.2; have b1 := h.b1; have t1 := h.t1; have h1 := h.h1; have s1 := h.s1; have g1 := h.g1; have w1 := h.w1; have p1 := h.p1
  have z : (0 : Nat) < 1000 := by decide
  intro j i l x hj hx
  match j, hj with
  | 0, hj =>
    cases hj
    obtain ⟨k, hk, rfl⟩ := map_at hx
    rw [up0]
    have sm : (⟨S.kinds.take i, [], [], [], [], [], [], []⟩ : Stk).Sm := ⟨take_lt (by omega), z, z, z, z, z, z, z⟩
    obtain ⟨n1, n2, n3⟩ := h.k3 k (List.mem_of_getElem? hk)
    exact fits_eq rfl rfl (is_kind_ok sm n1 (take_new (f := (·.1)) h.k2 hk) n2 n3)
  | 1, hj =>
    cases hj
    obtain ⟨k, hk, rfl⟩ := map_at hx
    rw [up1]
    have nw := take_new (f := id) (l := S.boxes) (by rw [List.map_id]; exact h.b2) hk
    rw [List.map_id] at nw
    exact fits_eq rfl rfl (is_box_ok (P := ⟨S.kinds, S.boxes.take i, [], [], [], [], [], []⟩) (h.b3 k (List.mem_of_getElem? hk)) nw)
  | 2, hj =>
    cases hj
    obtain ⟨t, ht, rfl⟩ := map_at hx
    rw [up2]
    have sm : (⟨S.kinds, S.boxes, S.tools.take i, [], [], [], [], []⟩ : Stk).Sm := ⟨by show S.kinds.length < 1000; omega, by show S.boxes.length < 1000; omega, take_lt (by omega), z, z, z, z, z⟩
    obtain ⟨n1, n2, n3, k, hk, e1, e2⟩ := h.t3 t (List.mem_of_getElem? ht)
    have := h.k3 k hk
    exact fits_eq rfl rfl (is_tool_ok sm n1 (take_new (f := (·.1)) h.t2 ht) h.k2 hk e1 (by omega) n2 e2 n3)
  | 3, hj =>
    cases hj
    obtain ⟨k, hk, rfl⟩ := map_at hx
    rw [up3]
    have sm : (⟨S.kinds, S.boxes, S.tools, S.hands.take i, [], [], [], []⟩ : Stk).Sm := ⟨by show S.kinds.length < 1000; omega, by show S.boxes.length < 1000; omega, by show S.tools.length < 1000; omega, take_lt (by omega), z, z, z, z⟩
    obtain ⟨n1, n2⟩ := h.h3 k (List.mem_of_getElem? hk)
    exact fits_eq rfl rfl (is_hand_ok sm n1 (take_new (f := (·.1)) h.h2 hk) n2)
  | 4, hj =>
    cases hj
    obtain ⟨s, hs, rfl⟩ := map_at hx
    rw [up4]
    have sm : (⟨S.kinds, S.boxes, S.tools, S.hands, S.sets.take i, [], [], []⟩ : Stk).Sm := ⟨by show S.kinds.length < 1000; omega, by show S.boxes.length < 1000; omega, by show S.tools.length < 1000; omega, by show S.hands.length < 1000; omega, take_lt (by omega), z, z, z⟩
    obtain ⟨n1, n2, n3, n4, n5⟩ := h.s3 s (List.mem_of_getElem? hs)
    refine fits_eq rfl rfl (is_set_ok sm n1 (take_new (f := (·.1)) h.s2 hs) n2 n3 n4 fun x hx => ⟨n5 x hx, fun y hy => ?_⟩)
    obtain ⟨m, hm, em⟩ := List.getElem_of_mem (show y ∈ S.sets.take i from hy)
    rw [List.length_take] at hm
    rw [List.getElem_take] at em
    exact h.s4 m i y s (by omega) (by rw [← em]; exact List.getElem?_eq_getElem (by omega)) hs x hx
  | 5, hj =>
    cases hj
    obtain ⟨k, hk, rfl⟩ := map_at hx
    rw [up5]
    have sm : (⟨S.kinds, S.boxes, S.tools, S.hands, S.sets, S.gauges.take i, [], []⟩ : Stk).Sm := ⟨by show S.kinds.length < 1000; omega, by show S.boxes.length < 1000; omega, by show S.tools.length < 1000; omega, by show S.hands.length < 1000; omega, by show S.sets.length < 1000; omega, take_lt (by omega), z, z⟩
    obtain ⟨n1, n2, n3, n4, n5⟩ := h.g3 k (List.mem_of_getElem? hk)
    exact fits_eq rfl rfl (is_gauge_ok sm n1 (take_new (f := (·.1)) h.g2 hk) n2 n3 n5 n4)
  | 6, hj =>
    cases hj
    obtain ⟨k, hk, rfl⟩ := map_at hx
    rw [up6]
    have sm : (⟨S.kinds, S.boxes, S.tools, S.hands, S.sets, S.gauges, S.works.take i, []⟩ : Stk).Sm := ⟨by show S.kinds.length < 1000; omega, by show S.boxes.length < 1000; omega, by show S.tools.length < 1000; omega, by show S.hands.length < 1000; omega, by show S.sets.length < 1000; omega, by show S.gauges.length < 1000; omega, take_lt (by omega), z⟩
    obtain ⟨n1, n2, n3, n4, n5⟩ := h.w3 k (List.mem_of_getElem? hk)
    exact fits_eq rfl rfl (is_work_ok sm n1 (take_new (f := (·.1)) h.w2 hk) n2 n3 n5 n4)
  | 7, hj =>
    cases hj
    obtain ⟨p, hp, rfl⟩ := map_at hx
    rw [up7]
    have sm : (⟨S.kinds, S.boxes, S.tools, S.hands, S.sets, S.gauges, S.works, S.keeps.take i⟩ : Stk).Sm := ⟨by show S.kinds.length < 1000; omega, by show S.boxes.length < 1000; omega, by show S.tools.length < 1000; omega, by show S.hands.length < 1000; omega, by show S.sets.length < 1000; omega, by show S.gauges.length < 1000; omega, by show S.works.length < 1000; omega, take_lt (by omega)⟩
    obtain ⟨t, ht, w, hw, e1, e2, e3⟩ := h.p3 p (List.mem_of_getElem? hp)
    exact fits_eq rfl rfl (is_keep_ok sm h.t2 h.w2 ht hw e1 e2 e3 (take_new (f := (·.1)) h.p2 hp))
  | j + 8, hj => cases hj
theorem need_stock_ok (S : Stk) (h : S.Ok) : f_need_stock [S.T] = some S.T := by
  have k1 := h.k1.2; have b1 := h.b1; have t1 := h.t1; have h1 := h.h1; have s1 := h.s1; have g1 := h.g1; have w1 := h.w1; have p1 := h.p1
  have := stock_fault_none S.parts rfl (S.form h) (by
    intro l hl
    simp only [Stk.parts, List.mem_cons, List.not_mem_nil, or_false] at hl
    rcases hl with rfl | rfl | rfl | rfl | rfl | rfl | rfl | rfl <;> rw [List.length_map] <;> omega) (S.fit h)
  have e : f_stock_fault [S.T] = some .non := this
  simp [f_need_stock, c_need_stock, e]
end U.P
end
section
set_option Elab.async false
set_option linter.all false
set_option maxRecDepth 100000
set_option maxHeartbeats 4000000
namespace U.P
open PySem L2 M
abbrev Job : Type := Str × Int × Int
def jD (j : Job) : D := .tup [.str j.1, .int j.2.1, .int j.2.2]
def rD (r : List Nat) : D := .tup (r.map fun n => .int (n : Nat))
/-- no tool can do both, one ahead of the other -/
def apart (a b : Job) : Bool := decide (a.1 ≠ b.1) || decide (a.2.2 < b.2.1)
def okJ (a b : Job) : Bool := decide (a.1 = b.1) && decide (a.2.2 < b.2.1)
theorem are_apart_eq (a b : Job) : f_are_apart [jD a, jD b] = some (.bl (apart a b)) := by
  simp only [f_are_apart, c_are_apart, fV_e, fn2_e, Option.bind_some, jD, ixT0, ixT1, ixT2, neD_str, gtD_int, orV_b]
  by_cases h : a.1 = b.1 <;> simp [apart, h]
theorem atI_last {α : Type} {xs : List α} {x : α} : atI (xs ++ [x]) (-1) = some x := by
  unfold atI ixN
  rw [if_neg (by decide), if_pos (by rw [List.length_append, List.length_singleton]; omega)]
  have e : (((xs ++ [x]).length : Int) + (-1)).toNat = xs.length := by rw [List.length_append, List.length_singleton]; omega
  have e2 : ((-1 : Int) + ((xs ++ [x]).length : Int)).toNat = xs.length := by rw [List.length_append, List.length_singleton]; omega
  rw [Option.bind_some]
  first | rw [e] | rw [e2]
  simp
def bestL : List Nat → List (List Nat) → List Nat
  | b, [] => b
  | b, x :: xs => if b.length < x.length then bestL x xs else bestL b xs
/-- the first of the longest -/
def bestO : List (List Nat) → List Nat
  | [] => []
  | x :: xs => bestL x xs
theorem pickL_map : ∀ (xs : List (List Nat)) (b : List Nat), pickL (rD b) (xs.map rD) = rD (bestL b xs)
  | [], b => rfl
  | x :: xs, b => by
    rw [List.map_cons, pickL, bestL]
    have e : ((tupN (rD b)).getD 0 < (tupN (rD x)).getD 0) = (b.length < x.length) := by simp [rD, tupN]
    by_cases h : b.length < x.length
    · rw [if_pos (by rw [e]; exact h), if_pos h, pickL_map xs x]
    · rw [if_neg (by rw [e]; exact h), if_neg h, pickL_map xs b]
theorem maxLen_map (xs : List (List Nat)) : maxLenD (.lst (xs.map rD)) (.tup []) = some (rD (bestO xs)) := by
  cases xs with
  | nil => rfl
  | cons x xs =>
    show (if ((rD x) :: xs.map rD).all (fun d => (tupN d).isSome) = true then some (pickL (rD x) (xs.map rD)) else none) = _
    rw [if_pos (by simp [rD, tupN]), pickL_map]; rfl
def jobAt (js : List Job) (i : Nat) : Job := js.getD i ("", 0, 0)
def lastOf (r : List Nat) : Nat := r.getLastD 0
/-- the runs of the first n jobs -/
def runsN (js : List Job) : Nat → List (List Nat)
  | 0 => []
  | n + 1 => runsN js n ++ [bestO ((runsN js n).filter fun r => okJ (jobAt js (lastOf r)) (jobAt js n)) ++ [n]]
theorem runsN_len (js : List Job) : ∀ n, (runsN js n).length = n
  | 0 => rfl
  | n + 1 => by rw [runsN, List.length_append, List.length_singleton, runsN_len js n]
theorem runsN_mem {js : List Job} : ∀ {n : Nat} {r : List Nat}, r ∈ runsN js n → ∃ p k, r = p ++ [k] ∧ k < n
  | 0, r, h => by cases h
  | n + 1, r, h => by
    rcases List.mem_append.mp h with h | h
    · obtain ⟨p, k, e, hk⟩ := runsN_mem h
      exact ⟨p, k, e, by omega⟩
    · rw [List.mem_singleton.mp h]
      exact ⟨_, n, rfl, Nat.lt_succ_self _⟩
theorem noLs_rD (xs : List (List Nat)) : D.noLs (xs.map rD) = true := by
  have hints : ∀ r : List Nat, D.noLs (r.map fun n => D.int (n : Nat)) = true := fun r => by
    induction r with
    | nil => rfl
    | cons a r ih => simp [D.noLs, D.noL, ih]
  induction xs with
  | nil => rfl
  | cons a r ih => simp [D.noLs, D.noL, rD, hints, ih]
theorem lastOf_app (p : List Nat) (k : Nat) : lastOf (p ++ [k]) = k := by simp [lastOf]
theorem rD_last (p : List Nat) (k : Nat) : ixD (rD (p ++ [k])) (.int (-1)) = some (.int (k : Nat)) := by
  show atI ((p ++ [k]).map fun n : Nat => D.int (n : Nat)) (-1) = _
  rw [List.map_append, List.map_singleton, atI_last]
theorem jobs_at {js : List Job} {k : Nat} (h : k < js.length) : ixD (.lst (js.map jD)) (.int (k : Nat)) = some (jD (jobAt js k)) := by
  rw [ixD_lstN, List.getElem?_map, List.getElem?_eq_getElem h]
  simp [jobAt, List.getD, List.getElem?_eq_getElem h]
theorem addD_tup {a b : List D} (h : a.length + b.length ≤ 1000000) : addD (.tup a) (.tup b) = some (.tup (a ++ b)) := gP_pos h
theorem addD_lst {a b : List D} (h : a.length + b.length ≤ 1000000) : addD (.lst a) (.lst b) = some (.lst (a ++ b)) := gP_pos h
theorem appF_lst {a : List D} {x : D} (h : a.length < 1000000) : appF (.lst a) [x] = some (.non, .lst (a ++ [x])) := if_pos h
theorem bestL_mem : ∀ (xs : List (List Nat)) (b : List Nat), bestL b xs = b ∨ bestL b xs ∈ xs
  | [], b => .inl rfl
  | x :: xs, b => by
    rw [bestL]
    split
    · rcases bestL_mem xs x with h | h
      · exact .inr (by rw [h]; exact List.mem_cons_self ..)
      · exact .inr (List.mem_cons_of_mem _ h)
    · rcases bestL_mem xs b with h | h
      · exact .inl h
      · exact .inr (List.mem_cons_of_mem _ h)
theorem bestO_mem {xs : List (List Nat)} : bestO xs = [] ∨ bestO xs ∈ xs := by
  cases xs with
  | nil => exact .inl rfl
  | cons x xs =>
    rcases bestL_mem xs x with h | h
    · exact .inr (by show bestL x xs ∈ _; rw [h]; exact List.mem_cons_self ..)
    · exact .inr (List.mem_cons_of_mem _ h)
theorem runs_len_le {js : List Job} : ∀ {n : Nat} {r : List Nat}, r ∈ runsN js n → r.length ≤ n
  | 0, r, h => by cases h
  | n + 1, r, h => by
    rcases List.mem_append.mp h with h | h
    · have := runs_len_le h; omega
    · rw [List.mem_singleton.mp h, List.length_append, List.length_singleton]
      rcases bestO_mem (xs := (runsN js n).filter fun r => okJ (jobAt js (lastOf r)) (jobAt js n)) with e | e
      · rw [e]; simp
      · have := runs_len_le (List.mem_filter.mp e).1; omega
theorem runs_to_eq (js : List Job) (hl : js.length ≤ 1000) : f_runs_to [.lst (js.map jD)] = some (.lst ((runsN js js.length).map rD)) := by
  have en : enumD [.lst (js.map jD)] = some (enD 0 (js.map jD)) := enumD_lst (by rw [List.length_map]; omega)
  simp only [f_runs_to, c_runs_to, fV_e, fn1_e, Option.bind_some, szG0, Option.map_some, en]
  rw [Option.map_bind]
  refine forM_use (fun i s => s = .lst ((runsN js i).map rD)) rfl (fun i x s hx hs => ?_) fun s' h => ?_
  · obtain ⟨d, hd, rfl⟩ := enD_get hx
    obtain ⟨j, hj, rfl⟩ := map_at hd
    subst hs
    have il := (List.getElem?_eq_some_iff.mp hj).1
    have ej : jobAt js i = j := by simp [jobAt, List.getD, hj]
    have it : itD (.lst ((runsN js i).map rD)) = some ((runsN js i).map rD) := itD_lst (by rw [List.length_map, runsN_len]; omega)
    have len : (bestO ((runsN js i).filter fun r => okJ (jobAt js (lastOf r)) (jobAt js i))).length ≤ i := by
      rcases bestO_mem (xs := (runsN js i).filter fun r => okJ (jobAt js (lastOf r)) (jobAt js i)) with e | e
      · rw [e]; simp
      · exact runs_len_le (List.mem_filter.mp e).1
    simp only [un_pr, uns_cons, un_nm, uns_nil, Option.bind_some, List.append_nil, List.cons_append, List.nil_append, fn2_e, it, negD_int]
    rw [compM_filter (g := rD) (p := fun r => okJ (jobAt js (lastOf r)) (jobAt js i)) (h := rD)]
    · have nl : noLsG (.lst (((runsN js i).filter fun r => okJ (jobAt js (lastOf r)) (jobAt js i)).map rD)) = some (.lst (((runsN js i).filter fun r => okJ (jobAt js (lastOf r)) (jobAt js i)).map rD)) := by
        show (if D.noLs _ = true then _ else _) = _
        rw [if_pos (noLs_rD _)]
      have ad : addD (rD (bestO ((runsN js i).filter fun r => okJ (jobAt js (lastOf r)) (jobAt js i)))) (.tup [.int (i : Nat)]) = some (rD (bestO ((runsN js i).filter fun r => okJ (jobAt js (lastOf r)) (jobAt js i)) ++ [i])) := by
        rw [rD, addD_tup (by rw [List.length_map, List.length_singleton]; omega), rD, List.map_append]; rfl
      have ap : ∀ x, appF (.lst ((runsN js i).map rD)) [x] = some (.non, .lst ((runsN js i).map rD ++ [x])) := fun x => appF_lst (by rw [List.length_map, runsN_len]; omega)
      simp only [Option.map_some, Option.bind_some, nl, szG0, szG1, maxLen_map, ad, lX_some, bX_some, ap]
      refine ⟨_, rfl, ?_⟩
      rw [runsN, List.map_append]; rfl
    · intro r hr
      obtain ⟨p, k, rfl, hk⟩ := runsN_mem hr
      have jk : ixD (.lst (js.map jD)) (.int (k : Nat)) = some (jD (jobAt js k)) := jobs_at (by omega)
      have k0 : ixD (jD (jobAt js k)) (.int 0) = some (.str (jobAt js k).1) := ixT0
      have j0 : ixD (jD j) (.int 0) = some (.str j.1) := ixT0
      rw [lastOf_app, ej]
      by_cases h1 : (jobAt js k).1 = j.1 <;> by_cases h2 : (jobAt js k).2.2 < j.2.1 <;> simp [compB_eq, rD_last, jk, k0, j0, are_apart_eq, okJ, apart, h1, h2]
  · rw [enD_len, List.length_map] at h
    subst h
    rfl
abbrev Ent : Type := Str × Nat × Int
def eD (e : Ent) : D := .tup [.str e.1, .int (e.2.1 : Nat), .int e.2.2]
def minOf (x : Int) (l : List Int) : Int := l.foldl min x
/-- the kind and the number of the tool that does job n -/
def toolAt (js : List Job) (n : Nat) : Str × Nat := ((jobAt js n).1, ((runsN js js.length).getD n []).length - 1)
def planN (js : List Job) : Nat → List Ent
  | 0 => []
  | n + 1 => planN js n ++ [((toolAt js n).1, (toolAt js n).2, minOf (jobAt js n).2.2 (((planN js n).filter fun e => decide ((e.1, e.2.1) = toolAt js n)).map fun e => e.2.2))]
theorem planN_len (js : List Job) : ∀ n, (planN js n).length = n
  | 0 => rfl
  | n + 1 => by rw [planN, List.length_append, List.length_singleton, planN_len js n]
theorem runsN_take (js : List Job) : ∀ (m n : Nat), n ≤ m → (runsN js m).take n = runsN js n
  | 0, n, h => by
    have : n = 0 := by omega
    subst this; rfl
  | m + 1, n, h => by
    by_cases e : n = m + 1
    · subst e; rw [List.take_of_length_le (by rw [runsN_len]; omega)]
    · rw [runsN, List.take_append_of_le_length (by rw [runsN_len]; omega), runsN_take js m n (by omega)]
theorem runsN_at {js : List Job} {n m : Nat} (h : n < m) : ∃ p, (runsN js m)[n]? = some (p ++ [n]) ∧ p = bestO ((runsN js n).filter fun r => okJ (jobAt js (lastOf r)) (jobAt js n)) := by
  have e := runsN_take js m (n + 1) h
  have : (runsN js m)[n]? = (runsN js (n + 1))[n]? := by
    rw [← e, List.getElem?_take]; simp
  refine ⟨_, ?_, rfl⟩
  rw [this, runsN, List.getElem?_append_right (by rw [runsN_len]; omega), runsN_len, Nat.sub_self]; rfl
theorem minL_foldl {n : Int} {l : List Int} : minL (n :: l) = some (minOf n l) := rfl
theorem intsD_map (l : List Int) : intsD (l.map D.int) = some l := by
  induction l with
  | nil => rfl
  | cons a r ih => rw [List.map_cons, intsD, ih]; rfl
theorem minD_lst {l : List Int} {n : Int} : minD [.lst ((n :: l).map D.int)] = some (.int (minOf n l)) := by
  show ((some ((n :: l).map D.int)).bind intsD).bind _ = _
  rw [Option.bind_some, intsD_map, Option.bind_some, minL_foldl]; rfl
/-- a text of signs that there are -/
def Tx (s : Str) : Prop := PyData.strOk s = true
theorem Nm.tx {s : Str} (h : Nm s) : Tx s := by
  obtain ⟨_, _, h⟩ := h
  unfold Tx PyData.strOk
  rw [← Array.all_toList, List.all_eq_true]
  intro c hc
  have := h c hc
  exact decide_eq_true (by omega)
theorem okE_str {n : Nat} {s : Str} (h : Tx s) : okE n (.str s) = true := by
  unfold Tx at h
  cases n <;> simp [okE, h]
theorem okE_int {n : Nat} {s : Int} : okE n (.int s) = true := by cases n <;> simp [okE]
theorem eqD_pair {a b : Str} {m n : Int} (ha : Tx a) (hb : Tx b) : eqD (.tup [.str a, .int m]) (.tup [.str b, .int n]) = some (.bl (decide (a = b) && decide (m = n))) := by
  have h1 : okE 60 (.tup [.str a, .int m]) = true := by simp [okE, okEs]; exact ha
  have h2 : okE 60 (.tup [.str b, .int n]) = true := by simp [okE, okEs]; exact hb
  show (eqT _ _).map D.bl = _
  have : eqT (.tup [.str a, .int m]) (.tup [.str b, .int n]) = some (eqB (.tup [.str a, .int m]) (.tup [.str b, .int n])) := by
    show (if okE 60 _ = true ∧ okE 60 _ = true then _ else none) = _
    rw [if_pos ⟨h1, h2⟩]
  rw [this]
  simp [eqB, eqBs]
  rfl
theorem noLs_ints (l : List Int) : D.noLs (l.map D.int) = true := by
  induction l with
  | nil => rfl
  | cons a r ih => simp [D.noLs, D.noL, ih]
theorem runs_getD {js : List Job} {n : Nat} (h : n < js.length) : ∃ p, (runsN js js.length)[n]? = some (p ++ [n]) ∧ (toolAt js n).2 = p.length := by
  obtain ⟨p, h1, _⟩ := runsN_at (js := js) h
  exact ⟨p, h1, by simp [toolAt, List.getD, h1]⟩
theorem plan_tx {js : List Job} (ht : ∀ j ∈ js, Tx j.1) : ∀ {n : Nat}, n ≤ js.length → ∀ e ∈ planN js n, Tx e.1
  | 0, _, e, h => by cases h
  | n + 1, hn, e, h => by
    rcases List.mem_append.mp h with h | h
    · exact plan_tx ht (by omega) e h
    · rw [List.mem_singleton.mp h]
      show Tx (jobAt js n).1
      simp only [jobAt, List.getD, List.getElem?_eq_getElem (show n < js.length by omega)]
      exact ht _ (List.getElem_mem _)
theorem plan_of_eq (js : List Job) (hl : js.length ≤ 1000) (ht : ∀ j ∈ js, Tx j.1) : f_plan_of [.lst (js.map jD)] = some (.tup ((planN js js.length).map eD)) := by
  have en : enumD [.lst ((runsN js js.length).map rD)] = some (enD 0 ((runsN js js.length).map rD)) := enumD_lst (by rw [List.length_map, runsN_len]; omega)
  simp only [f_plan_of, c_plan_of, fV_e, fn1_e, Option.bind_some, szG0, Option.map_some, runs_to_eq js hl, en]
  rw [Option.map_bind]
  refine forM_use (fun i s => s = .lst ((planN js i).map eD)) rfl (fun i x s hx hs => ?_) fun s' h => ?_
  · obtain ⟨d, hd, rfl⟩ := enD_get hx
    obtain ⟨r, hr, rfl⟩ := map_at hd
    subst hs
    have il : i < js.length := by have := (List.getElem?_eq_some_iff.mp hr).1; rwa [runsN_len] at this
    obtain ⟨p, hp, tp⟩ := runs_getD il
    rw [hr] at hp
    cases hp
    have it : itD (.lst ((planN js i).map eD)) = some ((planN js i).map eD) := itD_lst (by rw [List.length_map, planN_len]; omega)
    have ja : ixD (.lst (js.map jD)) (.int (i : Nat)) = some (jD (jobAt js i)) := jobs_at il
    have jt : Tx (jobAt js i).1 := by
      simp only [jobAt, List.getD, List.getElem?_eq_getElem il]
      exact ht _ (List.getElem_mem _)
    have ln : M.lenD [rD (p ++ [i])] = some (.int ((p.length + 1 : Nat) : Int)) := by
      rw [rD, lenD_tup, List.length_map, List.length_append, List.length_singleton]
    have ez : (((p.length + 1 : Nat) : Int) - 1) = (p.length : Nat) := by omega
    have te : toolAt js i = ((jobAt js i).1, p.length) := Prod.ext rfl tp
    have bt : itD (jD (jobAt js i)) = itD (jD (jobAt js i)) := rfl
    simp only [un_pr, uns_cons, un_nm, uns_nil, Option.bind_some, List.append_nil, List.cons_append, List.nil_append, fn2_e, ja, ln, subD_int, ez, szG2, Option.map_some, it]
    rw [show un (.tp [.nm 4, .nm 5, .nm 6]) (jD (jobAt js i)) = some [.str (jobAt js i).1, .int (jobAt js i).2.1, .int (jobAt js i).2.2] from by simp [jD]]
    simp only [Option.bind_some, fn3_e, ln, subD_int, ez, szG2, Option.map_some, it]
    rw [compM_filter (g := eD) (p := fun e => decide ((e.1, e.2.1) = toolAt js i)) (h := fun e => .int e.2.2)]
    · have nl : noLsG (.lst (((planN js i).filter fun e => decide ((e.1, e.2.1) = toolAt js i)).map fun e => D.int e.2.2)) = some (.lst (((planN js i).filter fun e => decide ((e.1, e.2.1) = toolAt js i)).map fun e => D.int e.2.2)) := by
        show (if D.noLs _ = true then _ else _) = _
        rw [if_pos]
        have := noLs_ints (((planN js i).filter fun e => decide ((e.1, e.2.1) = toolAt js i)).map fun e => e.2.2)
        rwa [List.map_map] at this
      have fl : (((planN js i).filter fun e => decide ((e.1, e.2.1) = toolAt js i))).length ≤ i := by
        have := List.length_filter_le (fun e : Ent => decide ((e.1, e.2.1) = toolAt js i)) (planN js i)
        rwa [planN_len] at this
      have ad : addD (.lst [.int (jobAt js i).2.2]) (.lst (((planN js i).filter fun e => decide ((e.1, e.2.1) = toolAt js i)).map fun e => D.int e.2.2)) = some (.lst (((jobAt js i).2.2 :: ((planN js i).filter fun e => decide ((e.1, e.2.1) = toolAt js i)).map fun e => e.2.2).map D.int)) := by
        rw [addD_lst (by rw [List.length_map, List.length_singleton]; omega), List.map_cons, List.map_map]; rfl
      have ap : ∀ x, appF (.lst ((planN js i).map eD)) [x] = some (.non, .lst ((planN js i).map eD ++ [x])) := fun x => appF_lst (by rw [List.length_map, planN_len]; omega)
      simp only [Option.map_some, Option.bind_some, nl, seqOf_tup, szG1, ad, minD_lst, List.cons_append, List.nil_append, szG3, lX_some, bX_some, ap]
      refine ⟨_, rfl, ?_⟩
      rw [planN, List.map_append]
      simp only [te]
      rfl
    · intro e he
      have et := plan_tx ht (Nat.le_of_lt il) e he
      have eq := eqD_pair (m := (e.2.1 : Nat)) (n := (p.length : Nat)) et jt
      simp only [compB_eq, eD, un_tp, uns_cons, un_nm, uns_nil, Option.bind_some, List.append_nil, List.cons_append, List.nil_append, fn3_e, szG2, Option.map_some, eq, isBl_bl, te]
      by_cases h1 : e.1 = (jobAt js i).1 <;> by_cases h2 : e.2.1 = p.length <;> simp [h1, h2] <;> omega
  · rw [enD_len, List.length_map, runsN_len] at h
    subst h
    rfl
end U.P
end
section
set_option Elab.async false
set_option linter.all false
set_option maxRecDepth 100000
set_option maxHeartbeats 4000000
namespace U.P
open PySem L2 M
def Stk.wk (S : Stk) (n : Str) : Str × Str × Int × Int := (S.works.find? fun x => decide (x.1 = n)).getD ("", "", 0, 0)
def Stk.least (S : Stk) (k : Str) : Int := ((S.kinds.find? fun x => decide (x.1 = k)).map (·.2)).getD 0
def Stk.job (S : Stk) (n : Str) : Job := ((S.wk n).2.1, max (S.wk n).2.2.1 (S.least (S.wk n).2.1), (S.wk n).2.2.2)
def Stk.Can (S : Stk) (n : Str) : Prop := n ∈ S.works.map (·.1) ∧ S.least (S.wk n).2.1 ≤ (S.wk n).2.2.2
theorem Stk.wk_mem {S : Stk} {n : Str} (h : n ∈ S.works.map (·.1)) : S.works.find? (fun x => decide (x.1 = n)) = some (S.wk n) ∧ S.wk n ∈ S.works ∧ (S.wk n).1 = n := by
  obtain ⟨x, hx, e, hf⟩ := find_mem (nm := fun x : Str × Str × Int × Int => x.1) h
  have ew : S.wk n = x := by unfold Stk.wk; rw [hf]; rfl
  rw [ew]
  exact ⟨hf, hx, e⟩
theorem Stk.kd_mem {S : Stk} {k : Str} (h : k ∈ S.kinds.map (·.1)) : S.kinds.find? (fun x => decide (x.1 = k)) = some (k, S.least k) ∧ (k, S.least k) ∈ S.kinds := by
  obtain ⟨x, hx, e, hf⟩ := find_mem (nm := fun x : Str × Int => x.1) h
  have el : S.least k = x.2 := by unfold Stk.least; rw [hf]; rfl
  have ex : (k, S.least k) = x := by rw [el, ← e]
  rw [ex]
  exact ⟨hf, hx⟩
section
variable {S : Stk} {ws : List Str}
theorem named_work (ok : S.Ok) {n : Str} (h : n ∈ S.works.map (·.1)) : f_named [.tup (S.works.map wD), .str n] = some (wD (S.wk n)) := by
  rw [named_w (by have := ok.w1; omega) (.inl rfl), (Stk.wk_mem h).1]; rfl
theorem named_kind (ok : S.Ok) {k : Str} (h : k ∈ S.kinds.map (·.1)) : f_named [.tup (S.kinds.map kD), .str k] = some (kD (k, S.least k)) := by
  rw [named_k (by have := ok.k1.2; omega) (.inl rfl), (Stk.kd_mem h).1]; rfl
theorem need_works_ok (ok : S.Ok) {most : Int} (hl : ((ws.length : Nat) : Int) ≤ most) (hm : ws.length < 1000000) (h : ∀ n ∈ ws, n ∈ S.works.map (·.1)) : f_need_works [S.T, .tup (ws.map .str), .int most] = some (.lst (ws.map fun n => wD (S.wk n))) := by
  have it : itD (.tup (ws.map .str)) = some (ws.map .str) := itD_tup (by rw [List.length_map]; exact hm)
  have i6 : ixD S.T (.int 6) = some (.tup (S.works.map wD)) := by rw [S.T_eq, ixT6]
  have nl : ¬ (most < ((ws.length : Nat) : Int)) := by omega
  simp only [f_need_works, c_need_works, fV_e, fn3_e, Option.bind_some, isTy_tup_tup, isBl_bl, Bool.not_true, orM_f, lenD_tup, List.length_map, gtD_int, nl, decide_false, iteM_f, it, i6]
  rw [compM_map (h := fun n => wD (S.wk n))]
  · rfl
  · intro n hn
    have e1 := named_work ok (h n hn)
    have e2 : f_need_named [.tup (S.works.map wD), .str n] = some (wD (S.wk n)) := by
      simp [f_need_named, c_need_named, e1, wD]
    simp [compB_eq, e2]
theorem need_jobs_ok (ok : S.Ok) (hl : ws.length ≤ 12) (h : ∀ n ∈ ws, S.Can n) : f_need_jobs [S.T, .tup (ws.map .str)] = some (.lst ((ws.map S.job).map jD)) := by
  have nw := need_works_ok (S := S) (ws := ws) ok (most := 12) (by omega) (by omega) fun n hn => (h n hn).1
  have it : itD (.lst (ws.map fun n => wD (S.wk n))) = some (ws.map fun n => wD (S.wk n)) := itD_lst (by rw [List.length_map]; omega)
  have i0 : ixD S.T (.int 0) = some (.tup (S.kinds.map kD)) := by rw [S.T_eq, ixT0]
  simp only [f_need_jobs, c_need_jobs, fV_e, fn2_e, Option.bind_some, szG0, Option.map_some, need_stock_ok S ok, nw, it]
  rw [Option.map_bind]
  refine forM_use (fun i s => s = .lst (((ws.take i).map S.job).map jD)) rfl (fun i x s hx hs => ?_) fun s' h' => ?_
  · obtain ⟨n, hn, rfl⟩ := map_at hx
    subst hs
    have hc := h n (List.mem_of_getElem? hn)
    obtain ⟨_, wm, _⟩ := Stk.wk_mem hc.1
    obtain ⟨_, wk, _⟩ := ok.w3 _ wm
    have e1 := named_kind ok wk
    have e2 : ¬ ((S.wk n).2.2.2 < S.least (S.wk n).2.1) := by have := hc.2; omega
    have ap : ∀ x, appF (.lst (((ws.take i).map S.job).map jD)) [x] = some (.non, .lst (((ws.take i).map S.job).map jD ++ [x])) := fun x => appF_lst (by rw [List.length_map, List.length_map, List.length_take]; omega)
    rw [show un (.tp [.nm 3, .nm 4, .nm 5, .nm 6]) (wD (S.wk n)) = some [.str (S.wk n).1, .str (S.wk n).2.1, .int (S.wk n).2.2.1, .int (S.wk n).2.2.2] from by simp [wD]]
    simp only [Option.bind_some, fn4_e, i0, e1, kD, ixT1, ltD_int, e2, decide_false, isBl_bl, iteM_f, maxD_2, szG3, Option.map_some, lX_some, bX_some, ap]
    refine ⟨_, rfl, ?_⟩
    rw [List.take_add_one, hn]
    simp [Stk.job, jD]
  · rw [List.length_map, List.take_length] at h'
    subst h'
    rfl
end
theorem keyTD_map {α : Type} (f : α → Str × Nat) : ∀ (l : List α), keyTD (l.map fun e => .tup [.str (f e).1, .int ((f e).2 : Nat)]) = some (l.map fun e => [(Sum.inr (f e).1 : Key), Sum.inl (((f e).2 : Nat) : Int)])
  | [] => rfl
  | a :: l => by
    rw [List.map_cons, keyTD, keyTD_map f l]
    rfl
/-- how many unlike tools -/
def tools (es : List Ent) : Nat := (ndup (es.map fun e => (e.1, e.2.1))).length
theorem ndup_inj {α β : Type} [DecidableEq α] [DecidableEq β] {f : α → β} (hf : ∀ a b, f a = f b → a = b) : ∀ l : List α, ndup (l.map f) = (ndup l).map f
  | [] => rfl
  | x :: r => by
    rw [List.map_cons, ndup, ndup, ndup_inj hf r]
    have : (f x ∈ (ndup r).map f) = (x ∈ ndup r) := by
      rw [eq_iff_iff, List.mem_map]
      exact ⟨fun ⟨y, hy, e⟩ => hf _ _ e ▸ hy, fun h => ⟨x, h, rfl⟩⟩
    simp only [this]
    split <;> rfl
theorem many_tools_eq (es : List Ent) (hl : es.length ≤ 62) : f_many_tools [.tup (es.map eD)] = some (.int (tools es : Nat)) := by
  have it : itD (.tup (es.map eD)) = some (es.map eD) := itD_tup (by rw [List.length_map]; omega)
  simp only [f_many_tools, c_many_tools, fV_e, fn1_e, Option.bind_some, it]
  rw [compM_map (h := fun e : Ent => .tup [.str e.1, .int (e.2.1 : Nat)])]
  · simp only [Option.map_some, Option.bind_some]
    have : cntD (.lst (es.map fun e : Ent => .tup [.str e.1, .int (e.2.1 : Nat)])) = some (.int (tools es : Nat)) := by
      cases es with
      | nil => rfl
      | cons a r =>
        show (if ((a :: r).map fun e : Ent => D.tup [.str e.1, .int (e.2.1 : Nat)]).length ≤ 62 then _ else none) = _
        rw [if_pos (by rw [List.length_map]; exact hl)]
        show (keyTD ((a :: r).map fun e : Ent => D.tup [.str e.1, .int (e.2.1 : Nat)])).map _ = _
        rw [keyTD_map (fun e : Ent => (e.1, e.2.1))]
        show some (D.int ((ndup _).length : Nat)) = _
        have e1 : ((a :: r).map fun e : Ent => [(Sum.inr e.1 : Key), Sum.inl ((e.2.1 : Nat) : Int)]) = ((a :: r).map fun e : Ent => (e.1, e.2.1)).map fun p => [(Sum.inr p.1 : Key), Sum.inl ((p.2 : Nat) : Int)] := by
          rw [List.map_map]; rfl
        rw [e1, ndup_inj, List.length_map]
        · rfl
        · rintro ⟨a1, a2⟩ ⟨b1, b2⟩ e
          simp at e
          exact Prod.ext e.1 (by omega)
    rw [this]
    rfl
  · intro e _
    simp [compB_eq, eD]
section
variable {S : Stk} {ws : List Str}
theorem jobs_tx (ok : S.Ok) (h : ∀ n ∈ ws, S.Can n) : ∀ j ∈ ws.map S.job, Tx j.1 := by
  intro j hj
  obtain ⟨n, hn, rfl⟩ := List.mem_map.mp hj
  obtain ⟨_, wm, _⟩ := Stk.wk_mem (h n hn).1
  obtain ⟨_, wk, _⟩ := ok.w3 _ wm
  obtain ⟨k, hk, e⟩ := List.mem_map.mp wk
  show Tx (S.wk n).2.1
  rw [← e]
  exact (ok.k3 k hk).1.tx
def Stk.plan (S : Stk) (ws : List Str) : List Ent := planN (ws.map S.job) ws.length
theorem plan_for_ok (ok : S.Ok) (hl : ws.length ≤ 12) (h : ∀ n ∈ ws, S.Can n) : f_plan_for [S.T, .tup (ws.map .str)] = some (.tup ((S.plan ws).map eD)) := by
  have := plan_of_eq (ws.map S.job) (by rw [List.length_map]; omega) (jobs_tx ok h)
  rw [List.length_map] at this
  simp [f_plan_for, c_plan_for, need_jobs_ok ok hl h]
  rw [List.map_map] at this
  rw [this]; rfl
theorem fewest_ok (ok : S.Ok) (hl : ws.length ≤ 12) (h : ∀ n ∈ ws, S.Can n) : f_fewest [S.T, .tup (ws.map .str)] = some (.int (tools (S.plan ws) : Nat)) := by
  have e1 := plan_of_eq (ws.map S.job) (by rw [List.length_map]; omega) (jobs_tx ok h)
  rw [List.length_map] at e1
  have e2 := many_tools_eq (S.plan ws) (by unfold Stk.plan; rw [planN_len]; omega)
  simp only [f_fewest, c_fewest, fV_e, fn2_e, Option.bind_some, need_jobs_ok ok hl h, e1]
  rw [show planN (ws.map S.job) ws.length = S.plan ws from rfl, e2]
  rfl
end
end U.P
end
section
set_option Elab.async false
set_option linter.all false
set_option maxRecDepth 100000
set_option maxHeartbeats 4000000
namespace U.P
open PySem L2 M
theorem bestL_ge : ∀ (xs : List (List Nat)) (b : List Nat), b.length ≤ (bestL b xs).length ∧ ∀ x ∈ xs, x.length ≤ (bestL b xs).length
  | [], b => ⟨Nat.le_refl _, fun x h => by cases h⟩
  | y :: xs, b => by
    rw [bestL]
    split
    · rename_i h
      obtain ⟨h1, h2⟩ := bestL_ge xs y
      exact ⟨by omega, fun x hx => (List.mem_cons.mp hx).elim (fun e => e ▸ h1) (h2 x)⟩
    · rename_i h
      obtain ⟨h1, h2⟩ := bestL_ge xs b
      exact ⟨h1, fun x hx => (List.mem_cons.mp hx).elim (fun e => by rw [e]; omega) (h2 x)⟩
theorem bestO_spec {xs : List (List Nat)} (h : xs ≠ []) : bestO xs ∈ xs ∧ ∀ x ∈ xs, x.length ≤ (bestO xs).length := by
  cases xs with
  | nil => exact absurd rfl h
  | cons x xs =>
    obtain ⟨h1, h2⟩ := bestL_ge xs x
    refine ⟨?_, fun y hy => (List.mem_cons.mp hy).elim (fun e => e ▸ h1) (h2 y)⟩
    rcases bestL_mem xs x with e | e
    · show bestL x xs ∈ _; rw [e]; exact List.mem_cons_self ..
    · exact List.mem_cons_of_mem _ e
section
variable (js : List Job)
def run (i : Nat) : List Nat := (runsN js js.length).getD i []
def dep (i : Nat) : Nat := (run js i).length
abbrev ok (i j : Nat) : Prop := okJ (jobAt js i) (jobAt js j) = true
def kd (i : Nat) : Str := (jobAt js i).1
end
section
variable {js : List Job}
theorem okJ_iff {a b : Job} : okJ a b = true ↔ a.1 = b.1 ∧ a.2.2 < b.2.1 := by simp [okJ]
theorem apart_iff {a b : Job} : apart a b = true ↔ a.1 ≠ b.1 ∨ a.2.2 < b.2.1 := by simp [apart]
theorem run_mem {i : Nat} {r : List Nat} (hi : i ≤ js.length) : r ∈ runsN js i ↔ ∃ j, j < i ∧ r = run js j := by
  have e := runsN_take js js.length i hi
  constructor
  · intro h
    obtain ⟨j, hj, ej⟩ := List.getElem_of_mem h
    rw [runsN_len] at hj
    refine ⟨j, hj, ?_⟩
    have : (runsN js i)[j]? = some r := by rw [List.getElem?_eq_getElem (by rw [runsN_len]; exact hj), ej]
    rw [← e, List.getElem?_take, if_pos hj] at this
    unfold run
    rw [List.getD, this]; rfl
  · rintro ⟨j, hj, rfl⟩
    rw [← e]
    have hl : j < (runsN js js.length).length := by rw [runsN_len]; omega
    have : run js j = (runsN js js.length)[j] := by unfold run; rw [List.getD, List.getElem?_eq_getElem hl]; rfl
    rw [this]
    exact List.mem_take_iff_getElem.mpr ⟨j, by rw [Nat.lt_min]; exact ⟨hj, hl⟩, rfl⟩
theorem run_spec {i : Nat} (hi : i < js.length) : ∃ p, run js i = p ++ [i] ∧ ((p = [] ∧ ∀ j, j < i → ¬ ok js j i) ∨ ∃ j, j < i ∧ ok js j i ∧ p = run js j ∧ ∀ k, k < i → ok js k i → dep js k ≤ dep js j) := by
  obtain ⟨p, h1, h2⟩ := runsN_at (js := js) hi
  refine ⟨p, by unfold run; rw [List.getD, h1]; rfl, ?_⟩
  have lo : ∀ j, j < i → lastOf (run js j) = j := fun j hj => by
    obtain ⟨q, g1, _⟩ := runsN_at (js := js) (n := j) (m := js.length) (by omega)
    unfold run
    rw [List.getD, g1]
    exact lastOf_app q j
  by_cases hn : ((runsN js i).filter fun r => okJ (jobAt js (lastOf r)) (jobAt js i)) = []
  · left
    refine ⟨by rw [h2, hn]; rfl, fun j hj ho => ?_⟩
    have : run js j ∈ (runsN js i).filter fun r => okJ (jobAt js (lastOf r)) (jobAt js i) := List.mem_filter.mpr ⟨(run_mem (by omega)).mpr ⟨j, hj, rfl⟩, by rw [lo j hj]; exact ho⟩
    rw [hn] at this
    cases this
  · right
    obtain ⟨b1, b2⟩ := bestO_spec hn
    rw [← h2] at b1 b2
    obtain ⟨m1, m2⟩ := List.mem_filter.mp b1
    obtain ⟨j, hj, e⟩ := (run_mem (by omega)).mp m1
    rw [e, lo j hj] at m2
    refine ⟨j, hj, m2, e, fun k hk ho => ?_⟩
    have := b2 _ (List.mem_filter.mpr ⟨(run_mem (by omega)).mpr ⟨k, hk, rfl⟩, by rw [lo k hk]; exact ho⟩)
    rw [e] at this
    exact this
theorem dep_pos {i : Nat} (hi : i < js.length) : 0 < dep js i := by
  obtain ⟨p, e, _⟩ := run_spec hi
  unfold dep
  rw [e, List.length_append, List.length_singleton]; omega
theorem dep_lt {i j : Nat} (hij : i < j) (hj : j < js.length) (ho : ok js i j) : dep js i < dep js j := by
  obtain ⟨p, e, h | ⟨k, hk, _, ep, hm⟩⟩ := run_spec hj
  · exact absurd ho (h.2 i hij)
  · have := hm i hij ho
    have e2 : dep js j = dep js k + 1 := by unfold dep; rw [e, ep, List.length_append, List.length_singleton]
    omega
theorem toolAt_eq {i : Nat} : toolAt js i = (kd js i, dep js i - 1) := rfl
/-- unlike tools in a run -/
theorem tool_ne {i j : Nat} (hij : i < j) (hj : j < js.length) (ha : apart (jobAt js i) (jobAt js j) = true) : toolAt js i ≠ toolAt js j := by
  intro e
  rw [toolAt_eq, toolAt_eq] at e
  have e1 : kd js i = kd js j := (Prod.mk.inj e).1
  have e2 : dep js i - 1 = dep js j - 1 := (Prod.mk.inj e).2
  rcases apart_iff.mp ha with h | h
  · exact h e1
  · have := dep_lt hij hj (okJ_iff.mpr ⟨e1, h⟩)
    have := dep_pos (js := js) (i := i) (by omega)
    omega
/-- what is in a run: the places ahead of it, of all depths -/
theorem run_at (hlh : ∀ j ∈ js, j.2.1 ≤ j.2.2) : ∀ (i : Nat), i < js.length → (∀ d, d < dep js i → ∃ e, e ∈ run js i ∧ dep js e = d + 1) ∧ (∀ e ∈ run js i, e ≤ i ∧ kd js e = kd js i) ∧ (run js i).Pairwise (fun a b => a < b ∧ ok js a b) := by
  intro i
  induction i using Nat.strongRecOn with
  | ind i ih =>
    intro hi
    obtain ⟨p, e, h⟩ := run_spec hi
    have dl : dep js i = p.length + 1 := by unfold dep; rw [e, List.length_append, List.length_singleton]
    have base : (∀ d, d < p.length → ∃ x, x ∈ p ∧ dep js x = d + 1) → (∀ x ∈ p, x < i ∧ ok js x i) → p.Pairwise (fun a b => a < b ∧ ok js a b) → (∀ d, d < dep js i → ∃ e, e ∈ run js i ∧ dep js e = d + 1) ∧ (∀ e ∈ run js i, e ≤ i ∧ kd js e = kd js i) ∧ (run js i).Pairwise (fun a b => a < b ∧ ok js a b) := by
      intro b1 b2 b3
      rw [e]
      refine ⟨fun d hd => ?_, fun x hx => ?_, ?_⟩
      · by_cases z : d < p.length
        · obtain ⟨x, hx, dx⟩ := b1 d z
          exact ⟨x, List.mem_append_left _ hx, dx⟩
        · exact ⟨i, List.mem_append_right _ (List.mem_singleton.mpr rfl), by omega⟩
      · rcases List.mem_append.mp hx with z | z
        · obtain ⟨z1, z2⟩ := b2 x z
          exact ⟨Nat.le_of_lt z1, (okJ_iff.mp z2).1⟩
        · rw [List.mem_singleton.mp z]; exact ⟨Nat.le_refl _, rfl⟩
      · exact List.pairwise_append.mpr ⟨b3, List.pairwise_singleton _ _, fun a ha b hb => by rw [List.mem_singleton.mp hb]; exact b2 a ha⟩
    rcases h with ⟨rfl, _⟩ | ⟨j, hj, ho, rfl, _⟩
    · exact base (fun d hd => absurd hd (Nat.not_lt_zero _)) (fun x hx => by cases hx) List.Pairwise.nil
    · obtain ⟨i1, i2, i3⟩ := ih j hj (by omega)
      refine base i1 (fun x hx => ?_) i3
      obtain ⟨x1, x2⟩ := i2 x hx
      refine ⟨by omega, ?_⟩
      by_cases z : x = j
      · rw [z]; exact ho
      · -- j is the last of its run
        obtain ⟨q, eq, _⟩ := run_spec (js := js) (i := j) (by omega)
        rw [eq] at hx i3
        have xq : x ∈ q := (List.mem_append.mp hx).elim id fun y => absurd (List.mem_singleton.mp y) z
        have xo := ((List.pairwise_append.mp i3).2.2 x xq j (List.mem_singleton.mpr rfl)).2
        obtain ⟨o1, o2⟩ := okJ_iff.mp xo
        obtain ⟨o3, o4⟩ := okJ_iff.mp ho
        have jl : (jobAt js j).2.1 ≤ (jobAt js j).2.2 := by
          simp only [jobAt, List.getD, List.getElem?_eq_getElem (show j < js.length by omega)]
          exact hlh _ (List.getElem_mem _)
        exact okJ_iff.mpr ⟨o1.trans o3, by omega⟩
/-- one with the most, the first of these -/
theorem top_ex (Q : Nat → Prop) (f : Nat → Nat) : ∀ n, (∃ i, i < n ∧ Q i) → ∃ i, i < n ∧ Q i ∧ ∀ j, j < n → Q j → f j < f i ∨ (f j = f i ∧ i ≤ j)
  | 0, ⟨i, h, _⟩ => absurd h (Nat.not_lt_zero _)
  | n + 1, h => by
    by_cases z : ∃ i, i < n ∧ Q i
    · obtain ⟨i, h1, h2, h3⟩ := top_ex Q f n z
      by_cases y : Q n ∧ f i < f n
      · refine ⟨n, Nat.lt_succ_self _, y.1, fun j hj hq => ?_⟩
        by_cases e : j = n
        · subst e; exact .inr ⟨rfl, Nat.le_refl _⟩
        · have := h3 j (by omega) hq
          exact .inl (by omega)
      · refine ⟨i, by omega, h2, fun j hj hq => ?_⟩
        by_cases e : j = n
        · subst e
          have : ¬ f i < f j := fun w => y ⟨hq, w⟩
          by_cases e2 : f j = f i
          · exact .inr ⟨e2, by omega⟩
          · exact .inl (by omega)
        · exact h3 j (by omega) hq
    · obtain ⟨i, h1, h2⟩ := h
      have e : i = n := Classical.byContradiction fun w => z ⟨i, by omega, h2⟩
      subst e
      refine ⟨i, h1, h2, fun j hj hq => ?_⟩
      have e2 : j = i := Classical.byContradiction fun w => z ⟨j, by omega, hq⟩
      subst e2
      exact .inr ⟨rfl, Nat.le_refl _⟩
def IsTop (js : List Job) (i : Nat) : Prop := ∀ j, j < js.length → kd js j = kd js i → dep js j < dep js i ∨ (dep js j = dep js i ∧ i ≤ j)
/-- rising numbers, any two of which are apart -/
def LRun (js : List Job) (n : Nat) (r : List Nat) : Prop := r.Pairwise (fun i j => i < j ∧ apart (jobAt js i) (jobAt js j) = true) ∧ ∀ i ∈ r, i < n
def toolsN (js : List Job) : List (Str × Nat) := (List.range js.length).map (toolAt js)
theorem plan_tools : ∀ n, (planN js n).map (fun e => (e.1, e.2.1)) = (List.range n).map (toolAt js)
  | 0 => rfl
  | n + 1 => by
    rw [planN, List.map_append, plan_tools n, List.range_succ, List.map_append]; rfl
theorem tools_eq : tools (planN js js.length) = (ndup (toolsN js)).length := by unfold tools toolsN; rw [plan_tools]
theorem lrun_le {r : List Nat} (h : LRun js js.length r) : r.length ≤ (ndup (toolsN js)).length := by
  have nd : (r.map (toolAt js)).Nodup := by
    refine List.pairwise_map.mpr (List.Pairwise.imp_of_mem ?_ h.1)
    intro i j _ hj hh
    exact tool_ne hh.1 (h.2 j hj) hh.2
  have := nodup_le (ys := r.map (toolAt js)) (zs := ndup (toolsN js)) nd fun t ht => by
    obtain ⟨i, hi, rfl⟩ := List.mem_map.mp ht
    exact ndup_mem.mpr (List.mem_map.mpr ⟨i, List.mem_range.mpr (h.2 i hi), rfl⟩)
  rwa [List.length_map] at this
theorem pw_mem {α : Type} {P : α → α → Prop} {a b : α} : ∀ {l : List α}, l.Pairwise P → a ∈ l → b ∈ l → a ≠ b → P a b ∨ P b a
  | [], _, h, _, _ => by cases h
  | x :: l, hp, ha, hb, n => by
    obtain ⟨h1, h2⟩ := List.pairwise_cons.mp hp
    rcases List.mem_cons.mp ha with e | ha
    · rcases List.mem_cons.mp hb with e2 | hb
      · exact absurd (e.trans e2.symm) n
      · exact .inl (e ▸ h1 b hb)
    · rcases List.mem_cons.mp hb with e2 | hb
      · exact .inr (e2 ▸ h1 a ha)
      · exact pw_mem h2 ha hb n
open Classical in
theorem lrun_ge (hlh : ∀ j ∈ js, j.2.1 ≤ j.2.2) : ∃ r, LRun js js.length r ∧ (ndup (toolsN js)).length ≤ r.length := by
  refine ⟨(List.range js.length).filter fun e => decide (∃ i, i < js.length ∧ IsTop js i ∧ e ∈ run js i), ⟨?_, fun i hi => List.mem_range.mp (List.mem_filter.mp hi).1⟩, ?_⟩
  · have base : ((List.range js.length).filter fun e => decide (∃ i, i < js.length ∧ IsTop js i ∧ e ∈ run js i)).Pairwise (· < ·) := List.Pairwise.filter _ (List.pairwise_lt_range)
    refine List.Pairwise.imp_of_mem ?_ base
    intro a b ha hb hab
    refine ⟨hab, ?_⟩
    obtain ⟨i, hi, ti, ai⟩ := of_decide_eq_true (List.mem_filter.mp ha).2
    obtain ⟨k, hk, tk, bk⟩ := of_decide_eq_true (List.mem_filter.mp hb).2
    obtain ⟨_, i2, i3⟩ := run_at hlh i hi
    obtain ⟨_, k2, _⟩ := run_at hlh k hk
    by_cases e : kd js a = kd js b
    · have eik : kd js i = kd js k := by rw [← (i2 a ai).2, ← (k2 b bk).2]; exact e
      have : i = k := by
        have h1 := ti k hk eik.symm
        have h2 := tk i hi eik
        omega
      subst this
      rcases pw_mem i3 ai bk (by omega) with h | h
      · exact apart_iff.mpr (.inr (okJ_iff.mp h.2).2)
      · exact absurd h.1 (by omega)
    · exact apart_iff.mpr (.inl e)
  · have := nodup_le (ys := ndup (toolsN js)) (zs := ((List.range js.length).filter fun e => decide (∃ i, i < js.length ∧ IsTop js i ∧ e ∈ run js i)).map (toolAt js)) ndup_nodup fun t ht => by
      obtain ⟨i, hi, rfl⟩ := List.mem_map.mp (ndup_mem.mp ht)
      have hi := List.mem_range.mp hi
      obtain ⟨m, hm, em, tm⟩ := top_ex (fun j => kd js j = kd js i) (dep js) js.length ⟨i, hi, rfl⟩
      have tm' : IsTop js m := fun j hj e => tm j hj (e.trans em)
      have le : dep js i ≤ dep js m := by have := tm i hi rfl; omega
      have pi := dep_pos hi
      obtain ⟨r1, r2, _⟩ := run_at hlh m hm
      obtain ⟨e, he, de⟩ := r1 (dep js i - 1) (by omega)
      obtain ⟨e1, e2⟩ := r2 e he
      refine List.mem_map.mpr ⟨e, List.mem_filter.mpr ⟨List.mem_range.mpr (by omega), decide_eq_true ⟨m, hm, tm', he⟩⟩, ?_⟩
      rw [toolAt_eq, toolAt_eq, e2, em, de]
      exact Prod.ext rfl (by show dep js i - 1 + 1 - 1 = dep js i - 1; omega)
    rwa [List.length_map] at this
/-- the runs that the law finds -/
def lawRuns (js : List Job) : Nat → List (List Nat)
  | 0 => [[]]
  | n + 1 => lawRuns js n ++ ((lawRuns js n).filter fun r => r.all fun i => apart (jobAt js i) (jobAt js n)).map fun r => r ++ [n]
theorem lawRuns_mem : ∀ {n : Nat} {r : List Nat}, r ∈ lawRuns js n ↔ LRun js n r
  | 0, r => by
    constructor
    · intro h
      rw [List.mem_singleton.mp h]
      exact ⟨List.Pairwise.nil, fun i hi => by cases hi⟩
    · rintro ⟨_, h⟩
      cases r with
      | nil => exact List.mem_singleton.mpr rfl
      | cons a r => exact absurd (h a (List.mem_cons_self ..)) (Nat.not_lt_zero _)
  | n + 1, r => by
    rw [lawRuns, List.mem_append, lawRuns_mem (n := n)]
    constructor
    · rintro (⟨h1, h2⟩ | h)
      · exact ⟨h1, fun i hi => Nat.lt_succ_of_lt (h2 i hi)⟩
      · obtain ⟨q, hq, rfl⟩ := List.mem_map.mp h
        obtain ⟨m1, m2⟩ := List.mem_filter.mp hq
        obtain ⟨h1, h2⟩ := lawRuns_mem.mp m1
        refine ⟨List.pairwise_append.mpr ⟨h1, List.pairwise_singleton _ _, fun a ha b hb => ?_⟩, fun i hi => ?_⟩
        · rw [List.mem_singleton.mp hb]
          exact ⟨h2 a ha, List.all_eq_true.mp m2 a ha⟩
        · rcases List.mem_append.mp hi with z | z
          · exact Nat.lt_succ_of_lt (h2 i z)
          · rw [List.mem_singleton.mp z]; exact Nat.lt_succ_self _
    · rintro ⟨h1, h2⟩
      by_cases z : n ∈ r
      · right
        obtain ⟨s, t, rfl⟩ := List.append_of_mem z
        have tn : t = [] := by
          cases t with
          | nil => rfl
          | cons b t =>
            have p := (List.pairwise_cons.mp (List.pairwise_append.mp h1).2.1).1 b (List.mem_cons_self ..)
            have := h2 b (List.mem_append_right _ (List.mem_cons_of_mem _ (List.mem_cons_self ..)))
            omega
        subst tn
        obtain ⟨p1, _, p3⟩ := List.pairwise_append.mp h1
        refine List.mem_map.mpr ⟨s, List.mem_filter.mpr ⟨lawRuns_mem.mpr ⟨p1, fun i hi => (p3 i hi n (List.mem_singleton.mpr rfl)).1⟩, ?_⟩, rfl⟩
        exact List.all_eq_true.mpr fun i hi => (p3 i hi n (List.mem_singleton.mpr rfl)).2
      · left
        exact ⟨h1, fun i hi => by
          have := h2 i hi
          have : i ≠ n := fun e => z (e ▸ hi)
          omega⟩
theorem foldl_max : ∀ (r : List Int) (n : Int), n ≤ r.foldl max n ∧ (∀ y ∈ r, y ≤ r.foldl max n) ∧ (r.foldl max n = n ∨ r.foldl max n ∈ r)
  | [], n => ⟨Int.le_refl _, (fun y h => absurd h (List.not_mem_nil)), .inl rfl⟩
  | a :: r, n => by
    obtain ⟨h1, h2, h3⟩ := foldl_max r (max n a)
    refine ⟨by rw [List.foldl_cons]; omega, fun y hy => ?_, ?_⟩
    · rw [List.foldl_cons]
      rcases List.mem_cons.mp hy with e | e
      · rw [e]; omega
      · exact h2 y e
    · rw [List.foldl_cons]
      rcases h3 with e | e
      · rcases Int.le_total n a with z | z
        · rw [Int.max_eq_right z] at e ⊢
          exact .inr (by rw [e]; exact List.mem_cons_self ..)
        · rw [Int.max_eq_left z] at e ⊢
          exact .inl e
      · exact .inr (List.mem_cons_of_mem _ e)
theorem maxL_eq {l : List Int} {m : Int} (h1 : m ∈ l) (h2 : ∀ y ∈ l, y ≤ m) : maxL l = some m := by
  cases l with
  | nil => cases h1
  | cons a r =>
    show some (r.foldl max a) = _
    obtain ⟨g1, g2, g3⟩ := foldl_max r a
    congr 1
    have a1 : m ≤ r.foldl max a := (List.mem_cons.mp h1).elim (fun e => e ▸ g1) (g2 m)
    have a2 : r.foldl max a ≤ m := g3.elim (fun e => by rw [e]; exact h2 a (List.mem_cons_self ..)) fun e => h2 _ (List.mem_cons_of_mem _ e)
    omega
/-- the law's answer is the program's -/
theorem most_eq (hlh : ∀ j ∈ js, j.2.1 ≤ j.2.2) : maxL ((lawRuns js js.length).map fun r => (r.length : Int)) = some ((tools (planN js js.length) : Nat) : Int) := by
  rw [tools_eq]
  obtain ⟨r, h1, h2⟩ := lrun_ge hlh
  have h3 := lrun_le h1
  refine maxL_eq (List.mem_map.mpr ⟨r, lawRuns_mem.mpr h1, by omega⟩) fun y hy => ?_
  obtain ⟨q, hq, rfl⟩ := List.mem_map.mp hy
  have := lrun_le (lawRuns_mem.mp hq)
  omega
end
end U.P
end
section
set_option Elab.async false
set_option linter.all false
set_option maxRecDepth 100000
set_option maxHeartbeats 4000000
namespace U.A35
open PySem L2 M U
def abcS : Str := "abcdefghijklmnopqrstuvwxyz"
def wordS : Str := "kind box tool hand set gauge work keep lend pass back sharp find stone lose new lost"
def wordL : List Str := ["kind", "box", "tool", "hand", "set", "gauge", "work", "keep", "lend", "pass", "back", "sharp", "find", "stone", "lose", "new", "lost"]
theorem word_split : Txt.split wordS " " = wordL := by decide +kernel
theorem wordL_ok : ∀ s ∈ wordL, nameS s = true := by decide +kernel
theorem wordL_nd : wordL.Nodup := by decide +kernel
theorem wordL_inj : ∀ i j : Fin 17, wordL.getD i.1 Str.empty = wordL.getD j.1 Str.empty → i = j := by decide +kernel
theorem abc_at (i : Nat) (h : i < 26) : abcS.cps.toList[i]? = some (97 + i) := by
  have z : ∀ i : Fin 26, abcS.cps.toList[i.1]? = some (97 + i.1) := by decide +kernel
  exact z ⟨i, h⟩
theorem abc_len : abcS.length ≤ sizeLine := by
  have z : abcS.length = 26 := by decide +kernel
  rw [z, sizeLine_eq]; decide
/-- names told by a rule -/
def nmF (way first : Nat) (base : Str) (k : Nat) : Str :=
  if way = 0 then wordL.getD ((first + 3 * k) % 17) Str.empty else if way = 1 then timesS (97 + first) (1 + k) else base ++ ⟨#[97 + (first + 3 * k) % 26]⟩
def lowS (s : Str) : Bool := s.cps.toList.all lowC
theorem nmF_ok {way first : Nat} {base : Str} (hf : first < 26) (hb : base.length ≤ 7) (hl : lowS base = true) (k : Nat) (hk : k < 8) : nameS (nmF way first base k) = true := by
  unfold nmF
  split
  · have e : (first + 3 * k) % 17 < wordL.length := Nat.mod_lt _ (by decide)
    refine wordL_ok _ ?_
    rw [List.getD_eq_getElem?_getD, List.getElem?_eq_getElem e]
    exact List.getElem_mem e
  · split
    · have e : (timesS (97 + first) (1 + k)).length = 1 + k := by show (List.replicate (1 + k) (97 + first)).toArray.size = _; simp
      unfold nameS
      rw [e]
      have e2 : (timesS (97 + first) (1 + k)).cps.toList = List.replicate (1 + k) (97 + first) := by simp [timesS]
      rw [e2]
      simp only [Bool.and_eq_true, decide_eq_true_eq]
      refine ⟨⟨by omega, by omega⟩, ?_⟩
      rw [List.all_eq_true]
      intro c hc
      rw [(List.mem_replicate.mp hc).2]
      simp [lowC]; omega
    · have e : (base ++ (⟨#[97 + (first + 3 * k) % 26]⟩ : Str)).length = base.length + 1 := by
        show (base.cps ++ #[97 + (first + 3 * k) % 26]).size = _
        simp [Str.length]
      have e2 : (base ++ (⟨#[97 + (first + 3 * k) % 26]⟩ : Str)).cps.toList = base.cps.toList ++ [97 + (first + 3 * k) % 26] := by
        show (base.cps ++ #[97 + (first + 3 * k) % 26]).toList = _
        simp
      unfold nameS
      rw [e, e2, List.all_append]
      have hl' : base.cps.toList.all lowC = true := hl
      rw [hl']
      have m := Nat.mod_lt (first + 3 * k) (show 0 < 26 by decide)
      simp [lowC]
      omega
theorem nmF_inj {way first : Nat} {base : Str} {i j : Nat} (hi : i < 8) (hj : j < 8) (h : nmF way first base i = nmF way first base j) : i = j := by
  unfold nmF at h
  split at h
  · have ei : (first + 3 * i) % 17 < wordL.length := Nat.mod_lt _ (by decide)
    have ej : (first + 3 * j) % 17 < wordL.length := Nat.mod_lt _ (by decide)
    have z := wordL_inj ⟨_, ei⟩ ⟨_, ej⟩ h
    have z2 := Fin.mk.inj_iff.mp z
    omega
  · split at h
    · have e : (timesS (97 + first) (1 + i)).length = (timesS (97 + first) (1 + j)).length := by rw [h]
      have e1 : ∀ k, (timesS (97 + first) (1 + k)).length = 1 + k := fun k => by show (List.replicate (1 + k) (97 + first)).toArray.size = _; simp
      rw [e1, e1] at e
      omega
    · have e2 : ∀ k, (base ++ (⟨#[97 + (first + 3 * k) % 26]⟩ : Str)).cps.toList = base.cps.toList ++ [97 + (first + 3 * k) % 26] := fun k => by
        show (base.cps ++ #[97 + (first + 3 * k) % 26]).toList = _
        simp
      have e : base.cps.toList ++ [97 + (first + 3 * i) % 26] = base.cps.toList ++ [97 + (first + 3 * j) % 26] := by rw [← e2, ← e2, h]
      have z : 97 + (first + 3 * i) % 26 = 97 + (first + 3 * j) % 26 := by simpa using e
      omega
def nmL (way first : Nat) (base : Str) (m : Nat) : List Str := (List.range m).map (nmF way first base)
theorem nmL_nd {way first : Nat} {base : Str} {m : Nat} (hm : m ≤ 8) : (nmL way first base m).Nodup := by
  unfold nmL
  refine List.Pairwise.map _ (R := fun a b => a ≠ b ∧ a < 8 ∧ b < 8) (fun a b h e => h.1 (nmF_inj h.2.1 h.2.2 e)) ?_
  have z : (List.range m).Pairwise (fun a b => a < b) := List.pairwise_lt_range
  have z2 : (List.range m).Pairwise (fun a b => a ∈ List.range m ∧ b ∈ List.range m ∧ a < b) := List.Pairwise.and_mem.mp z
  refine z2.imp fun {a b} h => ?_
  have h1 := List.mem_range.mp h.1
  have h2 := List.mem_range.mp h.2.1
  omega
theorem nmL_ok {way first : Nat} {base : Str} {m : Nat} (hf : first < 26) (hb : base.length ≤ 7) (hl : lowS base = true) (hm : m ≤ 8) : ∀ s ∈ nmL way first base m, nameS s = true := by
  intro s hs
  obtain ⟨k, hk, rfl⟩ := List.mem_map.mp hs
  have := List.mem_range.mp hk
  exact nmF_ok hf hb hl k (by omega)
theorem nmL_len {way first : Nat} {base : Str} {m : Nat} : (nmL way first base m).length = m := by simp [nmL]
/-- signs put together -/
theorem join_ones (cs : List Nat) : Txt.join "" (cs.map fun c => (⟨#[c]⟩ : Str)) = ⟨cs.toArray⟩ := by
  show Builtin.Str.glued _ _ = _
  rw [PySem.StrLaws.glued_eq_join]
  have e0 : (Str.ofString "") = Str.empty := by decide +kernel
  rw [e0]
  have z : ∀ cs : List Nat, (Str.join Str.empty (cs.map fun c => (⟨#[c]⟩ : Str))).cps.toList = cs := by
    intro cs
    induction cs with
    | nil => rfl
    | cons c r ih =>
      cases r with
      | nil => rfl
      | cons d r =>
        show ((#[c] ++ #[]) ++ (Str.join Str.empty ((d :: r).map fun c => (⟨#[c]⟩ : Str))).cps).toList = _
        rw [Array.toList_append, ih]
        simp
  have e := z cs
  generalize Str.join Str.empty (cs.map fun c => (⟨#[c]⟩ : Str)) = s at e ⊢
  cases s with
  | mk a =>
    have e' : a.toList = cs := e
    congr 1
    rw [← e']
theorem sum_ones (cs : List Nat) : ((cs.map fun c => (⟨#[c]⟩ : Str)).map (·.length)).sum = cs.length := by
  induction cs with
  | nil => rfl
  | cons c r ih => rw [List.map_cons, List.map_cons, List.sum_cons, ih, List.length_cons]; show 1 + _ = _; omega
theorem nm_of {s : Str} (h : nameS s = true) : U.P.Nm s := by
  unfold nameS at h
  simp only [Bool.and_eq_true, decide_eq_true_eq, List.all_eq_true] at h
  obtain ⟨⟨h1, h2⟩, h3⟩ := h
  have e : s.cps.toList.length = s.length := rfl
  refine ⟨by omega, by omega, fun c hc => ?_⟩
  have := h3 c hc
  unfold lowC at this
  simp only [Bool.and_eq_true, decide_eq_true_eq] at this
  exact this
theorem mulD_a {a b : Int} (h : -(2 ^ 64) < a ∧ a < 2 ^ 64) : mulD (.int a) (.int b) = some (.int (a * b)) := gP_pos (.inl h)
theorem mulD_b {a b : Int} (h : -(2 ^ 64) < b ∧ b < 2 ^ 64) : mulD (.int a) (.int b) = some (.int (a * b)) := gP_pos (.inr h)
theorem modD_p {a b : Int} (h : 0 < b) : modD (.int a) (.int b) = some (.int (a % b)) := gP_pos h
theorem divW_p {a b : Int} (h : 0 < b) (h2 : b.natAbs.log2 < 9000) : divW (.int a) (.int b) = some (.int (a / b)) := gP_pos ⟨h, h2⟩
theorem mixed_eq (c k : Int) (h0 : 0 ≤ k) (h1 : k < 2 ^ 60) : ∃ v : Int, f__law_mixed [.int c, .int k] = some (.int v) ∧ 0 ≤ v ∧ v < 2147483629 := by
  have z0 : 0 ≤ (c % 2147483647 + 7919 * k * k + 3) * 48271 % 2147483647 := Int.emod_nonneg _ (by decide)
  have z1 : (c % 2147483647 + 7919 * k * k + 3) * 48271 % 2147483647 < 2147483647 := Int.emod_lt_of_pos _ (by decide)
  refine ⟨_, ?_, Int.emod_nonneg ((c % 2147483647 + 7919 * k * k + 3) * 48271 % 2147483647 * ((c % 2147483647 + 7919 * k * k + 3) * 48271 % 2147483647)) (by decide), Int.emod_lt_of_pos _ (by decide)⟩
  simp only [f__law_mixed, c__law_mixed, fV_e, fn2_e, Option.bind_some]
  rw [modD_p (by decide), mulD_a (by decide), Option.bind_some, Option.bind_some, mulD_b (by omega), Option.bind_some]
  simp only [Option.bind_some, addD_int]
  rw [mulD_b (by decide), Option.bind_some, modD_p (by decide), Option.bind_some, mulD_a (by omega), Option.bind_some, modD_p (by decide)]
  rfl
/-- a draw, of which at most n were taken -/
def drD (c r a : Int) : D := .dK [(.inr "cell", .int c), (.inr "rest", .int r), (.inr "at", .int a)]
def DR (n : Nat) (d : D) : Prop := ∃ c r a : Int, d = drD c r a ∧ 0 ≤ a ∧ a ≤ n
theorem DR.up {n m : Nat} {d : D} (h : DR n d) (l : n ≤ m) : DR m d := by
  obtain ⟨c, r, a, e, h1, h2⟩ := h
  exact ⟨c, r, a, e, h1, by omega⟩
section
variable {c r a v : Int}
@[simp] theorem dr_cell : ixD (drD c r a) (.str "cell") = some (.int c) := rfl
@[simp] theorem dr_rest : ixD (drD c r a) (.str "rest") = some (.int r) := rfl
@[simp] theorem dr_at : ixD (drD c r a) (.str "at") = some (.int a) := rfl
@[simp] theorem ds_rest : setD (drD c r a) (.str "rest") (.int v) = some (drD c v a) := rfl
@[simp] theorem ds_at : setD (drD c r a) (.str "at") (.int v) = some (drD c r v) := rfl
end
theorem log2_small {m : Nat} (h : m ≤ 1000000) : ((m : Nat) : Int).natAbs.log2 < 9000 := by
  rw [Int.natAbs_natCast]
  by_cases e : m = 0
  · subst e; decide
  · have := (Nat.log2_lt e (k := 20)).mpr (by omega)
    omega
theorem take_ok {n m : Nat} {d : D} (h : DR n d) (m1 : 1 ≤ m) (m2 : m ≤ 1000) (hn : n ≤ 1000000) : ∃ (v : Nat) (d' : D), f__law_take [d, .int (m : Nat)] = some (.int (v : Nat), d') ∧ v < m ∧ DR (n + 1) d' := by
  obtain ⟨c, r, a, rfl, a0, a1⟩ := h
  have hm : (0 : Int) < (m : Nat) := by omega
  simp only [f__law_take, c__law_take, fX_e, fn1_e, dr_rest, Option.bind_some, gtD_int, isBl_bl, noLG_int]
  by_cases hr : 0 < r
  · have v0 : 0 ≤ r % (m : Int) := Int.emod_nonneg _ (by omega)
    have v1 : r % (m : Int) < m := Int.emod_lt_of_pos _ (by omega)
    refine ⟨(r % (m : Int)).toNat, drD c (r / m) a, ?_, by omega, c, r / m, a, rfl, a0, by omega⟩
    rw [decide_eq_true hr, iteM_t, modD_p hm, divW_p hm (log2_small (by omega))]
    simp only [Option.bind_some, lX_some, bX_some, ds_rest, Option.map_some, rtX_rt]
    rw [show (((r % (m : Int)).toNat : Nat) : Int) = r % m by omega]
  · obtain ⟨x, e1, x0, x1⟩ := mixed_eq c (a + 1) (by omega) (by omega)
    obtain ⟨y, e2, y0, y1⟩ := mixed_eq (c / 1000003) (a + 1 + 9001) (by omega) (by omega)
    have v0 : 0 ≤ ((x * 31 + y) / 11) % (m : Int) := Int.emod_nonneg _ (by omega)
    have v1 : ((x * 31 + y) / 11) % (m : Int) < m := Int.emod_lt_of_pos _ (by omega)
    refine ⟨(((x * 31 + y) / 11) % (m : Int)).toNat, drD c r (a + 1), ?_, by omega, c, r, a + 1, rfl, by omega, by omega⟩
    rw [decide_eq_false hr, iteM_f]
    simp only [dr_at, Option.bind_some, noLG_int, addD_int, lX_some, bX_some, ds_at, dr_cell, e1]
    rw [divW_p (by decide) (by decide), mulD_b (by decide)]
    simp only [dr_at, Option.bind_some, noLG_int, addD_int, e2]
    rw [divW_p (by decide) (by decide), Option.bind_some, modD_p hm]
    simp only [Option.map_some, Option.bind_some, rtX_rt]
    rw [show (((((x * 31 + y) / 11) % (m : Int)).toNat : Nat) : Int) = ((x * 31 + y) / 11) % (m : Int) by omega]
theorem draw_ok {ns : List Int} {k : Nat} (h : ns.length ≤ 63) : ∃ d, f__law_draw [.scr (ns.map D.int), .int (k : Nat)] = some d ∧ DR 0 d := by
  have hp : powD (.int 10) (.int 18) = some (.int (10 ^ 18)) := gP_pos ⟨by decide, by decide, by decide⟩
  have cell : ∃ c : Int, (iteM ((ltD (.int (k : Nat)) (.int ((ns.map D.int).length : Nat))).bind isBl) (ixD (.scr (ns.map D.int)) (.int (k : Nat))) (some (.int (k : Nat)))) = some (.int c) := by
    rw [ltD_int, Option.bind_some, isBl_bl, List.length_map]
    by_cases e : k < ns.length
    · rw [decide_eq_true (by omega), iteM_t, ixD_scrN, List.getElem?_map, List.getElem?_eq_getElem e]
      exact ⟨_, rfl⟩
    · rw [decide_eq_false (by omega), iteM_f]
      exact ⟨_, rfl⟩
  obtain ⟨c, hc⟩ := cell
  simp only [f__law_draw, c__law_draw, fN_e, fn2_e, Option.bind_some, lenD_scr, hc, hp, geD_int, isBl_bl]
  by_cases e : (10 : Int) ^ 18 ≤ c
  · rw [decide_eq_true e, iteM_t]
    exact ⟨_, rfl, c, c, 0, rfl, by decide, by decide⟩
  · rw [decide_eq_false e, iteM_f]
    exact ⟨_, rfl, c, 0, 0, rfl, by decide, by decide⟩
end U.A35
end
section
set_option Elab.async false
set_option linter.all false
set_option maxRecDepth 100000
set_option maxHeartbeats 4000000
namespace M
open PySem L2
theorem compX_inv {T : Type} {f : D → T → Option (Option D × T)} (I : Nat → List D → T → Prop) : ∀ (xs : List D) (n : Nat) (acc : List D) (t : T), I n acc t → (∀ (i : Nat) (x : D) (acc : List D) (t : T), xs[i]? = some x → I (n + i) acc t → ∃ y t', f x t = some (y, t') ∧ I (n + i + 1) (acc ++ y.toList) t') →
    ∃ ys t', compX f xs t = some (ys, t') ∧ I (n + xs.length) (acc ++ ys) t'
  | [], n, acc, t, h, _ => ⟨[], t, rfl, by rw [List.append_nil]; exact h⟩
  | x :: xs, n, acc, t, h, st => by
    obtain ⟨y, t1, h1, h2⟩ := st 0 x acc t rfl h
    obtain ⟨ys, t2, g1, g2⟩ := compX_inv I xs (n + 1) (acc ++ y.toList) t1 h2 fun i z acc t hy ht => by
      have := st (i + 1) z acc t (by simpa using hy) (by rw [show n + (i + 1) = n + 1 + i by omega]; exact ht)
      rw [show n + (i + 1) + 1 = n + 1 + i + 1 by omega] at this
      exact this
    refine ⟨y.toList ++ ys, t2, ?_, by rw [List.length_cons, show n + (xs.length + 1) = n + 1 + xs.length by omega, ← List.append_assoc]; exact g2⟩
    rw [compX, h1, Option.bind_some, g1]; rfl
/-- a comprehension with steps, by an invariant -/
theorem compX_use {T : Type} {f : D → T → Option (Option D × T)} {xs : List D} {t : T} (I : Nat → List D → T → Prop) (h0 : I 0 [] t) (st : ∀ (i : Nat) (x : D) (acc : List D) (t : T), xs[i]? = some x → I i acc t → ∃ y t', f x t = some (y, t') ∧ I (i + 1) (acc ++ y.toList) t') :
    ∃ ys t', compX f xs t = some (ys, t') ∧ I xs.length ys t' := by
  obtain ⟨ys, t', h1, h2⟩ := compX_inv I xs 0 [] t h0 fun i x acc t hx hs => by rw [Nat.zero_add] at hs ⊢; exact st i x acc t hx hs
  exact ⟨ys, t', h1, by rwa [Nat.zero_add, List.nil_append] at h2⟩
theorem compX_go {T : Type} {f : D → T → Option (Option D × T)} {xs : List D} {t : T} {P : Option (List D × T) → Prop} (I : Nat → List D → T → Prop) (h0 : I 0 [] t) (st : ∀ (i : Nat) (x : D) (acc : List D) (t : T), xs[i]? = some x → I i acc t → ∃ y t', f x t = some (y, t') ∧ I (i + 1) (acc ++ y.toList) t')
    (last : ∀ ys t', I xs.length ys t' → P (some (ys, t'))) : P (compX f xs t) := by
  obtain ⟨ys, t', h1, h2⟩ := compX_use I h0 st
  rw [h1]
  exact last ys t' h2
theorem forM_go {S L : Type} {f : D → S → Option (Fl S S)} {xs : List D} {s0 : S} {P : Option (Fl S L) → Prop} (I : Nat → S → Prop) (h0 : I 0 s0) (step : ∀ (i : Nat) (x : D) (s : S), xs[i]? = some x → I i s → ∃ s', f x s = some (.nx s') ∧ I (i + 1) s') (last : ∀ s', I xs.length s' → P (some (.nx s'))) : P (M.forM f xs s0) := by
  obtain ⟨s', h1, h2⟩ := forM_inv (L := L) I xs 0 s0 h0 fun i x s hx hs => by rw [Nat.zero_add] at hs ⊢; exact step i x s hx hs
  rw [h1]
  exact last s' (by rwa [Nat.zero_add] at h2)
theorem range_at {n i : Nat} {x : D} (h : ((List.range n).map fun i : Nat => D.int (i : Nat))[i]? = some x) : i < n ∧ x = .int (i : Nat) := by
  rw [List.getElem?_map] at h
  by_cases e : i < n
  · rw [List.getElem?_range e] at h
    cases h
    exact ⟨e, rfl⟩
  · rw [List.getElem?_eq_none (by rw [List.length_range]; omega)] at h
    cases h
end M
namespace U.A35
open PySem L2 M U
theorem abc_ix {i : Nat} (h : i < 26) : ixD (.str abcS) (.int (i : Nat)) = some (.str ⟨#[97 + i]⟩) := by
  show (if abcS.length ≤ 1000000 then (atI abcS.cps.toList (i : Nat)).map fun c => D.str ⟨#[c]⟩ else none) = _
  rw [if_pos (by have z : abcS.length = 26 := by decide +kernel
                 omega), M.atI_nat, abc_at i h]
  rfl
theorem word_ix {i : Nat} (h : i < 17) : ixD (.lst (wordL.map .str)) (.int (i : Nat)) = some (.str (wordL.getD i Str.empty)) := by
  rw [ixD_lstN, List.getElem?_map]
  have e : i < wordL.length := h
  rw [List.getD_eq_getElem?_getD, List.getElem?_eq_getElem e]; rfl
theorem word_sp : splitD (.str wordS) (.str " ") = some (.lst (wordL.map .str)) := by
  show (if (" " : Str).length = 0 ∨ ¬ wordS.length ≤ 1000000 then none else some (D.lst ((Txt.split wordS " ").map D.str))) = _
  have z : wordS.length = 84 := by decide +kernel
  have z2 : (" " : Str).length = 1 := by decide +kernel
  rw [if_neg (by rw [z, z2]; omega), word_split]
/-- the names that are drawn -/
theorem names_ok {n m : Nat} {d : D} (h : DR n d) (hm : m ≤ 8) (hn : n ≤ 900000) : ∃ (l : List Str) (d' : D), f__law_names [d, .int (m : Nat)] = some (.lst (l.map .str), d') ∧ l.length = m ∧ l.Nodup ∧ (∀ s ∈ l, U.P.Nm s) ∧ DR (n + 20) d' := by
  have tk := @take_ok
  unfold f__law_names c__law_names
  generalize f__law_take = T at tk ⊢
  obtain ⟨way, d1, e1, w3, h1⟩ := tk (m := 3) h (by decide) (by decide) (by omega)
  obtain ⟨first, d2, e2, f26, h2⟩ := tk (m := 26) h1 (by decide) (by decide) (by omega)
  have e1 : T [d, .int 3] = some (.int (way : Nat), d1) := e1
  have e2 : T [d1, .int 26] = some (.int (first : Nat), d2) := e2
  have out : ∀ (base : Str) (d' : D), base.length ≤ 7 → lowS base = true → DR (n + 20) d' → ∀ r : Option (D × D), r = some (.lst ((nmL way first base m).map .str), d') → ∃ (l : List Str) (d' : D), r = some (.lst (l.map .str), d') ∧ l.length = m ∧ l.Nodup ∧ (∀ s ∈ l, U.P.Nm s) ∧ DR (n + 20) d' := fun base d' b1 b2 hd r hr =>
    ⟨nmL way first base m, d', hr, nmL_len, nmL_nd hm, fun s hs => nm_of (nmL_ok f26 b1 b2 hm s hs), hd⟩
  have rgs : ∀ k : Nat, k ≤ 8 → rg1 [.int (k : Nat)] = some ((List.range k).map fun i => .int (i : Nat)) := fun k hk => rg1_nat (by omega)
  have sm : ∀ k : Nat, k < 8 → mulD (.int 3) (.int (k : Nat)) = some (.int (3 * (k : Nat))) := fun k hk => mulD_a (by decide)
  have hw := word_sp
  have ha : ∀ i : Nat, i < 26 → ixD (.str abcS) (.int (i : Nat)) = some (.str ⟨#[97 + i]⟩) := fun i h => abc_ix h
  rw [show D.str "abcdefghijklmnopqrstuvwxyz" = D.str abcS from rfl, show D.str "kind box tool hand set gauge work keep lend pass back sharp find stone lose new lost" = D.str wordS from rfl]
  generalize wordS = W at hw ⊢
  generalize abcS = A at ha ⊢
  generalize rg1 = R at rgs ⊢
  have rg := rgs m hm
  simp only [fX_e, fn1_e, lX_some, bX_some, e1, e2, Option.map_some, Option.bind_some, szG2, un_tp, uns_cons, un_nm, uns_nil, List.append_nil, List.cons_append, List.nil_append, fn2_e]
  by_cases w0 : way = 0
  · subst w0
    refine out "" d2 (by decide +kernel) (by decide +kernel) (h2.up (by omega)) _ ?_
    simp only [eqD_int, isBl_bl, Int.natCast_zero, decide_true, iteM_t, Option.bind_some, hw, rg]
    rw [compM_map (h := fun i : Nat => .str (nmF 0 first "" i))]
    · simp [nmL, List.map_map, Function.comp_def]
    · intro k hk
      have hk := List.mem_range.mp hk
      rw [compB_eq, un_nm]
      simp only [Option.bind_some, if_true, fn1_e, sm k (by omega), addD_int]
      rw [modD_p (by decide), Option.bind_some, show ((first : Int) + 3 * (k : Nat)) % 17 = (((first + 3 * k) % 17 : Nat) : Int) by omega, word_ix (Nat.mod_lt _ (by decide))]
      rfl
  · have c0 : ¬ ((way : Int) = 0) := by omega
    by_cases w1 : way = 1
    · subst w1
      refine out "" d2 (by decide +kernel) (by decide +kernel) (h2.up (by omega)) _ ?_
      simp only [eqD_int, isBl_bl, c0, decide_false, iteM_f, Option.bind_some, rg, Int.natCast_one, decide_true, iteM_t]
      rw [compM_map (h := fun i : Nat => .str (nmF 1 first "" i))]
      · simp [nmL, List.map_map, Function.comp_def]
      · intro k hk
        have hk := List.mem_range.mp hk
        have tm : mulD (.str ⟨#[97 + first]⟩) (.int (1 + (k : Nat))) = some (.str (timesS (97 + first) (1 + k))) := by
          show gP _ _ = _
          rw [gP_pos ⟨rfl, by omega, by omega⟩]
          rw [show ((1 + (k : Nat) : Int)).toNat = 1 + k by omega]; rfl
        rw [compB_eq, un_nm]
        simp only [Option.bind_some, if_true, fn1_e, ha first f26, addD_int, tm]
        rfl
    · have c1 : ¬ ((way : Int) = 1) := by omega
      obtain ⟨many, d3, e3, m8, h3⟩ := tk (m := 8) h2 (by decide) (by decide) (by omega)
      have e3 : T [d2, .int 8] = some (.int (many : Nat), d3) := e3
      have rg2 := rgs many (by omega)
      simp only [eqD_int, isBl_bl, c0, c1, decide_false, iteM_f, Option.bind_some, lX_some, bX_some]
      rw [e3, Option.map_some, bX_some, bX_some, rg2, lX_some, bX_some]
      obtain ⟨ys, d4, e4, ⟨cs, r1, r2, r3⟩, h4⟩ := compX_use (t := d3) (xs := (List.range many).map fun i => .int (i : Nat)) (f := compBX (.nm 7) (fun _ t179 => some (true, t179)) (fun ls_ t179 => fn1 (fun v_k_178 => (bX ((T [t179, D.int 26]).map fun q188 => (q188.1, q188.2)) fun q189 t190 => lX (ixD (D.str A) q189) t190)) ls_))
        (fun i acc t => (∃ cs : List Nat, acc = cs.map (fun c => D.str ⟨#[c]⟩) ∧ cs.length = i ∧ cs.all lowC = true) ∧ DR (n + 3 + i) t) ⟨⟨[], rfl, rfl, rfl⟩, h3⟩ fun i x acc t hx ⟨⟨cs, r1, r2, r3⟩, ht⟩ => by
          obtain ⟨hi, rfl⟩ := range_at hx
          obtain ⟨v, t', ev, v26, ht'⟩ := tk (m := 26) ht (by decide) (by decide) (by omega)
          have ev : T [t, .int 26] = some (.int (v : Nat), t') := ev
          refine ⟨some (.str ⟨#[97 + v]⟩), t', ?_, ⟨cs ++ [97 + v], by rw [r1, List.map_append]; rfl, by rw [List.length_append, r2]; rfl, ?_⟩, ht'⟩
          · simp only [compBX, un_nm, Option.bind_some, if_true, fn1_e, bX_some, ev, Option.map_some, ha v v26, lX_some]
          · rw [List.all_append, r3]
            simp [lowC]; omega
      rw [List.length_map, List.length_range] at r2 h4
      rw [e4, Option.map_some, bX_some]
      have jn : joinD (.str "") (.lst ys) = some (.str ⟨cs.toArray⟩) := by
        show ((seqOf (.lst ys)).bind strsD).bind _ = _
        rw [r1, seqOf_lst, Option.bind_some, show (cs.map fun c => D.str ⟨#[c]⟩) = (cs.map fun c => (⟨#[c]⟩ : Str)).map D.str by rw [List.map_map]; rfl, M.strsD_map, Option.bind_some]
        rw [gP_pos]
        · rw [join_ones]
        · rw [sum_ones, List.length_map]
          have : ("" : Str).length = 0 := by decide +kernel
          rw [this]; omega
      have bl : (⟨cs.toArray⟩ : Str).length = many := by show cs.toArray.size = _; simp [r2]
      refine out ⟨cs.toArray⟩ d4 (by omega) (by simp [lowS, r3]) (h4.up (by omega)) _ ?_
      rw [jn, lX_some, bX_some, rg, Option.bind_some, compM_map (h := fun i : Nat => .str (nmF way first ⟨cs.toArray⟩ i))]
      · simp [nmL, List.map_map, Function.comp_def]
      · intro k hk
        have hk := List.mem_range.mp hk
        have ad : addD (.str ⟨cs.toArray⟩) (.str ⟨#[97 + (first + 3 * k) % 26]⟩) = some (.str ((⟨cs.toArray⟩ : Str) ++ ⟨#[97 + (first + 3 * k) % 26]⟩)) := gP_pos (by rw [bl, show (⟨#[97 + (first + 3 * k) % 26]⟩ : Str).length = 1 from rfl, sizeLine_eq]; omega)
        rw [compB_eq, un_nm]
        simp only [Option.bind_some, if_true, fn1_e, sm k (by omega), addD_int]
        rw [modD_p (by decide), Option.bind_some, show ((first : Int) + 3 * (k : Nat)) % 26 = (((first + 3 * k) % 26 : Nat) : Int) by omega, ha _ (Nat.mod_lt _ (by decide)), Option.bind_some, ad]
        simp [nmF, w0, w1]
end U.A35
end
section
set_option Elab.async false
set_option linter.all false
set_option maxRecDepth 100000
set_option maxHeartbeats 4000000
namespace U.A35
open PySem L2 M U
open U.P (Stk kD wD Nm)
/-- what is asked of takings -/
def TK (T : List D → Option (D × D)) : Prop := ∀ {n m : Nat} {d : D}, DR n d → 1 ≤ m → m ≤ 1000 → n ≤ 1000000 → ∃ (v : Nat) (d' : D), T [d, .int (m : Nat)] = some (.int (v : Nat), d') ∧ v < m ∧ DR (n + 1) d'
def NK (N : List D → Option (D × D)) : Prop := ∀ {n m : Nat} {d : D}, DR n d → m ≤ 8 → n ≤ 900000 → ∃ (l : List Str) (d' : D), N [d, .int (m : Nat)] = some (.lst (l.map .str), d') ∧ l.length = m ∧ l.Nodup ∧ (∀ s ∈ l, Nm s) ∧ DR (n + 20) d'
theorem tk_ok : TK f__law_take := take_ok
theorem nk_ok : NK f__law_names := names_ok
theorem pick3 {a b c : Int} {v : Nat} (h : v < 3) : ∃ x, ixD (.lst [.int a, .int b, .int c]) (.int (v : Nat)) = some (.int x) ∧ (x = a ∨ x = b ∨ x = c) := by
  rw [ixD_lstN]
  match v, h with
  | 0, _ => exact ⟨_, rfl, .inl rfl⟩
  | 1, _ => exact ⟨_, rfl, .inr (.inl rfl)⟩
  | 2, _ => exact ⟨_, rfl, .inr (.inr rfl)⟩
theorem pick4 {a b c d : Int} {v : Nat} (h : v < 4) : ∃ x, ixD (.lst [.int a, .int b, .int c, .int d]) (.int (v : Nat)) = some (.int x) ∧ (x = a ∨ x = b ∨ x = c ∨ x = d) := by
  rw [ixD_lstN]
  match v, h with
  | 0, _ => exact ⟨_, rfl, .inl rfl⟩
  | 1, _ => exact ⟨_, rfl, .inr (.inl rfl)⟩
  | 2, _ => exact ⟨_, rfl, .inr (.inr (.inl rfl))⟩
  | 3, _ => exact ⟨_, rfl, .inr (.inr (.inr rfl))⟩
theorem strs_at {l : List Str} {i : Nat} {x : D} (h : (l.map D.str)[i]? = some x) : ∃ s, l[i]? = some s ∧ x = .str s := by
  rw [List.getElem?_map] at h
  cases e : l[i]? with
  | none => rw [e] at h; cases h
  | some s => rw [e] at h; cases h; exact ⟨s, rfl, rfl⟩
theorem take_snoc {α : Type} {l : List α} {i : Nat} {x : α} (h : l[i]? = some x) : l.take (i + 1) = l.take i ++ [x] := by rw [List.take_add_one, h]; rfl
set_option maxHeartbeats 4000000 in
theorem stock_ok {n kinds works : Nat} {d : D} (h : DR n d) (k1 : 1 ≤ kinds) (k2 : kinds ≤ 6) (w8 : works ≤ 8) (hn : n ≤ 100000) : ∃ (S : Stk) (d' : D), f__law_stock [d, .int (kinds : Nat), .int (works : Nat)] = some (S.T, d') ∧ S.Ok ∧ DR (n + 200) d' := by
  have tk : TK f__law_take := tk_ok
  have nk : NK f__law_names := nk_ok
  unfold f__law_stock c__law_stock
  generalize f__law_take = T at tk ⊢
  generalize f__law_names = N at nk ⊢
  obtain ⟨called, d1, e1, l1, nd1, nm1, h1⟩ := nk (m := kinds) h (by omega) (by omega)
  simp only [fX_e, fn2_e, lX_some, bX_some, e1, Option.map_some, Option.bind_some]
  have it1 : itD (.lst (called.map .str)) = some (called.map .str) := itD_lst (by rw [List.length_map]; omega)
  rw [it1, lX_some, bX_some]
  refine compX_go (P := fun z => ∃ (S : Stk) (d' : D), (bX (Option.map _ z) _).bind rtX = some (S.T, d') ∧ S.Ok ∧ DR (n + 200) d') (fun i acc t => (∃ ks : List (Str × Int), acc = ks.map kD ∧ ks.map (·.1) = called.take i ∧ ∀ k ∈ ks, Nm k.1 ∧ 0 ≤ k.2 ∧ k.2 ≤ 99) ∧ DR (n + 20 + 3 * i) t) ⟨⟨[], rfl, rfl, fun _ h => nomatch h⟩, h1⟩ ?_ ?_
  · rintro i x acc t hx ⟨⟨ks, r1, r2, r3⟩, ht⟩
    obtain ⟨s, hs, rfl⟩ := strs_at hx
    have hi := (List.getElem?_eq_some_iff.mp hs).1
    obtain ⟨v1, t1, q1, p1, g1⟩ := tk (m := 12) ht (by decide) (by decide) (by omega)
    obtain ⟨v2, t2, q2, p2, g2⟩ := tk (m := 100) g1 (by decide) (by decide) (by omega)
    obtain ⟨v3, t3, q3, p3, g3⟩ := tk (m := 3) g2 (by decide) (by decide) (by omega)
    have q1 : T [t, .int 12] = some (.int (v1 : Nat), t1) := q1
    have q2 : T [t1, .int 100] = some (.int (v2 : Nat), t2) := q2
    have q3 : T [t2, .int 3] = some (.int (v3 : Nat), t3) := q3
    obtain ⟨z, ez, hz⟩ := pick3 (a := 0) (b := (v1 : Nat)) (c := (v2 : Nat)) p3
    refine ⟨some (kD (s, z)), t3, ?_, ⟨ks ++ [(s, z)], by rw [r1, List.map_append]; rfl, ?_, ?_⟩, g3.up (by omega)⟩
    · simp only [compBX, un_nm, Option.bind_some, if_true, fn1_e, bX_some, q1, q2, q3, Option.map_some, szG3, lX_some, ez, szG2]
      rfl
    · rw [List.map_append, r2, take_snoc hs]; rfl
    · intro k hk
      rcases List.mem_append.mp hk with e | e
      · exact r3 k e
      · rw [List.mem_singleton.mp e]
        exact ⟨nm1 s (List.mem_of_getElem? hs), by show 0 ≤ z; omega, by show z ≤ 99; omega⟩
  rintro ys d2 ⟨⟨ks, rfl, r2, r3⟩, h2⟩
  rw [List.length_map] at r2 h2
  rw [List.take_length] at r2
  obtain ⟨names, d3, e3, l3, nd3, nm3, h3⟩ := nk (m := works) h2 (by omega) (by omega)
  have it2 : itD (.lst (names.map .str)) = some (names.map .str) := itD_lst (by rw [List.length_map]; omega)
  rw [Option.map_some, bX_some, szG0, Option.map_some, Option.bind_some, e3, Option.map_some, bX_some, it2, lX_some, bX_some]
  refine forM_go (P := fun z => ∃ (S : Stk) (d' : D), (Option.bind z _).bind rtX = some (S.T, d') ∧ S.Ok ∧ DR (n + 200) d') (fun i s => (∃ ws : List (Str × Str × Int × Int), s.2 = .lst (ws.map wD) ∧ ws.map (·.1) = names.take i ∧ ∀ g ∈ ws, Nm g.1 ∧ g.2.1 ∈ called ∧ 0 ≤ g.2.2.1 ∧ g.2.2.1 ≤ g.2.2.2 ∧ g.2.2.2 ≤ 99) ∧ DR (n + 70 + 9 * i) s.1) ⟨⟨[], rfl, rfl, fun _ h => nomatch h⟩, h3.up (by omega)⟩ ?_ ?_
  · rintro i x ⟨t, fd⟩ hx ⟨⟨ws, rfl, r4, r5⟩, ht⟩
    obtain ⟨s, hs, rfl⟩ := strs_at hx
    have hi := (List.getElem?_eq_some_iff.mp hs).1
    obtain ⟨v1, t1, q1, p1, g1⟩ := tk (m := kinds) ht (by omega) (by omega) (by omega)
    obtain ⟨v2, t2, q2, p2, g2⟩ := tk (m := 12) g1 (by decide) (by decide) (by omega)
    obtain ⟨v3, t3, q3, p3, g3⟩ := tk (m := 12) g2 (by decide) (by decide) (by omega)
    obtain ⟨v4, t4, q4, p4, g4⟩ := tk (m := 10) g3 (by decide) (by decide) (by omega)
    obtain ⟨v5, t5, q5, p5, g5⟩ := tk (m := 100) g4 (by decide) (by decide) (by omega)
    obtain ⟨v6, t6, q6, p6, g6⟩ := tk (m := 4) g5 (by decide) (by decide) (by omega)
    obtain ⟨v7, t7, q7, p7, g7⟩ := tk (m := 3) g6 (by decide) (by decide) (by omega)
    obtain ⟨v8, t8, q8, p8, g8⟩ := tk (m := 9) g7 (by decide) (by decide) (by omega)
    obtain ⟨v9, t9, q9, p9, g9⟩ := tk (m := 4) g8 (by decide) (by decide) (by omega)
    have q2 : T [t1, .int 12] = some (.int (v2 : Nat), t2) := q2
    have q3 : T [t2, .int 12] = some (.int (v3 : Nat), t3) := q3
    have q4 : T [t3, .int 10] = some (.int (v4 : Nat), t4) := q4
    have q5 : T [t4, .int 100] = some (.int (v5 : Nat), t5) := q5
    have q6 : T [t5, .int 4] = some (.int (v6 : Nat), t6) := q6
    have q7 : T [t6, .int 3] = some (.int (v7 : Nat), t7) := q7
    have q8 : T [t7, .int 9] = some (.int (v8 : Nat), t8) := q8
    have q9 : T [t8, .int 4] = some (.int (v9 : Nat), t9) := q9
    obtain ⟨low, elow, hlow⟩ := pick4 (a := (v2 : Nat)) (b := (v3 : Nat)) (c := 90 + (v4 : Nat)) (d := (v5 : Nat)) p6
    obtain ⟨more, emore, hmore⟩ := pick4 (a := 0) (b := (v7 : Nat)) (c := (v8 : Nat)) (d := 99) p9
    have hv1 : v1 < called.length := by omega
    have ek : ixD (.lst (called.map .str)) (.int (v1 : Nat)) = some (.str called[v1]) := by
      rw [ixD_lstN, List.getElem?_map, List.getElem?_eq_getElem hv1]; rfl
    have ap : appF (.lst (ws.map wD)) [wD (s, called[v1], low, min 99 (low + more))] = some (.non, .lst (ws.map wD ++ [wD (s, called[v1], low, min 99 (low + more))])) := U.P.appF_lst (by
      have : ws.length = (names.take i).length := by rw [← r4, List.length_map]
      rw [List.length_take] at this
      rw [List.length_map]; omega)
    refine ⟨(t9, .lst ((ws ++ [(s, called[v1], low, min 99 (low + more))]).map wD)), ?_, ⟨ws ++ [(s, called[v1], low, min 99 (low + more))], rfl, ?_, ?_⟩, g9.up (by omega)⟩
    · simp only [un_nm, Option.bind_some, fn1_e, bX_some, lX_some, q1, Option.map_some, ek, q2, q3, q4, q5, addD_int, szG4, q6, elow, q7, q8, q9, emore, minD_2]
      rw [show D.tup [.str s, .str called[v1], .int low, .int (min 99 (low + more))] = wD (s, called[v1], low, min 99 (low + more)) from rfl, ap]
      rw [List.map_append]; rfl
    · rw [List.map_append, r4, take_snoc hs]; rfl
    · intro k hk
      rcases List.mem_append.mp hk with e | e
      · exact r5 k e
      · rw [List.mem_singleton.mp e]
        exact ⟨nm3 s (List.mem_of_getElem? hs), List.getElem_mem hv1, by show 0 ≤ low; omega, by show low ≤ min 99 (low + more); omega, by show min 99 (low + more) ≤ 99; omega⟩
  rintro ⟨t, fd⟩ ⟨⟨ws, rfl, r4, r5⟩, ht⟩
  rw [List.length_map] at r4 ht
  rw [List.take_length] at r4
  refine ⟨⟨ks, [], [], [], [], [], ws, []⟩, t, ?_, ?_, ht.up (by omega)⟩
  · simp only [Option.bind_some, thn_nx, tupOfD_lst, szG0, Option.map_some, szG8, rtX_rt]
    rfl
  · have lk : ks.length = kinds := by rw [← List.length_map (f := (·.1)), r2, l1]
    have lw : ws.length = works := by rw [← List.length_map (f := (·.1)), r4, l3]
    exact {
      k1 := ⟨by show 1 ≤ ks.length; omega, by show ks.length ≤ 6; omega⟩
      k2 := by show (ks.map (·.1)).Nodup; rw [r2]; exact nd1
      k3 := r3
      b1 := by show 0 ≤ 5; omega
      b2 := .nil
      b3 := fun _ h => nomatch h
      t1 := by show 0 ≤ 12; omega
      t2 := .nil
      t3 := fun _ h => nomatch h
      h1 := by show 0 ≤ 5; omega
      h2 := .nil
      h3 := fun _ h => nomatch h
      s1 := by show 0 ≤ 4; omega
      s2 := .nil
      s3 := fun _ h => nomatch h
      s4 := fun i j s t _ h => nomatch h
      g1 := by show 0 ≤ 3; omega
      g2 := .nil
      g3 := fun _ h => nomatch h
      w1 := by show ws.length ≤ 8; omega
      w2 := by show (ws.map (·.1)).Nodup; rw [r4]; exact nd3
      w3 := fun g hg => by
        obtain ⟨a, b, c⟩ := r5 g hg
        exact ⟨a, by show _ ∈ ks.map (·.1); rw [r2]; exact b, c⟩
      p1 := by show 0 ≤ 6; omega
      p2 := .nil
      p3 := fun _ h => nomatch h }
end U.A35
end
section
set_option Elab.async false
set_option linter.all false
set_option maxRecDepth 100000
set_option maxHeartbeats 4000000
namespace M
open PySem L2
theorem putD_new {kvs : List (Key × D)} {k : Key} {v : D} (h : k ∉ kvs.map (·.1)) : putD kvs k v = kvs ++ [(k, v)] := by
  unfold putD
  rw [if_neg]
  intro z
  obtain ⟨x, hx, e⟩ := List.any_eq_true.mp z
  exact h (List.mem_map.mpr ⟨x, hx, of_decide_eq_true e⟩)
theorem mergeD_nd : ∀ (ps kvs : List (Key × D)), ((kvs ++ ps).map (·.1)).Nodup → mergeD kvs ps = kvs ++ ps
  | [], kvs, _ => by rw [List.append_nil]; rfl
  | p :: ps, kvs, h => by
    show mergeD (putD kvs p.1 p.2) ps = _
    have h' : ((kvs ++ [p] ++ ps).map (·.1)).Nodup := by rw [List.append_assoc]; exact h
    rw [putD_new, mergeD_nd ps (kvs ++ [p]) h', List.append_assoc]; rfl
    intro z
    rw [List.map_append, List.map_append] at h'
    have := (List.nodup_append.mp (List.nodup_append.mp h').1).2.2
    exact this _ z p.1 (by simp) rfl
theorem pairsD_map {α : Type} {f : α → D} {k : α → Str} {v : α → D} (hf : ∀ x, f x = .tup [.str (k x), v x]) : ∀ l : List α, pairsD (l.map f) = some (l.map fun x => ((.inr (k x) : Key), v x))
  | [] => rfl
  | a :: l => by
    rw [List.map_cons, hf]
    show ((keyD (.str (k a))).bind fun k' => (pairsD (l.map f)).map ((k', v a) :: ·)) = _
    rw [pairsD_map hf l]; rfl
/-- dict(..) of pairs that begin with unlike texts -/
theorem dictD_map {α : Type} {f : α → D} {k : α → Str} {v : α → D} {s : D} (l : List α) (hs : seqOf s = some (l.map f)) (hf : ∀ x, f x = .tup [.str (k x), v x]) (nd : (l.map k).Nodup) : dictD [s] = some (.dK (l.map fun x => ((.inr (k x) : Key), v x))) := by
  show ((seqOf s).bind pairsD).bind _ = _
  rw [hs, Option.bind_some, pairsD_map hf, Option.bind_some, mergeD_nd]
  · rfl
  · rw [List.nil_append, List.map_map, show (fun x : Key × D => x.1) ∘ (fun x => ((.inr (k x) : Key), v x)) = (fun s : Str => (.inr s : Key)) ∘ k from rfl, ← List.map_map]
    exact List.Pairwise.map _ (fun a b h e => h (Sum.inr.inj e)) nd
theorem dkix {α : Type} {k : α → Str} {v : α → D} {l : List α} {n : Str} : ixD (.dK (l.map fun x => ((.inr (k x) : Key), v x))) (.str n) = (l.find? fun x => decide (k x = n)).map v := by
  show (keyD (.str n)).bind (fun k' => lookK _ k') = _
  show lookK _ _ = _
  unfold lookK
  rw [List.find?_map, Option.map_map]
  congr 1
  apply congrArg (fun p => l.find? p)
  funext x
  show decide ((.inr (k x) : Key) = .inr n) = decide (k x = n)
  by_cases e : k x = n
  · rw [decide_eq_true e, e, decide_eq_true rfl]
  · rw [decide_eq_false e, decide_eq_false fun z => e (Sum.inr.inj z)]
end M
namespace U.A35
open PySem L2 M U
open U.P (Stk kD wD Nm Tx Job jD rD)
theorem ne_nil {l : List Str} (h : ∀ s ∈ l, Tx s) : neD (.lst (l.map .str)) (.lst []) = some (.bl (!l.isEmpty)) := by
  have ok : ∀ (l : List Str), (∀ s ∈ l, Tx s) → okEs 59 (l.map .str) = true := by
    intro l
    induction l with
    | nil => exact fun _ => by simp [okEs]
    | cons a r ih =>
      intro h
      rw [List.map_cons]
      simp only [okEs, Bool.and_eq_true]
      exact ⟨U.P.okE_str (h a (List.mem_cons_self ..)), ih fun s hs => h s (List.mem_cons_of_mem _ hs)⟩
  show (eqT _ _).map _ = _
  have : eqT (.lst (l.map .str)) (.lst []) = some (eqB (.lst (l.map .str)) (.lst [])) := by
    show (if okE 60 _ = true ∧ okE 60 _ = true then _ else none) = _
    rw [if_pos ⟨by simp only [okE]; exact ok l h, by simp [okE, okEs]⟩]
  rw [this]
  cases l with
  | nil => simp [eqB, eqBs]
  | cons a r => simp [eqB, eqBs]
section
variable {S : Stk}
theorem least_dict (ok : S.Ok) : dictD [.tup (S.kinds.map kD)] = some (.dK (S.kinds.map fun x => ((.inr x.1 : Key), .int x.2))) :=
  dictD_map (f := kD) (k := (·.1)) (v := fun x => .int x.2) S.kinds rfl (fun _ => rfl) ok.k2
theorem least_ix {k : Str} (h : k ∈ S.kinds.map (·.1)) : ixD (.dK (S.kinds.map fun x => ((.inr x.1 : Key), .int x.2))) (.str k) = some (.int (S.least k)) := by
  rw [dkix (k := (·.1)) (v := fun x : Str × Int => D.int x.2), (Stk.kd_mem h).1]; rfl
/-- works that can be done -/
def good (S : Stk) : List Str := (S.works.filter fun w => decide (S.least w.2.1 ≤ w.2.2.2)).map (·.1)
theorem good_can (ok : S.Ok) {n : Str} (h : n ∈ good S) : S.Can n := by
  obtain ⟨w, hw, rfl⟩ := List.mem_map.mp h
  obtain ⟨h1, h2⟩ := List.mem_filter.mp hw
  have hm : w.1 ∈ S.works.map (·.1) := List.mem_map.mpr ⟨w, h1, rfl⟩
  have e : S.wk w.1 = w := by
    have := (Stk.wk_mem hm).1
    rw [U.P.find_some (nm := fun x : Str × Str × Int × Int => x.1) ok.w2 h1] at this
    exact (Option.some.inj this).symm
  exact ⟨hm, by rw [e]; exact of_decide_eq_true h2⟩
theorem list_ok {n most : Nat} {d : D} (h : DR n d) (ok : S.Ok) (hm : most ≤ 12) (hn : n ≤ 900000) : ∃ (ws : List Str) (d' : D), f__law_list [d, S.T, .int (most : Nat)] = some (.tup (ws.map .str), d') ∧ ws.length ≤ most ∧ (∀ n ∈ ws, S.Can n) ∧ DR (n + 20) d' := by
  have tk : TK f__law_take := tk_ok
  have i0 : ixD S.T (.int 0) = some (.tup (S.kinds.map kD)) := by rw [S.T_eq, ixT0]
  have i6 : ixD S.T (.int 6) = some (.tup (S.works.map wD)) := by rw [S.T_eq, ixT6]
  have w8 := ok.w1
  have gl : (good S).length ≤ 8 := by
    have := List.length_filter_le (fun w : Str × Str × Int × Int => decide (S.least w.2.1 ≤ w.2.2.2)) S.works
    unfold good; rw [List.length_map]; omega
  unfold f__law_list c__law_list
  generalize f__law_take = T at tk ⊢
  have rgs : ∀ k : Nat, k ≤ 12 → rg1 [.int (k : Nat)] = some ((List.range k).map fun i => .int (i : Nat)) := fun k hk => rg1_nat (by omega)
  generalize rg1 = R at rgs ⊢
  have it : itD (.tup (S.works.map wD)) = some (S.works.map wD) := itD_tup (by rw [List.length_map]; omega)
  simp only [fX_e, fn2_e, Option.bind_some, i0, i6, least_dict ok, it]
  have cg : ∀ f, (∀ w ∈ S.works, f (wD w) = some (if decide (S.least w.2.1 ≤ w.2.2.2) = true then some (D.str w.1) else none)) → compM f (S.works.map wD) = some ((good S).map .str) := fun f hf => by
    rw [compM_filter (h := fun w => D.str w.1) (p := fun w => decide (S.least w.2.1 ≤ w.2.2.2)) S.works hf, good, List.map_map]; rfl
  rw [cg]
  rotate_left
  · intro w hw
    rw [compB_eq, un_nm]
    simp only [Option.bind_some, fn1_e, wD, ixT0, ixT1, ixT3, least_ix (ok.w3 w hw).2.1, geD_int, isBl_bl, Option.map_some]
    split <;> rfl
  have tx : ∀ s ∈ good S, Tx s := fun s hs => by
    have := (good_can ok hs).1
    obtain ⟨w, hw, rfl⟩ := List.mem_map.mp this
    exact (ok.w3 w hw).1.tx
  obtain ⟨v, d1, e1, hv, h1⟩ := tk (m := most + 1) h (by omega) (by omega) (by omega)
  have mu : mulD (.int (v : Nat)) (.int (if (!(good S).isEmpty) = true then 1 else 0)) = some (.int ((if (good S).isEmpty = true then 0 else v : Nat) : Int)) := by
    rw [mulD_b (by split <;> decide)]
    cases (good S).isEmpty <;> simp
  rw [Option.map_some, Option.bind_some, addD_int, lX_some, bX_some, bX_some, bX_some, show (most : Int) + 1 = ((most + 1 : Nat) : Int) by omega, e1, Option.map_some, bX_some, szG0, Option.map_some, Option.bind_some, ne_nil tx, Option.bind_some, Option.bind_some, int1D_bl, lX_some, bX_some, mu, lX_some, bX_some, bX_some, bX_some, rgs _ (by split <;> omega), lX_some, bX_some]
  refine compX_go (P := fun z => ∃ (ws : List Str) (d' : D), (bX (bX (bX (Option.map _ z) _) _) _).bind rtX = some (.tup (ws.map .str), d') ∧ ws.length ≤ most ∧ (∀ n ∈ ws, S.Can n) ∧ DR (n + 20) d') (fun i acc t => (∃ ws : List Str, acc = ws.map .str ∧ ws.length = i ∧ ∀ n ∈ ws, S.Can n) ∧ DR (n + 1 + i) t) ⟨⟨[], rfl, rfl, fun _ h => nomatch h⟩, h1⟩ ?_ ?_
  · rintro i x acc t hx ⟨⟨ws, r1, r2, r3⟩, ht⟩
    obtain ⟨hi, rfl⟩ := range_at hx
    have g0 : 1 ≤ (good S).length := by
      cases hg : good S with
      | nil => rw [hg] at hi; simp at hi
      | cons a r => simp
    have hi : i < v := by split at hi <;> omega
    obtain ⟨u, t', ev, hu, ht'⟩ := tk (m := (good S).length) ht g0 (by omega) (by omega)
    refine ⟨some (.str (good S)[u]), t', ?_, ⟨ws ++ [(good S)[u]], by rw [r1, List.map_append]; rfl, by rw [List.length_append, r2]; rfl, ?_⟩, ht'.up (by omega)⟩
    · have ix : ixD (.lst ((good S).map .str)) (.int (u : Nat)) = some (.str (good S)[u]) := by rw [ixD_lstN, List.getElem?_map, List.getElem?_eq_getElem hu]; rfl
      simp only [compBX, un_nm, Option.bind_some, if_true, fn1_e, bX_some, lX_some, lenD_lst, List.length_map, ev, Option.map_some, ix]
    · intro n hn
      rcases List.mem_append.mp hn with e | e
      · exact r3 n e
      · rw [List.mem_singleton.mp e]
        exact good_can ok (List.getElem_mem hu)
  · rintro ys d2 ⟨⟨ws, rfl, r2, r3⟩, h2⟩
    rw [List.length_map, List.length_range] at r2 h2
    refine ⟨ws, d2, rfl, by rw [r2]; split <;> omega, r3, h2.up (by split <;> omega)⟩
theorem jobs_ok (ok : S.Ok) {ws : List Str} (hl : ws.length ≤ 12) (h : ∀ n ∈ ws, S.Can n) : f__law_jobs [S.T, .tup (ws.map .str)] = some (.lst ((ws.map S.job).map jD)) := by
  have i0 : ixD S.T (.int 0) = some (.tup (S.kinds.map kD)) := by rw [S.T_eq, ixT0]
  have i6 : ixD S.T (.int 6) = some (.tup (S.works.map wD)) := by rw [S.T_eq, ixT6]
  have w8 := ok.w1
  have it : itD (.tup (S.works.map wD)) = some (S.works.map wD) := itD_tup (by rw [List.length_map]; omega)
  have it2 : itD (.tup (ws.map .str)) = some (ws.map .str) := itD_tup (by rw [List.length_map]; omega)
  have dj : dictD [.lst (S.works.map fun w => D.tup [.str w.1, .tup [.str w.2.1, .int w.2.2.1, .int w.2.2.2]])] = some (.dK (S.works.map fun w => ((.inr w.1 : Key), .tup [.str w.2.1, .int w.2.2.1, .int w.2.2.2]))) :=
    dictD_map (k := (·.1)) (v := fun w : Str × Str × Int × Int => D.tup [.str w.2.1, .int w.2.2.1, .int w.2.2.2]) S.works rfl (fun _ => rfl) ok.w2
  simp only [f__law_jobs, c__law_jobs, fV_e, fn2_e, Option.bind_some, i0, i6, least_dict ok, it]
  rw [compM_map (h := fun w : Str × Str × Int × Int => D.tup [.str w.1, .tup [.str w.2.1, .int w.2.2.1, .int w.2.2.2]])]
  · simp only [Option.bind_some, Option.map_some, dj, szG2, un_tp, uns_cons, un_nm, uns_nil, List.append_nil, List.cons_append, List.nil_append, fn2_e, it2]
    rw [compM_map (h := fun n => jD (S.job n))]
    · simp [List.map_map, Function.comp_def]
    · intro n hn
      obtain ⟨hm, hc⟩ := h n hn
      obtain ⟨hf, wm, _⟩ := Stk.wk_mem hm
      have ix : ixD (.dK (S.works.map fun w => ((.inr w.1 : Key), .tup [.str w.2.1, .int w.2.2.1, .int w.2.2.2]))) (.str n) = some (.tup [.str (S.wk n).2.1, .int (S.wk n).2.2.1, .int (S.wk n).2.2.2]) := by
        rw [dkix (k := (·.1)) (v := fun w : Str × Str × Int × Int => D.tup [.str w.2.1, .int w.2.2.1, .int w.2.2.2]), hf]; rfl
      rw [compB_eq, un_nm]
      simp only [Option.bind_some, if_true, fn1_e, ix, ixT0, ixT1, ixT2, least_ix (ok.w3 _ wm).2.1, maxD_2, szG3, Option.map_some]
      rfl
  · intro w hw
    have sl : slD (wD w) (some 1) none = some (.tup [.str w.2.1, .int w.2.2.1, .int w.2.2.2]) := by
      simp only [slD, wD, cutD]; rfl
    rw [compB_eq, un_nm]
    simp only [Option.bind_some, if_true, fn1_e, isInt_int, Option.map_some, sl]
    simp only [wD, ixT0, Option.bind_some, szG2, Option.map_some]
theorem apart_ok (a b : Job) : f__law_apart [jD a, jD b] = some (.bl (U.P.apart a b)) := by
  simp only [f__law_apart, c__law_apart, fV_e, fn2_e, Option.bind_some, jD, ixT0, ixT1, ixT2, neD_str, gtD_int, orV_b]
  by_cases h : a.1 = b.1 <;> simp [U.P.apart, h]
theorem lawRuns_len (js : List Job) : ∀ n, (U.P.lawRuns js n).length ≤ 2 ^ n
  | 0 => by simp [U.P.lawRuns]
  | n + 1 => by
    have h1 := lawRuns_len js n
    have h2 := List.length_filter_le (fun r : List Nat => r.all fun i => U.P.apart (U.P.jobAt js i) (U.P.jobAt js n)) (U.P.lawRuns js n)
    rw [U.P.lawRuns, List.length_append, List.length_map, Nat.pow_succ]
    omega
end
end U.A35
end
section
set_option Elab.async false
set_option linter.all false
set_option maxRecDepth 100000
set_option maxHeartbeats 4000000
namespace U.A35
open PySem L2 M U
open U.P (Stk kD wD Nm Tx Job jD rD jobAt)
theorem lawRuns_ln {js : List Job} : ∀ {n : Nat} {r : List Nat}, r ∈ U.P.lawRuns js n → r.length ≤ n
  | 0, r, h => by rw [List.mem_singleton.mp h]; simp
  | n + 1, r, h => by
    rcases List.mem_append.mp h with h | h
    · have := lawRuns_ln h; omega
    · obtain ⟨q, hq, rfl⟩ := List.mem_map.mp h
      have := lawRuns_ln (List.mem_filter.mp hq).1
      rw [List.length_append, List.length_singleton]; omega
theorem ndup_le {α : Type} [DecidableEq α] : ∀ l : List α, (ndup l).length ≤ l.length
  | [] => Nat.le_refl _
  | x :: r => by
    have := ndup_le r
    rw [ndup]
    split
    · rw [List.length_cons]; omega
    · rw [List.length_cons, List.length_cons]; omega
theorem runs_ok (js : List Job) (hl : js.length ≤ 12) : f__law_runs [.lst (js.map jD)] = some (.lst ((U.P.lawRuns js js.length).map rD)) := by
  have en : enumD [.lst (js.map jD)] = some (enD 0 (js.map jD)) := enumD_lst (by rw [List.length_map]; omega)
  simp only [f__law_runs, c__law_runs, fV_e, fn1_e, Option.bind_some, szG0, szG1, Option.map_some, en]
  rw [Option.map_bind]
  refine forM_use (fun i s => s = .lst ((U.P.lawRuns js i).map rD)) rfl (fun i x s hx hs => ?_) fun s' h => ?_
  · obtain ⟨d, hd, rfl⟩ := U.P.enD_get hx
    obtain ⟨j, hj, rfl⟩ := U.P.map_at hd
    subst hs
    have il := (List.getElem?_eq_some_iff.mp hj).1
    have ej : jobAt js i = j := by simp [jobAt, List.getD, hj]
    have pw : 2 ^ i ≤ 2 ^ 12 := Nat.pow_le_pow_right (by decide) (by omega)
    have ll := lawRuns_len js i
    have it : itD (.lst ((U.P.lawRuns js i).map rD)) = some ((U.P.lawRuns js i).map rD) := itD_lst (by rw [List.length_map]; omega)
    have fl := List.length_filter_le (fun r : List Nat => r.all fun o => U.P.apart (jobAt js o) (jobAt js i)) (U.P.lawRuns js i)
    have rl : ∀ r ∈ U.P.lawRuns js i, r.length ≤ 12 ∧ ∀ o ∈ r, o < js.length := fun r hr => by
      obtain ⟨h1, h2⟩ := U.P.lawRuns_mem.mp hr
      have := lawRuns_ln hr
      exact ⟨by omega, fun o ho => by have := h2 o ho; omega⟩
    simp only [un_pr, uns_cons, un_nm, uns_nil, Option.bind_some, List.append_nil, List.cons_append, List.nil_append, fn2_e, it]
    rw [compM_filter (g := rD) (p := fun r => r.all fun o => U.P.apart (jobAt js o) (jobAt js i)) (h := fun r => rD (r ++ [i]))]
    · have ad : addD (.lst ((U.P.lawRuns js i).map rD)) (.lst (((U.P.lawRuns js i).filter fun r => r.all fun o => U.P.apart (jobAt js o) (jobAt js i)).map fun r => rD (r ++ [i]))) = some (.lst ((U.P.lawRuns js (i + 1)).map rD)) := by
        rw [U.P.addD_lst (by rw [List.length_map, List.length_map]; omega), U.P.lawRuns, List.map_append, List.map_map]; rfl
      simp only [Option.map_some, Option.bind_some, ad]
      exact ⟨_, rfl, rfl⟩
    · intro r hr
      obtain ⟨r1, r2⟩ := rl r hr
      have it2 : itD (rD r) = some (r.map fun n : Nat => D.int (n : Nat)) := itD_tup (by rw [List.length_map]; omega)
      rw [compB_eq, un_nm]
      simp only [Option.bind_some, fn1_e, it2]
      rw [compM_map (h := fun o : Nat => D.bl (U.P.apart (jobAt js o) (jobAt js i)))]
      · rw [Option.map_some, Option.bind_some, Option.bind_some, allD_map, Option.bind_some, tru_bl, Option.bind_some]
        have ad : addD (rD r) (.tup [.int (i : Nat)]) = some (rD (r ++ [i])) := by
          rw [rD, U.P.addD_tup (by rw [List.length_map, List.length_singleton]; omega), rD, List.map_append]; rfl
        rw [ad]
        split <;> rfl
      · intro o ho
        rw [compB_eq, un_nm]
        simp only [Option.bind_some, if_true, fn1_e, U.P.jobs_at (r2 o ho), ← ej, apart_ok]
        rfl
  · rw [enD_len, List.length_map] at h
    subst h
    rfl
theorem fits_job {S : Stk} (ok : S.Ok) {n : Str} (h : S.Can n) : (S.job n).2.1 ≤ (S.job n).2.2 := by
  obtain ⟨_, wm, _⟩ := Stk.wk_mem h.1
  have := ok.w3 _ wm
  show max (S.wk n).2.2.1 (S.least (S.wk n).2.1) ≤ (S.wk n).2.2.2
  have := h.2
  omega
theorem pick6 {a b c d e f : Nat} {v : Nat} (h : v < 6) : ∃ x : Nat, ixD (.lst [.int a, .int b, .int c, .int d, .int e, .int f]) (.int (v : Nat)) = some (.int (x : Nat)) ∧ (x = a ∨ x = b ∨ x = c ∨ x = d ∨ x = e ∨ x = f) := by
  rw [ixD_lstN]
  match v, h with
  | 0, _ => exact ⟨_, rfl, .inl rfl⟩
  | 1, _ => exact ⟨_, rfl, .inr (.inl rfl)⟩
  | 2, _ => exact ⟨_, rfl, .inr (.inr (.inl rfl))⟩
  | 3, _ => exact ⟨_, rfl, .inr (.inr (.inr (.inl rfl)))⟩
  | 4, _ => exact ⟨_, rfl, .inr (.inr (.inr (.inr (.inl rfl))))⟩
  | 5, _ => exact ⟨_, rfl, .inr (.inr (.inr (.inr (.inr rfl))))⟩
theorem pick2 {a b : Nat} {v : Nat} (h : v < 2) : ∃ x : Nat, ixD (.lst [.int a, .int b]) (.int (v : Nat)) = some (.int (x : Nat)) ∧ (x = a ∨ x = b) := by
  rw [ixD_lstN]
  match v, h with
  | 0, _ => exact ⟨_, rfl, .inl rfl⟩
  | 1, _ => exact ⟨_, rfl, .inr rfl⟩
theorem neD_same (s : Str) : neD (.str s) (.str s) = some (.bl false) := by rw [neD_str, decide_eq_true rfl]; rfl
theorem law_true (ns : List Int) (h : ns.length ≤ 63) : f_law [.scr (ns.map D.int)] = some (.bl true) := by
  have tk : TK f__law_take := tk_ok
  have rg : rg1 [.int (max 3 (min 8 ((ns.length : Nat) : Int)))] = some ((List.range (max 3 (min 8 ns.length))).map fun i => .int (i : Nat)) := by
    rw [show max (3 : Int) (min 8 ((ns.length : Nat) : Int)) = ((max 3 (min 8 ns.length) : Nat) : Int) by omega]
    exact rg1_nat (by omega)
  have dr : ∀ k : Nat, ∃ d, f__law_draw [.scr (ns.map D.int), .int (k : Nat)] = some d ∧ DR 0 d := fun k => draw_ok h
  have sk := @stock_ok
  have li := @list_ok
  unfold f_law c_law
  generalize f__law_take = T at tk ⊢
  generalize f__law_draw = W at dr ⊢
  generalize f__law_stock = G at sk ⊢
  generalize f__law_list = L at li ⊢
  simp only [fV_e, fn1_e, Option.bind_some, lenD_scr, List.length_map, minD_2, maxD_2, rg]
  rw [forM_skip]
  · rfl
  · intro x hx
    obtain ⟨k, hk, rfl⟩ := List.mem_map.mp hx
    obtain ⟨d0, e0, h0⟩ := dr k
    obtain ⟨v1, d1, e1, p1, h1⟩ := tk (m := 6) h0 (by decide) (by decide) (by decide)
    obtain ⟨v2, d2, e2, p2, h2⟩ := tk (m := 6) h1 (by decide) (by decide) (by decide)
    have e1 : T [d0, .int 6] = some (.int (v1 : Nat), d1) := e1
    have e2 : T [d1, .int 6] = some (.int (v2 : Nat), d2) := e2
    obtain ⟨kinds, ek, hk⟩ := pick6 (a := 1) (b := 2) (c := 1) (d := 3) (e := 6) (f := 2) p1
    obtain ⟨works, ew, hw⟩ := pick6 (a := 8) (b := 6) (c := 3) (d := 1) (e := 8) (f := 0) p2
    have ek : ixD (.lst [.int 1, .int 2, .int 1, .int 3, .int 6, .int 2]) (.int (v1 : Nat)) = some (.int (kinds : Nat)) := ek
    have ew : ixD (.lst [.int 8, .int 6, .int 3, .int 1, .int 8, .int 0]) (.int (v2 : Nat)) = some (.int (works : Nat)) := ew
    obtain ⟨S, d3, e3, ok, h3⟩ := sk (kinds := kinds) (works := works) h2 (by omega) (by omega) (by omega) (by decide)
    obtain ⟨v4, d4, e4, p4, h4⟩ := tk (m := 2) h3 (by decide) (by decide) (by decide)
    have e4 : T [d3, .int 2] = some (.int (v4 : Nat), d4) := e4
    obtain ⟨most, em, hm⟩ := pick2 (a := 9) (b := 6) p4
    have em : ixD (.lst [.int 9, .int 6]) (.int (v4 : Nat)) = some (.int (most : Nat)) := em
    obtain ⟨ws, d5, e5, lw, can, h5⟩ := li (most := most) h4 ok (by omega) (by decide)
    have jo := jobs_ok ok (ws := ws) (by omega) can
    have ru := runs_ok (ws.map S.job) (by rw [List.length_map]; omega)
    have fe := U.P.fewest_ok ok (ws := ws) (by omega) can
    have mo := U.P.most_eq (js := ws.map S.job) fun j hj => by
      obtain ⟨n, hn, rfl⟩ := List.mem_map.mp hj
      exact fits_job ok (can n hn)
    rw [show U.P.planN (ws.map S.job) (ws.map S.job).length = S.plan ws by rw [List.length_map]; rfl] at mo
    have ll := lawRuns_len (ws.map S.job) (ws.map S.job).length
    have pw : 2 ^ (ws.map S.job).length ≤ 2 ^ 12 := Nat.pow_le_pow_right (by decide) (by rw [List.length_map]; omega)
    have it : itD (.lst ((U.P.lawRuns (ws.map S.job) (ws.map S.job).length).map rD)) = some ((U.P.lawRuns (ws.map S.job) (ws.map S.job).length).map rD) := itD_lst (by rw [List.length_map]; omega)
    have tl : U.P.tools (S.plan ws) ≤ 62 := by
      have := ndup_le ((S.plan ws).map fun e => (e.1, e.2.1))
      have l2 : (S.plan ws).length = ws.length := U.P.planN_len _ _
      rw [List.length_map, l2] at this
      show (ndup ((S.plan ws).map fun e => (e.1, e.2.1))).length ≤ 62
      omega
    have rp : reprD [.int (U.P.tools (S.plan ws) : Nat)] = some (.str (toString ((U.P.tools (S.plan ws) : Nat) : Int))) := by
      show gP _ _ = _
      rw [gP_pos]
      rw [Int.natAbs_natCast]
      by_cases e : U.P.tools (S.plan ws) = 0
      · rw [e]; decide
      · have := (Nat.log2_lt e (k := 20)).mpr (by omega)
        omega
    have mx : maxD [.lst ((U.P.lawRuns (ws.map S.job) (ws.map S.job).length).map fun r => D.int (r.length : Nat))] = some (.int (U.P.tools (S.plan ws) : Nat)) := by
      show ((some _).bind intsD).bind _ = _
      rw [Option.bind_some, show ((U.P.lawRuns (ws.map S.job) (ws.map S.job).length).map fun r => D.int (r.length : Nat)) = ((U.P.lawRuns (ws.map S.job) (ws.map S.job).length).map fun r => ((r.length : Nat) : Int)).map D.int by rw [List.map_map]; rfl, U.P.intsD_map, Option.bind_some, mo]; rfl
    simp only [un_nm, Option.bind_some, fn1_e, e0, szG6, Option.map_some, lX_some, bX_some, e1, ek, e2, ew, fn2_e, e3, szG2, e4, em, e5, jo, ru, it]
    rw [compM_map (h := fun r : List Nat => D.int (r.length : Nat))]
    · rw [Option.map_some, Option.bind_some, Option.bind_some, mx, Option.bind_some, fe, Option.bind_some, Option.bind_some, rp, Option.bind_some, Option.bind_some, neD_same]
      rfl
    · intro r _
      rw [compB_eq, un_nm]
      simp only [Option.bind_some, if_true, fn1_e, rD, lenD_tup, List.length_map, Option.map_some]
end U.A35
end
set_option Elab.async false
set_option linter.all false
set_option maxRecDepth 100000
set_option maxHeartbeats 0
namespace U.A35
open PySem PySem.Spec PyProof.Rows L2 U M
open He (ga)
abbrev tq0 (K : PySem.W.Frag) : Tb := []
def top (i : Nat) : Stmt := PySem.Challenge.pw_edgeshop_k35_fewest_by_all_runs.main.body.getD i (.Pass ⟨0, 0, 0, 0⟩)
structure Kn (K : PySem.W.Frag) (w : World) (mg : Str → Option Value) : Prop where
  c_SORTS : ∃ u, mg "SORTS" = some u ∧ RelV (.ref (ga K "SORTS")) u
  c_FEWEST : ∃ u, mg "FEWEST" = some u ∧ RelV (.ref (ga K "FEWEST")) u
  c_MOST : ∃ u, mg "MOST" = some u ∧ RelV (.ref (ga K "MOST")) u
  c_FITS : ∃ u, mg "FITS" = some u ∧ RelV (.ref (ga K "FITS")) u
  c_KINDS : ∃ u, mg "KINDS" = some u ∧ RelV (.int 0) u
  c_BOXES : ∃ u, mg "BOXES" = some u ∧ RelV (.int 1) u
  c_TOOLS : ∃ u, mg "TOOLS" = some u ∧ RelV (.int 2) u
  c_HANDS : ∃ u, mg "HANDS" = some u ∧ RelV (.int 3) u
  c_SETS : ∃ u, mg "SETS" = some u ∧ RelV (.int 4) u
  c_GAUGES : ∃ u, mg "GAUGES" = some u ∧ RelV (.int 5) u
  c_WORKS : ∃ u, mg "WORKS" = some u ∧ RelV (.int 6) u
  c_KEEPS : ∃ u, mg "KEEPS" = some u ∧ RelV (.int 7) u
  c_LAST_SIZE : ∃ u, mg "LAST_SIZE" = some u ∧ RelV (.int 99) u
  c_MOST_WORKS : ∃ u, mg "MOST_WORKS" = some u ∧ RelV (.int 12) u
abbrev s__law_draw : Stmt := top 52
abbrev N__law_draw : List Str := ["script", "k", "cell"]
abbrev P__law_draw : List Str := ["script", "k"]
theorem sc__law_draw : FnScope N__law_draw P__law_draw (defScope s__law_draw) := scope_by (by decide +kernel)
abbrev s__law_mixed : Stmt := top 51
abbrev N__law_mixed : List Str := ["cell", "k", "number"]
abbrev P__law_mixed : List Str := ["cell", "k"]
theorem sc__law_mixed : FnScope N__law_mixed P__law_mixed (defScope s__law_mixed) := scope_by (by decide +kernel)
abbrev s__law_take : Stmt := top 53
abbrev N__law_take : List Str := ["draw", "many", "found", "number"]
abbrev P__law_take : List Str := ["draw", "many"]
theorem sc__law_take : FnScope N__law_take P__law_take (defScope s__law_take) := scope_by (by decide +kernel)
abbrev s__law_names : Stmt := top 54
abbrev N__law_names : List Str := ["draw", "many", "way", "first", "letters", "words", "base", "k"]
abbrev P__law_names : List Str := ["draw", "many"]
theorem sc__law_names : FnScope N__law_names P__law_names (defScope s__law_names) := scope_by (by decide +kernel)
abbrev s__law_stock : Stmt := top 55
abbrev N__law_stock : List Str := ["draw", "kinds", "works", "called", "rows", "found", "name", "kind", "lows", "low", "more"]
abbrev P__law_stock : List Str := ["draw", "kinds", "works"]
theorem sc__law_stock : FnScope N__law_stock P__law_stock (defScope s__law_stock) := scope_by (by decide +kernel)
abbrev s__law_list : Stmt := top 56
abbrev N__law_list : List Str := ["draw", "stock", "most", "least", "good", "row", "k"]
abbrev P__law_list : List Str := ["draw", "stock", "most"]
theorem sc__law_list : FnScope N__law_list P__law_list (defScope s__law_list) := scope_by (by decide +kernel)
abbrev s_many_tools : Stmt := top 48
abbrev N_many_tools : List Str := ["plan", "kind", "number", "_"]
abbrev P_many_tools : List Str := ["plan"]
theorem sc_many_tools : FnScope N_many_tools P_many_tools (defScope s_many_tools) := scope_by (by decide +kernel)
abbrev s_are_apart : Stmt := top 45
abbrev N_are_apart : List Str := ["job", "later"]
abbrev P_are_apart : List Str := ["job", "later"]
theorem sc_are_apart : FnScope N_are_apart P_are_apart (defScope s_are_apart) := scope_by (by decide +kernel)
abbrev s_runs_to : Stmt := top 46
abbrev N_runs_to : List Str := ["jobs", "runs", "at", "job", "ahead", "run"]
abbrev P_runs_to : List Str := ["jobs"]
theorem sc_runs_to : FnScope N_runs_to P_runs_to (defScope s_runs_to) := scope_by (by decide +kernel)
abbrev s_plan_of : Stmt := top 47
abbrev N_plan_of : List Str := ["jobs", "plan", "at", "run", "kind", "_", "high", "tool", "sizes", "its", "number", "size"]
abbrev P_plan_of : List Str := ["jobs"]
theorem sc_plan_of : FnScope N_plan_of P_plan_of (defScope s_plan_of) := scope_by (by decide +kernel)
abbrev s_named : Stmt := top 22
abbrev N_named : List Str := ["things", "name", "thing"]
abbrev P_named : List Str := ["things", "name"]
theorem sc_named : FnScope N_named P_named (defScope s_named) := scope_by (by decide +kernel)
abbrev s_need_named : Stmt := top 40
abbrev N_need_named : List Str := ["things", "name", "thing"]
abbrev P_need_named : List Str := ["things", "name"]
theorem sc_need_named : FnScope N_need_named P_need_named (defScope s_need_named) := scope_by (by decide +kernel)
abbrev s_need_works : Stmt := top 41
abbrev N_need_works : List Str := ["stock", "works", "most", "name"]
abbrev P_need_works : List Str := ["stock", "works", "most"]
theorem sc_need_works : FnScope N_need_works P_need_works (defScope s_need_works) := scope_by (by decide +kernel)
abbrev s_is_row : Stmt := top 21
abbrev N_is_row : List Str := ["thing", "many"]
abbrev P_is_row : List Str := ["thing", "many"]
theorem sc_is_row : FnScope N_is_row P_is_row (defScope s_is_row) := scope_by (by decide +kernel)
abbrev s_is_stock_form : Stmt := top 37
abbrev N_is_stock_form : List Str := ["thing", "sort", "things"]
abbrev P_is_stock_form : List Str := ["thing"]
theorem sc_is_stock_form : FnScope N_is_stock_form P_is_stock_form (defScope s_is_stock_form) := scope_by (by decide +kernel)
abbrev s_is_name : Stmt := top 20
abbrev N_is_name : List Str := ["thing", "sign"]
abbrev P_is_name : List Str := ["thing"]
theorem sc_is_name : FnScope N_is_name P_is_name (defScope s_is_name) := scope_by (by decide +kernel)
abbrev s_is_new : Stmt := top 25
abbrev N_is_new : List Str := ["things", "name"]
abbrev P_is_new : List Str := ["things", "name"]
theorem sc_is_new : FnScope N_is_new P_is_new (defScope s_is_new) := scope_by (by decide +kernel)
abbrev s_is_number : Stmt := top 18
abbrev N_is_number : List Str := ["thing", "last"]
abbrev P_is_number : List Str := ["thing", "last"]
theorem sc_is_number : FnScope N_is_number P_is_number (defScope s_is_number) := scope_by (by decide +kernel)
abbrev s_is_size : Stmt := top 19
abbrev N_is_size : List Str := ["thing"]
abbrev P_is_size : List Str := ["thing"]
theorem sc_is_size : FnScope N_is_size P_is_size (defScope s_is_size) := scope_by (by decide +kernel)
abbrev s_is_kind : Stmt := top 26
abbrev N_is_kind : List Str := ["ahead", "thing"]
abbrev P_is_kind : List Str := ["ahead", "thing"]
theorem sc_is_kind : FnScope N_is_kind P_is_kind (defScope s_is_kind) := scope_by (by decide +kernel)
abbrev s_is_box : Stmt := top 27
abbrev N_is_box : List Str := ["ahead", "thing"]
abbrev P_is_box : List Str := ["ahead", "thing"]
theorem sc_is_box : FnScope N_is_box P_is_box (defScope s_is_box) := scope_by (by decide +kernel)
abbrev s_has_box : Stmt := top 23
abbrev N_has_box : List Str := ["stock", "name"]
abbrev P_has_box : List Str := ["stock", "name"]
theorem sc_has_box : FnScope N_has_box P_has_box (defScope s_has_box) := scope_by (by decide +kernel)
abbrev s_is_tool : Stmt := top 28
abbrev N_is_tool : List Str := ["ahead", "thing", "kind"]
abbrev P_is_tool : List Str := ["ahead", "thing"]
theorem sc_is_tool : FnScope N_is_tool P_is_tool (defScope s_is_tool) := scope_by (by decide +kernel)
abbrev s_is_hand : Stmt := top 29
abbrev N_is_hand : List Str := ["ahead", "thing"]
abbrev P_is_hand : List Str := ["ahead", "thing"]
theorem sc_is_hand : FnScope N_is_hand P_is_hand (defScope s_is_hand) := scope_by (by decide +kernel)
abbrev s_set_with : Stmt := top 24
abbrev N_set_with : List Str := ["stock", "tool", "name", "pieces"]
abbrev P_set_with : List Str := ["stock", "tool"]
theorem sc_set_with : FnScope N_set_with P_set_with (defScope s_set_with) := scope_by (by decide +kernel)
abbrev s_is_set : Stmt := top 30
abbrev N_is_set : List Str := ["ahead", "thing", "pieces", "piece"]
abbrev P_is_set : List Str := ["ahead", "thing"]
theorem sc_is_set : FnScope N_is_set P_is_set (defScope s_is_set) := scope_by (by decide +kernel)
abbrev s_is_range : Stmt := top 31
abbrev N_is_range : List Str := ["ahead", "sort", "thing"]
abbrev P_is_range : List Str := ["ahead", "sort", "thing"]
theorem sc_is_range : FnScope N_is_range P_is_range (defScope s_is_range) := scope_by (by decide +kernel)
abbrev s_is_gauge : Stmt := top 32
abbrev N_is_gauge : List Str := ["ahead", "thing"]
abbrev P_is_gauge : List Str := ["ahead", "thing"]
theorem sc_is_gauge : FnScope N_is_gauge P_is_gauge (defScope s_is_gauge) := scope_by (by decide +kernel)
abbrev s_is_work : Stmt := top 33
abbrev N_is_work : List Str := ["ahead", "thing"]
abbrev P_is_work : List Str := ["ahead", "thing"]
theorem sc_is_work : FnScope N_is_work P_is_work (defScope s_is_work) := scope_by (by decide +kernel)
abbrev s_is_keep : Stmt := top 34
abbrev N_is_keep : List Str := ["ahead", "thing", "tool", "work"]
abbrev P_is_keep : List Str := ["ahead", "thing"]
theorem sc_is_keep : FnScope N_is_keep P_is_keep (defScope s_is_keep) := scope_by (by decide +kernel)
abbrev s_fits : Stmt := top 36
abbrev N_fits : List Str := ["ahead", "sort", "thing", "fit"]
abbrev P_fits : List Str := ["ahead", "sort", "thing"]
theorem sc_fits : FnScope N_fits P_fits (defScope s_fits) := scope_by (by decide +kernel)
abbrev s_stock_fault : Stmt := top 38
abbrev N_stock_fault : List Str := ["thing", "ahead", "sort", "things", "number", "one", "_"]
abbrev P_stock_fault : List Str := ["thing"]
theorem sc_stock_fault : FnScope N_stock_fault P_stock_fault (defScope s_stock_fault) := scope_by (by decide +kernel)
abbrev s_need_stock : Stmt := top 39
abbrev N_need_stock : List Str := ["thing", "place"]
abbrev P_need_stock : List Str := ["thing"]
theorem sc_need_stock : FnScope N_need_stock P_need_stock (defScope s_need_stock) := scope_by (by decide +kernel)
abbrev s_need_jobs : Stmt := top 44
abbrev N_need_jobs : List Str := ["stock", "works", "jobs", "name", "kind", "low", "high", "least"]
abbrev P_need_jobs : List Str := ["stock", "works"]
theorem sc_need_jobs : FnScope N_need_jobs P_need_jobs (defScope s_need_jobs) := scope_by (by decide +kernel)
abbrev s_fewest : Stmt := top 49
abbrev N_fewest : List Str := ["stock", "works"]
abbrev P_fewest : List Str := ["stock", "works"]
theorem sc_fewest : FnScope N_fewest P_fewest (defScope s_fewest) := scope_by (by decide +kernel)
abbrev s__law_apart : Stmt := top 58
abbrev N__law_apart : List Str := ["one", "other"]
abbrev P__law_apart : List Str := ["one", "other"]
theorem sc__law_apart : FnScope N__law_apart P__law_apart (defScope s__law_apart) := scope_by (by decide +kernel)
abbrev s__law_runs : Stmt := top 59
abbrev N__law_runs : List Str := ["rows", "found", "number", "row", "run", "one"]
abbrev P__law_runs : List Str := ["rows"]
theorem sc__law_runs : FnScope N__law_runs P__law_runs (defScope s__law_runs) := scope_by (by decide +kernel)
abbrev s__law_jobs : Stmt := top 57
abbrev N__law_jobs : List Str := ["stock", "works", "least", "jobs", "row", "name"]
abbrev P__law_jobs : List Str := ["stock", "works"]
theorem sc__law_jobs : FnScope N__law_jobs P__law_jobs (defScope s__law_jobs) := scope_by (by decide +kernel)
abbrev s_law : Stmt := top 60
abbrev N_law : List Str := ["script", "k", "draw", "kinds", "works", "stock", "some", "due", "run"]
abbrev P_law : List Str := ["script"]
theorem sc_law : FnScope N_law P_law (defScope s_law) := scope_by (by decide +kernel)
section
variable {P : Program} {w : World} {K : PySem.W.Frag} {mg : Str → Option Value} {base : Heap}
theorem ok__law_draw (F : Fn K mg "_law_draw" s__law_draw) (B : Bl mg) (N : Kn K w mg)  (rd : ∀ vs H Q E, U.A35.sp__law_draw K w (tq0 K) vs H Q E → U.A35.t__law_draw K w (tq0 K) { nx := fun _ H' => Q .non H', rt := Q } (start N__law_draw vs) H) :
    C8.Cal P w K mg base 1 "_law_draw" (U.A35.sp__law_draw K w (tq0 K)) [] := by
  have sc := sc__law_draw
  refine cal_of F sc__law_draw (fun _ _ _ _ _ _ us hl => match us, hl with | [_, _], _ => rfl) (fun vs H Q E h => U.A35.len__law_draw h) (fun f cdv A outer s H vs Q E hr h => ⟨U.A35.t__law_draw K w (tq0 K), ?_, rd vs H Q E h⟩)
  exact (pss_cons (sv 2 sc.nd (pe_ifExp (pt_cmpR op_ltU (pv 1) (pe_callB call_len (by rfl) B.len_ (by decide +kernel) (pa_cons (pv 0) pa_nil)) (nomark _)) (pe_ix (ixU (hu_of hr)) (pv 0) (pv 1) (fun _ _ => rfl)) (pv 1)))
    (pss_one (ps_ret (pe_disp (pps_cons pe_str (pv 2) (pps_cons pe_str (pe_ifExp (pt_cmpR op_geU (pv 2) (pe_op op_powU pe_int pe_int) (nomark _)) (pv 2) pe_int) (pps_cons pe_str pe_int pps_nil))) (by rfl) (by rfl) (fun z => by cases z) (by decide)))))
theorem ok__law_mixed (F : Fn K mg "_law_mixed" s__law_mixed) (B : Bl mg) (N : Kn K w mg)  (rd : ∀ vs H Q E, U.A35.sp__law_mixed K w (tq0 K) vs H Q E → U.A35.t__law_mixed K w (tq0 K) { nx := fun _ H' => Q .non H', rt := Q } (start N__law_mixed vs) H) :
    C8.Cal P w K mg base 1 "_law_mixed" (U.A35.sp__law_mixed K w (tq0 K)) [] := by
  have sc := sc__law_mixed
  refine cal_of F sc__law_mixed (fun _ _ _ _ _ _ us hl => match us, hl with | [_, _], _ => rfl) (fun vs H Q E h => U.A35.len__law_mixed h) (fun f cdv A outer s H vs Q E hr h => ⟨U.A35.t__law_mixed K w (tq0 K), ?_, rd vs H Q E h⟩)
  exact (pss_cons (sv 2 sc.nd (pe_op op_modU (pe_op op_mul2 (pe_op op_add2 (pe_op op_add2 (pe_op op_modU (pv 0) pe_int) (pe_op op_mul2 (pe_op op_mul2 pe_int (pv 1)) (pv 1))) pe_int) pe_int) pe_int))
    (pss_one (ps_ret (pe_op op_modU (pe_op op_mul2 (pv 2) (pv 2)) pe_int))))
theorem ok__law_take (F : Fn K mg "_law_take" s__law_take) (B : Bl mg) (N : Kn K w mg) (c__law_mixed : C8.Cal P w K mg base 1 "_law_mixed" (U.A35.sp__law_mixed K w (tq0 K)) []) (rd : ∀ vs H Q E, U.A35.sp__law_take K w (tq0 K) vs H Q E → U.A35.t__law_take K w (tq0 K) { nx := fun _ H' => Q .non H', rt := Q } (start N__law_take vs) H) :
    C8.Cal P w K mg base 2 "_law_take" (U.A35.sp__law_take K w (tq0 K)) [] := by
  have sc := sc__law_take
  refine cal_of F sc__law_take (fun _ _ _ _ _ _ us hl => match us, hl with | [_, _], _ => rfl) (fun vs H Q E h => U.A35.len__law_take h) (fun f cdv A outer s H vs Q E hr h => ⟨U.A35.t__law_take K w (tq0 K), ?_, rd vs H Q E h⟩)
  exact (pss_cons (ps_if (pt_cmpR op_gtU (pe_ix (ixU (hu_of hr)) (pv 0) pe_str (fun _ _ => rfl)) pe_int (nomark _)) (pss_cons (sv 2 sc.nd (pe_op op_modU (pe_ix (ixU (hu_of hr)) (pv 0) pe_str (fun _ _ => rfl)) (pv 1)))
    (pss_cons (ps_setU (hu_of hr) (pv 0) pe_str (pe_op op_divW' (pe_ix (ixU (hu_of hr)) (pv 0) pe_str (fun _ _ => rfl)) (pv 1)) rfl)
    (pss_one (ps_ret (pv 2))))) pss_nil)
    (pss_cons (ps_setU (hu_of hr) (pv 0) pe_str (pe_op op_add2 (pe_ix (ixU (hu_of hr)) (pv 0) pe_str (fun _ _ => rfl)) pe_int) rfl)
    (pss_cons (sv 3 sc.nd (pe_op op_add2 (pe_op op_mul2 (C8.pe_c c__law_mixed hr (by decide) rfl (pa_cons (pe_ix (ixU (hu_of hr)) (pv 0) pe_str (fun _ _ => rfl)) (pa_cons (pe_ix (ixU (hu_of hr)) (pv 0) pe_str (fun _ _ => rfl)) pa_nil))) pe_int) (C8.pe_c c__law_mixed hr (by decide) rfl (pa_cons (pe_op op_divW' (pe_ix (ixU (hu_of hr)) (pv 0) pe_str (fun _ _ => rfl)) pe_int) (pa_cons (pe_op op_add2 (pe_ix (ixU (hu_of hr)) (pv 0) pe_str (fun _ _ => rfl)) pe_int) pa_nil)))))
    (pss_one (ps_ret (pe_op op_modU (pe_op op_divW' (pv 3) pe_int) (pv 1)))))))
theorem ok__law_names (F : Fn K mg "_law_names" s__law_names) (B : Bl mg) (N : Kn K w mg) (c__law_take : C8.Cal P w K mg base 2 "_law_take" (U.A35.sp__law_take K w (tq0 K)) []) (rd : ∀ vs H Q E, U.A35.sp__law_names K w (tq0 K) vs H Q E → U.A35.t__law_names K w (tq0 K) { nx := fun _ H' => Q .non H', rt := Q } (start N__law_names vs) H) :
    C8.Cal P w K mg base 3 "_law_names" (U.A35.sp__law_names K w (tq0 K)) [] := by
  have sc := sc__law_names
  refine cal_of F sc__law_names (fun _ _ _ _ _ _ us hl => match us, hl with | [_, _], _ => rfl) (fun vs H Q E h => U.A35.len__law_names h) (fun f cdv A outer s H vs Q E hr h => ⟨U.A35.t__law_names K w (tq0 K), ?_, rd vs H Q E h⟩)
  exact (pss_cons (ps_asg (pe_tupP (pa_cons (C8.pe_c c__law_take hr (by decide) rfl (pa_cons (pv 0) (pa_cons pe_int pa_nil))) (pa_cons (C8.pe_c c__law_take hr (by decide) rfl (pa_cons (pv 0) (pa_cons pe_int pa_nil))) pa_nil))) (pg_tup rfl (pgs_cons (gv 2 sc.nd) (pgs_cons (gv 3 sc.nd) pgs_nil))))
    (pss_cons (sv 4 sc.nd pe_str)
    (pss_cons (ps_if (pt_cmpR (op_eqU hr.units) (pv 2) pe_int (nomark _)) (pss_cons (sv 5 sc.nd (pe_splitU pe_str pe_str))
    (pss_one (ps_ret (pe_lc (own := [("k", 7)]) (wi := (iRng1 (tCons (tVar 1) tNil))) (g := (gName 7)) (tt := tYes) (te := (tOp (rIxU K w) (tVar 5) (tOp rMod (tOp (rAdd2 K) (tVar 3) (tOp rMul2 (tC (.int 3)) (tVar 7))) (tC (.int 17))))) rfl sc.nd (pi_range1 (by rfl) B.range_ (pa_cons (pv 1) pa_nil)) (blkOk_by (own := [("k", 7)]) (N := N__law_names) (sc := defScope s__law_names) (by decide +kernel)) (fun _ _ _ _ _ => (gvB 7 sc.nd)) (fun _ _ _ _ _ => pts_nil) (fun _ _ _ _ _ => (pe_ix (ixU (hu_of hr)) (pv 5) (pe_op op_modU (pe_op op_add2 (pv 3) (pe_op op_mul2 pe_int (pv 7))) pe_int) (fun _ _ => rfl))))))) pss_nil)
    (pss_cons (ps_if (pt_cmpR (op_eqU hr.units) (pv 2) pe_int (nomark _)) (pss_one (ps_ret (pe_lc (own := [("k", 7)]) (wi := (iRng1 (tCons (tVar 1) tNil))) (g := (gName 7)) (tt := tYes) (te := (tOp rMul2 (tOp (rIxU K w) (tVar 4) (tVar 3)) (tOp (rAdd2 K) (tC (.int 1)) (tVar 7)))) rfl sc.nd (pi_range1 (by rfl) B.range_ (pa_cons (pv 1) pa_nil)) (blkOk_by (own := [("k", 7)]) (N := N__law_names) (sc := defScope s__law_names) (by decide +kernel)) (fun _ _ _ _ _ => (gvB 7 sc.nd)) (fun _ _ _ _ _ => pts_nil) (fun _ _ _ _ _ => (pe_op op_mul2 (pe_ix (ixU (hu_of hr)) (pv 4) (pv 3) (fun _ _ => rfl)) (pe_op op_add2 pe_int (pv 7))))))) pss_nil)
    (pss_cons (sv 6 sc.nd (pe_joinU pe_str (pe_lc (own := [("k", 7)]) (wi := (iRng1 (tCons (tCall (U.A35.sp__law_take K w (tq0 K)) [] C8.E0 (tCons (tVar 0) (tCons (tC (.int 8)) tNil))) tNil))) (g := (gName 7)) (tt := tYes) (te := (tOp (rIxU K w) (tVar 4) (tCall (U.A35.sp__law_take K w (tq0 K)) [] C8.E0 (tCons (tVar 0) (tCons (tC (.int 26)) tNil))))) rfl sc.nd (pi_range1 (by rfl) B.range_ (pa_cons (C8.pe_c c__law_take hr (by decide) rfl (pa_cons (pv 0) (pa_cons pe_int pa_nil))) pa_nil)) (blkOk_by (own := [("k", 7)]) (N := N__law_names) (sc := defScope s__law_names) (by decide +kernel)) (fun _ _ _ _ _ => (gvB 7 sc.nd)) (fun _ _ _ _ _ => pts_nil) (fun _ _ _ _ _ => (pe_ix (ixU (hu_of hr)) (pv 4) (C8.pe_c c__law_take hr (by decide) rfl (pa_cons (pv 0) (pa_cons pe_int pa_nil))) (fun _ _ => rfl))))))
    (pss_one (ps_ret (pe_lc (own := [("k", 7)]) (wi := (iRng1 (tCons (tVar 1) tNil))) (g := (gName 7)) (tt := tYes) (te := (tOp (rAdd2 K) (tVar 6) (tOp (rIxU K w) (tVar 4) (tOp rMod (tOp (rAdd2 K) (tVar 3) (tOp rMul2 (tC (.int 3)) (tVar 7))) (tC (.int 26)))))) rfl sc.nd (pi_range1 (by rfl) B.range_ (pa_cons (pv 1) pa_nil)) (blkOk_by (own := [("k", 7)]) (N := N__law_names) (sc := defScope s__law_names) (by decide +kernel)) (fun _ _ _ _ _ => (gvB 7 sc.nd)) (fun _ _ _ _ _ => pts_nil) (fun _ _ _ _ _ => (pe_op op_add2 (pv 6) (pe_ix (ixU (hu_of hr)) (pv 4) (pe_op op_modU (pe_op op_add2 (pv 3) (pe_op op_mul2 pe_int (pv 7))) pe_int) (fun _ _ => rfl))))))))))))
theorem ok__law_stock (F : Fn K mg "_law_stock" s__law_stock) (B : Bl mg) (N : Kn K w mg) (c__law_names : C8.Cal P w K mg base 3 "_law_names" (U.A35.sp__law_names K w (tq0 K)) []) (c__law_take : C8.Cal P w K mg base 2 "_law_take" (U.A35.sp__law_take K w (tq0 K)) []) (rd : ∀ vs H Q E, U.A35.sp__law_stock K w (tq0 K) vs H Q E → U.A35.t__law_stock K w (tq0 K) { nx := fun _ H' => Q .non H', rt := Q } (start N__law_stock vs) H) :
    C8.Cal P w K mg base 4 "_law_stock" (U.A35.sp__law_stock K w (tq0 K)) [] := by
  have sc := sc__law_stock
  refine cal_of F sc__law_stock (fun _ _ _ _ _ _ us hl => match us, hl with | [_, _, _], _ => rfl) (fun vs H Q E h => U.A35.len__law_stock h) (fun f cdv A outer s H vs Q E hr h => ⟨U.A35.t__law_stock K w (tq0 K), ?_, rd vs H Q E h⟩)
  exact (pss_cons (sv 3 sc.nd (C8.pe_c c__law_names hr (by decide) rfl (pa_cons (pv 0) (pa_cons (pv 1) pa_nil))))
    (pss_cons (ps_setLc (i := 4) (own := [("name", 6)]) (wi := (iAny K (tVar 3))) (g := (gName 6)) (tt := tYes) (te := (tTupP (tCons (tVar 6) (tCons (tOp (rIxU K w) (tLst (tCons (tC (.int 0)) (tCons (tCall (U.A35.sp__law_take K w (tq0 K)) [] C8.E0 (tCons (tVar 0) (tCons (tC (.int 12)) tNil))) (tCons (tCall (U.A35.sp__law_take K w (tq0 K)) [] C8.E0 (tCons (tVar 0) (tCons (tC (.int 100)) tNil))) tNil)))) (tCall (U.A35.sp__law_take K w (tq0 K)) [] C8.E0 (tCons (tVar 0) (tCons (tC (.int 3)) tNil)))) tNil)))) rfl sc.nd rfl rfl (sw_true rfl rfl rfl (by decide +kernel)) (pi_any (pv 3)) (blkOk_by (own := [("name", 6)]) (N := N__law_stock) (sc := defScope s__law_stock) (by decide +kernel)) (fun _ _ _ _ _ => (gvB 6 sc.nd)) (fun _ _ _ _ _ => pts_nil) (fun _ _ _ _ _ => (pe_tupP (pa_cons (pv 6) (pa_cons (pe_ix (ixU (hu_of hr)) (pe_lst (pa_cons pe_int (pa_cons (C8.pe_c c__law_take hr (by decide) rfl (pa_cons (pv 0) (pa_cons pe_int pa_nil))) (pa_cons (C8.pe_c c__law_take hr (by decide) rfl (pa_cons (pv 0) (pa_cons pe_int pa_nil))) pa_nil)))) (C8.pe_c c__law_take hr (by decide) rfl (pa_cons (pv 0) (pa_cons pe_int pa_nil))) (fun _ _ => rfl)) pa_nil)))))
    (pss_cons (sv 5 sc.nd (pe_lst pa_nil))
    (pss_cons (ps_for PassesOwn.never rfl (pi_any (C8.pe_c c__law_names hr (by decide) rfl (pa_cons (pv 0) (pa_cons (pv 2) pa_nil)))) (gv 6 sc.nd)
    (pss_cons (sv 7 sc.nd (pe_ix (ixU (hu_of hr)) (pv 3) (C8.pe_c c__law_take hr (by decide) rfl (pa_cons (pv 0) (pa_cons (pv 1) pa_nil))) (fun _ _ => rfl)))
    (pss_cons (sv 8 sc.nd (pe_lst (pa_cons (C8.pe_c c__law_take hr (by decide) rfl (pa_cons (pv 0) (pa_cons pe_int pa_nil))) (pa_cons (C8.pe_c c__law_take hr (by decide) rfl (pa_cons (pv 0) (pa_cons pe_int pa_nil))) (pa_cons (pe_op op_add2 pe_int (C8.pe_c c__law_take hr (by decide) rfl (pa_cons (pv 0) (pa_cons pe_int pa_nil)))) (pa_cons (C8.pe_c c__law_take hr (by decide) rfl (pa_cons (pv 0) (pa_cons pe_int pa_nil))) pa_nil))))))
    (pss_cons (sv 9 sc.nd (pe_ix (ixU (hu_of hr)) (pv 8) (C8.pe_c c__law_take hr (by decide) rfl (pa_cons (pv 0) (pa_cons pe_int pa_nil))) (fun _ _ => rfl)))
    (pss_cons (sv 10 sc.nd (pe_ix (ixU (hu_of hr)) (pe_lst (pa_cons pe_int (pa_cons (C8.pe_c c__law_take hr (by decide) rfl (pa_cons (pv 0) (pa_cons pe_int pa_nil))) (pa_cons (C8.pe_c c__law_take hr (by decide) rfl (pa_cons (pv 0) (pa_cons pe_int pa_nil))) (pa_cons pe_int pa_nil))))) (C8.pe_c c__law_take hr (by decide) rfl (pa_cons (pv 0) (pa_cons pe_int pa_nil))) (fun _ _ => rfl)))
    (pss_one (ps_expr (pe_bm PySem.F.plainAttrs_list PySem.F.slot_list_append PySem.F.type_list_append mt_append (pv 5) (pa_cons (pe_tupP (pa_cons (pv 6) (pa_cons (pv 7) (pa_cons (pv 9) (pa_cons (pe_callB (cr_minU rfl) (by rfl) B.min_ (by decide +kernel) (pa_cons pe_int (pa_cons (pe_op op_add2 (pv 9) (pv 10)) pa_nil))) pa_nil))))) pa_nil)))))))))
    (pss_one (ps_ret (pe_tupP (pa_cons (pe_callTy cr_tup2 (by rfl) B.tuple_ (by decide +kernel) (pa_cons (pv 4) pa_nil)) (pa_cons (pe_tupP pa_nil) (pa_cons (pe_tupP pa_nil) (pa_cons (pe_tupP pa_nil) (pa_cons (pe_tupP pa_nil) (pa_cons (pe_tupP pa_nil) (pa_cons (pe_callTy cr_tup2 (by rfl) B.tuple_ (by decide +kernel) (pa_cons (pv 5) pa_nil)) (pa_cons (pe_tupP pa_nil) pa_nil)))))))))))))))
theorem ok__law_list (F : Fn K mg "_law_list" s__law_list) (B : Bl mg) (N : Kn K w mg) (c__law_take : C8.Cal P w K mg base 2 "_law_take" (U.A35.sp__law_take K w (tq0 K)) []) (rd : ∀ vs H Q E, U.A35.sp__law_list K w (tq0 K) vs H Q E → U.A35.t__law_list K w (tq0 K) { nx := fun _ H' => Q .non H', rt := Q } (start N__law_list vs) H) :
    C8.Cal P w K mg base 3 "_law_list" (U.A35.sp__law_list K w (tq0 K)) [] := by
  have sc := sc__law_list
  refine cal_of F sc__law_list (fun _ _ _ _ _ _ us hl => match us, hl with | [_, _, _], _ => rfl) (fun vs H Q E h => U.A35.len__law_list h) (fun f cdv A outer s H vs Q E hr h => ⟨U.A35.t__law_list K w (tq0 K), ?_, rd vs H Q E h⟩)
  exact (pss_cons (sv 3 sc.nd (pe_callTy (cr_dict3 rfl) (by rfl) B.dict_ (by decide +kernel) (pa_cons (pe_ix (ixU (hu_of hr)) (pv 1) pe_int (fun _ _ => rfl)) pa_nil)))
    (pss_cons (sv 4 sc.nd (pe_lc (own := [("row", 5)]) (wi := (iAny K (tOp (rIxU K w) (tVar 1) (tC (.int 6))))) (g := (gName 5)) (tt := (tTest (tOp rGeU (tOp (rIxU K w) (tVar 5) (tC (.int 3))) (tOp (rIxU K w) (tVar 3) (tOp (rIxU K w) (tVar 5) (tC (.int 1))))))) (te := (tOp (rIxU K w) (tVar 5) (tC (.int 0)))) rfl sc.nd (pi_any (pe_ix (ixU (hu_of hr)) (pv 1) pe_int (fun _ _ => rfl))) (blkOk_by (own := [("row", 5)]) (N := N__law_list) (sc := defScope s__law_list) (by decide +kernel)) (fun _ _ _ _ _ => (gvB 5 sc.nd)) (fun _ _ _ _ _ => (pts_one (pt_cmpR op_geU (pe_ix (ixU (hu_of hr)) (pv 5) pe_int (fun _ _ => rfl)) (pe_ix (ixU (hu_of hr)) (pv 3) (pe_ix (ixU (hu_of hr)) (pv 5) pe_int (fun _ _ => rfl)) (fun _ _ => rfl)) (nomark _)))) (fun _ _ _ _ _ => (pe_ix (ixU (hu_of hr)) (pv 5) pe_int (fun _ _ => rfl)))))
    (pss_one (ps_ret (pe_callTy cr_tup2 (by rfl) B.tuple_ (by decide +kernel) (pa_cons (pe_lc (own := [("k", 6)]) (wi := (iRng1 (tCons (tOp rMul2 (tCall (U.A35.sp__law_take K w (tq0 K)) [] C8.E0 (tCons (tVar 0) (tCons (tOp (rAdd2 K) (tVar 2) (tC (.int 1))) tNil))) (tCB rInt1 (tCons (tOp (rEqU K true) (tVar 4) (tLst tNil)) tNil))) tNil))) (g := (gName 6)) (tt := tYes) (te := (tOp (rIxU K w) (tVar 4) (tCall (U.A35.sp__law_take K w (tq0 K)) [] C8.E0 (tCons (tVar 0) (tCons (tCB (rLenU K) (tCons (tVar 4) tNil)) tNil))))) rfl sc.nd (pi_range1 (by rfl) B.range_ (pa_cons (pe_op op_mul2 (C8.pe_c c__law_take hr (by decide) rfl (pa_cons (pv 0) (pa_cons (pe_op op_add2 (pv 2) pe_int) pa_nil))) (pe_callTy cr_int1 (by rfl) B.int_ (by decide +kernel) (pa_cons (pe_cmpR (op_neU hr.units) (pv 4) (pe_lst pa_nil) (nomark _)) pa_nil))) pa_nil)) (blkOk_by (own := [("k", 6)]) (N := N__law_list) (sc := defScope s__law_list) (by decide +kernel)) (fun _ _ _ _ _ => (gvB 6 sc.nd)) (fun _ _ _ _ _ => pts_nil) (fun _ _ _ _ _ => (pe_ix (ixU (hu_of hr)) (pv 4) (C8.pe_c c__law_take hr (by decide) rfl (pa_cons (pv 0) (pa_cons (pe_callB call_len (by rfl) B.len_ (by decide +kernel) (pa_cons (pv 4) pa_nil)) pa_nil))) (fun _ _ => rfl)))) pa_nil))))))
theorem ok_many_tools (F : Fn K mg "many_tools" s_many_tools) (B : Bl mg) (N : Kn K w mg)  (rd : ∀ vs H Q E, U.P.sp_many_tools K w (tq0 K) vs H Q E → U.P.t_many_tools K w (tq0 K) { nx := fun _ H' => Q .non H', rt := Q } (start N_many_tools vs) H) :
    C8.Cal P w K mg base 1 "many_tools" (U.P.sp_many_tools K w (tq0 K)) [] := by
  have sc := sc_many_tools
  refine cal_of F sc_many_tools (fun _ _ _ _ _ _ us hl => match us, hl with | [_], _ => rfl) (fun vs H Q E h => U.P.len_many_tools h) (fun f cdv A outer s H vs Q E hr h => ⟨U.P.t_many_tools K w (tq0 K), ?_, rd vs H Q E h⟩)
  exact (pss_one (ps_ret (pe_lenSetU (Nat.lt_of_succ_lt (M.hu65 hr)) rfl (by rfl) B.len_ (by rfl) B.set_ (pe_lc (own := [("kind", 1), ("number", 2), ("_", 3)]) (wi := (iAny K (tVar 0))) (g := (gTup K 3 (gCons (gName 1) (gCons (gName 2) (gCons (gName 3) gNil))))) (tt := tYes) (te := (tTupP (tCons (tVar 1) (tCons (tVar 2) tNil)))) rfl sc.nd (pi_any (pv 0)) (blkOk_by (own := [("kind", 1), ("number", 2), ("_", 3)]) (N := N_many_tools) (sc := defScope s_many_tools) (by decide +kernel)) (fun _ _ _ _ _ => (pg_tup rfl (pgs_cons (gvB 1 sc.nd) (pgs_cons (gvB 2 sc.nd) (pgs_cons (gvB 3 sc.nd) pgs_nil))))) (fun _ _ _ _ _ => pts_nil) (fun _ _ _ _ _ => (pe_tupP (pa_cons (pv 1) (pa_cons (pv 2) pa_nil))))))))
theorem ok_are_apart (F : Fn K mg "are_apart" s_are_apart) (B : Bl mg) (N : Kn K w mg)  (rd : ∀ vs H Q E, U.P.sp_are_apart K w (tq0 K) vs H Q E → U.P.t_are_apart K w (tq0 K) { nx := fun _ H' => Q .non H', rt := Q } (start N_are_apart vs) H) :
    C8.Cal P w K mg base 1 "are_apart" (U.P.sp_are_apart K w (tq0 K)) [] := by
  have sc := sc_are_apart
  refine cal_of F sc_are_apart (fun _ _ _ _ _ _ us hl => match us, hl with | [_, _], _ => rfl) (fun vs H Q E h => U.P.len_are_apart h) (fun f cdv A outer s H vs Q E hr h => ⟨U.P.t_are_apart K w (tq0 K), ?_, rd vs H Q E h⟩)
  exact (pss_one (ps_ret (pe_or (pe_cmpR (op_neU hr.units) (pe_ix (ixU (hu_of hr)) (pv 0) pe_int (fun _ _ => rfl)) (pe_ix (ixU (hu_of hr)) (pv 1) pe_int (fun _ _ => rfl)) (nomark _)) (pe_one (pe_cmpR op_gtU (pe_ix (ixU (hu_of hr)) (pv 1) pe_int (fun _ _ => rfl)) (pe_ix (ixU (hu_of hr)) (pv 0) pe_int (fun _ _ => rfl)) (nomark _))))))
theorem ok_runs_to (F : Fn K mg "runs_to" s_runs_to) (B : Bl mg) (N : Kn K w mg) (c_are_apart : C8.Cal P w K mg base 1 "are_apart" (U.P.sp_are_apart K w (tq0 K)) []) (rd : ∀ vs H Q E, U.P.sp_runs_to K w (tq0 K) vs H Q E → U.P.t_runs_to K w (tq0 K) { nx := fun _ H' => Q .non H', rt := Q } (start N_runs_to vs) H) :
    C8.Cal P w K mg base 2 "runs_to" (U.P.sp_runs_to K w (tq0 K)) [] := by
  have sc := sc_runs_to
  refine cal_of F sc_runs_to (fun _ _ _ _ _ _ us hl => match us, hl with | [_], _ => rfl) (fun vs H Q E h => U.P.len_runs_to h) (fun f cdv A outer s H vs Q E hr h => ⟨U.P.t_runs_to K w (tq0 K), ?_, rd vs H Q E h⟩)
  exact (pss_cons (sv 1 sc.nd (pe_lst pa_nil))
    (pss_cons (ps_for PassesOwn.never rfl (pi_enumU (by rfl) B.enumerate_ (pa_cons (pv 0) pa_nil)) (pg_tup rfl (pgs_cons (gv 2 sc.nd) (pgs_cons (gv 3 sc.nd) pgs_nil)))
    (pss_cons (ps_setLc (i := 4) (own := [("run", 5)]) (wi := (iAny K (tVar 1))) (g := (gName 5)) (tt := (tAnd (tTest (tOp (rEqU K false) (tOp (rIxU K w) (tOp (rIxU K w) (tVar 0) (tOp (rIxU K w) (tVar 5) (tUn rNeg (tC (.int 1))))) (tC (.int 0))) (tOp (rIxU K w) (tVar 3) (tC (.int 0))))) (tTru K (tCall (U.P.sp_are_apart K w (tq0 K)) [] C8.E0 (tCons (tOp (rIxU K w) (tVar 0) (tOp (rIxU K w) (tVar 5) (tUn rNeg (tC (.int 1))))) (tCons (tVar 3) tNil)))))) (te := (tVar 5)) rfl sc.nd rfl rfl (sw_true rfl rfl rfl (by decide +kernel)) (pi_any (pv 1)) (blkOk_by (own := [("run", 5)]) (N := N_runs_to) (sc := defScope s_runs_to) (by decide +kernel)) (fun _ _ _ _ _ => (gvB 5 sc.nd)) (fun _ _ _ _ _ => (pts_one (PW.pt (pw_and (pt_cmpR (op_eqU hr.units) (pe_ix (ixU (hu_of hr)) (pe_ix (ixU (hu_of hr)) (pv 0) (pe_ix (ixU (hu_of hr)) (pv 5) (pe_un un_negU pe_int) (fun _ _ => rfl)) (fun _ _ => rfl)) pe_int (fun _ _ => rfl)) (pe_ix (ixU (hu_of hr)) (pv 3) pe_int (fun _ _ => rfl)) (nomark _)) (pw_and1 (pt_truth (C8.pe_c c_are_apart hr (by decide) rfl (pa_cons (pe_ix (ixU (hu_of hr)) (pv 0) (pe_ix (ixU (hu_of hr)) (pv 5) (pe_un un_negU pe_int) (fun _ _ => rfl)) (fun _ _ => rfl)) (pa_cons (pv 3) pa_nil))) (by intro _; rfl))))))) (fun _ _ _ _ _ => (pv 5)))
    (pss_one (ps_expr (pe_bm PySem.F.plainAttrs_list PySem.F.slot_list_append PySem.F.type_list_append mt_append (pv 1) (pa_cons (pe_op op_add2 (pe_maxLen rfl (by rfl) B.max_ (by rfl) B.len_ (pv 4) (pe_tupP pa_nil)) (pe_tupP (pa_cons (pv 2) pa_nil))) pa_nil))))))
    (pss_one (ps_ret (pv 1)))))
theorem ok_plan_of (F : Fn K mg "plan_of" s_plan_of) (B : Bl mg) (N : Kn K w mg) (c_runs_to : C8.Cal P w K mg base 2 "runs_to" (U.P.sp_runs_to K w (tq0 K)) []) (rd : ∀ vs H Q E, U.P.sp_plan_of K w (tq0 K) vs H Q E → U.P.t_plan_of K w (tq0 K) { nx := fun _ H' => Q .non H', rt := Q } (start N_plan_of vs) H) :
    C8.Cal P w K mg base 3 "plan_of" (U.P.sp_plan_of K w (tq0 K)) [] := by
  have sc := sc_plan_of
  refine cal_of F sc_plan_of (fun _ _ _ _ _ _ us hl => match us, hl with | [_], _ => rfl) (fun vs H Q E h => U.P.len_plan_of h) (fun f cdv A outer s H vs Q E hr h => ⟨U.P.t_plan_of K w (tq0 K), ?_, rd vs H Q E h⟩)
  exact (pss_cons (sv 1 sc.nd (pe_lst pa_nil))
    (pss_cons (ps_for PassesOwn.never rfl (pi_enumU (by rfl) B.enumerate_ (pa_cons (C8.pe_c c_runs_to hr (by decide) rfl (pa_cons (pv 0) pa_nil)) pa_nil)) (pg_tup rfl (pgs_cons (gv 2 sc.nd) (pgs_cons (gv 3 sc.nd) pgs_nil)))
    (pss_cons (ps_asg (pe_ix (ixU (hu_of hr)) (pv 0) (pv 2) (fun _ _ => rfl)) (pg_tup rfl (pgs_cons (gv 4 sc.nd) (pgs_cons (gv 5 sc.nd) (pgs_cons (gv 6 sc.nd) pgs_nil)))))
    (pss_cons (sv 7 sc.nd (pe_tupP (pa_cons (pv 4) (pa_cons (pe_op op_subU (pe_callB call_len (by rfl) B.len_ (by decide +kernel) (pa_cons (pv 3) pa_nil)) pe_int) pa_nil))))
    (pss_cons (ps_setLc (i := 8) (own := [("its", 9), ("number", 10), ("size", 11)]) (wi := (iAny K (tVar 1))) (g := (gTup K 3 (gCons (gName 9) (gCons (gName 10) (gCons (gName 11) gNil))))) (tt := (tTest (tOp (rEqU K false) (tTupP (tCons (tVar 9) (tCons (tVar 10) tNil))) (tVar 7)))) (te := (tVar 11)) rfl sc.nd rfl rfl (sw_true rfl rfl rfl (by decide +kernel)) (pi_any (pv 1)) (blkOk_by (own := [("its", 9), ("number", 10), ("size", 11)]) (N := N_plan_of) (sc := defScope s_plan_of) (by decide +kernel)) (fun _ _ _ _ _ => (pg_tup rfl (pgs_cons (gvB 9 sc.nd) (pgs_cons (gvB 10 sc.nd) (pgs_cons (gvB 11 sc.nd) pgs_nil))))) (fun _ _ _ _ _ => (pts_one (pt_cmpR (op_eqU hr.units) (pe_tupP (pa_cons (pv 9) (pa_cons (pv 10) pa_nil))) (pv 7) (nomark _)))) (fun _ _ _ _ _ => (pv 11)))
    (pss_one (ps_expr (pe_bm PySem.F.plainAttrs_list PySem.F.slot_list_append PySem.F.type_list_append mt_append (pv 1) (pa_cons (pe_tupP (StX.pa_star (pv 7) (pa_cons (pe_callB (cr_minU rfl) (by rfl) B.min_ (by decide +kernel) (pa_cons (pe_op op_add2 (pe_lst (pa_cons (pv 6) pa_nil)) (pv 8)) pa_nil)) pa_nil))) pa_nil))))))))
    (pss_one (ps_ret (pe_callTy cr_tup2 (by rfl) B.tuple_ (by decide +kernel) (pa_cons (pv 1) pa_nil))))))
theorem ok_named (F : Fn K mg "named" s_named) (B : Bl mg) (N : Kn K w mg)  (rd : ∀ vs H Q E, U.P.sp_named K w (tq0 K) vs H Q E → U.P.t_named K w (tq0 K) { nx := fun _ H' => Q .non H', rt := Q } (start N_named vs) H) :
    C8.Cal P w K mg base 1 "named" (U.P.sp_named K w (tq0 K)) [] := by
  have sc := sc_named
  refine cal_of F sc_named (fun _ _ _ _ _ _ us hl => match us, hl with | [_, _], _ => rfl) (fun vs H Q E h => U.P.len_named h) (fun f cdv A outer s H vs Q E hr h => ⟨U.P.t_named K w (tq0 K), ?_, rd vs H Q E h⟩)
  exact (pss_cons (ps_if (pt_cmpR op_isnotU (pe_callTy call_type1 (by rfl) B.type_ (by decide +kernel) (pa_cons (pv 1) pa_nil)) (pe_ty (by rfl) B.str_ (by decide +kernel)) (nomark _)) (pss_one (ps_ret pe_non)) pss_nil)
    (pss_cons (ps_for PassesOwn.never rfl (pi_any (pv 0)) (gv 2 sc.nd)
    (pss_one (ps_if (pt_cmpR (op_eqU hr.units) (pe_ix (ixU (hu_of hr)) (pv 2) pe_int (fun _ _ => rfl)) (pv 1) (nomark _)) (pss_one (ps_ret (pv 2))) pss_nil)))
    (pss_one (ps_ret pe_non))))
theorem ok_need_named (F : Fn K mg "need_named" s_need_named) (B : Bl mg) (N : Kn K w mg) (c_named : C8.Cal P w K mg base 1 "named" (U.P.sp_named K w (tq0 K)) []) (rd : ∀ vs H Q E, U.P.sp_need_named K w (tq0 K) vs H Q E → U.P.t_need_named K w (tq0 K) { nx := fun _ H' => Q .non H', rt := Q } (start N_need_named vs) H) :
    C8.Cal P w K mg base 2 "need_named" (U.P.sp_need_named K w (tq0 K)) [] := by
  have sc := sc_need_named
  refine cal_of F sc_need_named (fun _ _ _ _ _ _ us hl => match us, hl with | [_, _], _ => rfl) (fun vs H Q E h => U.P.len_need_named h) (fun f cdv A outer s H vs Q E hr h => ⟨U.P.t_need_named K w (tq0 K), ?_, rd vs H Q E h⟩)
  exact (pss_cons (sv 2 sc.nd (C8.pe_c c_named hr (by decide) rfl (pa_cons (pv 0) (pa_cons (pv 1) pa_nil))))
    (pss_cons (ps_if (pt_cmpR op_isU (pv 2) pe_non (nomark _)) (pss_one ps_never) pss_nil)
    (pss_one (ps_ret (pv 2)))))
theorem ok_need_works (F : Fn K mg "need_works" s_need_works) (B : Bl mg) (N : Kn K w mg) (c_need_named : C8.Cal P w K mg base 2 "need_named" (U.P.sp_need_named K w (tq0 K)) []) (rd : ∀ vs H Q E, U.P.sp_need_works K w (tq0 K) vs H Q E → U.P.t_need_works K w (tq0 K) { nx := fun _ H' => Q .non H', rt := Q } (start N_need_works vs) H) :
    C8.Cal P w K mg base 3 "need_works" (U.P.sp_need_works K w (tq0 K)) [] := by
  have sc := sc_need_works
  refine cal_of F sc_need_works (fun _ _ _ _ _ _ us hl => match us, hl with | [_, _, _], _ => rfl) (fun vs H Q E h => U.P.len_need_works h) (fun f cdv A outer s H vs Q E hr h => ⟨U.P.t_need_works K w (tq0 K), ?_, rd vs H Q E h⟩)
  exact (pss_cons (ps_if (PW.pt (pw_or (pt_cmpR op_isnotU (pe_callTy call_type1 (by rfl) B.type_ (by decide +kernel) (pa_cons (pv 1) pa_nil)) (pe_ty (by rfl) B.tuple_ (by decide +kernel)) (nomark _)) (pw_or1 (pt_cmpR op_gtU (pe_callB call_len (by rfl) B.len_ (by decide +kernel) (pa_cons (pv 1) pa_nil)) (pv 2) (nomark _))))) (pss_one ps_never) pss_nil)
    (pss_one (ps_ret (pe_lc (own := [("name", 3)]) (wi := (iAny K (tVar 1))) (g := (gName 3)) (tt := tYes) (te := (tCall (U.P.sp_need_named K w (tq0 K)) [] C8.E0 (tCons (tOp (rIxU K w) (tVar 0) (tC (.int 6))) (tCons (tVar 3) tNil)))) rfl sc.nd (pi_any (pv 1)) (blkOk_by (own := [("name", 3)]) (N := N_need_works) (sc := defScope s_need_works) (by decide +kernel)) (fun _ _ _ _ _ => (gvB 3 sc.nd)) (fun _ _ _ _ _ => pts_nil) (fun _ _ _ _ _ => (C8.pe_c c_need_named hr (by decide) rfl (pa_cons (pe_ix (ixU (hu_of hr)) (pv 0) (C8.pe_gc rfl N.c_WORKS) (fun _ _ => rfl)) (pa_cons (pv 3) pa_nil))))))))
theorem ok_is_row (F : Fn K mg "is_row" s_is_row) (B : Bl mg) (N : Kn K w mg)  (rd : ∀ vs H Q E, U.P.sp_is_row K w (tq0 K) vs H Q E → U.P.t_is_row K w (tq0 K) { nx := fun _ H' => Q .non H', rt := Q } (start N_is_row vs) H) :
    C8.Cal P w K mg base 1 "is_row" (U.P.sp_is_row K w (tq0 K)) [] := by
  have sc := sc_is_row
  refine cal_of F sc_is_row (fun _ _ _ _ _ _ us hl => match us, hl with | [_, _], _ => rfl) (fun vs H Q E h => U.P.len_is_row h) (fun f cdv A outer s H vs Q E hr h => ⟨U.P.t_is_row K w (tq0 K), ?_, rd vs H Q E h⟩)
  exact (pss_one (ps_ret (pe_and (pe_cmpR op_isU (pe_callTy call_type1 (by rfl) B.type_ (by decide +kernel) (pa_cons (pv 0) pa_nil)) (pe_ty (by rfl) B.tuple_ (by decide +kernel)) (nomark _)) (pe_one (pe_cmpR (op_eqU hr.units) (pe_callB call_len (by rfl) B.len_ (by decide +kernel) (pa_cons (pv 0) pa_nil)) (pv 1) (nomark _))))))
theorem ok_is_stock_form (F : Fn K mg "is_stock_form" s_is_stock_form) (B : Bl mg) (N : Kn K w mg) (c_is_row : C8.Cal P w K mg base 1 "is_row" (U.P.sp_is_row K w (tq0 K)) []) (rd : ∀ vs H Q E, U.P.sp_is_stock_form K w (tq0 K) vs H Q E → U.P.t_is_stock_form K w (tq0 K) { nx := fun _ H' => Q .non H', rt := Q } (start N_is_stock_form vs) H) :
    C8.Cal P w K mg base 2 "is_stock_form" (U.P.sp_is_stock_form K w (tq0 K)) [] := by
  have sc := sc_is_stock_form
  refine cal_of F sc_is_stock_form (fun _ _ _ _ _ _ us hl => match us, hl with | [_], _ => rfl) (fun vs H Q E h => U.P.len_is_stock_form h) (fun f cdv A outer s H vs Q E hr h => ⟨U.P.t_is_stock_form K w (tq0 K), ?_, rd vs H Q E h⟩)
  exact (pss_cons (ps_if (pt_not (pt_truth (C8.pe_c c_is_row hr (by decide) rfl (pa_cons (pv 0) (pa_cons (pe_callB call_len (by rfl) B.len_ (by decide +kernel) (pa_cons (C8.pe_gc rfl N.c_SORTS) pa_nil)) pa_nil))) (by intro _; rfl))) (pss_one (ps_ret pe_bl)) pss_nil)
    (pss_cons (ps_for PassesOwn.never rfl (pi_enumU (by rfl) B.enumerate_ (pa_cons (pv 0) pa_nil)) (pg_tup rfl (pgs_cons (gv 1 sc.nd) (pgs_cons (gv 2 sc.nd) pgs_nil)))
    (pss_one (ps_if (PW.pt (pw_or (pt_cmpR op_isnotU (pe_callTy call_type1 (by rfl) B.type_ (by decide +kernel) (pa_cons (pv 2) pa_nil)) (pe_ty (by rfl) B.tuple_ (by decide +kernel)) (nomark _)) (pw_or1 (pt_not (pt_chain op_leU op_leU (pe_ix (ixU (hu_of hr)) (C8.pe_gc rfl N.c_FEWEST) (pv 1) (fun _ _ => rfl)) (pe_callB call_len (by rfl) B.len_ (by decide +kernel) (pa_cons (pv 2) pa_nil)) (pe_ix (ixU (hu_of hr)) (C8.pe_gc rfl N.c_MOST) (pv 1) (fun _ _ => rfl))))))) (pss_one (ps_ret pe_bl)) pss_nil)))
    (pss_one (ps_ret pe_bl))))
theorem ok_is_name (F : Fn K mg "is_name" s_is_name) (B : Bl mg) (N : Kn K w mg)  (rd : ∀ vs H Q E, U.P.sp_is_name K w (tq0 K) vs H Q E → U.P.t_is_name K w (tq0 K) { nx := fun _ H' => Q .non H', rt := Q } (start N_is_name vs) H) :
    C8.Cal P w K mg base 1 "is_name" (U.P.sp_is_name K w (tq0 K)) [] := by
  have sc := sc_is_name
  refine cal_of F sc_is_name (fun _ _ _ _ _ _ us hl => match us, hl with | [_], _ => rfl) (fun vs H Q E h => U.P.len_is_name h) (fun f cdv A outer s H vs Q E hr h => ⟨U.P.t_is_name K w (tq0 K), ?_, rd vs H Q E h⟩)
  exact (pss_cons (ps_if (PW.pt (pw_or (pt_cmpR op_isnotU (pe_callTy call_type1 (by rfl) B.type_ (by decide +kernel) (pa_cons (pv 0) pa_nil)) (pe_ty (by rfl) B.str_ (by decide +kernel)) (nomark _)) (pw_or1 (pt_not (pt_chain op_leU op_leU pe_int (pe_callB call_len (by rfl) B.len_ (by decide +kernel) (pa_cons (pv 0) pa_nil)) pe_int))))) (pss_one (ps_ret pe_bl)) pss_nil)
    (pss_one (ps_ret (pe_callB (cr_all rfl) (by rfl) B.all_ (by decide +kernel) (pa_cons (pe_lc (own := [("sign", 1)]) (wi := (iAny K (tVar 0))) (g := (gName 1)) (tt := tYes) (te := (tChain rLeU rLeU (tC (.str "a")) (tVar 1) (tC (.str "z")))) rfl sc.nd (pi_any (pv 0)) (blkOk_by (own := [("sign", 1)]) (N := N_is_name) (sc := defScope s_is_name) (by decide +kernel)) (fun _ _ _ _ _ => (gvB 1 sc.nd)) (fun _ _ _ _ _ => pts_nil) (fun _ _ _ _ _ => (pe_chain op_leU op_leU pe_str (pv 1) pe_str))) pa_nil)))))
theorem ok_is_new (F : Fn K mg "is_new" s_is_new) (B : Bl mg) (N : Kn K w mg) (c_is_name : C8.Cal P w K mg base 1 "is_name" (U.P.sp_is_name K w (tq0 K)) []) (c_named : C8.Cal P w K mg base 1 "named" (U.P.sp_named K w (tq0 K)) []) (rd : ∀ vs H Q E, U.P.sp_is_new K w (tq0 K) vs H Q E → U.P.t_is_new K w (tq0 K) { nx := fun _ H' => Q .non H', rt := Q } (start N_is_new vs) H) :
    C8.Cal P w K mg base 2 "is_new" (U.P.sp_is_new K w (tq0 K)) [] := by
  have sc := sc_is_new
  refine cal_of F sc_is_new (fun _ _ _ _ _ _ us hl => match us, hl with | [_, _], _ => rfl) (fun vs H Q E h => U.P.len_is_new h) (fun f cdv A outer s H vs Q E hr h => ⟨U.P.t_is_new K w (tq0 K), ?_, rd vs H Q E h⟩)
  exact (pss_one (ps_ret (pe_and (C8.pe_c c_is_name hr (by decide) rfl (pa_cons (pv 1) pa_nil)) (pe_one (pe_cmpR op_isU (C8.pe_c c_named hr (by decide) rfl (pa_cons (pv 0) (pa_cons (pv 1) pa_nil))) pe_non (nomark _))))))
theorem ok_is_number (F : Fn K mg "is_number" s_is_number) (B : Bl mg) (N : Kn K w mg)  (rd : ∀ vs H Q E, U.P.sp_is_number K w (tq0 K) vs H Q E → U.P.t_is_number K w (tq0 K) { nx := fun _ H' => Q .non H', rt := Q } (start N_is_number vs) H) :
    C8.Cal P w K mg base 1 "is_number" (U.P.sp_is_number K w (tq0 K)) [] := by
  have sc := sc_is_number
  refine cal_of F sc_is_number (fun _ _ _ _ _ _ us hl => match us, hl with | [_, _], _ => rfl) (fun vs H Q E h => U.P.len_is_number h) (fun f cdv A outer s H vs Q E hr h => ⟨U.P.t_is_number K w (tq0 K), ?_, rd vs H Q E h⟩)
  exact (pss_one (ps_ret (pe_and (pe_cmpR op_isU (pe_callTy call_type1 (by rfl) B.type_ (by decide +kernel) (pa_cons (pv 0) pa_nil)) (pe_ty (by rfl) B.int_ (by decide +kernel)) (nomark _)) (pe_one (pe_chain op_leU op_leU pe_int (pv 0) (pv 1))))))
theorem ok_is_size (F : Fn K mg "is_size" s_is_size) (B : Bl mg) (N : Kn K w mg) (c_is_number : C8.Cal P w K mg base 1 "is_number" (U.P.sp_is_number K w (tq0 K)) []) (rd : ∀ vs H Q E, U.P.sp_is_size K w (tq0 K) vs H Q E → U.P.t_is_size K w (tq0 K) { nx := fun _ H' => Q .non H', rt := Q } (start N_is_size vs) H) :
    C8.Cal P w K mg base 2 "is_size" (U.P.sp_is_size K w (tq0 K)) [] := by
  have sc := sc_is_size
  refine cal_of F sc_is_size (fun _ _ _ _ _ _ us hl => match us, hl with | [_], _ => rfl) (fun vs H Q E h => U.P.len_is_size h) (fun f cdv A outer s H vs Q E hr h => ⟨U.P.t_is_size K w (tq0 K), ?_, rd vs H Q E h⟩)
  exact (pss_one (ps_ret (C8.pe_c c_is_number hr (by decide) rfl (pa_cons (pv 0) (pa_cons (C8.pe_gc rfl N.c_LAST_SIZE) pa_nil)))))
theorem ok_is_kind (F : Fn K mg "is_kind" s_is_kind) (B : Bl mg) (N : Kn K w mg) (c_is_row : C8.Cal P w K mg base 1 "is_row" (U.P.sp_is_row K w (tq0 K)) []) (c_is_new : C8.Cal P w K mg base 2 "is_new" (U.P.sp_is_new K w (tq0 K)) []) (c_is_size : C8.Cal P w K mg base 2 "is_size" (U.P.sp_is_size K w (tq0 K)) []) (rd : ∀ vs H Q E, U.P.sp_is_kind K w (tq0 K) vs H Q E → U.P.t_is_kind K w (tq0 K) { nx := fun _ H' => Q .non H', rt := Q } (start N_is_kind vs) H) :
    C8.Cal P w K mg base 3 "is_kind" (U.P.sp_is_kind K w (tq0 K)) [] := by
  have sc := sc_is_kind
  refine cal_of F sc_is_kind (fun _ _ _ _ _ _ us hl => match us, hl with | [_, _], _ => rfl) (fun vs H Q E h => U.P.len_is_kind h) (fun f cdv A outer s H vs Q E hr h => ⟨U.P.t_is_kind K w (tq0 K), ?_, rd vs H Q E h⟩)
  exact (pss_one (ps_ret (pe_and (C8.pe_c c_is_row hr (by decide) rfl (pa_cons (pv 1) (pa_cons pe_int pa_nil))) (pe_and (C8.pe_c c_is_new hr (by decide) rfl (pa_cons (pe_ix (ixU (hu_of hr)) (pv 0) (C8.pe_gc rfl N.c_KINDS) (fun _ _ => rfl)) (pa_cons (pe_ix (ixU (hu_of hr)) (pv 1) pe_int (fun _ _ => rfl)) pa_nil))) (pe_one (C8.pe_c c_is_size hr (by decide) rfl (pa_cons (pe_ix (ixU (hu_of hr)) (pv 1) pe_int (fun _ _ => rfl)) pa_nil)))))))
theorem ok_is_box (F : Fn K mg "is_box" s_is_box) (B : Bl mg) (N : Kn K w mg) (c_is_name : C8.Cal P w K mg base 1 "is_name" (U.P.sp_is_name K w (tq0 K)) []) (rd : ∀ vs H Q E, U.P.sp_is_box K w (tq0 K) vs H Q E → U.P.t_is_box K w (tq0 K) { nx := fun _ H' => Q .non H', rt := Q } (start N_is_box vs) H) :
    C8.Cal P w K mg base 2 "is_box" (U.P.sp_is_box K w (tq0 K)) [] := by
  have sc := sc_is_box
  refine cal_of F sc_is_box (fun _ _ _ _ _ _ us hl => match us, hl with | [_, _], _ => rfl) (fun vs H Q E h => U.P.len_is_box h) (fun f cdv A outer s H vs Q E hr h => ⟨U.P.t_is_box K w (tq0 K), ?_, rd vs H Q E h⟩)
  exact (pss_one (ps_ret (pe_and (C8.pe_c c_is_name hr (by decide) rfl (pa_cons (pv 1) pa_nil)) (pe_one (pe_cmpR (op_notinV (hu65 hr)) (pv 1) (pe_ix (ixU (hu_of hr)) (pv 0) (C8.pe_gc rfl N.c_BOXES) (fun _ _ => rfl)) rfl)))))
theorem ok_has_box (F : Fn K mg "has_box" s_has_box) (B : Bl mg) (N : Kn K w mg)  (rd : ∀ vs H Q E, U.P.sp_has_box K w (tq0 K) vs H Q E → U.P.t_has_box K w (tq0 K) { nx := fun _ H' => Q .non H', rt := Q } (start N_has_box vs) H) :
    C8.Cal P w K mg base 1 "has_box" (U.P.sp_has_box K w (tq0 K)) [] := by
  have sc := sc_has_box
  refine cal_of F sc_has_box (fun _ _ _ _ _ _ us hl => match us, hl with | [_, _], _ => rfl) (fun vs H Q E h => U.P.len_has_box h) (fun f cdv A outer s H vs Q E hr h => ⟨U.P.t_has_box K w (tq0 K), ?_, rd vs H Q E h⟩)
  exact (pss_one (ps_ret (pe_and (pe_cmpR op_isU (pe_callTy call_type1 (by rfl) B.type_ (by decide +kernel) (pa_cons (pv 1) pa_nil)) (pe_ty (by rfl) B.str_ (by decide +kernel)) (nomark _)) (pe_one (pe_cmpR (op_inV (hu65 hr)) (pv 1) (pe_ix (ixU (hu_of hr)) (pv 0) (C8.pe_gc rfl N.c_BOXES) (fun _ _ => rfl)) rfl)))))
theorem ok_is_tool (F : Fn K mg "is_tool" s_is_tool) (B : Bl mg) (N : Kn K w mg) (c_is_row : C8.Cal P w K mg base 1 "is_row" (U.P.sp_is_row K w (tq0 K)) []) (c_is_new : C8.Cal P w K mg base 2 "is_new" (U.P.sp_is_new K w (tq0 K)) []) (c_named : C8.Cal P w K mg base 1 "named" (U.P.sp_named K w (tq0 K)) []) (c_is_size : C8.Cal P w K mg base 2 "is_size" (U.P.sp_is_size K w (tq0 K)) []) (c_has_box : C8.Cal P w K mg base 1 "has_box" (U.P.sp_has_box K w (tq0 K)) []) (rd : ∀ vs H Q E, U.P.sp_is_tool K w (tq0 K) vs H Q E → U.P.t_is_tool K w (tq0 K) { nx := fun _ H' => Q .non H', rt := Q } (start N_is_tool vs) H) :
    C8.Cal P w K mg base 3 "is_tool" (U.P.sp_is_tool K w (tq0 K)) [] := by
  have sc := sc_is_tool
  refine cal_of F sc_is_tool (fun _ _ _ _ _ _ us hl => match us, hl with | [_, _], _ => rfl) (fun vs H Q E h => U.P.len_is_tool h) (fun f cdv A outer s H vs Q E hr h => ⟨U.P.t_is_tool K w (tq0 K), ?_, rd vs H Q E h⟩)
  exact (pss_cons (ps_if (PW.pt (pw_or (pt_not (pt_truth (C8.pe_c c_is_row hr (by decide) rfl (pa_cons (pv 1) (pa_cons pe_int pa_nil))) (by intro _; rfl))) (pw_or1 (pt_not (pt_truth (C8.pe_c c_is_new hr (by decide) rfl (pa_cons (pe_ix (ixU (hu_of hr)) (pv 0) (C8.pe_gc rfl N.c_TOOLS) (fun _ _ => rfl)) (pa_cons (pe_ix (ixU (hu_of hr)) (pv 1) pe_int (fun _ _ => rfl)) pa_nil))) (by intro _; rfl)))))) (pss_one (ps_ret pe_bl)) pss_nil)
    (pss_cons (sv 2 sc.nd (C8.pe_c c_named hr (by decide) rfl (pa_cons (pe_ix (ixU (hu_of hr)) (pv 0) (C8.pe_gc rfl N.c_KINDS) (fun _ _ => rfl)) (pa_cons (pe_ix (ixU (hu_of hr)) (pv 1) pe_int (fun _ _ => rfl)) pa_nil))))
    (pss_cons (ps_if (PW.pt (pw_or (pt_cmpR op_isU (pv 2) pe_non (nomark _)) (pw_or (pt_not (pt_truth (C8.pe_c c_is_size hr (by decide) rfl (pa_cons (pe_ix (ixU (hu_of hr)) (pv 1) pe_int (fun _ _ => rfl)) pa_nil)) (by intro _; rfl))) (pw_or1 (pt_cmpR op_ltU (pe_ix (ixU (hu_of hr)) (pv 1) pe_int (fun _ _ => rfl)) (pe_ix (ixU (hu_of hr)) (pv 2) pe_int (fun _ _ => rfl)) (nomark _)))))) (pss_one (ps_ret pe_bl)) pss_nil)
    (pss_one (ps_ret (C8.pe_c c_has_box hr (by decide) rfl (pa_cons (pv 0) (pa_cons (pe_ix (ixU (hu_of hr)) (pv 1) pe_int (fun _ _ => rfl)) pa_nil))))))))
theorem ok_is_hand (F : Fn K mg "is_hand" s_is_hand) (B : Bl mg) (N : Kn K w mg) (c_is_row : C8.Cal P w K mg base 1 "is_row" (U.P.sp_is_row K w (tq0 K)) []) (c_is_new : C8.Cal P w K mg base 2 "is_new" (U.P.sp_is_new K w (tq0 K)) []) (c_is_name : C8.Cal P w K mg base 1 "is_name" (U.P.sp_is_name K w (tq0 K)) []) (rd : ∀ vs H Q E, U.P.sp_is_hand K w (tq0 K) vs H Q E → U.P.t_is_hand K w (tq0 K) { nx := fun _ H' => Q .non H', rt := Q } (start N_is_hand vs) H) :
    C8.Cal P w K mg base 3 "is_hand" (U.P.sp_is_hand K w (tq0 K)) [] := by
  have sc := sc_is_hand
  refine cal_of F sc_is_hand (fun _ _ _ _ _ _ us hl => match us, hl with | [_, _], _ => rfl) (fun vs H Q E h => U.P.len_is_hand h) (fun f cdv A outer s H vs Q E hr h => ⟨U.P.t_is_hand K w (tq0 K), ?_, rd vs H Q E h⟩)
  exact (pss_one (ps_ret (pe_and (C8.pe_c c_is_row hr (by decide) rfl (pa_cons (pv 1) (pa_cons pe_int pa_nil))) (pe_and (C8.pe_c c_is_new hr (by decide) rfl (pa_cons (pe_ix (ixU (hu_of hr)) (pv 0) (C8.pe_gc rfl N.c_HANDS) (fun _ _ => rfl)) (pa_cons (pe_ix (ixU (hu_of hr)) (pv 1) pe_int (fun _ _ => rfl)) pa_nil))) (pe_one (C8.pe_c c_is_name hr (by decide) rfl (pa_cons (pe_ix (ixU (hu_of hr)) (pv 1) pe_int (fun _ _ => rfl)) pa_nil)))))))
theorem ok_set_with (F : Fn K mg "set_with" s_set_with) (B : Bl mg) (N : Kn K w mg)  (rd : ∀ vs H Q E, U.P.sp_set_with K w (tq0 K) vs H Q E → U.P.t_set_with K w (tq0 K) { nx := fun _ H' => Q .non H', rt := Q } (start N_set_with vs) H) :
    C8.Cal P w K mg base 1 "set_with" (U.P.sp_set_with K w (tq0 K)) [] := by
  have sc := sc_set_with
  refine cal_of F sc_set_with (fun _ _ _ _ _ _ us hl => match us, hl with | [_, _], _ => rfl) (fun vs H Q E h => U.P.len_set_with h) (fun f cdv A outer s H vs Q E hr h => ⟨U.P.t_set_with K w (tq0 K), ?_, rd vs H Q E h⟩)
  exact (pss_cons (ps_for PassesOwn.never rfl (pi_any (pe_ix (ixU (hu_of hr)) (pv 0) (C8.pe_gc rfl N.c_SETS) (fun _ _ => rfl))) (pg_tup rfl (pgs_cons (gv 2 sc.nd) (pgs_cons (gv 3 sc.nd) pgs_nil)))
    (pss_one (ps_if (pt_cmpR (op_inV (hu65 hr)) (pv 1) (pv 3) rfl) (pss_one (ps_ret (pv 2))) pss_nil)))
    (pss_one (ps_ret pe_non)))
theorem ok_is_set (F : Fn K mg "is_set" s_is_set) (B : Bl mg) (N : Kn K w mg) (c_is_row : C8.Cal P w K mg base 1 "is_row" (U.P.sp_is_row K w (tq0 K)) []) (c_is_new : C8.Cal P w K mg base 2 "is_new" (U.P.sp_is_new K w (tq0 K)) []) (c_named : C8.Cal P w K mg base 1 "named" (U.P.sp_named K w (tq0 K)) []) (c_set_with : C8.Cal P w K mg base 1 "set_with" (U.P.sp_set_with K w (tq0 K)) []) (rd : ∀ vs H Q E, U.P.sp_is_set K w (tq0 K) vs H Q E → U.P.t_is_set K w (tq0 K) { nx := fun _ H' => Q .non H', rt := Q } (start N_is_set vs) H) :
    C8.Cal P w K mg base 3 "is_set" (U.P.sp_is_set K w (tq0 K)) [] := by
  have sc := sc_is_set
  refine cal_of F sc_is_set (fun _ _ _ _ _ _ us hl => match us, hl with | [_, _], _ => rfl) (fun vs H Q E h => U.P.len_is_set h) (fun f cdv A outer s H vs Q E hr h => ⟨U.P.t_is_set K w (tq0 K), ?_, rd vs H Q E h⟩)
  exact (pss_cons (ps_if (PW.pt (pw_or (pt_not (pt_truth (C8.pe_c c_is_row hr (by decide) rfl (pa_cons (pv 1) (pa_cons pe_int pa_nil))) (by intro _; rfl))) (pw_or1 (pt_not (pt_truth (C8.pe_c c_is_new hr (by decide) rfl (pa_cons (pe_ix (ixU (hu_of hr)) (pv 0) (C8.pe_gc rfl N.c_SETS) (fun _ _ => rfl)) (pa_cons (pe_ix (ixU (hu_of hr)) (pv 1) pe_int (fun _ _ => rfl)) pa_nil))) (by intro _; rfl)))))) (pss_one (ps_ret pe_bl)) pss_nil)
    (pss_cons (sv 2 sc.nd (pe_ix (ixU (hu_of hr)) (pv 1) pe_int (fun _ _ => rfl)))
    (pss_cons (ps_if (PW.pt (pw_or (pt_cmpR op_isnotU (pe_callTy call_type1 (by rfl) B.type_ (by decide +kernel) (pa_cons (pv 2) pa_nil)) (pe_ty (by rfl) B.tuple_ (by decide +kernel)) (nomark _)) (pw_or1 (pt_not (pt_chain op_leU op_leU pe_int (pe_callB call_len (by rfl) B.len_ (by decide +kernel) (pa_cons (pv 2) pa_nil)) pe_int))))) (pss_one (ps_ret pe_bl)) pss_nil)
    (pss_cons (ps_for PassesOwn.never rfl (pi_any (pv 2)) (gv 3 sc.nd)
    (pss_one (ps_if (PW.pt (pw_or (pt_cmpR op_isU (C8.pe_c c_named hr (by decide) rfl (pa_cons (pe_ix (ixU (hu_of hr)) (pv 0) (C8.pe_gc rfl N.c_TOOLS) (fun _ _ => rfl)) (pa_cons (pv 3) pa_nil))) pe_non (nomark _)) (pw_or1 (pt_cmpR op_isnotU (C8.pe_c c_set_with hr (by decide) rfl (pa_cons (pv 0) (pa_cons (pv 3) pa_nil))) pe_non (nomark _))))) (pss_one (ps_ret pe_bl)) pss_nil)))
    (pss_one (ps_ret (pe_cmpR (op_eqU hr.units) (pe_lenSetU (Nat.lt_of_succ_lt (M.hu65 hr)) rfl (by rfl) B.len_ (by rfl) B.set_ (pv 2)) (pe_callB call_len (by rfl) B.len_ (by decide +kernel) (pa_cons (pv 2) pa_nil)) (nomark _))))))))
theorem ok_is_range (F : Fn K mg "is_range" s_is_range) (B : Bl mg) (N : Kn K w mg) (c_is_row : C8.Cal P w K mg base 1 "is_row" (U.P.sp_is_row K w (tq0 K)) []) (c_is_new : C8.Cal P w K mg base 2 "is_new" (U.P.sp_is_new K w (tq0 K)) []) (c_named : C8.Cal P w K mg base 1 "named" (U.P.sp_named K w (tq0 K)) []) (c_is_size : C8.Cal P w K mg base 2 "is_size" (U.P.sp_is_size K w (tq0 K)) []) (rd : ∀ vs H Q E, U.P.sp_is_range K w (tq0 K) vs H Q E → U.P.t_is_range K w (tq0 K) { nx := fun _ H' => Q .non H', rt := Q } (start N_is_range vs) H) :
    C8.Cal P w K mg base 3 "is_range" (U.P.sp_is_range K w (tq0 K)) [] := by
  have sc := sc_is_range
  refine cal_of F sc_is_range (fun _ _ _ _ _ _ us hl => match us, hl with | [_, _, _], _ => rfl) (fun vs H Q E h => U.P.len_is_range h) (fun f cdv A outer s H vs Q E hr h => ⟨U.P.t_is_range K w (tq0 K), ?_, rd vs H Q E h⟩)
  exact (pss_cons (ps_if (PW.pt (pw_or (pt_not (pt_truth (C8.pe_c c_is_row hr (by decide) rfl (pa_cons (pv 2) (pa_cons pe_int pa_nil))) (by intro _; rfl))) (pw_or1 (pt_not (pt_truth (C8.pe_c c_is_new hr (by decide) rfl (pa_cons (pe_ix (ixU (hu_of hr)) (pv 0) (pv 1) (fun _ _ => rfl)) (pa_cons (pe_ix (ixU (hu_of hr)) (pv 2) pe_int (fun _ _ => rfl)) pa_nil))) (by intro _; rfl)))))) (pss_one (ps_ret pe_bl)) pss_nil)
    (pss_cons (ps_if (pt_cmpR op_isU (C8.pe_c c_named hr (by decide) rfl (pa_cons (pe_ix (ixU (hu_of hr)) (pv 0) (C8.pe_gc rfl N.c_KINDS) (fun _ _ => rfl)) (pa_cons (pe_ix (ixU (hu_of hr)) (pv 2) pe_int (fun _ _ => rfl)) pa_nil))) pe_non (nomark _)) (pss_one (ps_ret pe_bl)) pss_nil)
    (pss_one (ps_ret (pe_and (C8.pe_c c_is_size hr (by decide) rfl (pa_cons (pe_ix (ixU (hu_of hr)) (pv 2) pe_int (fun _ _ => rfl)) pa_nil)) (pe_and (C8.pe_c c_is_size hr (by decide) rfl (pa_cons (pe_ix (ixU (hu_of hr)) (pv 2) pe_int (fun _ _ => rfl)) pa_nil)) (pe_one (pe_cmpR op_leU (pe_ix (ixU (hu_of hr)) (pv 2) pe_int (fun _ _ => rfl)) (pe_ix (ixU (hu_of hr)) (pv 2) pe_int (fun _ _ => rfl)) (nomark _)))))))))
theorem ok_is_gauge (F : Fn K mg "is_gauge" s_is_gauge) (B : Bl mg) (N : Kn K w mg) (c_is_range : C8.Cal P w K mg base 3 "is_range" (U.P.sp_is_range K w (tq0 K)) []) (rd : ∀ vs H Q E, U.P.sp_is_gauge K w (tq0 K) vs H Q E → U.P.t_is_gauge K w (tq0 K) { nx := fun _ H' => Q .non H', rt := Q } (start N_is_gauge vs) H) :
    C8.Cal P w K mg base 4 "is_gauge" (U.P.sp_is_gauge K w (tq0 K)) [] := by
  have sc := sc_is_gauge
  refine cal_of F sc_is_gauge (fun _ _ _ _ _ _ us hl => match us, hl with | [_, _], _ => rfl) (fun vs H Q E h => U.P.len_is_gauge h) (fun f cdv A outer s H vs Q E hr h => ⟨U.P.t_is_gauge K w (tq0 K), ?_, rd vs H Q E h⟩)
  exact (pss_one (ps_ret (C8.pe_c c_is_range hr (by decide) rfl (pa_cons (pv 0) (pa_cons (C8.pe_gc rfl N.c_GAUGES) (pa_cons (pv 1) pa_nil))))))
theorem ok_is_work (F : Fn K mg "is_work" s_is_work) (B : Bl mg) (N : Kn K w mg) (c_is_range : C8.Cal P w K mg base 3 "is_range" (U.P.sp_is_range K w (tq0 K)) []) (rd : ∀ vs H Q E, U.P.sp_is_work K w (tq0 K) vs H Q E → U.P.t_is_work K w (tq0 K) { nx := fun _ H' => Q .non H', rt := Q } (start N_is_work vs) H) :
    C8.Cal P w K mg base 4 "is_work" (U.P.sp_is_work K w (tq0 K)) [] := by
  have sc := sc_is_work
  refine cal_of F sc_is_work (fun _ _ _ _ _ _ us hl => match us, hl with | [_, _], _ => rfl) (fun vs H Q E h => U.P.len_is_work h) (fun f cdv A outer s H vs Q E hr h => ⟨U.P.t_is_work K w (tq0 K), ?_, rd vs H Q E h⟩)
  exact (pss_one (ps_ret (C8.pe_c c_is_range hr (by decide) rfl (pa_cons (pv 0) (pa_cons (C8.pe_gc rfl N.c_WORKS) (pa_cons (pv 1) pa_nil))))))
theorem ok_is_keep (F : Fn K mg "is_keep" s_is_keep) (B : Bl mg) (N : Kn K w mg) (c_is_row : C8.Cal P w K mg base 1 "is_row" (U.P.sp_is_row K w (tq0 K)) []) (c_named : C8.Cal P w K mg base 1 "named" (U.P.sp_named K w (tq0 K)) []) (rd : ∀ vs H Q E, U.P.sp_is_keep K w (tq0 K) vs H Q E → U.P.t_is_keep K w (tq0 K) { nx := fun _ H' => Q .non H', rt := Q } (start N_is_keep vs) H) :
    C8.Cal P w K mg base 2 "is_keep" (U.P.sp_is_keep K w (tq0 K)) [] := by
  have sc := sc_is_keep
  refine cal_of F sc_is_keep (fun _ _ _ _ _ _ us hl => match us, hl with | [_, _], _ => rfl) (fun vs H Q E h => U.P.len_is_keep h) (fun f cdv A outer s H vs Q E hr h => ⟨U.P.t_is_keep K w (tq0 K), ?_, rd vs H Q E h⟩)
  exact (pss_cons (ps_if (pt_not (pt_truth (C8.pe_c c_is_row hr (by decide) rfl (pa_cons (pv 1) (pa_cons pe_int pa_nil))) (by intro _; rfl))) (pss_one (ps_ret pe_bl)) pss_nil)
    (pss_cons (sv 2 sc.nd (C8.pe_c c_named hr (by decide) rfl (pa_cons (pe_ix (ixU (hu_of hr)) (pv 0) (C8.pe_gc rfl N.c_TOOLS) (fun _ _ => rfl)) (pa_cons (pe_ix (ixU (hu_of hr)) (pv 1) pe_int (fun _ _ => rfl)) pa_nil))))
    (pss_cons (sv 3 sc.nd (C8.pe_c c_named hr (by decide) rfl (pa_cons (pe_ix (ixU (hu_of hr)) (pv 0) (C8.pe_gc rfl N.c_WORKS) (fun _ _ => rfl)) (pa_cons (pe_ix (ixU (hu_of hr)) (pv 1) pe_int (fun _ _ => rfl)) pa_nil))))
    (pss_cons (ps_if (PW.pt (pw_or (pt_cmpR op_isU (pv 2) pe_non (nomark _)) (pw_or1 (pt_cmpR op_isU (pv 3) pe_non (nomark _))))) (pss_one (ps_ret pe_bl)) pss_nil)
    (pss_one (ps_ret (pe_and (pe_cmpR (op_eqU hr.units) (pe_ix (ixU (hu_of hr)) (pv 2) pe_int (fun _ _ => rfl)) (pe_ix (ixU (hu_of hr)) (pv 3) pe_int (fun _ _ => rfl)) (nomark _)) (pe_one (pe_cmpR op_isU (C8.pe_c c_named hr (by decide) rfl (pa_cons (pe_ix (ixU (hu_of hr)) (pv 0) (C8.pe_gc rfl N.c_KEEPS) (fun _ _ => rfl)) (pa_cons (pe_ix (ixU (hu_of hr)) (pv 2) pe_int (fun _ _ => rfl)) pa_nil))) pe_non (nomark _))))))))))
theorem ok_fits (F : Fn K mg "fits" s_fits) (B : Bl mg) (N : Kn K w mg)  (hA : ∀ f sp, fnS K (fnSp K w (tq0 K) U.P.L_FITS) f = some sp → Held P w K mg base 4 f sp) (rd : ∀ vs H Q E, U.P.sp_fits K w (tq0 K) vs H Q E → U.P.t_fits K w (tq0 K) { nx := fun _ H' => Q .non H', rt := Q } (start N_fits vs) H) :
    C8.Cal P w K mg base 5 "fits" (U.P.sp_fits K w (tq0 K)) [] := by
  have sc := sc_fits
  refine cal_of F sc_fits (fun _ _ _ _ _ _ us hl => match us, hl with | [_, _, _], _ => rfl) (fun vs H Q E h => U.P.len_fits h) (fun f cdv A outer s H vs Q E hr h => ⟨U.P.t_fits K w (tq0 K), ?_, rd vs H Q E h⟩)
  exact (pss_cons (sv 3 sc.nd (pe_ix (ixU (hu_of hr)) (C8.pe_gc rfl N.c_FITS) (pv 1) (fun _ _ => rfl)))
    (pss_one (ps_ret (pe_callA hA hr rfl (by first | exact Or.inl rfl | exact Or.inr (Or.inl rfl)) (pa_cons (pv 0) (pa_cons (pv 2) pa_nil))))))
theorem ok_stock_fault (F : Fn K mg "stock_fault" s_stock_fault) (B : Bl mg) (N : Kn K w mg) (c_is_stock_form : C8.Cal P w K mg base 2 "is_stock_form" (U.P.sp_is_stock_form K w (tq0 K)) []) (c_fits : C8.Cal P w K mg base 5 "fits" (U.P.sp_fits K w (tq0 K)) []) (rd : ∀ vs H Q E, U.P.sp_stock_fault K w (tq0 K) vs H Q E → U.P.t_stock_fault K w (tq0 K) { nx := fun _ H' => Q .non H', rt := Q } (start N_stock_fault vs) H) :
    C8.Cal P w K mg base 6 "stock_fault" (U.P.sp_stock_fault K w (tq0 K)) [] := by
  have sc := sc_stock_fault
  refine cal_of F sc_stock_fault (fun _ _ _ _ _ _ us hl => match us, hl with | [_], _ => rfl) (fun vs H Q E h => U.P.len_stock_fault h) (fun f cdv A outer s H vs Q E hr h => ⟨U.P.t_stock_fault K w (tq0 K), ?_, rd vs H Q E h⟩)
  exact (pss_cons (ps_if (pt_not (pt_truth (C8.pe_c c_is_stock_form hr (by decide) rfl (pa_cons (pv 0) pa_nil)) (by intro _; rfl))) (pss_one (ps_ret (pe_tupP (pa_cons pe_str pa_nil)))) pss_nil)
    (pss_cons (ps_setLc (i := 1) (own := [("_", 6)]) (wi := (iAny K (tC (.ref (ga K "SORTS"))))) (g := (gName 6)) (tt := tYes) (te := (tLst tNil)) rfl sc.nd rfl rfl (sw_true rfl rfl rfl (by decide +kernel)) (pi_any (C8.pe_gc rfl N.c_SORTS)) (blkOk_by (own := [("_", 6)]) (N := N_stock_fault) (sc := defScope s_stock_fault) (by decide +kernel)) (fun _ _ _ _ _ => (gvB 6 sc.nd)) (fun _ _ _ _ _ => pts_nil) (fun _ _ _ _ _ => (pe_lst pa_nil)))
    (pss_cons (ps_for PassesOwn.never rfl (pi_enumU (by rfl) B.enumerate_ (pa_cons (pv 0) pa_nil)) (pg_tup rfl (pgs_cons (gv 2 sc.nd) (pgs_cons (gv 3 sc.nd) pgs_nil)))
    (pss_one (ps_for PassesOwn.never rfl (pi_enumU (by rfl) B.enumerate_ (pa_cons (pv 3) pa_nil)) (pg_tup rfl (pgs_cons (gv 4 sc.nd) (pgs_cons (gv 5 sc.nd) pgs_nil)))
    (pss_cons (ps_if (pt_not (pt_truth (C8.pe_c c_fits hr (by decide) rfl (pa_cons (pv 1) (pa_cons (pv 2) (pa_cons (pv 5) pa_nil)))) (by intro _; rfl))) (pss_one (ps_ret (pe_tupP (pa_cons (pe_ix (ixU (hu_of hr)) (C8.pe_gc rfl N.c_SORTS) (pv 2) (fun _ _ => rfl)) (pa_cons (pv 4) pa_nil))))) pss_nil)
    (pss_one (ps_expr (pe_bm PySem.F.plainAttrs_list PySem.F.slot_list_append PySem.F.type_list_append mt_append (pe_ix (ixU (hu_of hr)) (pv 1) (pv 2) (fun _ _ => rfl)) (pa_cons (pv 5) pa_nil))))))))
    (pss_one (ps_ret pe_non)))))
theorem ok_need_stock (F : Fn K mg "need_stock" s_need_stock) (B : Bl mg) (N : Kn K w mg) (c_stock_fault : C8.Cal P w K mg base 6 "stock_fault" (U.P.sp_stock_fault K w (tq0 K)) []) (rd : ∀ vs H Q E, U.P.sp_need_stock K w (tq0 K) vs H Q E → U.P.t_need_stock K w (tq0 K) { nx := fun _ H' => Q .non H', rt := Q } (start N_need_stock vs) H) :
    C8.Cal P w K mg base 7 "need_stock" (U.P.sp_need_stock K w (tq0 K)) [] := by
  have sc := sc_need_stock
  refine cal_of F sc_need_stock (fun _ _ _ _ _ _ us hl => match us, hl with | [_], _ => rfl) (fun vs H Q E h => U.P.len_need_stock h) (fun f cdv A outer s H vs Q E hr h => ⟨U.P.t_need_stock K w (tq0 K), ?_, rd vs H Q E h⟩)
  exact (pss_cons (sv 1 sc.nd (C8.pe_c c_stock_fault hr (by decide) rfl (pa_cons (pv 0) pa_nil)))
    (pss_cons (ps_if (pt_cmpR op_isnotU (pv 1) pe_non (nomark _)) (pss_one ps_never) pss_nil)
    (pss_one (ps_ret (pv 0)))))
theorem ok_need_jobs (F : Fn K mg "need_jobs" s_need_jobs) (B : Bl mg) (N : Kn K w mg) (c_need_stock : C8.Cal P w K mg base 7 "need_stock" (U.P.sp_need_stock K w (tq0 K)) []) (c_need_works : C8.Cal P w K mg base 3 "need_works" (U.P.sp_need_works K w (tq0 K)) []) (c_named : C8.Cal P w K mg base 1 "named" (U.P.sp_named K w (tq0 K)) []) (rd : ∀ vs H Q E, U.P.sp_need_jobs K w (tq0 K) vs H Q E → U.P.t_need_jobs K w (tq0 K) { nx := fun _ H' => Q .non H', rt := Q } (start N_need_jobs vs) H) :
    C8.Cal P w K mg base 8 "need_jobs" (U.P.sp_need_jobs K w (tq0 K)) [] := by
  have sc := sc_need_jobs
  refine cal_of F sc_need_jobs (fun _ _ _ _ _ _ us hl => match us, hl with | [_, _], _ => rfl) (fun vs H Q E h => U.P.len_need_jobs h) (fun f cdv A outer s H vs Q E hr h => ⟨U.P.t_need_jobs K w (tq0 K), ?_, rd vs H Q E h⟩)
  exact (pss_cons (sv 2 sc.nd (pe_lst pa_nil))
    (pss_cons (ps_for PassesOwn.never rfl (pi_any (C8.pe_c c_need_works hr (by decide) rfl (pa_cons (C8.pe_c c_need_stock hr (by decide) rfl (pa_cons (pv 0) pa_nil)) (pa_cons (pv 1) (pa_cons (C8.pe_gc rfl N.c_MOST_WORKS) pa_nil))))) (pg_tup rfl (pgs_cons (gv 3 sc.nd) (pgs_cons (gv 4 sc.nd) (pgs_cons (gv 5 sc.nd) (pgs_cons (gv 6 sc.nd) pgs_nil)))))
    (pss_cons (sv 7 sc.nd (pe_ix (ixU (hu_of hr)) (C8.pe_c c_named hr (by decide) rfl (pa_cons (pe_ix (ixU (hu_of hr)) (pv 0) (C8.pe_gc rfl N.c_KINDS) (fun _ _ => rfl)) (pa_cons (pv 4) pa_nil))) pe_int (fun _ _ => rfl)))
    (pss_cons (ps_if (pt_cmpR op_ltU (pv 6) (pv 7) (nomark _)) (pss_one ps_never) pss_nil)
    (pss_one (ps_expr (pe_bm PySem.F.plainAttrs_list PySem.F.slot_list_append PySem.F.type_list_append mt_append (pv 2) (pa_cons (pe_tupP (pa_cons (pv 4) (pa_cons (pe_callB (cr_maxU rfl) (by rfl) B.max_ (by decide +kernel) (pa_cons (pv 5) (pa_cons (pv 7) pa_nil))) (pa_cons (pv 6) pa_nil)))) pa_nil)))))))
    (pss_one (ps_ret (pv 2)))))
theorem ok_fewest (F : Fn K mg "fewest" s_fewest) (B : Bl mg) (N : Kn K w mg) (c_need_jobs : C8.Cal P w K mg base 8 "need_jobs" (U.P.sp_need_jobs K w (tq0 K)) []) (c_plan_of : C8.Cal P w K mg base 3 "plan_of" (U.P.sp_plan_of K w (tq0 K)) []) (c_many_tools : C8.Cal P w K mg base 1 "many_tools" (U.P.sp_many_tools K w (tq0 K)) []) (rd : ∀ vs H Q E, U.P.sp_fewest K w (tq0 K) vs H Q E → U.P.t_fewest K w (tq0 K) { nx := fun _ H' => Q .non H', rt := Q } (start N_fewest vs) H) :
    C8.Cal P w K mg base 9 "fewest" (U.P.sp_fewest K w (tq0 K)) [] := by
  have sc := sc_fewest
  refine cal_of F sc_fewest (fun _ _ _ _ _ _ us hl => match us, hl with | [_, _], _ => rfl) (fun vs H Q E h => U.P.len_fewest h) (fun f cdv A outer s H vs Q E hr h => ⟨U.P.t_fewest K w (tq0 K), ?_, rd vs H Q E h⟩)
  exact (pss_one (ps_ret (C8.pe_c c_many_tools hr (by decide) rfl (pa_cons (C8.pe_c c_plan_of hr (by decide) rfl (pa_cons (C8.pe_c c_need_jobs hr (by decide) rfl (pa_cons (pv 0) (pa_cons (pv 1) pa_nil))) pa_nil)) pa_nil))))
theorem ok__law_apart (F : Fn K mg "_law_apart" s__law_apart) (B : Bl mg) (N : Kn K w mg)  (rd : ∀ vs H Q E, U.A35.sp__law_apart K w (tq0 K) vs H Q E → U.A35.t__law_apart K w (tq0 K) { nx := fun _ H' => Q .non H', rt := Q } (start N__law_apart vs) H) :
    C8.Cal P w K mg base 1 "_law_apart" (U.A35.sp__law_apart K w (tq0 K)) [] := by
  have sc := sc__law_apart
  refine cal_of F sc__law_apart (fun _ _ _ _ _ _ us hl => match us, hl with | [_, _], _ => rfl) (fun vs H Q E h => U.A35.len__law_apart h) (fun f cdv A outer s H vs Q E hr h => ⟨U.A35.t__law_apart K w (tq0 K), ?_, rd vs H Q E h⟩)
  exact (pss_one (ps_ret (pe_or (pe_cmpR (op_neU hr.units) (pe_ix (ixU (hu_of hr)) (pv 0) pe_int (fun _ _ => rfl)) (pe_ix (ixU (hu_of hr)) (pv 1) pe_int (fun _ _ => rfl)) (nomark _)) (pe_one (pe_cmpR op_gtU (pe_ix (ixU (hu_of hr)) (pv 1) pe_int (fun _ _ => rfl)) (pe_ix (ixU (hu_of hr)) (pv 0) pe_int (fun _ _ => rfl)) (nomark _))))))
theorem ok__law_runs (F : Fn K mg "_law_runs" s__law_runs) (B : Bl mg) (N : Kn K w mg) (c__law_apart : C8.Cal P w K mg base 1 "_law_apart" (U.A35.sp__law_apart K w (tq0 K)) []) (rd : ∀ vs H Q E, U.A35.sp__law_runs K w (tq0 K) vs H Q E → U.A35.t__law_runs K w (tq0 K) { nx := fun _ H' => Q .non H', rt := Q } (start N__law_runs vs) H) :
    C8.Cal P w K mg base 2 "_law_runs" (U.A35.sp__law_runs K w (tq0 K)) [] := by
  have sc := sc__law_runs
  refine cal_of F sc__law_runs (fun _ _ _ _ _ _ us hl => match us, hl with | [_], _ => rfl) (fun vs H Q E h => U.A35.len__law_runs h) (fun f cdv A outer s H vs Q E hr h => ⟨U.A35.t__law_runs K w (tq0 K), ?_, rd vs H Q E h⟩)
  exact (pss_cons (sv 1 sc.nd (pe_lst (pa_cons (pe_tupP pa_nil) pa_nil)))
    (pss_cons (ps_for PassesOwn.never rfl (pi_enumU (by rfl) B.enumerate_ (pa_cons (pv 0) pa_nil)) (pg_tup rfl (pgs_cons (gv 2 sc.nd) (pgs_cons (gv 3 sc.nd) pgs_nil)))
    (pss_one (sv 1 sc.nd (pe_op op_add2 (pv 1) (pe_lc (own := [("run", 4)]) (wi := (iAny K (tVar 1))) (g := (gName 4)) (tt := (tTru K (tCB (rAll K) (tCons (tLc (iAny K (tVar 4)) (gName 5) tYes (tCall (U.A35.sp__law_apart K w (tq0 K)) [] C8.E0 (tCons (tOp (rIxU K w) (tVar 0) (tVar 5)) (tCons (tVar 3) tNil))) [5]) tNil)))) (te := (tOp (rAdd2 K) (tVar 4) (tTupP (tCons (tVar 2) tNil)))) rfl sc.nd (pi_any (pv 1)) (blkOk_by (own := [("run", 4)]) (N := N__law_runs) (sc := defScope s__law_runs) (by decide +kernel)) (fun _ _ _ _ _ => (gvB 4 sc.nd)) (fun _ _ _ _ _ => (pts_one (pt_truth (pe_callB (cr_all rfl) (by rfl) B.all_ (by decide +kernel) (pa_cons (pe_lc (own := [("one", 5)]) (wi := (iAny K (tVar 4))) (g := (gName 5)) (tt := tYes) (te := (tCall (U.A35.sp__law_apart K w (tq0 K)) [] C8.E0 (tCons (tOp (rIxU K w) (tVar 0) (tVar 5)) (tCons (tVar 3) tNil)))) rfl sc.nd (pi_any (pv 4)) (blkOk_by (by kernel_rfl)) (fun _ _ _ _ _ => (gvB 5 sc.nd)) (fun _ _ _ _ _ => pts_nil) (fun _ _ _ _ _ => (C8.pe_c c__law_apart hr (by decide) rfl (pa_cons (pe_ix (ixU (hu_of hr)) (pv 0) (pv 5) (fun _ _ => rfl)) (pa_cons (pv 3) pa_nil))))) pa_nil)) (by intro _; rfl)))) (fun _ _ _ _ _ => (pe_op op_add2 (pv 4) (pe_tupP (pa_cons (pv 2) pa_nil)))))))))
    (pss_one (ps_ret (pv 1)))))
theorem ok__law_jobs (F : Fn K mg "_law_jobs" s__law_jobs) (B : Bl mg) (N : Kn K w mg)  (rd : ∀ vs H Q E, U.A35.sp__law_jobs K w (tq0 K) vs H Q E → U.A35.t__law_jobs K w (tq0 K) { nx := fun _ H' => Q .non H', rt := Q } (start N__law_jobs vs) H) :
    C8.Cal P w K mg base 1 "_law_jobs" (U.A35.sp__law_jobs K w (tq0 K)) [] := by
  have sc := sc__law_jobs
  refine cal_of F sc__law_jobs (fun _ _ _ _ _ _ us hl => match us, hl with | [_, _], _ => rfl) (fun vs H Q E h => U.A35.len__law_jobs h) (fun f cdv A outer s H vs Q E hr h => ⟨U.A35.t__law_jobs K w (tq0 K), ?_, rd vs H Q E h⟩)
  exact (pss_cons (ps_asg (pe_tupP (pa_cons (pe_callTy (cr_dict3 rfl) (by rfl) B.dict_ (by decide +kernel) (pa_cons (pe_ix (ixU (hu_of hr)) (pv 0) pe_int (fun _ _ => rfl)) pa_nil)) (pa_cons (pe_callTy (cr_dict3 rfl) (by rfl) B.dict_ (by decide +kernel) (pa_cons (pe_lc (own := [("row", 4)]) (wi := (iAny K (tOp (rIxU K w) (tVar 0) (tC (.int 6))))) (g := (gName 4)) (tt := tYes) (te := (tTupP (tCons (tOp (rIxU K w) (tVar 4) (tC (.int 0))) (tCons (tSl (rSlP K) (tVar 4) (tPart (tC (.int 1))) tNoPart) tNil)))) rfl sc.nd (pi_any (pe_ix (ixU (hu_of hr)) (pv 0) pe_int (fun _ _ => rfl))) (blkOk_by (own := [("row", 4)]) (N := N__law_jobs) (sc := defScope s__law_jobs) (by decide +kernel)) (fun _ _ _ _ _ => (gvB 4 sc.nd)) (fun _ _ _ _ _ => pts_nil) (fun _ _ _ _ _ => (pe_tupP (pa_cons (pe_ix (ixU (hu_of hr)) (pv 4) pe_int (fun _ _ => rfl)) (pa_cons (pe_slice slP (pv 4) (po_some pe_int) po_none) pa_nil))))) pa_nil)) pa_nil))) (pg_tup rfl (pgs_cons (gv 2 sc.nd) (pgs_cons (gv 3 sc.nd) pgs_nil))))
    (pss_one (ps_ret (pe_lc (own := [("name", 5)]) (wi := (iAny K (tVar 1))) (g := (gName 5)) (tt := tYes) (te := (tTupP (tCons (tOp (rIxU K w) (tOp (rIxU K w) (tVar 3) (tVar 5)) (tC (.int 0))) (tCons (tCB (rMaxU K) (tCons (tOp (rIxU K w) (tOp (rIxU K w) (tVar 3) (tVar 5)) (tC (.int 1))) (tCons (tOp (rIxU K w) (tVar 2) (tOp (rIxU K w) (tOp (rIxU K w) (tVar 3) (tVar 5)) (tC (.int 0)))) tNil))) (tCons (tOp (rIxU K w) (tOp (rIxU K w) (tVar 3) (tVar 5)) (tC (.int 2))) tNil))))) rfl sc.nd (pi_any (pv 1)) (blkOk_by (own := [("name", 5)]) (N := N__law_jobs) (sc := defScope s__law_jobs) (by decide +kernel)) (fun _ _ _ _ _ => (gvB 5 sc.nd)) (fun _ _ _ _ _ => pts_nil) (fun _ _ _ _ _ => (pe_tupP (pa_cons (pe_ix (ixU (hu_of hr)) (pe_ix (ixU (hu_of hr)) (pv 3) (pv 5) (fun _ _ => rfl)) pe_int (fun _ _ => rfl)) (pa_cons (pe_callB (cr_maxU rfl) (by rfl) B.max_ (by decide +kernel) (pa_cons (pe_ix (ixU (hu_of hr)) (pe_ix (ixU (hu_of hr)) (pv 3) (pv 5) (fun _ _ => rfl)) pe_int (fun _ _ => rfl)) (pa_cons (pe_ix (ixU (hu_of hr)) (pv 2) (pe_ix (ixU (hu_of hr)) (pe_ix (ixU (hu_of hr)) (pv 3) (pv 5) (fun _ _ => rfl)) pe_int (fun _ _ => rfl)) (fun _ _ => rfl)) pa_nil))) (pa_cons (pe_ix (ixU (hu_of hr)) (pe_ix (ixU (hu_of hr)) (pv 3) (pv 5) (fun _ _ => rfl)) pe_int (fun _ _ => rfl)) pa_nil)))))))))
theorem ok_law {f : Addr} {fd : FuncData} (F : FunD K "law" "law" (defArgs s_law) (defBody s_law) (defScope s_law) [] [] f fd) (B : Bl mg) (N : Kn K w mg) (c__law_draw : C8.Cal P w K mg base 1 "_law_draw" (U.A35.sp__law_draw K w (tq0 K)) []) (c__law_take : C8.Cal P w K mg base 2 "_law_take" (U.A35.sp__law_take K w (tq0 K)) []) (c__law_stock : C8.Cal P w K mg base 4 "_law_stock" (U.A35.sp__law_stock K w (tq0 K)) []) (c__law_list : C8.Cal P w K mg base 3 "_law_list" (U.A35.sp__law_list K w (tq0 K)) []) (c__law_jobs : C8.Cal P w K mg base 1 "_law_jobs" (U.A35.sp__law_jobs K w (tq0 K)) []) (c__law_runs : C8.Cal P w K mg base 2 "_law_runs" (U.A35.sp__law_runs K w (tq0 K)) []) (c_fewest : C8.Cal P w K mg base 9 "fewest" (U.P.sp_fewest K w (tq0 K)) []) (rd : ∀ vs H Q E, U.A35.sp_law K w (tq0 K) vs H Q E → U.A35.t_law K w (tq0 K) { nx := fun _ H' => Q .non H', rt := Q } (start N_law vs) H) :
    FnOk P w K mg base C8.CX0 10 f fd ["script"] (sp_law K w (tq0 K)) := by
  have sc := sc_law
  refine F.ok sc_law (fun vs H Q E h => len_law h) (fun cdv A outer s H vs Q E hr h => ⟨t_law K w (tq0 K), PSs.nox ?_, rd vs H Q E h⟩)
  exact (pss_cons (ps_for PassesOwn.never rfl (pi_range1 (by rfl) B.range_ (pa_cons (pe_callB (cr_maxU rfl) (by rfl) B.max_ (by decide +kernel) (pa_cons pe_int (pa_cons (pe_callB (cr_minU rfl) (by rfl) B.min_ (by decide +kernel) (pa_cons pe_int (pa_cons (pe_callB call_len (by rfl) B.len_ (by decide +kernel) (pa_cons (pv 0) pa_nil)) pa_nil))) pa_nil))) pa_nil)) (gv 1 sc.nd)
    (pss_cons (sv 2 sc.nd (C8.pe_c c__law_draw hr (by decide) rfl (pa_cons (pv 0) (pa_cons (pv 1) pa_nil))))
    (pss_cons (ps_par (by rfl) sc.nd rfl rfl (by decide) rfl rfl (pa_cons (pe_ix (ixU (hu_of hr)) (pe_lst (pa_cons pe_int (pa_cons pe_int (pa_cons pe_int (pa_cons pe_int (pa_cons pe_int (pa_cons pe_int pa_nil))))))) (C8.pe_c c__law_take hr (by decide) rfl (pa_cons (pv 2) (pa_cons pe_int pa_nil))) (fun _ _ => rfl)) (pa_cons (pe_ix (ixU (hu_of hr)) (pe_lst (pa_cons pe_int (pa_cons pe_int (pa_cons pe_int (pa_cons pe_int (pa_cons pe_int (pa_cons pe_int pa_nil))))))) (C8.pe_c c__law_take hr (by decide) rfl (pa_cons (pv 2) (pa_cons pe_int pa_nil))) (fun _ _ => rfl)) pa_nil)) (by rfl))
    (pss_cons (sv 5 sc.nd (C8.pe_c c__law_stock hr (by decide) rfl (pa_cons (pv 2) (pa_cons (pv 3) (pa_cons (pv 4) pa_nil)))))
    (pss_cons (sv 6 sc.nd (C8.pe_c c__law_list hr (by decide) rfl (pa_cons (pv 2) (pa_cons (pv 5) (pa_cons (pe_ix (ixU (hu_of hr)) (pe_lst (pa_cons pe_int (pa_cons pe_int pa_nil))) (C8.pe_c c__law_take hr (by decide) rfl (pa_cons (pv 2) (pa_cons pe_int pa_nil))) (fun _ _ => rfl)) pa_nil)))))
    (pss_cons (sv 7 sc.nd (pe_callB (cr_maxU rfl) (by rfl) B.max_ (by decide +kernel) (pa_cons (pe_lc (own := [("run", 8)]) (wi := (iAny K (tCall (U.A35.sp__law_runs K w (tq0 K)) [] C8.E0 (tCons (tCall (U.A35.sp__law_jobs K w (tq0 K)) [] C8.E0 (tCons (tVar 5) (tCons (tVar 6) tNil))) tNil)))) (g := (gName 8)) (tt := tYes) (te := (tCB (rLenU K) (tCons (tVar 8) tNil))) rfl sc.nd (pi_any (C8.pe_c c__law_runs hr (by decide) rfl (pa_cons (C8.pe_c c__law_jobs hr (by decide) rfl (pa_cons (pv 5) (pa_cons (pv 6) pa_nil))) pa_nil))) (blkOk_by (own := [("run", 8)]) (N := N_law) (sc := defScope s_law) (by decide +kernel)) (fun _ _ _ _ _ => (gvB 8 sc.nd)) (fun _ _ _ _ _ => pts_nil) (fun _ _ _ _ _ => (pe_callB call_len (by rfl) B.len_ (by decide +kernel) (pa_cons (pv 8) pa_nil)))) pa_nil)))
    (pss_one (ps_if (pt_cmpR (op_neU hr.units) (pe_callB cr_repr (by rfl) B.repr_ (by decide +kernel) (pa_cons (C8.pe_c c_fewest hr (by decide) rfl (pa_cons (pv 5) (pa_cons (pv 6) pa_nil))) pa_nil)) (pe_callB cr_repr (by rfl) B.repr_ (by decide +kernel) (pa_cons (pv 7) pa_nil)) (nomark _)) (pss_one (ps_ret pe_bl)) pss_nil))))))))
    (pss_one (ps_ret pe_bl)))
end
def dd__law_draw : He.DefD := ⟨("_law_draw", none), "_law_draw", "_law_draw", defArgs s__law_draw, defBody s__law_draw, defScope s__law_draw, [], []⟩
def dd__law_mixed : He.DefD := ⟨("_law_mixed", none), "_law_mixed", "_law_mixed", defArgs s__law_mixed, defBody s__law_mixed, defScope s__law_mixed, [], []⟩
def dd__law_take : He.DefD := ⟨("_law_take", none), "_law_take", "_law_take", defArgs s__law_take, defBody s__law_take, defScope s__law_take, [], []⟩
def dd__law_names : He.DefD := ⟨("_law_names", none), "_law_names", "_law_names", defArgs s__law_names, defBody s__law_names, defScope s__law_names, [], []⟩
def dd__law_stock : He.DefD := ⟨("_law_stock", none), "_law_stock", "_law_stock", defArgs s__law_stock, defBody s__law_stock, defScope s__law_stock, [], []⟩
def dd__law_list : He.DefD := ⟨("_law_list", none), "_law_list", "_law_list", defArgs s__law_list, defBody s__law_list, defScope s__law_list, [], []⟩
def dd_many_tools : He.DefD := ⟨("many_tools", none), "many_tools", "many_tools", defArgs s_many_tools, defBody s_many_tools, defScope s_many_tools, [], []⟩
def dd_are_apart : He.DefD := ⟨("are_apart", none), "are_apart", "are_apart", defArgs s_are_apart, defBody s_are_apart, defScope s_are_apart, [], []⟩
def dd_runs_to : He.DefD := ⟨("runs_to", none), "runs_to", "runs_to", defArgs s_runs_to, defBody s_runs_to, defScope s_runs_to, [], []⟩
def dd_plan_of : He.DefD := ⟨("plan_of", none), "plan_of", "plan_of", defArgs s_plan_of, defBody s_plan_of, defScope s_plan_of, [], []⟩
def dd_named : He.DefD := ⟨("named", none), "named", "named", defArgs s_named, defBody s_named, defScope s_named, [], []⟩
def dd_need_named : He.DefD := ⟨("need_named", none), "need_named", "need_named", defArgs s_need_named, defBody s_need_named, defScope s_need_named, [], []⟩
def dd_need_works : He.DefD := ⟨("need_works", none), "need_works", "need_works", defArgs s_need_works, defBody s_need_works, defScope s_need_works, [], []⟩
def dd_is_row : He.DefD := ⟨("is_row", none), "is_row", "is_row", defArgs s_is_row, defBody s_is_row, defScope s_is_row, [], []⟩
def dd_is_stock_form : He.DefD := ⟨("is_stock_form", none), "is_stock_form", "is_stock_form", defArgs s_is_stock_form, defBody s_is_stock_form, defScope s_is_stock_form, [], []⟩
def dd_is_name : He.DefD := ⟨("is_name", none), "is_name", "is_name", defArgs s_is_name, defBody s_is_name, defScope s_is_name, [], []⟩
def dd_is_new : He.DefD := ⟨("is_new", none), "is_new", "is_new", defArgs s_is_new, defBody s_is_new, defScope s_is_new, [], []⟩
def dd_is_number : He.DefD := ⟨("is_number", none), "is_number", "is_number", defArgs s_is_number, defBody s_is_number, defScope s_is_number, [], []⟩
def dd_is_size : He.DefD := ⟨("is_size", none), "is_size", "is_size", defArgs s_is_size, defBody s_is_size, defScope s_is_size, [], []⟩
def dd_is_kind : He.DefD := ⟨("is_kind", none), "is_kind", "is_kind", defArgs s_is_kind, defBody s_is_kind, defScope s_is_kind, [], []⟩
def dd_is_box : He.DefD := ⟨("is_box", none), "is_box", "is_box", defArgs s_is_box, defBody s_is_box, defScope s_is_box, [], []⟩
def dd_has_box : He.DefD := ⟨("has_box", none), "has_box", "has_box", defArgs s_has_box, defBody s_has_box, defScope s_has_box, [], []⟩
def dd_is_tool : He.DefD := ⟨("is_tool", none), "is_tool", "is_tool", defArgs s_is_tool, defBody s_is_tool, defScope s_is_tool, [], []⟩
def dd_is_hand : He.DefD := ⟨("is_hand", none), "is_hand", "is_hand", defArgs s_is_hand, defBody s_is_hand, defScope s_is_hand, [], []⟩
def dd_set_with : He.DefD := ⟨("set_with", none), "set_with", "set_with", defArgs s_set_with, defBody s_set_with, defScope s_set_with, [], []⟩
def dd_is_set : He.DefD := ⟨("is_set", none), "is_set", "is_set", defArgs s_is_set, defBody s_is_set, defScope s_is_set, [], []⟩
def dd_is_range : He.DefD := ⟨("is_range", none), "is_range", "is_range", defArgs s_is_range, defBody s_is_range, defScope s_is_range, [], []⟩
def dd_is_gauge : He.DefD := ⟨("is_gauge", none), "is_gauge", "is_gauge", defArgs s_is_gauge, defBody s_is_gauge, defScope s_is_gauge, [], []⟩
def dd_is_work : He.DefD := ⟨("is_work", none), "is_work", "is_work", defArgs s_is_work, defBody s_is_work, defScope s_is_work, [], []⟩
def dd_is_keep : He.DefD := ⟨("is_keep", none), "is_keep", "is_keep", defArgs s_is_keep, defBody s_is_keep, defScope s_is_keep, [], []⟩
def dd_fits : He.DefD := ⟨("fits", none), "fits", "fits", defArgs s_fits, defBody s_fits, defScope s_fits, [], []⟩
def dd_stock_fault : He.DefD := ⟨("stock_fault", none), "stock_fault", "stock_fault", defArgs s_stock_fault, defBody s_stock_fault, defScope s_stock_fault, [], []⟩
def dd_need_stock : He.DefD := ⟨("need_stock", none), "need_stock", "need_stock", defArgs s_need_stock, defBody s_need_stock, defScope s_need_stock, [], []⟩
def dd_need_jobs : He.DefD := ⟨("need_jobs", none), "need_jobs", "need_jobs", defArgs s_need_jobs, defBody s_need_jobs, defScope s_need_jobs, [], []⟩
def dd_fewest : He.DefD := ⟨("fewest", none), "fewest", "fewest", defArgs s_fewest, defBody s_fewest, defScope s_fewest, [], []⟩
def dd__law_apart : He.DefD := ⟨("_law_apart", none), "_law_apart", "_law_apart", defArgs s__law_apart, defBody s__law_apart, defScope s__law_apart, [], []⟩
def dd__law_runs : He.DefD := ⟨("_law_runs", none), "_law_runs", "_law_runs", defArgs s__law_runs, defBody s__law_runs, defScope s__law_runs, [], []⟩
def dd__law_jobs : He.DefD := ⟨("_law_jobs", none), "_law_jobs", "_law_jobs", defArgs s__law_jobs, defBody s__law_jobs, defScope s__law_jobs, [], []⟩
def dd_law : He.DefD := ⟨("law", none), "law", "law", defArgs s_law, defBody s_law, defScope s_law, [], []⟩
def hfn : List He.DefD := [dd__law_draw, dd__law_mixed, dd__law_take, dd__law_names, dd__law_stock, dd__law_list, dd_many_tools, dd_are_apart, dd_runs_to, dd_plan_of, dd_named, dd_need_named, dd_need_works, dd_is_row, dd_is_stock_form, dd_is_name, dd_is_new, dd_is_number, dd_is_size, dd_is_kind, dd_is_box, dd_has_box, dd_is_tool, dd_is_hand, dd_set_with, dd_is_set, dd_is_range, dd_is_gauge, dd_is_work, dd_is_keep, dd_fits, dd_stock_fault, dd_need_stock, dd_need_jobs, dd_fewest, dd__law_apart, dd__law_runs, dd__law_jobs, dd_law]
def hfa : List He.Fa := [.glo "_law_draw", .glo "_law_mixed", .glo "_law_take", .glo "_law_names", .glo "_law_stock", .glo "_law_list", .glo "many_tools", .glo "are_apart", .glo "runs_to", .glo "plan_of", .glo "named", .glo "need_named", .glo "need_works", .glo "is_row", .glo "is_stock_form", .glo "is_name", .glo "is_new", .glo "is_number", .glo "is_size", .glo "is_kind", .glo "is_box", .glo "has_box", .glo "is_tool", .glo "is_hand", .glo "set_with", .glo "is_set", .glo "is_range", .glo "is_gauge", .glo "is_work", .glo "is_keep", .glo "fits", .glo "stock_fault", .glo "need_stock", .glo "need_jobs", .glo "fewest", .glo "_law_apart", .glo "_law_runs", .glo "_law_jobs", .glo "law", .glo "SORTS", .glo "FEWEST", .glo "MOST", .glo "FITS", .int "KINDS" 0, .int "BOXES" 1, .int "TOOLS" 2, .int "HANDS" 3, .int "SETS" 4, .int "GAUGES" 5, .int "WORKS" 6, .int "KEEPS" 7, .int "LAST_SIZE" 99, .int "MOST_WORKS" 12, .free "len", .free "type", .free "int", .free "str", .free "tuple", .free "list", .free "dict", .free "all", .free "any", .free "min", .free "max", .free "range", .free "enumerate", .free "repr", .free "set", .free "sorted", .free "isinstance", .free "zip", .free "sum", .free "bool", .free "reversed", .free "abs", .free "ord"]
def hex (K : PySem.W.Frag) : Bool := (tupP K "SORTS" [.str "kind", .str "box", .str "tool", .str "hand", .str "set", .str "gauge", .str "work", .str "keep"] && (tupP K "FEWEST" [.int 1, .int 0, .int 0, .int 0, .int 0, .int 0, .int 0, .int 0] && (tupP K "MOST" [.int 6, .int 5, .int 12, .int 5, .int 4, .int 3, .int 8, .int 6] && (tupP K "FITS" [.glo "is_kind", .glo "is_box", .glo "is_tool", .glo "is_hand", .glo "is_set", .glo "is_gauge", .glo "is_work", .glo "is_keep"] && (decide (((["is_kind", "is_box", "is_tool", "is_hand", "is_set", "is_gauge", "is_work", "is_keep"] : List Str).map (ga K)).Nodup) && true)))))
abbrev HR : PySem.W.OpenRow := PySem.W.OpenLaw.row PySem.Challenge.rw_edgeshop_k35_fewest_by_all_runs
def loose : List PySem.Str := (["BadStock", "BadQuestion", "NoSuch", "NoneServes", "KINDS", "BOXES", "TOOLS", "HANDS", "SETS", "GAUGES", "WORKS", "KEEPS", "SORTS", "FEWEST", "MOST", "LAST_SIZE"] : List PySem.Str) ++ (["is_number", "is_size", "is_name", "is_row", "named", "has_box", "set_with", "is_new", "is_kind", "is_box", "is_tool", "is_hand", "is_set", "is_range", "is_gauge", "is_work"] : List PySem.Str) ++ (["is_keep", "FITS", "fits", "is_stock_form", "stock_fault", "need_stock", "need_named", "need_works", "MOST_WORKS", "need_jobs", "are_apart", "runs_to", "plan_of", "many_tools", "fewest", "_law_mixed"] : List PySem.Str) ++ (["_law_draw", "_law_take", "_law_names", "_law_stock", "_law_list", "_law_jobs", "_law_apart", "_law_runs"] : List PySem.Str)
abbrev hk : PySem.W.Hook := He.hookX 4 hfa hfn [] [] hex
def hob (s : PySem.W.SharedT) : He.AlX := He.obsX 4 hfa hfn [] [] hex (HandSHeadRun.getT s)
theorem hob_eq (s : PySem.W.SharedT) : hob s = hk.obs s.abs := He.obsX_eq (HandSHeadRun.getT_eq s)
theorem hrun (w : World) : HandSHeadRun.RunEq HR (PySem.W.view HR.prog [60]) hk hob 4000 loose w :=
  PySem.W.byRow2 "special-get-raises" (P := fun w => HandSHeadRun.RunEq HR (PySem.W.view HR.prog [60]) hk hob 4000 loose w) (fun w os => by kernel_rfl) (fun w os => by kernel_rfl) w
theorem facts {P : Program} {w : World} {K : PySem.W.Frag} {h : Heap} {mg : Str → Option Value} {f : Addr} (X : K.In h) (G : h.Ns mainGlobals mg) (hfa' : mg ("law" : Str) = some (.ref f)) (c : He.SaysX hfa hfn [] [] hex w h K) :
    ∃ fd : FuncData, (∀ (s : Shared) (v : Value), BindsTo s fd ⟨[v], []⟩ [("script", v)]) ∧ ∀ base : Heap, K.In base → base.Ns mainGlobals mg → FnG P w K mg base 10 f fd ["script"] (sp_law K w (tq0 K)) := by
  have d := c.t.d
  have m := c.more
  unfold hex at m
  simp only [Bool.and_eq_true, decide_eq_true_eq] at m
  obtain ⟨m_SORTS, m_FEWEST, m_MOST, m_FITS, n_FITS, _⟩ := m
  have T_U_P : U.P.MC K w := ⟨fun B H => .tup (tupP_ok m_SORTS H) (.cons (.str _) (.cons (.str _) (.cons (.str _) (.cons (.str _) (.cons (.str _) (.cons (.str _) (.cons (.str _) (.cons (.str _) .nil)))))))), fun B H => .tup (tupP_ok m_FEWEST H) (.cons (.int _) (.cons (.int _) (.cons (.int _) (.cons (.int _) (.cons (.int _) (.cons (.int _) (.cons (.int _) (.cons (.int _) .nil)))))))), fun B H => .tup (tupP_ok m_MOST H) (.cons (.int _) (.cons (.int _) (.cons (.int _) (.cons (.int _) (.cons (.int _) (.cons (.int _) (.cons (.int _) (.cons (.int _) .nil)))))))), fun B H => .tup (tupP_ok m_FITS H) (.cons (.fn _) (.cons (.fn _) (.cons (.fn _) (.cons (.fn _) (.cons (.fn _) (.cons (.fn _) (.cons (.fn _) (.cons (.fn _) .nil)))))))), n_FITS⟩
  have g_SORTS : mg "SORTS" = some (.ref (ga K "SORTS")) := He.glo_ok X G (d.fact 39 (f := .glo "SORTS") rfl)
  have g_FEWEST : mg "FEWEST" = some (.ref (ga K "FEWEST")) := He.glo_ok X G (d.fact 40 (f := .glo "FEWEST") rfl)
  have g_MOST : mg "MOST" = some (.ref (ga K "MOST")) := He.glo_ok X G (d.fact 41 (f := .glo "MOST") rfl)
  have g_FITS : mg "FITS" = some (.ref (ga K "FITS")) := He.glo_ok X G (d.fact 42 (f := .glo "FITS") rfl)
  have N : Kn K w mg := ⟨⟨_, g_SORTS, rfl⟩, ⟨_, g_FEWEST, rfl⟩, ⟨_, g_MOST, rfl⟩, ⟨_, g_FITS, rfl⟩, (by obtain ⟨t, e⟩ := He.int_ok X G (d.fact 43 (f := .int "KINDS" 0) rfl); exact ⟨_, e, t, rfl⟩), (by obtain ⟨t, e⟩ := He.int_ok X G (d.fact 44 (f := .int "BOXES" 1) rfl); exact ⟨_, e, t, rfl⟩), (by obtain ⟨t, e⟩ := He.int_ok X G (d.fact 45 (f := .int "TOOLS" 2) rfl); exact ⟨_, e, t, rfl⟩), (by obtain ⟨t, e⟩ := He.int_ok X G (d.fact 46 (f := .int "HANDS" 3) rfl); exact ⟨_, e, t, rfl⟩), (by obtain ⟨t, e⟩ := He.int_ok X G (d.fact 47 (f := .int "SETS" 4) rfl); exact ⟨_, e, t, rfl⟩), (by obtain ⟨t, e⟩ := He.int_ok X G (d.fact 48 (f := .int "GAUGES" 5) rfl); exact ⟨_, e, t, rfl⟩), (by obtain ⟨t, e⟩ := He.int_ok X G (d.fact 49 (f := .int "WORKS" 6) rfl); exact ⟨_, e, t, rfl⟩), (by obtain ⟨t, e⟩ := He.int_ok X G (d.fact 50 (f := .int "KEEPS" 7) rfl); exact ⟨_, e, t, rfl⟩), (by obtain ⟨t, e⟩ := He.int_ok X G (d.fact 51 (f := .int "LAST_SIZE" 99) rfl); exact ⟨_, e, t, rfl⟩), (by obtain ⟨t, e⟩ := He.int_ok X G (d.fact 52 (f := .int "MOST_WORKS" 12) rfl); exact ⟨_, e, t, rfl⟩)⟩
  have B : Bl mg := ⟨He.free_ok X G (d.fact 53 (f := .free "len") rfl), He.free_ok X G (d.fact 54 (f := .free "type") rfl), He.free_ok X G (d.fact 55 (f := .free "int") rfl), He.free_ok X G (d.fact 56 (f := .free "str") rfl), He.free_ok X G (d.fact 57 (f := .free "tuple") rfl), He.free_ok X G (d.fact 58 (f := .free "list") rfl), He.free_ok X G (d.fact 59 (f := .free "dict") rfl), He.free_ok X G (d.fact 60 (f := .free "all") rfl), He.free_ok X G (d.fact 62 (f := .free "min") rfl), He.free_ok X G (d.fact 63 (f := .free "max") rfl), He.free_ok X G (d.fact 64 (f := .free "range") rfl), He.free_ok X G (d.fact 65 (f := .free "enumerate") rfl), He.free_ok X G (d.fact 66 (f := .free "repr") rfl), He.free_ok X G (d.fact 67 (f := .free "set") rfl), He.free_ok X G (d.fact 68 (f := .free "sorted") rfl), He.free_ok X G (d.fact 69 (f := .free "isinstance") rfl), He.free_ok X G (d.fact 61 (f := .free "any") rfl), He.free_ok X G (d.fact 70 (f := .free "zip") rfl), He.free_ok X G (d.fact 71 (f := .free "sum") rfl), He.free_ok X G (d.fact 72 (f := .free "bool") rfl), He.free_ok X G (d.fact 73 (f := .free "reversed") rfl), He.free_ok X G (d.fact 74 (f := .free "abs") rfl), He.free_ok X G (d.fact 75 (f := .free "ord") rfl)⟩
  have F__law_draw : Fn K mg "_law_draw" s__law_draw := by
    obtain ⟨fd, F⟩ := d.def_ 0 (d := dd__law_draw) rfl
    exact ⟨_, fd, F, He.glo_ok X G (d.fact 0 (f := .glo "_law_draw") rfl)⟩
  have F__law_mixed : Fn K mg "_law_mixed" s__law_mixed := by
    obtain ⟨fd, F⟩ := d.def_ 1 (d := dd__law_mixed) rfl
    exact ⟨_, fd, F, He.glo_ok X G (d.fact 1 (f := .glo "_law_mixed") rfl)⟩
  have F__law_take : Fn K mg "_law_take" s__law_take := by
    obtain ⟨fd, F⟩ := d.def_ 2 (d := dd__law_take) rfl
    exact ⟨_, fd, F, He.glo_ok X G (d.fact 2 (f := .glo "_law_take") rfl)⟩
  have F__law_names : Fn K mg "_law_names" s__law_names := by
    obtain ⟨fd, F⟩ := d.def_ 3 (d := dd__law_names) rfl
    exact ⟨_, fd, F, He.glo_ok X G (d.fact 3 (f := .glo "_law_names") rfl)⟩
  have F__law_stock : Fn K mg "_law_stock" s__law_stock := by
    obtain ⟨fd, F⟩ := d.def_ 4 (d := dd__law_stock) rfl
    exact ⟨_, fd, F, He.glo_ok X G (d.fact 4 (f := .glo "_law_stock") rfl)⟩
  have F__law_list : Fn K mg "_law_list" s__law_list := by
    obtain ⟨fd, F⟩ := d.def_ 5 (d := dd__law_list) rfl
    exact ⟨_, fd, F, He.glo_ok X G (d.fact 5 (f := .glo "_law_list") rfl)⟩
  have F_many_tools : Fn K mg "many_tools" s_many_tools := by
    obtain ⟨fd, F⟩ := d.def_ 6 (d := dd_many_tools) rfl
    exact ⟨_, fd, F, He.glo_ok X G (d.fact 6 (f := .glo "many_tools") rfl)⟩
  have F_are_apart : Fn K mg "are_apart" s_are_apart := by
    obtain ⟨fd, F⟩ := d.def_ 7 (d := dd_are_apart) rfl
    exact ⟨_, fd, F, He.glo_ok X G (d.fact 7 (f := .glo "are_apart") rfl)⟩
  have F_runs_to : Fn K mg "runs_to" s_runs_to := by
    obtain ⟨fd, F⟩ := d.def_ 8 (d := dd_runs_to) rfl
    exact ⟨_, fd, F, He.glo_ok X G (d.fact 8 (f := .glo "runs_to") rfl)⟩
  have F_plan_of : Fn K mg "plan_of" s_plan_of := by
    obtain ⟨fd, F⟩ := d.def_ 9 (d := dd_plan_of) rfl
    exact ⟨_, fd, F, He.glo_ok X G (d.fact 9 (f := .glo "plan_of") rfl)⟩
  have F_named : Fn K mg "named" s_named := by
    obtain ⟨fd, F⟩ := d.def_ 10 (d := dd_named) rfl
    exact ⟨_, fd, F, He.glo_ok X G (d.fact 10 (f := .glo "named") rfl)⟩
  have F_need_named : Fn K mg "need_named" s_need_named := by
    obtain ⟨fd, F⟩ := d.def_ 11 (d := dd_need_named) rfl
    exact ⟨_, fd, F, He.glo_ok X G (d.fact 11 (f := .glo "need_named") rfl)⟩
  have F_need_works : Fn K mg "need_works" s_need_works := by
    obtain ⟨fd, F⟩ := d.def_ 12 (d := dd_need_works) rfl
    exact ⟨_, fd, F, He.glo_ok X G (d.fact 12 (f := .glo "need_works") rfl)⟩
  have F_is_row : Fn K mg "is_row" s_is_row := by
    obtain ⟨fd, F⟩ := d.def_ 13 (d := dd_is_row) rfl
    exact ⟨_, fd, F, He.glo_ok X G (d.fact 13 (f := .glo "is_row") rfl)⟩
  have F_is_stock_form : Fn K mg "is_stock_form" s_is_stock_form := by
    obtain ⟨fd, F⟩ := d.def_ 14 (d := dd_is_stock_form) rfl
    exact ⟨_, fd, F, He.glo_ok X G (d.fact 14 (f := .glo "is_stock_form") rfl)⟩
  have F_is_name : Fn K mg "is_name" s_is_name := by
    obtain ⟨fd, F⟩ := d.def_ 15 (d := dd_is_name) rfl
    exact ⟨_, fd, F, He.glo_ok X G (d.fact 15 (f := .glo "is_name") rfl)⟩
  have F_is_new : Fn K mg "is_new" s_is_new := by
    obtain ⟨fd, F⟩ := d.def_ 16 (d := dd_is_new) rfl
    exact ⟨_, fd, F, He.glo_ok X G (d.fact 16 (f := .glo "is_new") rfl)⟩
  have F_is_number : Fn K mg "is_number" s_is_number := by
    obtain ⟨fd, F⟩ := d.def_ 17 (d := dd_is_number) rfl
    exact ⟨_, fd, F, He.glo_ok X G (d.fact 17 (f := .glo "is_number") rfl)⟩
  have F_is_size : Fn K mg "is_size" s_is_size := by
    obtain ⟨fd, F⟩ := d.def_ 18 (d := dd_is_size) rfl
    exact ⟨_, fd, F, He.glo_ok X G (d.fact 18 (f := .glo "is_size") rfl)⟩
  have F_is_kind : Fn K mg "is_kind" s_is_kind := by
    obtain ⟨fd, F⟩ := d.def_ 19 (d := dd_is_kind) rfl
    exact ⟨_, fd, F, He.glo_ok X G (d.fact 19 (f := .glo "is_kind") rfl)⟩
  have F_is_box : Fn K mg "is_box" s_is_box := by
    obtain ⟨fd, F⟩ := d.def_ 20 (d := dd_is_box) rfl
    exact ⟨_, fd, F, He.glo_ok X G (d.fact 20 (f := .glo "is_box") rfl)⟩
  have F_has_box : Fn K mg "has_box" s_has_box := by
    obtain ⟨fd, F⟩ := d.def_ 21 (d := dd_has_box) rfl
    exact ⟨_, fd, F, He.glo_ok X G (d.fact 21 (f := .glo "has_box") rfl)⟩
  have F_is_tool : Fn K mg "is_tool" s_is_tool := by
    obtain ⟨fd, F⟩ := d.def_ 22 (d := dd_is_tool) rfl
    exact ⟨_, fd, F, He.glo_ok X G (d.fact 22 (f := .glo "is_tool") rfl)⟩
  have F_is_hand : Fn K mg "is_hand" s_is_hand := by
    obtain ⟨fd, F⟩ := d.def_ 23 (d := dd_is_hand) rfl
    exact ⟨_, fd, F, He.glo_ok X G (d.fact 23 (f := .glo "is_hand") rfl)⟩
  have F_set_with : Fn K mg "set_with" s_set_with := by
    obtain ⟨fd, F⟩ := d.def_ 24 (d := dd_set_with) rfl
    exact ⟨_, fd, F, He.glo_ok X G (d.fact 24 (f := .glo "set_with") rfl)⟩
  have F_is_set : Fn K mg "is_set" s_is_set := by
    obtain ⟨fd, F⟩ := d.def_ 25 (d := dd_is_set) rfl
    exact ⟨_, fd, F, He.glo_ok X G (d.fact 25 (f := .glo "is_set") rfl)⟩
  have F_is_range : Fn K mg "is_range" s_is_range := by
    obtain ⟨fd, F⟩ := d.def_ 26 (d := dd_is_range) rfl
    exact ⟨_, fd, F, He.glo_ok X G (d.fact 26 (f := .glo "is_range") rfl)⟩
  have F_is_gauge : Fn K mg "is_gauge" s_is_gauge := by
    obtain ⟨fd, F⟩ := d.def_ 27 (d := dd_is_gauge) rfl
    exact ⟨_, fd, F, He.glo_ok X G (d.fact 27 (f := .glo "is_gauge") rfl)⟩
  have F_is_work : Fn K mg "is_work" s_is_work := by
    obtain ⟨fd, F⟩ := d.def_ 28 (d := dd_is_work) rfl
    exact ⟨_, fd, F, He.glo_ok X G (d.fact 28 (f := .glo "is_work") rfl)⟩
  have F_is_keep : Fn K mg "is_keep" s_is_keep := by
    obtain ⟨fd, F⟩ := d.def_ 29 (d := dd_is_keep) rfl
    exact ⟨_, fd, F, He.glo_ok X G (d.fact 29 (f := .glo "is_keep") rfl)⟩
  have F_fits : Fn K mg "fits" s_fits := by
    obtain ⟨fd, F⟩ := d.def_ 30 (d := dd_fits) rfl
    exact ⟨_, fd, F, He.glo_ok X G (d.fact 30 (f := .glo "fits") rfl)⟩
  have F_stock_fault : Fn K mg "stock_fault" s_stock_fault := by
    obtain ⟨fd, F⟩ := d.def_ 31 (d := dd_stock_fault) rfl
    exact ⟨_, fd, F, He.glo_ok X G (d.fact 31 (f := .glo "stock_fault") rfl)⟩
  have F_need_stock : Fn K mg "need_stock" s_need_stock := by
    obtain ⟨fd, F⟩ := d.def_ 32 (d := dd_need_stock) rfl
    exact ⟨_, fd, F, He.glo_ok X G (d.fact 32 (f := .glo "need_stock") rfl)⟩
  have F_need_jobs : Fn K mg "need_jobs" s_need_jobs := by
    obtain ⟨fd, F⟩ := d.def_ 33 (d := dd_need_jobs) rfl
    exact ⟨_, fd, F, He.glo_ok X G (d.fact 33 (f := .glo "need_jobs") rfl)⟩
  have F_fewest : Fn K mg "fewest" s_fewest := by
    obtain ⟨fd, F⟩ := d.def_ 34 (d := dd_fewest) rfl
    exact ⟨_, fd, F, He.glo_ok X G (d.fact 34 (f := .glo "fewest") rfl)⟩
  have F__law_apart : Fn K mg "_law_apart" s__law_apart := by
    obtain ⟨fd, F⟩ := d.def_ 35 (d := dd__law_apart) rfl
    exact ⟨_, fd, F, He.glo_ok X G (d.fact 35 (f := .glo "_law_apart") rfl)⟩
  have F__law_runs : Fn K mg "_law_runs" s__law_runs := by
    obtain ⟨fd, F⟩ := d.def_ 36 (d := dd__law_runs) rfl
    exact ⟨_, fd, F, He.glo_ok X G (d.fact 36 (f := .glo "_law_runs") rfl)⟩
  have F__law_jobs : Fn K mg "_law_jobs" s__law_jobs := by
    obtain ⟨fd, F⟩ := d.def_ 37 (d := dd__law_jobs) rfl
    exact ⟨_, fd, F, He.glo_ok X G (d.fact 37 (f := .glo "_law_jobs") rfl)⟩
  obtain ⟨fd, F⟩ := d.def_ 38 (d := dd_law) rfl
  have e := hfa'.symm.trans (He.glo_ok X G (d.fact 38 (f := .glo "law") rfl))
  cases e
  have b := FunD.bindsA (ps := ["script"]) F fun _ _ _ _ _ _ us hl => match us, hl with | [_], _ => rfl
  refine ⟨fd, fun s v => b s [v] rfl, fun base _ _ => ?_⟩
  have c__law_draw := ok__law_draw (P := P) (base := base) F__law_draw B N  (fun _ _ _ _ z => U.A35.rd__law_draw z)
  have c__law_mixed := ok__law_mixed (P := P) (base := base) F__law_mixed B N  (fun _ _ _ _ z => U.A35.rd__law_mixed z)
  have c__law_take := ok__law_take (P := P) (base := base) F__law_take B N c__law_mixed (fun _ _ _ _ z => U.A35.rd__law_take z)
  have c__law_names := ok__law_names (P := P) (base := base) F__law_names B N c__law_take (fun _ _ _ _ z => U.A35.rd__law_names z)
  have c__law_stock := ok__law_stock (P := P) (base := base) F__law_stock B N c__law_names c__law_take (fun _ _ _ _ z => U.A35.rd__law_stock z)
  have c__law_list := ok__law_list (P := P) (base := base) F__law_list B N c__law_take (fun _ _ _ _ z => U.A35.rd__law_list z)
  have c_many_tools := ok_many_tools (P := P) (base := base) F_many_tools B N  (fun _ _ _ _ z => U.P.rd_many_tools z)
  have c_are_apart := ok_are_apart (P := P) (base := base) F_are_apart B N  (fun _ _ _ _ z => U.P.rd_are_apart z)
  have c_runs_to := ok_runs_to (P := P) (base := base) F_runs_to B N c_are_apart (fun _ _ _ _ z => U.P.rd_runs_to z)
  have c_plan_of := ok_plan_of (P := P) (base := base) F_plan_of B N c_runs_to (fun _ _ _ _ z => U.P.rd_plan_of z)
  have c_named := ok_named (P := P) (base := base) F_named B N  (fun _ _ _ _ z => U.P.rd_named z)
  have c_need_named := ok_need_named (P := P) (base := base) F_need_named B N c_named (fun _ _ _ _ z => U.P.rd_need_named z)
  have c_need_works := ok_need_works (P := P) (base := base) F_need_works B N c_need_named (fun _ _ _ _ z => U.P.rd_need_works z)
  have c_is_row := ok_is_row (P := P) (base := base) F_is_row B N  (fun _ _ _ _ z => U.P.rd_is_row z)
  have c_is_stock_form := ok_is_stock_form (P := P) (base := base) F_is_stock_form B N c_is_row (fun _ _ _ _ z => U.P.rd_is_stock_form T_U_P z)
  have c_is_name := ok_is_name (P := P) (base := base) F_is_name B N  (fun _ _ _ _ z => U.P.rd_is_name z)
  have c_is_new := ok_is_new (P := P) (base := base) F_is_new B N c_is_name c_named (fun _ _ _ _ z => U.P.rd_is_new z)
  have c_is_number := ok_is_number (P := P) (base := base) F_is_number B N  (fun _ _ _ _ z => U.P.rd_is_number z)
  have c_is_size := ok_is_size (P := P) (base := base) F_is_size B N c_is_number (fun _ _ _ _ z => U.P.rd_is_size z)
  have c_is_kind := ok_is_kind (P := P) (base := base) F_is_kind B N c_is_row c_is_new c_is_size (fun _ _ _ _ z => U.P.rd_is_kind z)
  have c_is_box := ok_is_box (P := P) (base := base) F_is_box B N c_is_name (fun _ _ _ _ z => U.P.rd_is_box z)
  have c_has_box := ok_has_box (P := P) (base := base) F_has_box B N  (fun _ _ _ _ z => U.P.rd_has_box z)
  have c_is_tool := ok_is_tool (P := P) (base := base) F_is_tool B N c_is_row c_is_new c_named c_is_size c_has_box (fun _ _ _ _ z => U.P.rd_is_tool z)
  have c_is_hand := ok_is_hand (P := P) (base := base) F_is_hand B N c_is_row c_is_new c_is_name (fun _ _ _ _ z => U.P.rd_is_hand z)
  have c_set_with := ok_set_with (P := P) (base := base) F_set_with B N  (fun _ _ _ _ z => U.P.rd_set_with z)
  have c_is_set := ok_is_set (P := P) (base := base) F_is_set B N c_is_row c_is_new c_named c_set_with (fun _ _ _ _ z => U.P.rd_is_set z)
  have c_is_range := ok_is_range (P := P) (base := base) F_is_range B N c_is_row c_is_new c_named c_is_size (fun _ _ _ _ z => U.P.rd_is_range z)
  have c_is_gauge := ok_is_gauge (P := P) (base := base) F_is_gauge B N c_is_range (fun _ _ _ _ z => U.P.rd_is_gauge z)
  have c_is_work := ok_is_work (P := P) (base := base) F_is_work B N c_is_range (fun _ _ _ _ z => U.P.rd_is_work z)
  have c_is_keep := ok_is_keep (P := P) (base := base) F_is_keep B N c_is_row c_named (fun _ _ _ _ z => U.P.rd_is_keep z)
  have hA : ∀ f sp, fnS K (fnSp K w (tq0 K) U.P.L_FITS) f = some sp → Held P w K mg base 4 f sp := fnS_held (L := U.P.L_FITS) (by
    intro p hp
    simp only [U.P.L_FITS, List.mem_cons, List.not_mem_nil, or_false] at hp
    rcases hp with rfl | rfl | rfl | rfl | rfl | rfl | rfl | rfl
    · exact held_of c_is_kind (He.glo_ok X G (d.fact 19 (f := .glo "is_kind") rfl)) (by decide)
    · exact held_of c_is_box (He.glo_ok X G (d.fact 20 (f := .glo "is_box") rfl)) (by decide)
    · exact held_of c_is_tool (He.glo_ok X G (d.fact 22 (f := .glo "is_tool") rfl)) (by decide)
    · exact held_of c_is_hand (He.glo_ok X G (d.fact 23 (f := .glo "is_hand") rfl)) (by decide)
    · exact held_of c_is_set (He.glo_ok X G (d.fact 25 (f := .glo "is_set") rfl)) (by decide)
    · exact held_of c_is_gauge (He.glo_ok X G (d.fact 27 (f := .glo "is_gauge") rfl)) (by decide)
    · exact held_of c_is_work (He.glo_ok X G (d.fact 28 (f := .glo "is_work") rfl)) (by decide)
    · exact held_of c_is_keep (He.glo_ok X G (d.fact 29 (f := .glo "is_keep") rfl)) (by decide)
    )
  have c_fits := ok_fits (P := P) (base := base) F_fits B N  hA (fun _ _ _ _ z => U.P.rd_fits T_U_P z)
  have c_stock_fault := ok_stock_fault (P := P) (base := base) F_stock_fault B N c_is_stock_form c_fits (fun _ _ _ _ z => U.P.rd_stock_fault T_U_P z)
  have c_need_stock := ok_need_stock (P := P) (base := base) F_need_stock B N c_stock_fault (fun _ _ _ _ z => U.P.rd_need_stock z)
  have c_need_jobs := ok_need_jobs (P := P) (base := base) F_need_jobs B N c_need_stock c_need_works c_named (fun _ _ _ _ z => U.P.rd_need_jobs z)
  have c_fewest := ok_fewest (P := P) (base := base) F_fewest B N c_need_jobs c_plan_of c_many_tools (fun _ _ _ _ z => U.P.rd_fewest z)
  have c__law_apart := ok__law_apart (P := P) (base := base) F__law_apart B N  (fun _ _ _ _ z => U.A35.rd__law_apart z)
  have c__law_runs := ok__law_runs (P := P) (base := base) F__law_runs B N c__law_apart (fun _ _ _ _ z => U.A35.rd__law_runs z)
  have c__law_jobs := ok__law_jobs (P := P) (base := base) F__law_jobs B N  (fun _ _ _ _ z => U.A35.rd__law_jobs z)
  exact FnG.of (ok_law (P := P) (base := base) F B N c__law_draw c__law_take c__law_stock c__law_list c__law_jobs c__law_runs c_fewest (fun _ _ _ _ z => rd_law z))
end U.A35
open PySem PySem.W PySem.Calls PyProof.Rows
theorem PySem.Challenge.cw_edgeshop_k35_fewest_by_all_runs_holds : PySem.Challenge.rw_edgeshop_k35_fewest_by_all_runs.Holds := by
  w_on; o_law
  refine HandSHeadRun.head_any (r := OpenLaw.row PySem.Challenge.rw_edgeshop_k35_fewest_by_all_runs) (q := view (OpenLaw.row PySem.Challenge.rw_edgeshop_k35_fewest_by_all_runs).prog [60]) (H := U.A35.hk) (ob := U.A35.hob) (M := 4000) (loose := U.A35.loose) (d := HandSHeadRun.topDef (OpenLaw.row PySem.Challenge.rw_edgeshop_k35_fewest_by_all_runs).prog 60) (kwd := []) U.A35.hob_eq
    (by kernel_rfl) (fun s => by kernel_rfl) U.A35.hrun (by kernel_rfl) (by kernel_rfl) (by kernel_rfl) (by rfl) (by first | assumption | decide +kernel) (by decide +kernel) ⟨rfl, rfl, rfl, rfl, rfl, by decide +kernel⟩ ?hw ?hc
  case hw => w_witness2
  case hc =>
    refine U.walk_ofG (l := PySem.Challenge.rw_edgeshop_k35_fewest_by_all_runs) (n := 63) (k := 10) (x := "script") rfl (by decide) (by kernel_rfl) ⟨rfl, by decide, by decide⟩ ?F
    intro w mg fa h Y G hmg0
    obtain ⟨K, KX, c⟩ := Y
    have hmg : mg ("law" : PySem.Str) = some (.ref fa) := by
      have e : (HandSHeadRun.topDef (OpenLaw.row PySem.Challenge.rw_edgeshop_k35_fewest_by_all_runs).prog 60).name = ("law" : PySem.Str) := by kernel_rfl
      rw [← e]
      exact hmg0
    obtain ⟨fd, hb, hF⟩ := U.A35.facts (P := (PySem.Challenge.rw_edgeshop_k35_fewest_by_all_runs).prog) (w := w) KX G hmg c
    exact ⟨K, fd, U.A35.sp_law K w (U.A35.tq0 K), KX, hb, fun M a ns hl _ hS => _root_.M.law_end (U.A35.law_true ns hl) hS, hF⟩
