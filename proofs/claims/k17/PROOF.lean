import PyProof.Rows.All
import Wide.All
import OpenK.AllK
import Wide.FinOn
import HandS.ForExc
import HandS.ExcInit
import HandS.ExcValue
import KE.KExcInit
import KE.KExcIs
import HandS.ForMost
import HandS.HeadHook2
import HandS.HeadEnd
import HandS.Defaults
import HandS.OwnEq
import HandS.Head0
import HandS.Head1
import HandS.Head2
import HandS.TryMany
import OpenK.KOps
import OpenK.KWalk
import OpenK.KMake
import PyProof.InstEq
import HandS.IsInst
import KE.KCallOwn
import HandS.FStr
import PyProof.EnumMake
import PyProof.EnumStmt
import PyProof.TupleIter
import HandS.Base
import HandS.Call
import HandS.Iter
import HandS.Walk
import HandS.Flow
import HandS.TupAny
import HandS.TupMul
import HandS.Star
import HandS.Property
import HandS.ClsMeth
import HandS.HeadHook3
import HandS.WideBits
import HandS.StrMore
import HandS.List
import KE.KOpsOwn
import HandS.DeepEq
import HandS.RaiseMore
import PyProof.ReprText
import PyProof.StrLaws
import HandS.GenCall
import HandS.GenList
import HandS.Conv
import HandS.NoneIn
import PySem.Challenge.RW_belowneeds_k17_whole_lazy_choices
set_option Elab.async false
set_option linter.all false
set_option maxRecDepth 100000
set_option maxHeartbeats 0
/-! Own exception classes over ValueError, LookupError, RuntimeError or ArithmeticError whose __init__ stores fields: how one is made (by place, by keyword), raised, read, asked for its class. -/
namespace PySem.Xk
open PySem.HandSPX Builtin Builtin.ObjectAttr
/-- the class object at C: over the chain bmB, made by newId -/
structure At (h : Heap) (C : Addr) (newId : String) (bmB : List Value) where
  (n m : Str) (ns : Addr) (bs up : List Value) (dct : Bool) (sl : List Str) (sb : List Value) (ab : Bool) (cl : Option Bool) (dl : Option Addr) (x0 x1 x2 x3 x5 : Option Value)
  obj : h.get? C = some (excClassObj n m C ns bs up dct sl sb ab cl dl x0 x1 x2 x3 x5 newId)
  tail : ∀ X : String, up.contains (.type X) = bmB.contains (.type X)
/-- the heap behind the making: the arguments' tuple, the instance -/
abbrev made (h : Heap) (C : Addr) (us : List Value) : Heap := (h.push (W.kdv_tup us)).push (excO C h.objs.size)
theorem made_old {h : Heap} {C : Addr} {us : List Value} (b : Addr) (o : Obj) (e : h.get? b = some o) : (made h C us).get? b = some o := Heap.get?_push_of_some _ (Heap.get?_push_of_some _ e)
theorem made_new {h : Heap} {C : Addr} {us : List Value} : (made h C us).get? (h.objs.size + 1) = some (excO C h.objs.size) := by heap_get
section
variable {B newId initId : String} {bmB us : List Value} {kw : List (Str × Value)} {C f : Addr} {h : Heap} {gs : Array GenState} {dr : Drawn} {n : Nat} {os : OsState} {P : Program} {w : World} {A : Around} {Z : Value → Shared → Prop} {R : Result → Shared → Prop}
theorem At.known (c : At h C newId bmB) {X : String} {b : Bool} (e : bmB.contains (.type X) = b) : (Value.ref C :: c.up).contains (.type X) = b := by
  rw [List.contains_cons, c.tail, e]
  rfl
/-- newId may be called on C -/
theorem mayMake {M : Model} {Q : Unit → Shared → Prop} (F : ExcBaseFacts B newId initId bmB) (c : At h C newId bmB) (q : Q () ⟨h, gs, dr, n, os⟩) : wpAny M A (checkBuiltinCall newId ⟨.ref C :: us, kw⟩) Q Z ⟨h, gs, dr, n, os⟩ := by
  have o := c.obj
  have isB := c.known F.hasB
  have star := F.noStar
  simp only [checkBuiltinCall, F.newRow, F.newKind, F.newSplit]
  repeat first
    | refine wpAny_loadPart_at o ?_
    | refine wpAny_isSubtype_exc o ?_; rw [isB]
    | refine wpAny_staticBase_exc o ?_
    | refine wpAny_madeBy_exc o ?_
    | simp only [if_false, bne_self_eq_false, Bool.false_eq_true]
    | wp_step
  exact q
/-- what newId makes; keywords are let be -/
theorem make (F : ExcBaseFacts B newId initId bmB) (c : At h C newId bmB) (z : us.length ≤ sizeLine) (q : R (.ok (.ret (.ref (h.objs.size + 1)))) ⟨made h C us, gs, dr, n, os⟩) :
    codeAny (model P w) A (.builtin newId ⟨.ref C :: us, kw⟩) R ⟨h, gs, dr, n, os⟩ := by
  have ends := F.ends
  have o := c.obj
  have isB := c.known F.hasB
  have notA := c.known F.noAttr
  have notN := c.known F.noName
  refine codeAny_builtinAt F.entry ?_
  unfold Builtin.«BaseException.__new__»
  refine wpAt_bind (show wpAt _ _ _ (stack >>= _) _ _ _ from wpAt_bind (wpAt_stack fun _ _ => wpAt_of_wpAny ?_))
  wp_walk
  refine wpAt_of_wpAny ?_
  rw [F.owner]
  repeat first
    | with_reducible refine wpAny_madeHere_exc F.canon o ?_
    | with_reducible refine wpAny_loadPart_at o ?_
    | with_reducible refine wpAny_isSubtype_exc o ?_; first | rw [isB] | rw [notA] | rw [notN]
    | wp_step
  show R _ _
  rw [Heap.size_push]
  exact q
/-- type.__call__ on C: made, then its __init__ at f -/
theorem byType {Q : Fin → Shared → Prop} (F : ExcBaseFacts B newId initId bmB) (c : At h C newId bmB) (i : W.Looks (model P w) h (typeLookup (.ref C) "__init__") (some (.ref f))) (m : ∀ x, W.Looks (model P w) h (bindSpecial (.ref f) x) (.ref f, [x])) (z : us.length ≤ sizeLine)
    (q : codeAny (model P w) A (.call (.ref f) ⟨.ref (h.objs.size + 1) :: us, kw⟩) (fun r s => match r with | .ok (.ret v) => v = .none ∧ Q (.done (.ret (.ref (h.objs.size + 1)))) s | .ok _ => False | .error e => Z e s) ⟨made h C us, gs, dr, n, os⟩) :
    wpAny (model P w) A (Builtin.«type.__call__» ⟨.ref C :: us, kw⟩) Q Z ⟨h, gs, dr, n, os⟩ := by
  have o := c.obj
  repeat first
    | with_reducible refine wpAny_loadPart_at o ?_
    | with_reducible refine wpAny_madeBy_exc o ?_
    | wp_step
  refine codeAny_call_builtin_code (Code.quiet_builtin _ F.quiet) (mayMake F c (make F c z ?_))
  show wpAny _ _ _ _ _ _
  have o' := made_old (us := us) (C := C) _ _ o
  have own : (Value.ref C :: c.up).contains (.ref C) = true := by simp
  have i' := i.keeps (made_old (us := us) (C := C))
  have m' := (m (.ref (h.objs.size + 1))).keeps (made_old (us := us) (C := C))
  unfold isInstance
  repeat first
    | with_reducible refine wpAny_loadPart_at made_new ?_
    | with_reducible refine wpAny_isSubtype_exc o' ?_; rw [own]
    | wp_step
  refine (show wpAny _ _ (typeLookup (.ref C) _) _ _ _ from i'.at (wpAny_holding (wpAny_bind (m'.at (wpAny_bind (wpAny_call (codeAny_mono q fun r s y => ?_)))))))
  match r, y with
  | .error _, y => exact y
  | .ok (.ret _), ⟨rfl, y⟩ =>
    first
      | exact wpAny_pure (wpAny_pure y)
      | wp_walk; exact y
/-- C called, with keywords or without -/
theorem called (F : ExcBaseFacts B newId initId bmB) (c : At h C newId bmB) (i : W.Looks (model P w) h (typeLookup (.ref C) "__init__") (some (.ref f))) (m : ∀ x, W.Looks (model P w) h (bindSpecial (.ref f) x) (.ref f, [x])) (z : us.length ≤ sizeLine)
    (q : codeAny (model P w) (A.under (.builtin "type.__call__" ⟨.ref C :: us, kw⟩)) (.call (.ref f) ⟨.ref (h.objs.size + 1) :: us, kw⟩) (W.InitBack (h.objs.size + 1) R) ⟨made h C us, gs, dr, n, os⟩) :
    codeAny (model P w) A (.call (.ref C) ⟨us, kw⟩) R ⟨h, gs, dr, n, os⟩ := by
  have o := c.obj
  have l := tc_lookup
  have b := tc_bind (.ref C)
  have ty : Shared.TypeIs ⟨h, gs, dr, n, os⟩ (.ref C) "type" := ⟨_, o, rfl⟩
  refine codeAny_of_tree (show wpAny _ _ (callAny (.ref C) _) _ _ _ from ?_)
  repeat any_goals first
    | assumption
    | with_reducible refine wpAny_loadPart_at o ?_
    | wp_step
  refine ⟨rfl, codeAny_call_builtin_at (Code.quiet_builtin _ (by decide +kernel)) entry_typeCall ?_⟩
  have may : ∀ {Q : Unit → Shared → Prop} {G : Around} {Y : Value → Shared → Prop}, Q () ⟨h, gs, dr, n, os⟩ → wpAny (model P w) G (checkBuiltinCall "type.__call__" ⟨.ref C :: us, kw⟩) Q Y ⟨h, gs, dr, n, os⟩ := fun {Q G Y} y => by
    have sub := tc_sub
    simp only [checkBuiltinCall, tc_split, tc_kind]
    repeat any_goals first
      | assumption
      | with_reducible refine wpAny_loadPart_at o ?_
      | with_reducible refine wpAny_onRaise ?_
      | with_reducible refine wpAny_map ?_
      | wp_step
  refine may (byType F c i m z (codeAny_mono q fun r s y => ?_))
  match r, y with
  | .error _, y => exact y
  | .ok (.ret _), y => exact y
end
end PySem.Xk

namespace PySem.Xk
open PySem.W PySem.Calls PyProof.Rows PySem.HandSPX Builtin Builtin.ObjectAttr
section
variable {P : Program} {w : World} {A : Around} {R : Result → Shared → Prop} {h : Heap} {gs : Array GenState} {dr : Drawn} {n : Nat} {os : OsState} {B : String} {bmB : List Value} {K : W.Frag} {f : Str} {k : Tok} {v : Value} {x C d : Addr} {fv : Array Value}
/-- what a store into the own dict comes back with -/
abbrev Back (P : Program) (w : World) (A : Around) (R : Result → Shared → Prop) : Fin → Shared → Prop := fun fin s' => match fin with
  | .done r => R (.ok r) s'
  | .again c => c.quiet = true ∧ codeAny (model P w) A c R s'
/-- object.__setattr__ on an instance comes to its own dict -/
theorem toOwn {ox : Obj} {od : Option Obj} (S : StoreFacts B bmB "object.__setattr__" "object") (X : K.In h) (I : InstAt h x ox C od) (over : excOver K C bmB = true) (dct : hasDictIn K C = true) (no : W.findIn K (.ref C) f = some none)
    (q : ∀ cd : ClassData, cd.hasDict = true → W.Looks (model P w) h (classData C) cd → ∀ b : Bool, wpAny (model P w) A.in1 (storeInOwnDict (.ref x) (.ref C) (.str f k) f v b) (Back P w A R) (fun e s => R (.error e) s) ⟨h, gs, dr, n, os⟩) :
    codeAny (model P w) A (.call (.builtin "object.__setattr__") ⟨[.ref x, .str f k, v], []⟩) R ⟨h, gs, dr, n, os⟩ := by
  obtain ⟨cd, e, dct⟩ := any_some dct
  exact osa_openX S X I over (L2.NoAttr.taker no) fun b => q cd dct (W.looks_clsIn X e) b
/-- the first field: a dict is made for it -/
theorem putFirst (S : StoreFacts B bmB "object.__setattr__" "object") (X : K.In h) (ex : h.get? x = some { cls := .ref C, data := .fields fv }) (over : excOver K C bmB = true) (dct : hasDictIn K C = true) (no : W.findIn K (.ref C) f = some none)
    (q : ∀ (G : Heap) (m : Nat) (d : Addr), h.objs.size ≤ d → d ≠ x → (∀ b o, b ≠ x → h.get? b = some o → G.get? b = some o) → G.get? x = some { cls := .ref C, dict := some d, data := .fields fv } → G.Ns1 d (fun y => if y = f then some v else none) → R (.ok (.ret .none)) ⟨G, gs, dr, m, os⟩) :
    codeAny (model P w) A (.call (.builtin "object.__setattr__") ⟨[.ref x, .str f k, v], []⟩) R ⟨h, gs, dr, n, os⟩ := by
  have lt := Heap.lt_size ex
  refine toOwn S X (od := none) ⟨ex, rfl, rfl, trivial⟩ over dct no fun cd dc lk b => ?_
  obtain ⟨_, _, _, _, _, _, _, _, _, _, _⟩ := cd
  obtain rfl : _ = true := dc
  unfold storeInOwnDict ownDictForStores
  repeat first
    | with_reducible refine store_in_new ?_ ?_
    | with_reducible refine wpAny_loadPart_at ex ?_
    | with_reducible refine lk.at ?_
    | wp_step
  · refine ⟨_, #[], _, (Heap.get?_update_ne _ _ _ _ (Nat.ne_of_gt lt)).trans (Heap.get?_push_at rfl rfl), rfl, fun e he => ?_, fun _ => rfl⟩
    simp at he
  · intro G m ns st
    refine q G m _ (Nat.le_refl _) (Nat.ne_of_gt lt) (fun b o hb e => ?_) ?_ ns
    · rw [st.2 b (Nat.ne_of_lt (Heap.lt_size e)), Heap.get?_update_ne _ _ _ _ hb]
      exact Heap.get?_push_of_some _ e
    · rw [st.2 x (Nat.ne_of_lt lt)]
      exact Heap.get?_update_self _ (Heap.get?_push_of_some _ ex) rfl
/-- a further field -/
theorem putMore {m0 : Str → Option Value} {nl : List Str} (S : StoreFacts B bmB "object.__setattr__" "object") (X : K.In h) (ex : h.get? x = some { cls := .ref C, dict := some d, data := .fields fv }) (ns : h.Ns1 d m0) (wi : Within m0 nl) (z : nl.length ≤ 1000)
    (over : excOver K C bmB = true) (dct : hasDictIn K C = true) (no : W.findIn K (.ref C) f = some none)
    (q : ∀ (G : Heap) (m : Nat), (∀ b o, b ≠ d → h.get? b = some o → G.get? b = some o) → G.Ns1 d (fun y => if y = f then some v else m0 y) → R (.ok (.ret .none)) ⟨G, gs, dr, m, os⟩) :
    codeAny (model P w) A (.call (.builtin "object.__setattr__") ⟨[.ref x, .str f k, v], []⟩) R ⟨h, gs, dr, n, os⟩ := by
  obtain ⟨od, _, _, e, _, _⟩ := ns.count wi
  refine toOwn S X (od := some od) ⟨ex, rfl, rfl, e⟩ over dct no fun cd dc lk b => ?_
  obtain ⟨_, _, _, _, _, _, _, _, _, _, _⟩ := cd
  obtain rfl : _ = true := dc
  unfold storeInOwnDict ownDictForStores
  repeat first
    | with_reducible refine OEX.store_in_old ns wi z ?_
    | with_reducible refine wpAny_loadPart_at ex ?_
    | with_reducible refine lk.at ?_
    | wp_step
  exact fun G m ns' st => q G m (fun b o hb e => by rw [st.2 b hb]; exact e) ns'
end
end PySem.Xk
namespace L2
open PySem PySem.Spec PyProof.Rows
/-- a class of the text over one of the built-in errors, as the written part tells it -/
structure XC (K : PySem.W.Frag) (C : Addr) : Prop where
  ex : ∃ B newId initId bmB, ExcBaseFacts B newId initId bmB ∧ StoreFacts B bmB "object.__setattr__" "object" ∧ PySem.W.excInitIn K C bmB newId = true ∧ PySem.W.excOver K C bmB = true
  (hd : PySem.W.hasDictIn K C = true) (sa : PySem.W.findIn K (.ref C) "__setattr__" = some (some (.builtin "object.__setattr__"))) (ga : PySem.W.findIn K (.ref C) "__getattribute__" = some (some (.builtin "BaseException.__getattribute__")))
  (gg : PySem.W.findIn K (.ref C) "__getattr__" = some none) (exC : PySem.W.subIn K (.ref C) (.type "BaseException") = some true) (tyC : PySem.W.typeIn K (.ref C) = some (.type "type")) (kC : PySem.W.keepIn K (.ref C) = true)
  (ha : PySem.W.findIn K (.ref C) "__class__" = some (some (.builtin "object.__class__"))) (hn : PySem.W.specialIn K (.builtin "object.__class__") "__get__" = some (some (.builtin "getset_descriptor.__get__")))
  (ht : PySem.W.takesIn K (.builtin "object.__class__") = some true) (hm : PySem.W.mroIn K C (.type "object") = some true)
section
variable {X : Cx} {pins : List (Addr × Obj)} {σ : St} {H : Hp} {s : Shared} {a C d : Addr} {f : Str} {y : V} {u : Value} {fs : List (Str × V)} {Q : Unit → Shared → Prop} {E : Value → Shared → Prop} {A : Around}
/-- no other object at d's and a's places -/
theorem two_ne {c : Addr} {o r : HO} (e : H a = some r) (n : H d = none) (ec : H c = some o) (dif : o ≠ r) : c ≠ a ∧ c ≠ d := by
  refine ⟨fun z => ?_, fun z => ?_⟩
  · rw [z, e] at ec
    exact dif (Option.some.inj ec).symm
  · rw [z, n] at ec
    cases ec
theorem two_at {c : Addr} {o g : HO} (q : c ≠ a ∧ c ≠ d) : upd (upd H d g) a o c = H c := by rw [upd_ne q.1, upd_ne q.2]
/-- the first field of an error -/
theorem field1 (T : XC X.K C) (I : Inv X pins σ H s) (e : H a = some (exo a C none)) (no : PySem.W.findIn X.K (.ref C) f = some none) (ry : RelV y u)
    (q : ∀ d s', H d = none → d ≠ a → Inv X pins σ (upd (upd H d (exd d [(f, y)])) a (exo a C (some d))) s' → Q () s') : wpAny (model X.prog X.w) A (setAttr (.ref a) f u) Q E s := by
  obtain ⟨_, _, _, _, _, SF, _, over⟩ := T.ex
  obtain ⟨t, at_⟩ := exo_at I.hok e
  obtain ⟨h, gs, dr, n, os⟩ := s
  refine PySem.W.set_plain I.kIn (od := none) ⟨at_, rfl, rfl, trivial⟩ T.sa (PySem.Xk.putFirst SF I.kIn at_ over T.hd no fun G m d dn da k hx hn => ?_)
  have fd : H d = none := I.hok.fresh dn
  have far : ∀ {b : Addr}, H b = none → b ≠ a := fun {b} z w => by
    rw [w, e] at z
    cases z
  have other : ∀ {b : Addr} {o : HO}, H b = some o → o ≠ exo a C none → upd (upd H d (exd d [(f, y)])) a (exo a C (some d)) b = some o := fun {b o} z dif => (two_at (two_ne e fd z dif)).trans z
  have tupN : ∀ xs, HO.tup xs ≠ exo a C none := fun _ z => by cases z
  have frzN : ∀ o v, HO.frz o v ≠ exo a C none := fun _ _ z => by cases z
  have ownN : ∀ b, HO.own b ≠ exo a C none := fun _ z => by cases z
  have tblN : ∀ ps, HO.tbl ps ≠ exo a C none := fun _ z => by cases z
  have apart : ∀ {b : Addr} {o : Obj}, h.get? b = some o → b ≠ d := fun {b o} z w => Nat.lt_irrefl _ (Nat.lt_of_lt_of_le (Heap.lt_size (w ▸ z)) dn)
  have un : Un X.fs [] H (upd (upd H d (exd d [(f, y)])) a (exo a C (some d))) h G :=
    ⟨fun b o z w _ _ => k b o (far w) z, fun b o z w _ _ => ⟨_, k b o (far w) z⟩, fun b o z w _ => (two_at ⟨far w, apart z⟩).trans w, fun b o z _ => (Decidable.em (b = a)).elim (fun w => ⟨_, w ▸ hx⟩) fun w => ⟨o, k b o w z⟩,
      fun b xs z => other z (tupN xs), fun b o v z => other z (frzN o v), fun b ps z => ⟨#[], by rw [other z (tblN ps)]; simp⟩⟩
  refine q d _ fd da (I.un (t' := m) un fun b o z => ?_)
  rcases Decidable.em (b = a) with rfl | ba
  · obtain rfl := Option.some.inj (upd_same.symm.trans z)
    exact exo_ok hx
  rcases Decidable.em (b = d) with rfl | bd
  · obtain rfl := Option.some.inj ((upd_ne ba).trans upd_same |>.symm.trans z)
    exact exd_ok hn (relO_put (fs := []) ry fun _ => trivial)
  rw [two_at ⟨ba, bd⟩] at z
  refine (I.hok b o z).stay (fun c v hc w => k c v ?_ w) (fun c w => other w (ownN b)) fun c xs w => other w (tupN xs)
  rcases hc with rfl | hc
  · exact ba
  · exact (two_ne e fd hc (ownN b)).1
/-- a further field of an error -/
theorem field2 (T : XC X.K C) (I : Inv X pins σ H s) (e : H a = some (exo a C (some d))) (ed : H d = some (exd d fs)) (few : fs.length ≤ 900) (no : PySem.W.findIn X.K (.ref C) f = some none) (ry : RelV y u)
    (q : ∀ s', Inv X pins σ (upd H d (exd d ((f, y) :: fs))) s' → Q () s') : wpAny (model X.prog X.w) A (setAttr (.ref a) f u) Q E s := by
  obtain ⟨_, _, _, _, _, SF, _, over⟩ := T.ex
  obtain ⟨t, at_⟩ := exo_at I.hok e
  obtain ⟨m0, ns, rel⟩ := exd_at I.hok ed
  obtain ⟨h, gs, dr, n, os⟩ := s
  obtain ⟨od, _, _, eo, _, _⟩ := ns.count (within_of rel)
  refine PySem.W.set_plain I.kIn (od := some od) ⟨at_, rfl, rfl, eo⟩ T.sa (PySem.Xk.putMore SF I.kIn at_ ns (within_of rel) (by simp only [List.length_map]; omega) over T.hd no fun G m k ns' => q _ ?_)
  refine I.write (t' := m) (x := d) (e := d) (o := exd d ((f, y) :: fs)) (by rw [ed]; trivial) (.inl rfl) k ?_ (exd_ok ns' (relO_put ry rel))
  obtain ⟨o, _, _, w, _⟩ := ns'
  exact ⟨o, w⟩
end
/-- self.f = e of an error: what is stored, then where -/
def tOstX (K : PySem.W.Frag) (f : Str) (to te : TE) : TS := fun D σ H => te σ H fun y H1 => to σ H1 fun x H2 => ∃ a C : Addr, x = .ref a ∧ XC K C ∧ PySem.W.findIn K (.ref C) f = some none ∧
  ((H2 a = some (exo a C none) ∧ ∀ d, H2 d = none → d ≠ a → D.nx σ (upd (upd H2 d (exd d [(f, y)])) a (exo a C (some d)))) ∨
    ∃ (d : Addr) (fs : List (Str × V)), H2 a = some (exo a C (some d)) ∧ H2 d = some (exd d fs) ∧ fs.length ≤ 900 ∧ D.nx σ (upd H2 d (exd d ((f, y) :: fs))))
theorem ps_ostX {X : Cx} {o e : Expr} {to te : TE} {f : Str} {p' pos : Pos} (ho : PE X o to) (he : PE X e te) (hs : swapsWith e (some (.Attribute o f p')) pos.line X.env = pure false := by rfl) : PS X (.Assign [.Attribute o f p'] e pos) (tOstX X.K f to te) :=
  ⟨fun pins s σ H D I h => plainObj_wpAny_Assign_Attribute (thn (he.run pins s σ H _ I h) fun v s1 ⟨y, H1, I1, r1, q1⟩ => thn (ho.run pins s1 σ H1 _ I1 q1) fun u s2 ⟨x, H2, I2, r2, a, C, ex, T, no, w⟩ => by
    subst ex
    obtain rfl : u = Value.ref a := r2
    exact w.elim (fun ⟨e1, q⟩ => field1 T I2 e1 no r1 fun d s' n ne J => ⟨σ, _, J, q d n ne⟩) fun ⟨d, fs, e1, e2, few, q⟩ => field2 T I2 e1 e2 few no r1 fun s' J => ⟨σ, _, J, q⟩) hs⟩
end L2

namespace L2
open PySem PySem.Spec PyProof.Rows
/-- C(e, ..): the instance, then __init__ keeping sp -/
def tMkX (C : Addr) (sp : Sp) (ta : TA) : TE := fun σ H Q => ta σ H fun vs H1 => vs.length ≤ 1000 ∧ ∀ a, H1 a = none → sp (.ref a :: vs) (upd H1 a (exo a C none)) (fun v H2 => v = .non ∧ Q (.ref a) H2) E0
/-- C(k = e, ..): by n keywords alone; gV puts the values into the sequence of the parameters -/
def tMkXK (C : Addr) (n : Nat) (sp : Sp) (gV : List V → List V) (tk : TA) : TE := fun σ H Q => tk σ H fun zs H1 => zs.length = n ∧ ∀ a, H1 a = none → sp (.ref a :: gV zs) (upd H1 a (exo a C none)) (fun v H2 => v = .non ∧ Q (.ref a) H2) E0
/-- C(), no __init__ -/
def tMk0 (C : Addr) : TE := fun _ H Q => ∀ a, H a = none → Q (.ref a) (upd H a (exo a C none))
/-- raise C(e, ..): made, then let go -/
def tMkR (C : Addr) (sp : Sp) (ta : TA) : St → Hp → XK → Prop := fun σ H Q => ta σ H fun vs H1 => vs.length ≤ 1000 ∧ ∀ a, H1 a = none → sp (.ref a :: vs) (upd H1 a (exo a C none))
  (fun v H2 => v = .non ∧ ∃ (d : Addr) (fs : List (Str × V)), H2 a = some (exo a C (some d)) ∧ H2 d = some (exd d fs) ∧ H1 d = none ∧ Q (.ref C) (some d) (upd (del H2 a) d (.xd fs))) E0
/-- how keywords alone bind behind self -/
structure KB (K : PySem.W.Frag) (fd : FuncData) (ps ks : List Str) (g : List Value → List Value) (gV : List V → List V) : Prop where
  to : ∀ (s : Shared) (a : Addr) (ws : List Value), K.In s.heap → ws.length = ks.length → BindsTo s fd ⟨[.ref a], ks.zip ws⟩ (ps.zip (.ref a :: g ws))
  rel : ∀ {zs : List V} {ws : List Value}, zs.length = ks.length → Vals zs ws → Vals (gV zs) (g ws)
/-- the __init__ of the class at C: it stands at f, is a def, keeps sp, may be called here -/
structure Init (X : Cx) (CX : CXT) (k : Nat) (C f : Addr) (fd : FuncData) (ps : List Str) (sp : Sp) : Prop where
  xc : XC X.K C
  at_ : PySem.W.findIn X.K (.ref C) "__init__" = some (some (.ref f))
  fn : PySem.W.typeIn X.K (.ref f) = some (.type "function")
  ok : FnOk X.prog X.w X.K X.mg X.base CX k f fd ps sp
  room : Room (k + 1) X.A
  out : Passes CX X (fun _ _ _ => False)
section
variable {X : Cx} {CX : CXT} {k : Nat} {fI C : Addr} {fd : FuncData} {ps : List Str} {sp : Sp} {x : Str} {p pos : Pos} {e : Expr} {es : List Expr} {ta tk : TA}
/-- C called: what stands behind its __init__ is handed to fin -/
theorem Init.call (T : Init X CX k C fI fd ps sp) {pins : List (Addr × Obj)} {σ : St} {H1 : Hp} {s1 : Shared} {Φ : Addr → VK} {R : Value → Shared → Prop} {us args : List Value} {kw : List (Str × Value)} {vs : List V} (I1 : Inv X pins σ H1 s1)
    (hb : ∀ (s : Shared) (a : Addr), X.K.In s.heap → BindsTo s fd ⟨.ref a :: us, kw⟩ (ps.zip (.ref a :: args))) (rv : Vals vs args) (hl : us.length ≤ sizeLine) (q1 : ∀ a, H1 a = none → sp (.ref a :: vs) (upd H1 a (exo a C none)) (Φ a) E0) (non : ∀ a v H, Φ a v H → v = .non)
    (fin : ∀ (a : Addr) (s2 s3 : Shared), s1.heap.objs.size ≤ a → (∀ b o, s1.heap.get? b = some o → s2.heap.get? b = some o) → s2.os = s1.os → Inv X pins σ (upd H1 a (exo a C none)) s2 → CR CX X.stack X.prog X.w (upd H1 a (exo a C none)) s2 (Φ a) E0 (.ok (.ret .none)) s3 → R (.ref a) s3) :
    wpAny (model X.prog X.w) X.A (PySem.call (.ref C) us kw) R X.xe s1 := by
  obtain ⟨_, _, _, _, FB, _, qI, _⟩ := T.xc.ex
  obtain ⟨n, N, m, bs, bm, hdct, sn, sub, ab, col, dd, k0, k1, k2, k3, k5, hC, hT⟩ := PySem.W.excInit_of I1.kIn qI
  obtain ⟨h, g, dr, n', os⟩ := s1
  have c : PySem.Xk.At h C _ _ := ⟨_, _, _, _, _, _, _, _, _, _, _, _, _, _, _, _, hC, hT⟩
  have hq := q1 (h.objs.size + 1) (I1.hok.fresh (Nat.le_succ _))
  have I2 : Inv X pins σ (upd H1 (h.objs.size + 1) (exo (h.objs.size + 1) C none)) ⟨PySem.Xk.made h C us, g, dr, n', os⟩ := I1.laid (t' := n') PySem.Xk.made_old (Nat.le_succ _) (exo_ok PySem.Xk.made_new)
  have rv' : Vals (V.ref (h.objs.size + 1) :: vs) (Value.ref (h.objs.size + 1) :: args) := .cons rfl rv
  refine wpAny_call (PySem.Xk.called FB c (PySem.W.looks_findIn I1.kIn T.at_) (fun y => PySem.W.bind_fn I1.kIn y T.fn) hl ?_)
  refine codeAny_mono (T.ok.run _ X.stack _ _ ⟨Value.ref (h.objs.size + 1) :: us, kw⟩ (Value.ref (h.objs.size + 1) :: args) _ _ E0 (T.room.make C us kw) (I2.env0.make C us kw) (hb _ _ I2.kIn) rv' hq) fun r s' z => ?_
  match r, z with
  | .error er, z => exact T.out pins σ _ _ er s' I2 z
  | .ok (.ret u), z =>
    obtain ⟨v, _, _, _, _, _, rv2, q⟩ := id z
    obtain rfl := non _ _ _ q
    obtain rfl : u = Value.none := rv2
    exact ⟨rfl, fin _ ⟨PySem.Xk.made h C us, g, dr, n', os⟩ s' (Nat.le_succ _) PySem.Xk.made_old rfl I2 z⟩
theorem Init.value (T : Init X CX k C fI fd ps sp) {pins : List (Addr × Obj)} {σ : St} {H1 : Hp} {s1 : Shared} {Q : VK} {us args : List Value} {kw : List (Str × Value)} {vs : List V} (I1 : Inv X pins σ H1 s1)
    (hb : ∀ (s : Shared) (a : Addr), X.K.In s.heap → BindsTo s fd ⟨.ref a :: us, kw⟩ (ps.zip (.ref a :: args))) (rv : Vals vs args) (hl : us.length ≤ sizeLine) (q1 : ∀ a, H1 a = none → sp (.ref a :: vs) (upd H1 a (exo a C none)) (fun v H2 => v = .non ∧ Q (.ref a) H2) E0) :
    wpAny (model X.prog X.w) X.A (PySem.call (.ref C) us kw) (EP X pins σ Q) X.xe s1 :=
  T.call (Φ := fun a v H2 => v = .non ∧ Q (.ref a) H2) I1 hb rv hl q1 (fun _ _ _ q => q.1) fun a s2 s3 _ _ _ I2 z => by
    obtain ⟨v, H2, I3, _, _, q⟩ := I2.after z
    exact ⟨V.ref a, H2, I3, rfl, q⟩
/-- arguments by place bind behind self -/
theorem Init.binds (T : Init X CX k C fI fd ps sp) (hb : Binds X.K fd ps []) {s1 : Shared} {us : List Value} {vs : List V} {H1 : Hp} {Q : VK} {E : XK} {a' : Addr} {G : Hp} (r : Vals vs us) (q : sp (.ref a' :: vs) G Q E) (s : Shared) (a : Addr) (hK : X.K.In s.heap) : BindsTo s fd ⟨.ref a :: us, []⟩ (ps.zip (.ref a :: us)) := by
  have l := T.ok.len _ _ _ _ q
  rw [List.length_cons, Paired.length r] at l
  have b := hb s (.ref a :: us) hK (by simpa using l)
  rw [List.append_nil] at b
  exact b
/-- C(e, ..) -/
theorem pe_exc (T : XC X.K C) (iC : PySem.W.findIn X.K (.ref C) "__init__" = some (some (.ref fI))) (tI : PySem.W.typeIn X.K (.ref fI) = some (.type "function"))
    (F1 : FnOk X.prog X.w X.K X.mg X.base CX k fI fd ps sp) (hr : Room (k + 1) X.A) (hb : Binds X.K fd ps []) (hx : Passes CX X (fun _ _ _ => False)) (hg : Gl X x) (hm : X.mg x = some (.ref C)) (ha : PA X (e :: es) ta)
    (hdb : (x == ("__debug__" : Str)) = false := by decide)
    (he : starEach (e :: es) X.env = (false, eval e X.env) :: starEach es X.env := by rfl)
    (hpl : (backTo pos (starEach es X.env)).any (·.1) = false := by rfl) : PE X (.Call (.Name x p) (e :: es) [] pos) (tMkX C sp ta) := by
  have J : Init X CX k C fI fd ps sp := ⟨T, iC, tI, F1, hr, hx⟩
  constructor
  intro pins s σ H Q I h
  refine wpAny_Call_Name_kw (ld_glob I hg hm (PySem.W.callWith_K (h₀ := X.base) I.ok.mod.kin T.kC (thn (ha.run pos pins s σ H _ I h) fun us s1 w => ?_) he hpl) hdb)
  obtain ⟨vs, H1, I1, r, z, q⟩ := w
  exact ⟨I1.kIn, J.value (kw := []) I1 (J.binds (s1 := s1) (H1 := H1) hb r (q (s1.heap.objs.size) (I1.hok.fresh (Nat.le_refl _)))) r (by show us.length ≤ _; rw [← Paired.length r, sizeLine_eq]; omega) q⟩
/-- C(k = e, ..) -/
theorem pe_excK {ks : List Str} {kws : List Keyword} {g : List Value → List Value} {gV : List V → List V} (T : XC X.K C) (iC : PySem.W.findIn X.K (.ref C) "__init__" = some (some (.ref fI))) (tI : PySem.W.typeIn X.K (.ref fI) = some (.type "function"))
    (F1 : FnOk X.prog X.w X.K X.mg X.base CX k fI fd ps sp) (hr : Room (k + 1) X.A) (hb : KB X.K fd ps ks g gV) (hx : Passes CX X (fun _ _ _ => False)) (hg : Gl X x) (hm : X.mg x = some (.ref C)) (hkw : PK X kws tk)
    (hall : (backToKw pos (keywordEach kws X.env)).all (·.1.isSome) = true := by rfl) (hks : (backToKw pos (keywordEach kws X.env)).filterMap (·.1) = ks := by rfl)
    (hdb : (x == ("__debug__" : Str)) = false := by decide)
    (hpl : ((backTo pos (starEach [] X.env)).any (·.1) || (backToKw pos (keywordEach kws X.env)).any (·.1.isNone)) = false := by rfl) : PE X (.Call (.Name x p) [] kws pos) (tMkXK C ks.length sp gV tk) := by
  have J : Init X CX k C fI fd ps sp := ⟨T, iC, tI, F1, hr, hx⟩
  constructor
  intro pins s σ H Q I h
  refine wpAny_Call_Name_kw (ld_glob I hg hm (PySem.W.callWith_KW0 (h₀ := X.base) I.ok.mod.kin T.kC hall (thn (hkw.run pos pins s σ H _ I h) fun ws s2 w => ?_) hpl) hdb)
  obtain ⟨zs, H2, I2, r, l, q⟩ := w
  rw [hks]
  exact ⟨I2.kIn, J.value (us := []) (kw := ks.zip ws) I2 (fun s a hK => hb.to s a ws hK (r.length.symm.trans l)) (hb.rel l r) (by rw [sizeLine_eq]; decide) q⟩
/-- raise's C(e, ..) -/
theorem pmk_exc (T : XC X.K C) (iC : PySem.W.findIn X.K (.ref C) "__init__" = some (some (.ref fI))) (tI : PySem.W.typeIn X.K (.ref fI) = some (.type "function"))
    (F1 : FnOk X.prog X.w X.K X.mg X.base CX k fI fd ps sp) (hr : Room (k + 1) X.A) (hb : Binds X.K fd ps []) (hx : Passes CX X (fun _ _ _ => False)) (hg : Gl X x) (hm : X.mg x = some (.ref C)) (ha : PA X (e :: es) ta)
    (hdb : (x == ("__debug__" : Str)) = false := by decide)
    (he : starEach (e :: es) X.env = (false, eval e X.env) :: starEach es X.env := by rfl)
    (hpl : (backTo pos (starEach es X.env)).any (·.1) = false := by rfl) : PMk X (.Call (.Name x p) (e :: es) [] pos) (tMkR C sp ta) := by
  have J : Init X CX k C fI fd ps sp := ⟨T, iC, tI, F1, hr, hx⟩
  intro pins s σ H Q I h
  refine wpAny_Call_Name_kw (ld_glob I hg hm (PySem.W.callWith_K (h₀ := X.base) I.ok.mod.kin T.kC (thn (ha.run pos pins s σ H _ I h) fun us s1 w => ?_) he hpl) hdb)
  obtain ⟨vs, H1, I1, r, z, q⟩ := w
  refine ⟨I1.kIn, J.call (kw := []) I1 (J.binds (s1 := s1) (H1 := H1) hb r (q (s1.heap.objs.size) (I1.hok.fresh (Nat.le_refl _)))) r (by show us.length ≤ _; rw [← Paired.length r, sizeLine_eq]; omega) q (fun _ _ _ y => y.1) fun a s2 s3 le up eo _ y => ?_⟩
  obtain ⟨_, _, eo3, bare, un, hok, _, _, d, fs, ea, ed, nd, q2⟩ := y
  exact mk_end (raises_own T.exC T.tyC) I1 le up un hok (eo3.trans eo) bare ea ed nd q2
/-- C(), no __init__ of its own -/
theorem pe_exc0 {bmB : List Value} {B newId initId : String} (T : XC X.K C) (F : ExcBaseFacts B newId initId bmB) (q : PySem.W.excIn X.K C bmB newId = true) (hg : Gl X x) (hm : X.mg x = some (.ref C)) (hdb : (x == ("__debug__" : Str)) = false := by decide) : PE X (.Call (.Name x p) [] [] pos) (tMk0 C) := by
  constructor
  intro pins s σ H Q I h
  refine wpAny_Call_Name_kw (ld_glob I hg hm (PySem.W.callWith_K0 I.kIn T.kC ?_) hdb)
  obtain ⟨_, _, _, _, _, _, _, _, _, _, _, _, _, _, _, _, _, hC, hN, no, tail⟩ := exc_obj I.kIn q
  refine (show wpAny _ _ (PySem.call (.ref C) []) _ _ _ from wpAny_call_exc_subT F tail hC hN no (fun G a m => ?_) (Nat.zero_le _))
  have na : H a = none := I.hok.gone m.new
  obtain ⟨_, ea, _⟩ := m.there
  exact ⟨V.ref a, upd H a (exo a C none), I.laidN m.keeps m.new na (exo_ok ea), rfl, h a na⟩
end
/-! ### a field read, the class asked -/
/-- e.f of an error e -/
def tXf (K : PySem.W.Frag) (te : TE) (f : Str) : TE := fun σ H Q => te σ H fun x H1 => ∃ (a C d : Addr) (fs : List (Str × V)) (v : V), x = .ref a ∧ XC K C ∧ PySem.W.findIn K (.ref C) f = some none ∧ H1 a = some (exo a C (some d)) ∧ H1 d = some (exd d fs) ∧ fs.lookup f = some v ∧ Q v H1
/-- n.f in the suite of an except clause, n the exception at a -/
def tXdf (K : PySem.W.Frag) (a : Addr) (cls : Value) (d : Option Addr) (te : TE) (f : Str) : TE := fun σ H Q => te σ H fun x H1 => x = .ref a ∧ ∃ (C dd : Addr) (fs : List (Str × V)) (v : V), cls = .ref C ∧ XC K C ∧ PySem.W.findIn K (.ref C) f = some none ∧
  d = some dd ∧ H1 dd = some (.xd fs) ∧ fs.lookup f = some v ∧ Q v H1
section
variable {X : Cx} {e : Expr} {te : TE} {f : Str} {pos : Pos}
/-- the field's value, from the dict at d -/
theorem XC.field {C a d : Addr} (T : XC X.K C) (no : PySem.W.findIn X.K (.ref C) f = some none) {s : Shared} {fs : List (Str × V)} {v : V} {b : Bool} {Q : Value → Shared → Prop} {A : Around} {E : Value → Shared → Prop} {o : Obj} (kin : X.K.In s.heap) (ea : s.heap.get? a = some o)
    (ec : o.cls = .ref C) (ed : o.dict = some d) (nc : PySem.W.notCls o = true) (ens : ∃ mA, s.heap.Ns1 d mA ∧ ∀ g, RelO (fs.lookup g) (mA g)) (hl : fs.lookup f = some v) (q : ∀ u n, RelV v u → Q u { s with toks := n }) : wpAny (model X.prog X.w) A (getAttr (.ref a) f b) Q E s := by
  obtain ⟨mA, ns, rel⟩ := ens
  obtain ⟨od, eo, look⟩ := lookIn_ns ns
  obtain ⟨u, eu, ru⟩ := RelO.some_of (o := mA f) (hl ▸ rel f)
  have J : PySem.W.InstAt s.heap a o C (some od) := ⟨ea, ec, nc, by rw [ed]; exact eo⟩
  exact HandSPX.exc_get kin J T.ga T.gg T.exC (PySem.W.findObj_own T.hd no rfl (by rw [look, eu])) (handed_of ru) (q u _ ru)
theorem pe_xfld (he : PE X e te) (hb : attributeBase e f X.env (eval e X.env) = eval e X.env := by rfl) : PE X (.Attribute e f pos) (tXf X.K te f) :=
  ⟨fun pins s σ H Q I h => attr_of hb (thn (he.run pins s σ H _ I h) fun u s1 ⟨x, H1, I1, r1, a, C, d, fs, v, ex, T, no, ea, ed, hl, q⟩ => by
    subst ex
    obtain rfl : u = Value.ref a := r1
    obtain ⟨_, at_⟩ := exo_at I1.hok ea
    exact T.field no I1.kIn at_ rfl rfl rfl (exd_at I1.hok ed) hl fun u n ru => ⟨v, H1, I1.tok n, ru, q⟩)⟩
theorem pe_xdf {a : Addr} {oe : Obj} {cls : Value} {d : Option Addr} {pn : List (Addr × Obj)} (hz : Zc cls d oe) (hf : ∃ vs, oe.data = .fields vs) (he : PE (X.suite a ((a, oe) :: pn)) e te)
    (hb : attributeBase e f X.env (eval e X.env) = eval e X.env := by rfl) : PE (X.suite a ((a, oe) :: pn)) (.Attribute e f pos) (tXdf X.K a cls d te f) :=
  ⟨fun pins s σ H Q I h => attr_of hb (thn (he.run pins s σ H _ I h) fun u s1 ⟨x, H1, I1, r1, ex, C, dd, fs, v, ec, T, no, ed, e2, hl, q⟩ => by
    subst ex ec ed
    obtain rfl : u = Value.ref a := r1
    obtain ⟨vs, eo⟩ := hf
    exact T.field no I1.kIn (I1.pin (a, oe) (List.mem_append_left _ List.mem_cons_self)).1 hz.1 hz.2 (by unfold PySem.W.notCls; rw [eo]) (I1.hok dd _ e2) hl fun u n ru => ⟨v, H1, I1.tok n, ru, q⟩)⟩
/-- isinstance(e, c), e an error -/
def rIsX (K : PySem.W.Frag) : List V → Hp → VK → Prop := fun xs H Q => ∃ (a C : Addr) (d : Option Addr) (c : V) (cv : Value) (b : Bool), xs = [.ref a, c] ∧ XC K C ∧ H a = some (exo a C d) ∧ (∀ dd, d = some dd → ∃ fs, H dd = some (exd dd fs)) ∧
  (∀ u, RelV c u → u = cv) ∧ PySem.W.kitOne K (.ref C) cv = some b ∧ Q (.bl b) H
theorem call_isX : CallR X (.builtin "isinstance") (rIsX X.K) := by
  intro pins s σ H xs us Q I r h
  obtain ⟨a, C, d, c, cv, b, rfl, T, ea, hd, hcv, e, q⟩ := h
  obtain ⟨_, _, rfl, rx, rt⟩ : ∃ u1 u2, us = [u1, u2] ∧ RelV (V.ref a) u1 ∧ RelV c u2 := by
    cases r with
    | cons r1 r2 => cases r2 with
      | cons r2 r3 =>
        cases r3
        exact ⟨_, _, rfl, r1, r2⟩
  cases rx
  obtain rfl := hcv _ rt
  obtain ⟨t, at_⟩ := exo_at I.hok ea
  have cls : (PySem.W.clsIn X.K C).isSome = true := by
    obtain ⟨cd, w, _⟩ := PySem.W.any_some T.hd
    rw [w]
    rfl
  obtain ⟨od, J⟩ : ∃ od, PySem.W.InstAt s.heap a { cls := .ref C, dict := d, data := .fields #[.ref t, .none, .none, .none, .bool false, .none] } C od := by
    match d, hd, at_ with
    | none, _, at_ => exact ⟨none, at_, rfl, rfl, trivial⟩
    | some dd, hd, at_ =>
      obtain ⟨fs, ed⟩ := hd dd rfl
      obtain ⟨mA, ns, _⟩ := exd_at I.hok ed
      obtain ⟨od, eo, _⟩ := lookIn_ns ns
      exact ⟨some od, at_, rfl, rfl, eo⟩
  exact PySem.W.kia_one (PySem.W.kitx_exc cls T.ga T.gg T.exC T.ha T.hn T.ht T.hm) I.kIn J e (fun z => nomatch z) fun n => ⟨.bl b, H, I.kept (t' := n) fun _ _ z => z, rfl, q⟩
end
end L2

/-! Data that may hold dicts with text keys, read off the abstract heap; what repr makes of it. Defs that are promised only where no repr is running around them. -/
namespace L2
open PySem PySem.Spec PyProof.Rows
mutual
/-- v stands for the datum d (the lists, tuples and dicts in it are tracked or of the written part) -/
inductive Dd (K : PySem.W.Frag) (H : Hp) : V → PyData → Prop
  | non : Dd K H .non .none
  | bl (b : Bool) : Dd K H (.bl b) (.bool b)
  | int (i : Int) : Dd K H (.int i) (.int i)
  | str (x : Str) : Dd K H (.str x) (.str x)
  | lst {a : Addr} {xs : List V} {ds : List PyData} (h : SqL K H a xs) (t : Dds K H xs ds) : Dd K H (.ref a) (.list ds)
  | tup {a : Addr} {xs : List V} {ds : List PyData} (h : SqT K H a xs) (t : Dds K H xs ds) : Dd K H (.ref a) (.tuple ds)
  | dic {a : Addr} {kvs : List (Key × V)} {ks vs : List PyData} (h : H a = some (.dK kvs)) (k : Dds K H (kvs.map fun p => kV p.1) ks) (t : Dds K H (kvs.map (·.2)) vs) (l : ks.length = vs.length) : Dd K H (.ref a) (.dict (ks.zip vs))
inductive Dds (K : PySem.W.Frag) (H : Hp) : List V → List PyData → Prop
  | nil : Dds K H [] []
  | cons {v : V} {vs : List V} {d : PyData} {ds : List PyData} (h : Dd K H v d) (t : Dds K H vs ds) : Dds K H (v :: vs) (d :: ds)
end
mutual
theorem Dd.same {K : PySem.W.Frag} {H H' : Hp} (e : ∀ b o, H b = some o → H' b = some o) : ∀ {v : V} {d : PyData}, Dd K H v d → Dd K H' v d
  | _, _, .non => .non
  | _, _, .bl b => .bl b
  | _, _, .int i => .int i
  | _, _, .str x => .str x
  | _, _, .lst h t => .lst (h.ext e) (Dds.same e t)
  | _, _, .tup h t => .tup (h.ext e) (Dds.same e t)
  | _, _, .dic h k t l => .dic (e _ _ h) (Dds.same e k) (Dds.same e t) l
theorem Dds.same {K : PySem.W.Frag} {H H' : Hp} (e : ∀ b o, H b = some o → H' b = some o) : ∀ {v : List V} {d : List PyData}, Dds K H v d → Dds K H' v d
  | _, _, .nil => .nil
  | _, _, .cons h t => .cons (Dd.same e h) (Dds.same e t)
end
/-- the written part holds the dict of the loaded modules (so no list of ours stands there) -/
def smOk (K : PySem.W.Frag) : Bool := match K.lookup sysModules with
  | some ⟨.type c, _, .dict _ _, _⟩ => c == "dict"
  | _ => false
theorem sm_ne {K : PySem.W.Frag} {h : Heap} (X : K.In h) (q : smOk K = true) {a : Addr} {o : Obj} {vs : Array Value} {n : Nat} (ho : h.get? a = some o) (hd : o.data = .seq vs n) : a ≠ sysModules := by
  rintro rfl
  unfold smOk at q
  split at q
  · rename_i c d es ep sl e
    have z := (X _ _ e).symm.trans ho
    cases z
    cases hd
  · cases q
section
variable {X : Cx} {pins : List (Addr × Obj)} {σ : St} {H : Hp} {s : Shared}
theorem pairs_reads {prog : Program} {w : World} {h : Heap} : ∀ {es : List DictEntry} {vs : List (Key × Value)} {kvs : List (Key × V)}, Pairs (mixKind prog w) es vs → KV kvs vs →
    Vals (kvs.map fun p => kV p.1) (es.map (·.key)) ∧ Vals (kvs.map (·.2)) (es.map (·.val))
  | [], _, _, .nil, r => by
    cases r
    exact ⟨.nil, .nil⟩
  | e :: es, _, _, .cons h1 h2 h3, r => by
    cases r with
    | @cons p _ l1 _ a b =>
      obtain ⟨r1, r2⟩ := pairs_reads (h := h) h3 b
      obtain ⟨e1, e2⟩ := a
      have h1' : keyIs p.1 e.key = true := by
        rw [e1]
        exact h1
      refine ⟨.cons ?_ r1, .cons ?_ r2⟩
      · show RelV (kV p.1) e.key
        rcases keyIs_shape h1' with ⟨i, t, ei, z⟩ | ⟨x, t, ei, z⟩
        · rw [ei]
          exact ⟨t, z⟩
        · rw [ei]
          exact ⟨t, z⟩
      · show RelV p.2 e.val
        rw [h2]
        exact e2
mutual
theorem Dd.reads (I : Inv X pins σ H s) (q : smOk X.K = true) : ∀ {d : PyData} {v : V} {u : Value}, Dd X.K H v d → RelV v u → ∃ as, Reads s.heap u d as ∧ sysModules ∉ as
  | _, _, _, .non, r => by
    cases r
    exact ⟨_, Reads.none, by simp⟩
  | _, _, _, .bl b, r => by
    cases r
    exact ⟨_, Reads.bool b, by simp⟩
  | _, _, _, .int i, r => by
    obtain ⟨t, rfl⟩ := r
    exact ⟨_, Reads.int i t, by simp⟩
  | _, _, _, .str x, r => by
    obtain ⟨t, rfl⟩ := r
    exact ⟨_, Reads.str x t, by simp⟩
  | _, _, _, .lst h t, r => by
    cases r
    obtain ⟨its, rv, ⟨o, n, ho, hc, _, hd⟩, _⟩ := I.list h
    obtain ⟨as, hr, hn⟩ := Dds.reads I q t rv
    refine ⟨_, Reads.list ho hc hd hr, fun z => ?_⟩
    rcases List.mem_cons.mp z with z | z
    · exact sm_ne I.kIn q ho hd z.symm
    · exact hn z
  | _, _, _, .tup h t, r => by
    cases r
    obtain ⟨its, rv, ⟨o, ho, hc, n, hd⟩, _⟩ := I.tuple h
    obtain ⟨as, hr, hn⟩ := Dds.reads I q t rv
    exact ⟨_, Reads.tuple ho hc hd hr, hn⟩
  | _, _, _, @Dd.dic _ _ a kvs ks vs h k t l, r => by
    cases r
    obtain ⟨_, hsm, ws, rel, o, es, ep, ho, hx, hd, _, hp, _⟩ := I.hok a _ h
    obtain ⟨rk, rvs⟩ := pairs_reads (h := s.heap) hp rel
    obtain ⟨as, h1, n1⟩ := Dds.reads I q k rk
    obtain ⟨bs, h2, n2⟩ := Dds.reads I q t rvs
    have e1 : (ks.zip vs).map (·.1) = ks := List.map_fst_zip (by omega)
    have e2 : (ks.zip vs).map (·.2) = vs := List.map_snd_zip (by omega)
    refine ⟨_, Reads.dict ho hx.1 hd (by rw [e1]; exact h1) (by rw [e2]; exact h2), fun z => ?_⟩
    rcases List.mem_append.mp z with z | z
    · rcases List.mem_cons.mp z with z | z
      · rw [← z] at hsm
        exact absurd hsm (by decide)
      · exact n1 z
    · exact n2 z
theorem Dds.reads (I : Inv X pins σ H s) (q : smOk X.K = true) : ∀ {ds : List PyData} {vs : List V} {us : List Value}, Dds X.K H vs ds → Vals vs us → ∃ as, ReadsAll s.heap us ds as ∧ sysModules ∉ as
  | _, _, _, .nil, r => by
    cases r
    exact ⟨_, ReadsAll.nil, by simp⟩
  | _, _, _, .cons h t, r => by
    cases r with
    | cons r1 r2 =>
      obtain ⟨as, q1, n1⟩ := Dd.reads I q h r1
      obtain ⟨bs, q2, n2⟩ := Dds.reads I q t r2
      refine ⟨_, ReadsAll.cons q1 q2, fun z => ?_⟩
      rcases List.mem_append.mp z with z | z
      · exact n1 z
      · exact n2 z
end
end
/-- repr of a list, tuple or dict of data -/
def rRepr (K : PySem.W.Frag) : List V → Hp → VK → Prop := fun xs H Q => ∃ a d, xs = [.ref a] ∧ Dd K H (.ref a) d ∧ d.showable = true ∧ d.depth ≤ 20 ∧ d.shown.length ≤ sizeLine ∧ Q (.str d.shown) H
theorem call_reprD {X : Cx} (hg : X.A.guards = some []) (hu : X.A.units + 64 < cLine) (q : smOk X.K = true) : CallR X (.builtin "repr") (rRepr X.K) := by
  intro pins s σ H xs us Q I r h
  obtain ⟨a, d, rfl, hd, hs, hz, hl, k⟩ := h
  obtain ⟨u, rfl, ru⟩ := vals1 r
  cases ru
  obtain ⟨as, hr, hn⟩ := Dd.reads I q hd rfl
  refine repr_of_reads' hr hs (fun _ => hn) hg (by omega) (fun _ _ e => e) (fun h' u tk hk => ?_) hl
  exact ⟨.str d.shown, H, I.kept (t' := tk) hk, ⟨u, rfl⟩, k⟩

/-! ### a promise that is kept where no guard stands around -/
structure FnG (P : Program) (w : World) (K : PySem.W.Frag) (mg : Str → Option Value) (base : Heap) (CX : CXT) (k : Nat) (f : Addr) (fd : FuncData) (ps : List Str) (sp : Sp) : Prop where
  many : ∀ vs H Q E, sp vs H Q E → vs.length = ps.length
  goes : ∀ (A : Around) (outer : List Env) (s : Shared) (H : Hp) (args : Args) (us : List Value) (vs : List V) (Q : VK) (E : XK), A.guards = some [] → Room k A → Env0 P w K mg base A outer s H → BindsTo s fd args (ps.zip us) → Vals vs us → sp vs H Q E →
    codeAny (model P w) A (Code.call (.ref f) args) (CR CX outer P w H s Q E) s
section
variable {P : Program} {w : World} {K : PySem.W.Frag} {mg : Str → Option Value} {base : Heap} {CX : CXT} {x qual : Str} {params : Arguments} {body : List Stmt} {scope : Scope} {dvs : List V} {kws : List (Str × V)} {f : Addr} {fd : FuncData}
/-- a def whose body is read only where no guard stands -/
theorem FunD.okG {N ps : List Str} {k : Nat} {sp : Sp} (F : FunD K x qual params body scope dvs kws f fd) (S : FnScope N ps scope) (len : ∀ vs H Q E, sp vs H Q E → vs.length = ps.length)
    (hbody : ∀ (cdv : Value) (A : Around) (outer : List Env) (s : Shared) (H : Hp) (vs : List V) (Q : VK) (E : XK), A.guards = some [] → Room k (A.deeper (envOfC qual scope s.heap.objs.size f cdv)) → sp vs H Q E →
      ∃ t, PSs (cxOf CX P w K mg base N qual scope f cdv A outer s H E) body t ∧ t { nx := fun _ H' => Q .non H', rt := Q } (start N vs) H) : FnG P w K mg base CX (k + 1) f fd ps sp := by
  refine ⟨len, fun A outer s H args us vs Q E free room e0 bind rel want => ?_⟩
  obtain ⟨_, _, _, _, _, _, _, cdv, _, _, rfl, at_, rec_, _, _⟩ := F.ex
  have KX : K.In s.heap := e0.mod.kin.keeps fun b o e => (e0.bs b o e).1
  have inside : ∀ y : Str × Value, y ∈ ps.zip us → _ := fun y hy => S.par y.1 (List.of_mem_zip hy).1
  refine codeAny_call_function room.depth (KX _ _ at_) rfl S.co S.gen rfl (PySem.W.codeRec_of KX rec_) (bind _ _ _ _ (wpAny_newFunctionEnv_cells S.kind (fun y hy => ?_) fun env eq s1 C => ?_))
  · exact (inside y hy).imp id fun z => ⟨z, PySem.W.cellsFrom_some _ _ _ (.inl z)⟩
  subst eq
  refine ⟨(e0.mod.nolimit.keeps fun b o e => (e0.bs b o e).1).keeps C.toInCall.keep, codeAny_func ?_⟩
  obtain ⟨t, walk, q⟩ := hbody cdv A outer s H vs Q E free (room.deeper _) want
  refine wpAny_mono (walk.run [] s1 (start N vs) H _ (inv_start (CX := CX) (E := E) S room.hd e0 (len _ _ _ _ want) rel C) q) (fun fl s2 y => ?_) fun _ _ y => y
  match fl, y with
  | .next, ⟨_, H2, J, q⟩ => exact ⟨.non, H2, J.os, J.bare, J.base, J.hok, rfl, q⟩
  | .brk, ⟨_, _, _, q⟩ => exact q.elim
  | .cont, ⟨_, _, _, q⟩ => exact q.elim
  | .ret u, ⟨v, _, H2, J, r, q⟩ => exact ⟨v, H2, J.os, J.bare, J.base, J.hok, r, q⟩
end
/-- f(e, ..), no defaults, where no guard stands around -/
theorem pe_callG {X : Cx} {CX : CXT} {k : Nat} {f : Addr} {fd : FuncData} {ps : List Str} {sp : Sp} {E : XK} {x : Str} {p pos : Pos} {e : Expr} {es : List Expr} {t : TA} (F : FnG X.prog X.w X.K X.mg X.base CX k f fd ps sp) (hgu : X.A.guards = some []) (hr : Room k X.A) (hg : Gl X x)
    (hm : X.mg x = some (.ref f)) (hk : PySem.W.keepIn X.K (.ref f) = true) (hb : Binds X.K fd ps []) (hx : Passes CX X E) (ha : PA X (e :: es) t) (hdb : (x == ("__debug__" : Str)) = false := by decide)
    (he : starEach (e :: es) X.env = (false, eval e X.env) :: starEach es X.env := by rfl)
    (hpl : (backTo pos (starEach es X.env)).any (·.1) = false := by rfl) : PE X (.Call (.Name x p) (e :: es) [] pos) (tCall sp [] E t) := by
  constructor
  intro pins s σ H Q I h
  refine wpAny_Call_Name_kw (ld_glob I hg hm (PySem.W.callWith_K (h₀ := X.base) I.ok.mod.kin hk (thn (ha.run pos pins s σ H _ I h) fun us s1 y => ?_) he hpl) hdb)
  obtain ⟨vs, H1, I1, r, q⟩ := y
  have want : sp vs H1 Q E := (List.append_nil vs) ▸ (show sp (vs ++ []) H1 Q E from q)
  have bind := hb s1 us I1.kIn (by rw [List.append_nil, ← r.length]; exact F.many _ _ _ _ want)
  rw [List.append_nil] at bind
  refine ⟨I1.kIn, wpAny_call (codeAny_mono (F.goes X.A X.stack s1 H1 ⟨us, []⟩ us vs Q E hgu hr I1.env0 bind r want) fun r' s2 y => ?_)⟩
  match r', y with
  | .error e, y => exact hx pins σ H1 s1 e s2 I1 y
  | .ok (.ret u), y => exact I1.after y
end L2

/-! The end of a law whose def is promised where no guard stands (FnG), over facts read off the top's heap. -/
namespace L2
open PySem PySem.Spec PyProof.Rows
section
variable {P : Program} {w : World} {K : PySem.W.Frag} {mg mb : Str → Option Value} {CX : CXT} {k : Nat} {fa a : Addr} {fd : FuncData} {x : Str} {sp : Sp} {s₁ : Shared} {vs : List Value} {ns : List Int}
/-- the script's object, and nothing else, may be tracked at the entry -/
structure EntryHp (K : PySem.W.Frag) (s : Shared) (a : Addr) (vs : List Value) (ns : List Int) (H : Hp) : Prop where
  one : ∀ b, H b = none ∨ (b = a ∧ K.lookup a = none ∧ H b = some (.frz { cls := .type "list", data := .seq vs.toArray } (.lst (ns.map V.int))))
  seq : SqL K H a (ns.map V.int)
theorem EntryHp.made (KX : K.In s₁.heap) (ha : s₁.heap.get? a = some { cls := .type "list", data := .seq vs.toArray }) (hi : IntsAre vs ns) (hl : ns.length ≤ sizeLine) : ∃ H, EntryHp K s₁ a vs ns H := by
  cases e : K.lookup a with
  | some o =>
    obtain rfl := Option.some.inj (ha.symm.trans (KX a o e))
    exact ⟨fun _ => none, fun _ => .inl rfl, .inr ⟨_, vs.toArray, _, e, rfl, rfl, rfl, by rw [List.size_toArray, hi.length]; exact hl, by simpa using vals_ints hi⟩⟩
  | none =>
    refine ⟨upd (fun _ => none) a (.frz { cls := .type "list", data := .seq vs.toArray } (.lst (ns.map V.int))), fun b => ?_, .inl (.inr ⟨_, upd_same⟩)⟩
    by_cases hb : b = a
    · subst hb
      exact .inr ⟨rfl, e, upd_same⟩
    · exact .inl (upd_ne hb)
theorem law_callG (KX : K.In s₁.heap) (hns : s₁.heap.Ns mainGlobals mg) (hb : s₁.heap.Ns builtinsNs mb) (hbb : ∀ y : Str, y ≠ "__name__" → mb y = bootBuiltins y) (hlim : s₁.heap.NoLimit) (hg : s₁.gens = #[])
    (ha : s₁.heap.get? a = some { cls := .type "list", data := .seq vs.toArray })
    (hi : IntsAre vs ns) (hl : ns.length ≤ sizeLine) (hr : Room k callerA)
    (F : ∀ base : Heap, K.In base → base.Ns mainGlobals mg → FnG P w K mg base CX k fa fd [x] sp) (hbind : ∀ (s : Shared) (u : Value), BindsTo s fd ⟨[u], []⟩ [(x, u)])
    (hsp : ∀ H : Hp, SqL K H a (ns.map V.int) → sp [.ref a] H (fun v _ => v = .bl true) E0) (hCX : ∀ H e s', CX [] H s₁ E0 e s' → False) :
    codeAny (model P w) callerA (.call (.ref fa) ⟨[.ref a], []⟩)
      (fun r s' => r = .ok (.ret (.bool true)) ∧ OldK s₁.heap s'.heap ∧ s'.os = s₁.os ∧ AllBare s'.gens) s₁ := by
  obtain ⟨H, EH⟩ := EntryHp.made KX ha hi hl
  -- what is no list of the script's stands in the heap without what is tracked
  have dicts : ∀ {b m}, s₁.heap.Ns b m → (hidT s₁.heap H).Ns b m := fun {b m} ⟨o, es, ep, e, d, r⟩ => by
    refine ⟨o, es, ep, hidT_get e ?_, d, r⟩
    rcases EH.one b with z | ⟨z, _⟩
    · exact z
    · rw [z, ha] at e
      cases e
      cases d
  have KB : K.In (hidT s₁.heap H) := fun b o e => hidT_get (KX b o e) (by
    rcases EH.one b with z | ⟨z, n, _⟩
    · exact z
    · rw [z, n] at e
      cases e)
  have ok : HOk P w H s₁.heap := fun b u e => by
    rcases EH.one b with z | ⟨z, _, q⟩
    · rw [z] at e
      cases e
    · rw [q] at e
      cases e
      subst z
      exact ⟨ha, by rw [List.length_map]; exact hl, vs, _, vals_ints hi, ha⟩
  obtain ⟨mc, l1, l2⟩ := hlim
  have e0 : Env0 P w K mg (hidT s₁.heap H) callerA [] s₁ H :=
    ⟨rfl, ⟨KB, dicts hns, ⟨mb, dicts hb, hbb⟩, ⟨mc, dicts l1, l2⟩⟩, fun _ _ e => of_hidT e, Nat.le_of_eq (hidT_size _ _), trivial, fun b hb => (List.not_mem_nil hb).elim, ok, .of_eq hg⟩
  refine codeAny_mono ((F _ KB (dicts hns)).goes callerA [] s₁ H ⟨[.ref a], []⟩ [.ref a] [.ref a] _ E0 rfl hr e0 (hbind s₁ (.ref a)) (.cons rfl .nil) (hsp H EH.seq)) fun r s' h => ?_
  rcases r with e | (_ | _ | _ | u)
  · exact (hCX H e s' h).elim
  · exact False.elim h
  · exact False.elim h
  · exact False.elim h
  obtain ⟨v, H', os, bare, un, ok', rv, q⟩ := h
  obtain rfl : v = .bl true := q
  obtain rfl : u = Value.bool true := rv
  refine ⟨rfl, OldK.of_keep (fun b o e => ?_), os, bare⟩
  rcases EH.one b with z | ⟨_, _, z⟩
  · exact un.keep b o e z (fun y => List.not_mem_nil y) (fun y => List.not_mem_nil y)
  · have e1 := (ok b _ z).1
    rw [e] at e1
    cases e1
    exact (ok' b _ (un.frzs b _ _ z)).1
end
/-- a law: G gives the written part, the function object, the promise over every base -/
theorem walk_ofG {l : PySem.W.OpenLaw} {n k : Nat} {q : Program} {loose : List Str} {XP : (Str → Option Value) → Heap → Prop} {YP : World → Heap → Prop} {d : DefRec} {CX : CXT} {x : Str}
    (hn : l.most = some n) (hn2 : n ≤ sizeLine)
    (hdf : d.params.defaults = []) (hr : Room k callerA)
    (G : ∀ (w : World) (mg : Str → Option Value) (fa : Addr) (h : Heap), YP w h → h.Ns mainGlobals mg → mg d.name = some (.ref fa) →
      ∃ (K : PySem.W.Frag) (fd : FuncData) (sp : Sp), K.In h ∧
        (∀ (s : Shared) (u : Value), BindsTo s fd ⟨[u], []⟩ [(x, u)]) ∧
        (∀ (H : Hp) (a : Addr) (ns : List Int), ns.length ≤ n → SqL K H a (ns.map V.int) → sp [.ref a] H (fun v _ => v = .bl true) E0) ∧
        ∀ base : Heap, K.In base → base.Ns mainGlobals mg → FnG l.prog w K mg base CX k fa fd [x] sp)
    (hCX : ∀ (H : Hp) (s : Shared) (e : Value) (s' : Shared), CX [] H s E0 e s' → False) : PySem.W.WalkO q loose XP YP l.row.toRowW d [] (fun f vs => PySem.call f vs) := by
  refine Att.attach_call hn hdf fun w s₀ s₁ mg mb fa o pm cd doc a vs ns T Y _ _ _ hmg hobj hints hlen hg => ?_
  obtain ⟨K, fd, sp, KX, hb, hsp, hF⟩ := G w mg fa _ Y T.T.g hmg
  exact law_callG KX T.T.g T.T.b T.T.builtins T.T.nolimit hg hobj hints (Nat.le_trans hlen hn2) hr hF hb (fun H hS => hsp H a ns hlen hS) fun H e s' => hCX H s₁ e s'
end L2
namespace He
open PySem PySem.Spec PyProof.Rows L2
/-! ### the head's facts with a check of one's own beside them; the dict of the loaded modules is part of what is read -/
abbrev AlX : Type := Bool × AlD
def obsX (xf : PySem.W.Frag → Bool) (fa : List Fa) (fn : List DefD) (K : PySem.W.Frag) : AlX := (xf K, obsD fa fn K)
def obsXG (n : Nat) (xf : PySem.W.Frag → Bool) (fa : List Fa) (fn : List DefD) (g : Addr → Option Obj) : AlX := obsX xf fa fn (frG g (sysModules :: asD g n))
def SaysX (xf : PySem.W.Frag → Bool) (fa : List Fa) (fn : List DefD) (K : PySem.W.Frag) : Prop := xf K = true ∧ SaysD fa fn K
def hookX (n : Nat) (xf : PySem.W.Frag → Bool) (fa : List Fa) (fn : List DefD) : PySem.W.Hook where
  α := AlX
  obs := fun s => obsXG n xf fa fn s.heap.get?
  val := fun _ => (true, valD fn)
  says := fun _ h => ∃ K : PySem.W.Frag, K.In h ∧ SaysX xf fa fn K
  of := fun _ _ e => ⟨_, frG_in, congrArg Prod.fst e, congrArg Prod.snd e⟩
  keeps := fun _ _ _ y k => y.imp fun _ z => ⟨PySem.W.Frag.In.keeps z.1 k, z.2⟩
theorem obsXG_eq {n : Nat} {xf : PySem.W.Frag → Bool} {fa : List Fa} {fn : List DefD} {g : Addr → Option Obj} {s : Shared} (h : ∀ a, g a = s.heap.get? a) : obsXG n xf fa fn g = (hookX n xf fa fn).obs s := by
  obtain rfl : g = s.heap.get? := funext h
  rfl
end He

/-! Readings, one construct at a time (for a tactic that goes on as long as one of these fits). -/
namespace Rd
open PySem PySem.Spec PyProof.Rows L2
section
variable {σ : L2.St} {H : Hp} {i : Nat} {v x y : V} {ta tb te : TE} {t tr : TA} {r : R2} {Q : VK} {QA : List V → Hp → Prop} {QB : Bool → Hp → Prop} {D : Ends} {t1 t2 : TS} {tt uu : TT} {xs : List V} {K : PySem.W.Frag} {f : Str} {te : TE}
theorem var (h : σ[i]? = some (some v)) (q : Q v H) : tVar i σ H Q := ⟨v, h, q⟩
theorem c (q : Q v H) : tC v σ H Q := q
theorem op (h : ta σ H fun x H1 => tb σ H1 fun y H2 => r x y H2 Q) : tOp r ta tb σ H Q := h
theorem un {ru : V → Hp → VK → Prop} (h : ta σ H fun x H1 => ru x H1 Q) : tUn ru ta σ H Q := h
theorem cb {rc : List V → Hp → VK → Prop} (h : t σ H fun vs H1 => rc vs H1 Q) : tCB rc t σ H Q := h
theorem cons (h : ta σ H fun x H1 => tr σ H1 fun xs H2 => QA (x :: xs) H2) : tCons ta tr σ H QA := h
theorem nil (h : QA [] H) : tNil σ H QA := h
theorem ifx (h : tt σ H fun c H1 => if c = true then ta σ H1 Q else tb σ H1 Q) : tIf tt ta tb σ H Q := h
theorem test (h : te σ H fun x H1 => ∃ k, x = .bl k ∧ QB k H1) : tTest te σ H QB := h
theorem testB (h : te σ H fun x H1 => ∃ k, x = .bl k ∧ QB k H1) : tB te σ H QB := h
theorem isB {k : Bool} {P : Bool → Prop} (h : P k) : ∃ k', V.bl k = .bl k' ∧ P k' := ⟨k, rfl, h⟩
theorem i0 {g : Int → Int → V} {a b : Int} (q : Q (g a b) H) : rI0 g (.int a) (.int b) H Q := ⟨a, b, rfl, rfl, q⟩
theorem iC {C : Int → Int → Prop} {g : Int → Int → V} {a b : Int} (h : C a b) (q : Q (g a b) H) : rI C g (.int a) (.int b) H Q := ⟨a, b, rfl, rfl, h, q⟩
theorem neg {a : Int} (q : Q (.int (-a)) H) : rU (fun i => .int (-i)) (.int a) H Q := ⟨a, rfl, q⟩
theorem lst (h : t σ H fun xs H1 => xs.length ≤ sizeLine ∧ ∀ p, H1 p = none → Q (.ref p) (upd H1 p (.lst xs))) : tLst t σ H Q := h
theorem tup (h : t σ H fun xs H1 => xs.length ≤ sizeLine ∧ ∀ p, H1 p = none → Q (.ref p) (upd H1 p (.tup xs))) : tTup t σ H Q := h
theorem small {n : Nat} (h : n ≤ 100000) : n ≤ sizeLine := Nat.le_trans h (by decide)
theorem seq (h : t1 { D with nx := t2 D } σ H) : tSeq t1 t2 D σ H := h
theorem asg (h : te σ H fun x H1 => D.nx (σ.set i (some x)) H1) : tAsg te (gName i) D σ H := h
theorem asgG {g : TG} (h : te σ H fun x H1 => g x σ H1 D.nx) : tAsg te g D σ H := h
theorem gNm {P : L2.St → Hp → Prop} (h : P (σ.set i (some v)) H) : gName i v σ H P := h
theorem gSb {ts : TSet} {P : L2.St → Hp → Prop} (h : ta σ H fun o H1 => tb σ H1 fun i H2 => ts o i v H2 fun H3 => P σ H3) : gSub ta tb ts v σ H P := h
theorem setL {p : Addr} {k : Int} {j : Nat} {P : Hp → Prop} (h : H p = some (.lst xs)) (e : ixN xs.length k = some j) (q : P (upd H p (.lst (xs.set j v)))) : rSetL (.ref p) (.int k) v H P := ⟨p, xs, k, j, rfl, rfl, h, e, q⟩
theorem gC {t : TG} {u : TGs} {vs : List V} {P : L2.St → Hp → Prop} (h : t v σ H fun s1 H1 => u vs s1 H1 P) : gCons t u (v :: vs) σ H P := ⟨v, vs, rfl, h⟩
theorem gN {P : L2.St → Hp → Prop} (h : P σ H) : gNil [] σ H P := ⟨rfl, h⟩
theorem lcl {tl : TE} {g : TG} {vs : List Nat} (h : tl σ H fun x H1 => ∃ a, x = .ref a ∧ (∃ xs, SqL K H1 a xs) ∧ ∀ D, H1 D = none → ∃ W : Nat → Nat → Hp → Prop, (∃ m, W 0 m (upd H1 D (.lst []))) ∧ ∀ i m H, W i m H →
    ((Itl K a).stop i H ∧ Q (.ref D) H) ∨ ((Itl K a).go i H ∧ ∃ Nx : Hp → Prop, (∀ H', Nx H' → ∃ m', m' < m ∧ W (i + 1) m' H') ∧ ∀ x H', (Itl K a).yld i H x H' → g x (wipe σ vs) H' fun σ2 H2 => wipe σ2 vs = wipe σ vs ∧ tt σ2 H2 fun b H3 =>
      if b = true then te σ2 H3 fun y H4 => ∃ acc, H4 D = some (.lst acc) ∧ acc.length < sizeLine ∧ Nx (upd H4 D (.lst (acc ++ [y]))) else Nx H3)) : tLc (iList K tl) g tt te vs σ H Q := h
theorem ret (h : te σ H D.rt) : tRet te D σ H := h
theorem nxt (h : D.nx σ H) : tNext D σ H := h
theorem ifS (h : tt σ H fun b H1 => if b = true then t1 D σ H1 else t2 D σ H1) : tIfS tt t1 t2 D σ H := h
theorem notT (h : tt σ H fun b H1 => QB (!b) H1) : tNot tt σ H QB := h
theorem eqS (h : scal x y = true) (q : Q (.bl (decide (x = y))) H) : rEq x y H Q := ⟨h, q⟩
theorem neS (h : scal x y = true) (q : Q (.bl (!decide (x = y))) H) : rNe x y H Q := ⟨h, q⟩
theorem ixL {p : Addr} {a : Int} (h : SqL K H p xs) (e : atI xs a = some v) (q : Q v H) : rIxL K (.ref p) (.int a) H Q := ⟨p, xs, a, v, rfl, rfl, h, e, q⟩
theorem ifB {k : Bool} {A B : Prop} (h1 : k = true → A) (h2 : k = false → B) : if k = true then A else B := by
  cases k with
  | true => exact iteT (h1 rfl)
  | false => exact iteF (h2 rfl)
theorem call {sp : Sp} {E : XK} (h : t σ H fun vs H1 => sp (vs ++ []) H1 Q E) : tCall sp [] E t σ H Q := h
end
end Rd

/-! A try of several clauses `except C as n`: each clause is a link of its own, so that they chain to any length. -/
namespace L2
open PySem PySem.Spec PyProof.Rows
section
variable {X : Cx} {pins : List (Addr × Obj)} {σ : St} {H : Hp} {cls : Value} {d : Option Addr} {a : Addr} {B : Heap} {s₀ s : Shared}
/-- the exception at a stands caught in s; s₀ is the state that was known when it was thrown -/
structure Caught (X : Cx) (pins : List (Addr × Obj)) (σ : St) (H : Hp) (cls : Value) (d : Option Addr) (a : Addr) (B : Heap) (s₀ s : Shared) : Prop where
  inv : Inv X pins σ H s₀
  own : ∀ b o, s₀.heap.get? b = some o → b ∉ frs X.stack → B.get? b = some o
  up : s₀.heap.UpToSlots s.heap
  fly : HandSPX.FlyingZ B X.stack a (Zc cls d) s.heap
  new : H a = none
  os : s.os = s₀.os
  bare : AllBare s.gens
theorem Caught.now (c : Caught X pins σ H cls d a B s₀ s) : Inv X pins σ H s := c.inv.landed c.own c.fly.1 c.up c.os c.bare
theorem Caught.on (c : Caught X pins σ H cls d a B s₀ s) {h : Heap} (f : HandSPX.FlyingZ B X.stack a (Zc cls d) h) (u : s.heap.UpToSlots h) : Caught X pins σ H cls d a B s₀ { s with heap := h } :=
  { c with up := c.up.trans u, fly := f }
/-- what a suite of such an exception begins with -/
theorem Caught.inside (c : Caught X pins σ H cls d a B s₀ s) (hf : X.env.frame = some X.env.locals) (hs : X.stack = X.env :: X.outer) :
    ∃ oe, Zc cls d oe ∧ (∃ vs, oe.data = .fields vs) ∧ s.heap.get? a = some oe ∧ Inv (X.suite a ((a, oe) :: (X.pn ++ pins))) [] σ H s := by
  obtain ⟨oe, vs, ea, ez, ed⟩ := c.fly.there
  have far : a ∉ frs (X.env :: X.outer) := fun m => by
    obtain ⟨_, o, e, n⟩ := (hs ▸ c.fly.2.2.1 : s.heap.FunFrames B (X.env :: X.outer)).mem m
    rw [ea] at e
    exact n vs (Option.some.inj e ▸ ed)
  refine ⟨oe, ez, ⟨vs, ed⟩, ea, c.now.suite ea ed c.new (fun e => far ?_) fun m => far ?_⟩
  · exact List.mem_filterMap.mpr ⟨X.env, List.mem_cons_self, e ▸ hf⟩
  · obtain ⟨y, hy, z⟩ := List.mem_filterMap.mp m
    exact List.mem_filterMap.mpr ⟨y, List.mem_cons_of_mem _ hy, z⟩
end
section
variable {X : Cx} {hds : List ExceptHandler} {x n : Str} {c : Value} {i : Nat} {body suite : List Stmt} {b₀ : Stmt} {h₀ : ExceptHandler} {np pos pos' : Pos} {tb : WX → TS} {ts : Addr → Value → Option Addr → TS} {Wout : WX} {W : Ends → WX}
/-- the clauses answer every caught exception of which W is true -/
def Clauses (X : Cx) (hds : List ExceptHandler) (W : Ends → WX) : Prop := ∀ (pins : List (Addr × Obj)) (D : Ends) (σ : St) (H : Hp) (cls : Value) (d : Option Addr) (a : Addr) (B : Heap) (s₀ s : Shared),
  Caught X pins σ H cls d a B s₀ s → W D cls d σ H → wpAny (model X.prog X.w) X.A (handleBy (.ref a) X.env hds) (SP X pins D) X.xe s
/-- no clause is left: it goes on -/
theorem clauses_nil (hf : X.env.frame = some X.env.locals) (tk : Takes X Wout) : Clauses X [] fun _ => Wout := by
  intro pins D σ H cls d a B s₀ s c w
  obtain ⟨_, _, _, oe, vs, t, _, _, ea, _, ed, e1, _⟩ := id c.fly
  have out : wpAny (model X.prog X.w) X.A (setFlight (.ref a) X.env.frame) (fun _ s' => wpAny (model X.prog X.w) X.A (throw (.ref a) : Sem Flow) (SP X pins D) X.xe s') X.xe s := hf ▸
    HandSPX.setFlight_upZ c.fly fun h' hh u => wpAny_throw (tk _ _ ⟨a, B, s₀, pins, σ, H, cls, d, rfl, c.inv, c.own, c.up.trans u, .inr (.inr hh), c.new, c.os, c.bare, w⟩)
  refine wpAny_handleBy_nil ?_
  show wpAny _ _ (passOn _ _ _) _ _ _
  unfold PySem.passOn
  refine wpAny_bind (wpAny_field ea ed e1 ?_)
  rw [if_neg (show ¬ ((Value.ref t == Value.none) = true) by simp)]
  first
    | exact wpAny_bind out
    | exact wpAny_bind (wpAny_pure (wpAny_bind out))
/-- a clause `except x as n: suite`, n in slot i, before further ones -/
theorem clauses_as (hs : X.stack = X.env :: X.outer) (hf : X.env.frame = some X.env.locals) (hN : X.N.Nodup) (hi : X.N[i]? = some n) (hln : X.env.kindOf n = some .local) (hc : Names X x c)
    (hsu : ∀ (a : Addr) (oe : Obj) (cls : Value) (d : Option Addr) (pn : List (Addr × Obj)), Zc cls d oe → (∃ vs, oe.data = .fields vs) → PSs (X.suite a ((a, oe) :: pn)) (b₀ :: suite) (ts a cls d)) (r : Clauses X hds W) :
    Clauses X (.ExceptHandler (some (.Name x np)) (some n) (b₀ :: suite) pos' :: hds) fun D => wAs X.K c i ts (W D) D := by
  intro pins D σ H cls d a B s₀ s k w
  obtain ⟨b, hb, yes, no⟩ := w
  obtain ⟨oe, ez, ed, ea, inn⟩ := k.inside hf hs
  refine wpAny_handleBy_cons (codeAny_handlers_test ?_) fun q => nomatch q
  have asks : ∀ {Q : Value → Shared → Prop} {E : Value → Shared → Prop}, Q c s → wpAny (model X.prog X.w) (X.A.mark (some (.ref a))) (eval (.Name x np) X.env) Q E s := fun q =>
    match hc with
    | ⟨g, db, .inl m⟩ => ld_glob (X := X.suite a ((a, oe) :: (X.pn ++ pins))) inn g m q db
    | ⟨g, db, .inr ⟨m, v, nn⟩⟩ => ld_blt (X := X.suite a ((a, oe) :: (X.pn ++ pins))) inn g m v q nn db
  refine asks ((PySem.W.exm_one (M := model X.prog X.w) k.now.kIn (fun A Q E s' l q => wpAny_typeOf_ref (l _ _ ea) (by rw [ez.1]; exact q)) hb).here ?_)
  cases b with
  | false => exact r pins D σ H cls d a B s₀ s k (no rfl)
  | true =>
    refine codeAny_handlers_suite_as (HandSPX.lands_againZ k.fly fun h' f' u' => ?_)
    have k' := k.on f' u'
    obtain ⟨oe', ez', ed', ea', inn'⟩ := k'.inside hf hs
    refine store_ok (X := X.suite a ((a, oe') :: (X.pn ++ pins))) (v := .ref a) inn' hN hi (.inl hln) rfl (fun s1 J => ?_) (.inr hln)
    refine wpAny_mono ((hsu a oe' cls d (X.pn ++ pins) ez' ed').run [] s1 _ H _ J (yes rfl a k.new)) (fun fl s2 q => ?_) fun _ _ z => z.elim
    rcases fl with _ | _ | _ | v
    · obtain ⟨σ2, H2, J2, z⟩ := q
      exact gone_ok (J2.unsuite k.inv.ok) hN hi hln fun s3 J3 => ⟨_, _, J3, z⟩
    · obtain ⟨σ2, H2, J2, z⟩ := q
      exact gone_ok (J2.unsuite k.inv.ok) hN hi hln fun s3 J3 => ⟨_, _, J3, z⟩
    · obtain ⟨σ2, H2, J2, z⟩ := q
      exact gone_ok (J2.unsuite k.inv.ok) hN hi hln fun s3 J3 => ⟨_, _, J3, z⟩
    · obtain ⟨y, σ2, H2, J2, ry, z⟩ := q
      exact gone_ok (J2.unsuite k.inv.ok) hN hi hln fun s3 J3 => ⟨_, _, _, J3, ry, z⟩
/-- try: body, then the clauses -/
theorem ps_try_cl (hs : X.stack = X.env :: X.outer) (hf : X.env.frame = some X.env.locals)
    (hb : ∀ (W : WX) (pn : List (Addr × Obj)) (xe : Value → Shared → Prop), Takes (X.tr pn xe) W →
      PassesOwn (model X.prog X.w) X.A X.env xe → PSs (X.tr pn xe) body (tb W))
    (hc : Clauses X (h₀ :: hds) W) : PS X (.Try body (h₀ :: hds) [] [] pos) (fun D σ H => tb (W D) D σ H) := by
  refine ⟨fun pins s σ H D I h => wpAny_Try_except ?_⟩
  refine wpAny_mono ((hb (W D) (X.pn ++ pins) (fun e s₁ => wpAny (model X.prog X.w) X.A (noteFrame e X.env) (fun _ s₂ => wpAny (model X.prog X.w) X.A (setFlight e none) (fun _ s₃ =>
    wpAny (model X.prog X.w) X.A (handleBy e X.env (h₀ :: hds)) (SP X pins D) X.xe s₃) X.xe s₂) X.xe s₁) (fun u s' z => ?_) PassesOwn.looking).run [] s σ H D (I.toTry _) h) (fun fl s1 q => ?_) fun _ _ z => z
  · obtain ⟨a, B, sI, pn', σ', H', cls, d, rfl, J, own, up, sky, na, os, ag, w⟩ := z
    refine Sky.land Zc.steady (I.ok.frames.trans (congrArg some hs)) hf (hs ▸ sky) fun h' f' u' => ?_
    exact hc pins D σ' H' cls d a B sI _ ⟨J.ofTry I.ok, own, up.trans u', hs ▸ f', na, os, ag⟩ w
  · rcases fl with _ | _ | _ | v
    · obtain ⟨σ2, H2, J, z⟩ := q
      exact wpAny_execs_nil ⟨σ2, H2, J.ofTry I.ok, z⟩
    · obtain ⟨σ2, H2, J, z⟩ := q
      exact ⟨σ2, H2, J.ofTry I.ok, z⟩
    · obtain ⟨σ2, H2, J, z⟩ := q
      exact ⟨σ2, H2, J.ofTry I.ok, z⟩
    · obtain ⟨y, σ2, H2, J, ry, z⟩ := q
      exact ⟨y, σ2, H2, J.ofTry I.ok, ry, z⟩
end
end L2

/-! != of an instance that has == alone (both answers). -/
namespace PySem.W
open PySem PySem.Calls PyProof.Rows Builtin
section
variable {prog : Program} {w : World} {A : Around} {E : Value → Shared → Prop} {s : Shared} {K : Frag} {x C L f : Addr} {h₀ : Heap} {m : Str → Option Value} {ox : Obj} {od : Option Obj} {b tb : Value}
def NotBack (Q : Value → Shared → Prop) (v : Value) (s' : Shared) : Prop := ∃ k, v = .bool k ∧ Q (.bool (!k)) s'
theorem bound_B {M : Model} {name : Str} {id : String} {args : List Value} {Q : Option Value → Shared → Prop} (X : K.In s.heap) (I : InstAt s.heap x ox C od) (hs : findIn K (.ref C) name = some (some (.builtin id)))
    (hb : ∀ self, bindSpecial (.builtin id) self = pure (.builtin id, [self])) (h : wpAny M A (call (.builtin id) (.ref x :: args)) (fun v => Q (some v)) E s) : wpAny M A (callSpecialIfBound? (.ref x) name args) Q E s := by
  simp only [callSpecialIfBound?, bindSpecialIfBound?]
  refine wpAny_holding (wpAny_bind (wpAny_bind (wpAny_bind (I.type.here ((looks_findIn X hs).here ?_)))))
  refine wpAny_bind (wpAny_askSetting (wpAny_ite ?_))
  have fin : wpAny M A (call (.builtin id) ([.ref x] ++ args) >>= fun v => pure (some v)) Q E s := wpAny_bind (wpAny_mono h (fun v s' h' => wpAny_pure h') fun _ _ h' => h')
  split
  · exact wpAny_bind ((Looks.of_pure (hb _)).here (wpAny_pure (by exact fin)))
  · exact wpAny_tryCatch (wpAny_bind ((Looks.of_pure (hb _)).here (wpAny_pure (by exact fin))))
theorem own_ne {Q : Value → Shared → Prop} (hu0 : A.units < cLine) (hu : A.in1.units < cLine) (F : Fr h₀ L s.heap m) (X₀ : K.In h₀) (I : InstAt s.heap x ox C od) (hb : Looks (model prog w) s.heap (typeOf b) tb) (hn : notFirst K C tb = true)
    (hs : findIn K (.ref C) "__eq__" = some (some (.ref f))) (hf : isFn K (.ref f) = true) (hne : findIn K (.ref C) "__ne__" = some (some (.builtin "object.__ne__"))) (hm : mroIn K C (.type "object") = some true)
    (h : wpAny (model prog w) A.in1 (call (.ref f) [.ref x, b]) (NotBack Q) E s) : wpAny (model prog w) A (richCompare .NotEq (.ref x) b) Q E s := by
  have X := X₀.keeps F.keep
  have one : wpAny (model prog w) A (tryCompare (.ref x) (cmpInfo .NotEq).2.1 b) (fun r s' => ∃ v, r = some v ∧ Q v s') E s := by
    unfold tryCompare
    refine wpAny_bind (bound_B X I hne PySem.F.cmp_object.ne.bind ?_)
    refine wpAny_call (codeAny_call_builtin PySem.F.cmp_object.ne.plain PySem.F.cmpEntry_ne (check_slot (i := "object.__ne__") (owner := "object") (n := "__ne__") PySem.F.cmpKind_ne PySem.F.cmpSplit_ne (I.type.andThen (looks_mroIn X hm)) (PySem.F.cmpArgs_ne _ _) ?_))
    unfold Builtin.«object.__ne__»
    refine wpAny_bind (m := slotArgs "__ne__" 1 _) (wpAny_pure ?_)
    refine wpAny_bind (m := cRoomFor _ _) (wpAny_cRoomFor hu ?_)
    refine wpAny_bind (m := callSpecialIfBound? (.ref x) (Str.ofString "__eq__") _) (ifBound_K X I hs hf (wpAny_mono h (fun r s' hq => ?_) fun _ _ y => y))
    obtain ⟨k, rfl, hq⟩ := hq
    refine wpAny_bind (m := truthy (.bool k)) (wpAny_truthy_bool ?_)
    exact wpAny_pure (wpAny_pure ⟨_, rfl, hq⟩)
  unfold richCompare
  simp only [oneThing_ref]
  refine wpAny_holding (wpAny_bind (wpAny_cRoomFor hu0 ?_))
  refine wpAny_bind (I.type.here (wpAny_bind (hb.here ?_)))
  split
  · rename_i q
    have e : subIn K tb (.ref C) = some false := by
      rcases Bool.or_eq_true_iff.mp hn with e | e
      · rw [beq_iff_eq.mp e] at q; simp at q
      · exact beq_iff_eq.mp e
    refine wpAny_bind ((looks_subIn X e).here ?_)
    simp only [Bool.false_eq_true, if_false]
    refine wpAny_bind (wpAny_mono one (fun r s' z => ?_) fun _ _ e => e)
    obtain ⟨v, rfl, hq⟩ := z
    exact wpAny_pure hq
  · refine wpAny_bind (wpAny_pure ?_)
    simp only [Bool.false_eq_true, if_false]
    refine wpAny_bind (wpAny_mono one (fun r s' z => ?_) fun _ _ e => e)
    obtain ⟨v, rfl, hq⟩ := z
    exact wpAny_pure hq
end
end PySem.W

/-! Own methods of instances that a built-in calls: repr(x), str(x), x == y and x != y with both answers; {x!r} of data. -/
namespace L2
open PySem PySem.Spec PyProof.Rows
section
variable {X : Cx} {CX : CXT} {n : Nat} {C f : Addr} {fd : FuncData} {ps : List Str} {sp : Sp} {E : XK}
theorem FnOk.g {P : Program} {w : World} {K : PySem.W.Frag} {mg : Str → Option Value} {base : Heap} (F : FnOk P w K mg base CX n f fd ps sp) : FnG P w K mg base CX n f fd ps sp :=
  ⟨F.len, fun A outer s H args us vs Q E _ => F.run A outer s H args us vs Q E⟩
theorem FnG.mono {P : Program} {w : World} {K : PySem.W.Frag} {mg : Str → Option Value} {base : Heap} {j k : Nat} (F : FnG P w K mg base CX j f fd ps sp) (h : j ≤ k) : FnG P w K mg base CX k f fd ps sp :=
  ⟨F.many, fun A outer s H args us vs Q E g r => F.goes A outer s H args us vs Q E g (r.mono h)⟩
/-- a def at f called below the running body, with values that are there -/
theorem call_at (F : FnG X.prog X.w X.K X.mg X.base CX n f fd ps sp) (hb : Binds X.K fd ps []) (hx : Passes CX X E) {A : Around} (sb : Sub X n A) (hgu : A.guards = some []) {pins : List (Addr × Obj)} {s : Shared} {σ : St} {H : Hp} {vs : List V} {us : List Value} {Q : VK}
    (I : Inv X pins σ H s) (r : Vals vs us) (h : sp vs H Q E) : wpAny (model X.prog X.w) A (call (.ref f) us) (EP X pins σ Q) X.xe s := by
  have e0 : Env0 X.prog X.w X.K X.mg X.base A X.stack s H := by
    have e := I.env0
    exact ⟨by rw [sb.fr]; exact e.frames, e.mod, e.bs, e.bsz, e.funs, e.frf, e.hok, e.bare⟩
  have hl := F.many _ _ _ _ h
  have bind := hb s us I.kIn (by rw [List.append_nil, ← r.length]; exact hl)
  rw [List.append_nil] at bind
  refine wpAny_call (codeAny_mono (F.goes A X.stack s H ⟨us, []⟩ us vs Q E hgu sb.room e0 bind r h) fun r' s2 y => ?_)
  match r', y with
  | .error e, y => exact hx pins σ H s e s2 I y
  | .ok (.ret u), y => exact I.after y
/-- an own method of the class, by its name -/
structure OwnM (K : PySem.W.Frag) (C : Addr) (x : Str) (f : Addr) : Prop where
  find : PySem.W.findIn K (.ref C) x = some (some (.ref f))
  fn : PySem.W.isFn K (.ref f) = true
/-- what an own __repr__ or __str__ is called for -/
def rShow (C : Addr) (sp : Sp) (E : XK) : List V → Hp → VK → Prop := fun xs H Q => ∃ a dx fs, xs = [.ref a] ∧ H a = some (.ins C dx fs) ∧ sp [.ref a] H (fun v H' => ∃ y, v = .str y ∧ Q (.str y) H') E
theorem call_reprI (F : FnG X.prog X.w X.K X.mg X.base CX n f fd ps sp) (m : OwnM X.K C "__repr__" f) (hb : Binds X.K fd ps []) (hx : Passes CX X E) (hgu : X.A.guards = some []) (hr : Room (n + 1) X.A) :
    CallR X (.builtin "repr") (rShow C sp E) := by
  intro pins s σ H xs us Q I r h
  obtain ⟨a, dx, fs, rfl, ha, h⟩ := h
  obtain ⟨u, rfl, ru⟩ := vals1 r
  cases ru
  obtain ⟨mA, J, _⟩ := ins_get I.hok ha
  obtain ⟨od, J, _⟩ := J.look
  obtain ⟨m', hF⟩ := I.fr
  have sb : Sub X n X.A.in1 := Sub.in1 ⟨hr, rfl⟩
  refine PySem.W.repr_K sb.room.units0 hF I.ok.mod.kin J m.find m.fn (wpAny_mono (call_at (vs := [V.ref a]) F hb hx sb hgu I (.cons rfl .nil) h) (fun v s' z => ?_) fun _ _ y => y)
  obtain ⟨v, H', I', rv, y, rfl, q⟩ := z
  obtain ⟨t, rfl⟩ := rv
  exact ⟨.str y, H', I', ⟨t, rfl⟩, q⟩
theorem call_strI (F : FnG X.prog X.w X.K X.mg X.base CX n f fd ps sp) (m : OwnM X.K C "__str__" f) (hb : Binds X.K fd ps []) (hx : Passes CX X E) (hgu : X.A.guards = some []) (hr : Room (n + 2) X.A) :
    CallR X (.type "str") (rShow C sp E) := by
  intro pins s σ H xs us Q I r h
  obtain ⟨a, dx, fs, rfl, ha, h⟩ := h
  obtain ⟨u, rfl, ru⟩ := vals1 r
  cases ru
  obtain ⟨mA, J, _⟩ := ins_get I.hok ha
  obtain ⟨od, J, _⟩ := J.look
  have sb1 : Sub X (n + 1) X.A.in1 := Sub.in1 ⟨hr, rfl⟩
  have sb : Sub X n X.A.in1.in1 := Sub.in1 sb1
  refine PySem.W.kso_call sb.room.units0 I.kIn J m.find m.fn (wpAny_mono (call_at (vs := [V.ref a]) F hb hx sb hgu I (.cons rfl .nil) h) (fun v s' z => ?_) fun _ _ y => y)
  obtain ⟨v, H', I', rv, y, rfl, q⟩ := z
  obtain ⟨t, rfl⟩ := rv
  exact ⟨.str y, H', I', ⟨t, rfl⟩, q⟩
/-- x == y, x != y by an own == -/
def rOwn (K : PySem.W.Frag) (C : Addr) (sp : Sp) (E : XK) (g : Bool → Bool) : R2 := fun x y H Q => ∃ a dx fs t, x = .ref a ∧ H a = some (.ins C dx fs) ∧ TyX K H y t ∧ PySem.W.notFirst K C t = true ∧ sp [x, y] H (fun v H' => ∃ k, v = .bl k ∧ Q (.bl (g k)) H') E
theorem op_eqI (F : FnG X.prog X.w X.K X.mg X.base CX n f fd ps sp) (m : OwnM X.K C "__eq__" f) (hb : Binds X.K fd ps []) (hx : Passes CX X E) (hgu : X.A.guards = some []) (hr : Room n X.A) :
    OpR X (compareOp .Eq) (rOwn X.K C sp E id) := by
  intro pins s σ H x y v u Q I rx ry hq
  obtain ⟨a, dx, fs, t, rfl, ha, ty, nf, h⟩ := hq
  obtain ⟨P, kit, hp, _⟩ := kit_of I ry ty
  obtain ⟨mA, J, _⟩ := ins_get I.hok ha
  obtain ⟨od, J, _⟩ := J.look
  obtain ⟨m', hF⟩ := I.fr
  have sb : Sub X n X.A := ⟨hr, rfl⟩
  have rx' := rx
  cases rx
  show wpAny (model X.prog X.w) X.A (richCompare .Eq (.ref a) u) (EP X pins σ Q) X.xe s
  refine PySem.W.cmp_K (op := .Eq) (tb := t) sb.room.units0 hF I.ok.mod.kin J (kit.ty _ _ I.kIn hp) nf m.find m.fn (wpAny_mono (call_at (vs := [V.ref a, y]) F hb hx sb hgu I (.cons rfl (.cons ry .nil)) h) (fun v s' z => ?_) fun _ _ y => y)
  obtain ⟨v, H', I', rv, k, rfl, q⟩ := z
  cases rv
  exact ⟨.bl k, H', I', rfl, q⟩
theorem op_neI (F : FnG X.prog X.w X.K X.mg X.base CX n f fd ps sp) (m : OwnM X.K C "__eq__" f) (hne : PySem.W.findIn X.K (.ref C) "__ne__" = some (some (.builtin "object.__ne__"))) (hm : PySem.W.mroIn X.K C (.type "object") = some true)
    (hb : Binds X.K fd ps []) (hx : Passes CX X E) (hgu : X.A.guards = some []) (hr : Room (n + 1) X.A) : OpR X (compareOp .NotEq) (rOwn X.K C sp E not) := by
  intro pins s σ H x y v u Q I rx ry hq
  obtain ⟨a, dx, fs, t, rfl, ha, ty, nf, h⟩ := hq
  obtain ⟨P, kit, hp, _⟩ := kit_of I ry ty
  obtain ⟨mA, J, _⟩ := ins_get I.hok ha
  obtain ⟨od, J, _⟩ := J.look
  obtain ⟨m', hF⟩ := I.fr
  have sb0 : Sub X (n + 1) X.A := ⟨hr, rfl⟩
  have sb : Sub X n X.A.in1 := Sub.in1 sb0
  cases rx
  show wpAny (model X.prog X.w) X.A (richCompare .NotEq (.ref a) u) (EP X pins σ Q) X.xe s
  refine PySem.W.own_ne (tb := t) sb0.room.units0 sb.room.units0 hF I.ok.mod.kin J (kit.ty _ _ I.kIn hp) nf m.find m.fn hne hm (wpAny_mono (call_at (vs := [V.ref a, y]) F hb hx sb hgu I (.cons rfl (.cons ry .nil)) h) (fun v s' z => ?_) fun _ _ y => y)
  obtain ⟨v, H', I', rv, k, rfl, q⟩ := z
  cases rv
  exact ⟨k, rfl, .bl (!k), H', I', rfl, q⟩
/-- {x!r} of a list, tuple or dict of data -/
def tFmtRD (K : PySem.W.Frag) (te : TE) : TE := fun σ H Q => te σ H fun x H1 => ∃ a d, x = .ref a ∧ Dd K H1 (.ref a) d ∧ d.showable = true ∧ d.depth ≤ 20 ∧ d.shown.length ≤ sizeLine ∧ Q (.str d.shown) H1
theorem pe_fmtRD {e : Expr} {te : TE} {pos : Pos} (hgu : X.A.guards = some []) (hu : X.A.units + 64 < cLine) (q : smOk X.K = true) (he : PE X e te) : PE X (.FormattedValue e 114 none pos) (tFmtRD X.K te) := by
  refine ⟨fun pins s σ H Q I h => ?_⟩
  refine wpAny_FormattedValue_repr (thn (he.run pins s σ H _ I h) fun v s1 hv => ?_)
  obtain ⟨x, H1, I1, r1, a, d, rfl, hd, hs, hz, hl, k⟩ := hv
  cases r1
  obtain ⟨as, hr, hn⟩ := Dd.reads I1 q hd rfl
  refine pyReprObj_of_reads hr hs (fun _ => hn) hgu (by omega) (fun _ _ e => e) (fun h' u tk hk => ?_) hl
  exact wpAny_formatField_str ⟨.str d.shown, H1, I1.kept (t' := tk) hk, ⟨u, rfl⟩, k⟩ ⟨.str d.shown, H1, (I1.kept (t' := tk) hk).tok _, ⟨_, rfl⟩, k⟩ hl
end
end L2

/-! The head's facts with defs that are found by a path of one's own (a property's getter). -/
namespace He
open PySem PySem.Spec PyProof.Rows L2
structure DefP where
  path : PySem.W.Frag → Addr
  name : Str
  qual : Str
  params : Arguments
  body : List Stmt
  scope : Scope
def fnAt (K : PySem.W.Frag) (a : Addr) : FnW := match K.lookup a with
  | some ⟨_, _, .func z, _⟩ => some (z.name, z.qualname, z.params, z.body, z.scope, z.globals, z.closure, z.builtins)
  | _ => none
def DefP.val (d : DefP) : FnW := some (d.name, d.qual, d.params, .stmts d.body, d.scope, mainGlobals, [], builtinsNs)
def DefP.ok (K : PySem.W.Frag) (d : DefP) : Bool := PySem.W.keepIn K (.ref (d.path K)) && (match K.lookup (d.path K) with
  | some ⟨_, _, .func z, _⟩ => PySem.W.codeIn K z.code d.qual && (dflB K z.defaults [] && kwdB K z.kwdefaults [])
  | _ => false)
theorem DefP.funD {K : PySem.W.Frag} {d : DefP} (e : fnAt K (d.path K) = d.val) (c : d.ok K = true) : ∃ fd, FunD K d.name d.qual d.params d.body d.scope [] [] (d.path K) fd := by
  obtain ⟨kp, c2⟩ := ba c
  unfold fnAt at e
  cases q : K.lookup (d.path K) with
  | none =>
    rw [q] at c2
    cases c2
  | some o =>
    obtain ⟨oc, od, dt, osl⟩ := o
    rw [q] at c2 e
    cases dt with
    | func z =>
      obtain ⟨a1, a2, a3, a4, a5, a6, a7, a8, a9, a10, a11, a12, a13, a14, a15⟩ := z
      have e2 : (some (a1, a2, a3, a4, a5, a6, a7, a15) : FnW) = some (d.name, d.qual, d.params, .stmts d.body, d.scope, mainGlobals, [], builtinsNs) := e
      simp only [Option.some.injEq, Prod.mk.injEq] at e2
      obtain ⟨g1, g2, g3, g4, g5, g6, g7, g8⟩ := e2
      subst g1 g2 g3 g4 g5 g6 g7 g8
      obtain ⟨k1, k2⟩ := ba (show (PySem.W.codeIn K a13 d.qual && (dflB K a8 [] && kwdB K a9 [])) = true from c2)
      obtain ⟨k3, k4⟩ := ba k2
      exact ⟨_, ⟨oc, od, a8, a9, a10, a11, a12, a13, a14, osl, rfl, q, k1, dflB_ok k3, kwdB_ok k4⟩, kp⟩
    | _ => cases c2
abbrev AlY : Type := Bool × AlD × List FnW
def obsY (xf : PySem.W.Frag → Bool) (fa : List Fa) (fn : List DefD) (fp : List DefP) (K : PySem.W.Frag) : AlY := (xf K && fp.all fun d => d.ok K, obsD fa fn K, fp.map fun d => fnAt K (d.path K))
def obsYG (n : Nat) (xf : PySem.W.Frag → Bool) (fa : List Fa) (fn : List DefD) (fp : List DefP) (g : Addr → Option Obj) : AlY := obsY xf fa fn fp (frG g (sysModules :: asD g n))
structure SaysY (xf : PySem.W.Frag → Bool) (fa : List Fa) (fn : List DefD) (fp : List DefP) (K : PySem.W.Frag) : Prop where
  x : xf K = true
  p : ∀ d ∈ fp, d.ok K = true
  d : SaysD fa fn K
  v : fp.map (fun d => fnAt K (d.path K)) = fp.map DefP.val
theorem SaysY.def_ {xf : PySem.W.Frag → Bool} {fa : List Fa} {fn : List DefD} {fp : List DefP} {K : PySem.W.Frag} (c : SaysY xf fa fn fp K) (i : Nat) {d : DefP} (h : fp[i]? = some d := by rfl) : ∃ fd, FunD K d.name d.qual d.params d.body d.scope [] [] (d.path K) fd := by
  have e2 : (fp.map fun d => fnAt K (d.path K))[i]? = (fp.map DefP.val)[i]? := by rw [c.v]
  rw [List.getElem?_map, List.getElem?_map, h] at e2
  exact DefP.funD (Option.some.inj e2) (c.p d (List.mem_of_getElem? h))
def hookY (n : Nat) (xf : PySem.W.Frag → Bool) (fa : List Fa) (fn : List DefD) (fp : List DefP) : PySem.W.Hook where
  α := AlY
  obs := fun s => obsYG n xf fa fn fp s.heap.get?
  val := fun _ => (true, valD fn, fp.map DefP.val)
  says := fun _ h => ∃ K : PySem.W.Frag, K.In h ∧ SaysY xf fa fn fp K
  of := fun _ _ e => by
    have e1 := ba (congrArg (fun z : AlY => z.1) e)
    exact ⟨_, frG_in, e1.1, fun d hd => List.all_eq_true.mp e1.2 d hd, congrArg (fun z : AlY => z.2.1) e, congrArg (fun z : AlY => z.2.2) e⟩
  keeps := fun _ _ _ y k => y.imp fun _ z => ⟨PySem.W.Frag.In.keeps z.1 k, z.2⟩
theorem obsYG_eq {n : Nat} {xf : PySem.W.Frag → Bool} {fa : List Fa} {fn : List DefD} {fp : List DefP} {g : Addr → Option Obj} {s : Shared} (h : ∀ a, g a = s.heap.get? a) : obsYG n xf fa fn fp g = (hookY n xf fa fn fp).obs s := by
  obtain rfl : g = s.heap.get? := funext h
  rfl
end He

/-! enumerate over a tuple: the walk, and a for over it. -/
namespace EnT
open PySem PySem.Spec PyProof.Rows
open AutoSeq1 (wpAny_loadPart')
section
variable {P : Program} {w : World} {A : Around} {E : Value → Shared → Prop} {s : Shared} {e j t : Addr} {n : Nat} {xs : Array Value} {x y : Value}
theorem next_in {Q : Value → Shared → Prop} (hj : s.heap.IsTupleIter j t n) (ht : s.heap.IsTuple t xs) (at_ : xs[n]? = some x) (q : ∀ g, g.IsTupleIter j t (n + 1) → Heap.SameBut j s.heap g → Q x { s with heap := g }) :
    wpAny (model P w) A (Builtin.SmallTypes.nextOf (.ref j)) Q E s := by
  obtain ⟨oj, ej, cj, dj⟩ := id hj
  obtain ⟨ot, et, _, m, dt⟩ := ht
  unfold Builtin.SmallTypes.nextOf
  refine wpAny_bind (wpAny_callSpecial?_slot (name := Str.ofString "__next__") hj.typeIs PySem.F.slot_tuple_iterator_next (wpAny_call_entry PySem.F.slot_tuple_iterator_next hj.typeIs PySem.F.entry_tuple_iterator_next ?_ (PySem.F.args_tuple_iterator_next_1 _)))
  show wpAny _ _ (field (.ref j) 0 >>= _) _ _ s
  refine wpAny_bind (wpAny_field ej dj (x := .ref t) rfl ?_)
  show wpAny _ _ (ite ((Value.ref t == Value.none) = true) _ _) _ _ s
  rw [if_neg (show ¬ ((Value.ref t == Value.none) = true) by intro z; cases z)]
  show wpAny _ _ (field (.ref j) 1 >>= _) _ _ s
  refine wpAny_bind (wpAny_field ej dj (x := .int n 0) rfl ?_)
  show wpAny _ _ (seqItems? (Value.ref t) >>= _) _ _ s
  refine wpAny_bind (wpAny_seqItems et dt ?_)
  simp only [Int.toNat_natCast, at_]
  refine wpAny_bind (wpAny_setField ej dj (by simp) (wpAny_pure ⟨x, rfl, wpAny_pure (q _ ⟨_, Heap.get?_update_self _ ej (Obj.isFreed_of_fields (Obj.data_mapFields dj _)), (Obj.cls_mapFields ..).trans cj, ?_⟩ (Heap.SameBut.update ..))⟩))
  rw [Obj.data_mapFields dj]
  simp [rawInt]
theorem next_out {Q : Value → Shared → Prop} (calm : A.handled = none) (hj : s.heap.IsTupleIter j t n) (ht : s.heap.IsTuple t xs) (at_ : xs[n]? = none)
    (q : ∀ g b, Heap.ExtBut j s.heap g → (∃ o, g.get? b = some o ∧ o.cls = .type "StopIteration") → E (.ref b) { s with heap := g }) : wpAny (model P w) A (Builtin.SmallTypes.nextOf (.ref j)) Q E s := by
  obtain ⟨oj, ej, cj, dj⟩ := id hj
  obtain ⟨ot, et, _, m, dt⟩ := ht
  unfold Builtin.SmallTypes.nextOf
  refine wpAny_bind (wpAny_callSpecial?_slot (name := Str.ofString "__next__") hj.typeIs PySem.F.slot_tuple_iterator_next (wpAny_call_entry PySem.F.slot_tuple_iterator_next hj.typeIs PySem.F.entry_tuple_iterator_next ?_ (PySem.F.args_tuple_iterator_next_1 _)))
  show wpAny _ _ (field (.ref j) 0 >>= _) _ _ s
  refine wpAny_bind (wpAny_field ej dj (x := .ref t) rfl ?_)
  show wpAny _ _ (ite ((Value.ref t == Value.none) = true) _ _) _ _ s
  rw [if_neg (show ¬ ((Value.ref t == Value.none) = true) by intro z; cases z)]
  show wpAny _ _ (field (.ref j) 1 >>= _) _ _ s
  refine wpAny_bind (wpAny_field ej dj (x := .int n 0) rfl ?_)
  show wpAny _ _ (seqItems? (Value.ref t) >>= _) _ _ s
  refine wpAny_bind (wpAny_seqItems et dt ?_)
  simp only [Int.toNat_natCast, at_]
  refine wpAny_bind (wpAny_rule (wpAny_bind (wpAny_setField ej dj (by simp) ?_)))
  show wpAny _ _ (newExc (Value.type "StopIteration") [] >>= _) _ _ _
  refine wpAny_bind ?_
  simp only [newExc, newTuple]
  refine wpAny_bind (wpAny_newObj_type ?_ (by first | size_fits | decide))
  refine wpAny_bind (m := firstArgMember _ _) (wpAny_of_eq (a := Value.none) (by first | rfl | (simp only [firstArgMember]; rfl) | skip) ?_)
  refine wpAny_newObj_type ?_ (by first | size_fits | decide)
  simp only [raiseNew]
  refine wpAny_bind (wpAny_handled ?_)
  first | rw [show A.in1.handled = none from calm] | rw [calm]
  refine wpAny_bind (wpAny_pure (wpAny_throw (q _ _ (((Heap.SameBut.update ..).extBut.push _).push _) ⟨_, Heap.get?_push_size _ rfl, rfl⟩)))
/-- the enumerator at e over the iterator at j over the tuple at t, before item n -/
structure On (h : Heap) (e j t : Addr) (n : Nat) (y : Value) : Prop where
  en : IsEnum h e j n y
  it : h.IsTupleIter j t n
  ne : e ≠ j
theorem item {Q : Option Value → Shared → Prop} (o : On s.heap e j t n y) (ht : s.heap.IsTuple t xs) (at_ : xs[n]? = some x)
    (q : ∀ g, IsEnumOut g e j ((n : Int) + 1) x s.heap.objs.size → g.IsTupleIter j t (n + 1) → g.get? s.heap.objs.size = some { cls := .type "tuple", data := .seq #[.int n s.toks, x] } → g.objs.size = s.heap.objs.size + 1 →
      (∀ b ob, b ≠ e → b ≠ j → s.heap.get? b = some ob → g.get? b = some ob) → Q (some (.ref s.heap.objs.size)) { s with heap := g, toks := s.toks + 1 }) : wpAny (model P w) A (pyNext (.ref e)) Q E s := by
  obtain ⟨he, hj, ne⟩ := o
  have ty : s.TypeIs (.ref e) "enumerate" := ⟨_, he, rfl⟩
  unfold pyNext
  refine wpAny_bind (wpAny_attempt (wpAny_callSpecial?_slot (name := Str.ofString "__next__") ty PySem.F.slot_enumerate_next (wpAny_call_entry PySem.F.slot_enumerate_next ty PySem.F.entry_enumerate_next ?_ (PySem.F.args_enumerate_next_1 _))))
  obtain ⟨hp, gs, dr, tk, os⟩ := s
  show wpAny _ _ (field (.ref e) 2 >>= _) _ _ (Shared.mk hp gs dr tk os)
  refine wpAny_bind (wpAny_field he rfl (x := .ref j) rfl ?_)
  refine wpAny_bind (next_in hj ht at_ fun h₁ j₁ b₁ => ?_)
  have b₁ : Heap.SameBut j hp h₁ := b₁
  have e₁ : IsEnum h₁ e j n y := (b₁.2 e ne).trans he
  show wpAny _ _ (field (.ref e) 3 >>= _) _ _ (Shared.mk h₁ gs dr tk os)
  refine wpAny_bind (wpAny_field e₁ rfl (x := rawInt n) rfl ?_)
  show wpAny _ _ (field (.ref e) 4 >>= _) _ _ (Shared.mk h₁ gs dr tk os)
  refine wpAny_bind (wpAny_field e₁ rfl (x := .none) rfl ?_)
  show wpAny _ _ (mkInt n >>= _) _ _ (Shared.mk h₁ gs dr tk os)
  refine wpAny_bind (wpAny_mkInt ?_)
  show wpAny _ _ (setField (.ref e) 3 (rawInt ((n : Int) + 1)) >>= _) _ _ (Shared.mk h₁ gs dr (tk + 1) os)
  refine wpAny_bind (wpAny_setField_rec e₁ (by simp) fun h₂ e₂ b₂ => ?_)
  have b₂ : Heap.SameBut e h₁ h₂ := b₂
  have e₂ : IsEnum h₂ e j ((n : Int) + 1) y := e₂
  show wpAny _ _ (setField (.ref e) 4 .none >>= _) _ _ (Shared.mk h₂ gs dr (tk + 1) os)
  refine wpAny_bind (wpAny_setField_rec e₂ (by simp) fun h₃ e₃ b₃ => ?_)
  have b₃ : Heap.SameBut e h₂ h₃ := b₃
  have e₃ : IsEnum h₃ e j ((n : Int) + 1) y := e₃
  show wpAny _ _ (newTuple [.int n tk, x] >>= _) _ _ (Shared.mk h₃ gs dr (tk + 1) os)
  refine wpAny_bind (wpAny_newTuple ?_)
  have e₄ : IsEnum (h₃.push { cls := .type "tuple", data := .seq #[.int n tk, x] }) e j ((n : Int) + 1) y := Heap.get?_push_of_some _ e₃
  generalize eq : h₃.push { cls := .type "tuple", data := .seq #[.int n tk, x] } = h₄ at e₄
  have z₃ : h₃.objs.size = hp.objs.size := by rw [b₃.1, b₂.1, b₁.1]
  have lt : e < hp.objs.size := Heap.lt_size he
  have t₄ : h₄.get? hp.objs.size = some { cls := .type "tuple", data := .seq #[.int n tk, x] } := by
    rw [← eq, ← z₃]
    exact Heap.get?_push_size _ rfl
  have z₄ : h₄.objs.size = hp.objs.size + 1 := by rw [← eq, Heap.size_push, z₃]
  have k₄ : ∀ b ob, b ≠ e → b ≠ j → hp.get? b = some ob → h₄.get? b = some ob := fun b ob be bj hb => by
    rw [← eq]
    exact Heap.get?_push_of_some _ (b₃.extBut b ob be (b₂.extBut b ob be (b₁.extBut b ob bj hb)))
  have j₄ : h₄.IsTupleIter j t (n + 1) := by
    obtain ⟨ob, eo, r⟩ := (j₁.extBut b₂.extBut (Ne.symm ne)).extBut b₃.extBut (Ne.symm ne)
    rw [← eq]
    exact ⟨ob, Heap.get?_push_of_some _ eo, r⟩
  show wpAny _ _ (Builtin.SmallTypes.ownedTupleIsFree (.ref e) >>= _) _ _ (Shared.mk h₄ gs dr (tk + 1) os)
  rw [z₃]
  refine wpAny_bind ?_
  unfold Builtin.SmallTypes.ownedTupleIsFree
  refine wpAny_bind (wpAny_field e₄ rfl (x := .none) rfl (wpAny_pure ?_))
  simp only [if_true]
  refine wpAny_bind (wpAny_rule ?_)
  refine wpAny_bind (wpAny_field e₄ rfl (x := y) rfl ?_)
  refine wpAny_bind (wpAny_setField_rec e₄ (by simp) fun h₅ e₅ b₅ => ?_)
  have b₅ : Heap.SameBut e h₄ h₅ := b₅
  have e₅ : IsEnum h₅ e j ((n : Int) + 1) x := e₅
  show wpAny _ _ (Builtin.SmallTypes.ownedTupleHandOut (.ref e) (.ref hp.objs.size) >>= _) _ _ (Shared.mk h₅ gs dr (tk + 1) os)
  refine wpAny_bind ?_
  unfold Builtin.SmallTypes.ownedTupleHandOut
  refine wpAny_bind (wpAny_setField_rec e₅ (by simp) fun h₆ e₆ b₆ => ?_)
  have b₆ : Heap.SameBut e h₅ h₆ := b₆
  have e₆ : IsEnumOut h₆ e j ((n : Int) + 1) x hp.objs.size := e₆
  refine wpAny_setField_rec e₆ (by simp) fun h₇ e₇ b₇ => ?_
  have b₇ : Heap.SameBut e h₆ h₇ := b₇
  have e₇ : IsEnumOut h₇ e j ((n : Int) + 1) x hp.objs.size := e₇
  have far := Nat.ne_of_gt lt
  refine wpAny_bind (wpAny_letGo (wpAny_pure ⟨_, rfl, wpAny_pure (q h₇ e₇ (((j₄.extBut b₅.extBut (Ne.symm ne)).extBut b₆.extBut (Ne.symm ne)).extBut b₇.extBut (Ne.symm ne)) ?_ ?_ fun b ob be bj hb => ?_)⟩))
  · exact b₇.extBut _ _ far (b₆.extBut _ _ far (b₅.extBut _ _ far t₄))
  · rw [b₇.1, b₆.1, b₅.1, z₄]
  · exact b₇.extBut b ob be (b₆.extBut b ob be (b₅.extBut b ob be (k₄ b ob be bj hb)))
theorem ends {Q : Option Value → Shared → Prop} (calm : A.handled = none) (o : On s.heap e j t n y) (ht : s.heap.IsTuple t xs) (at_ : xs[n]? = none)
    (q : ∀ g, Heap.ExtBut j s.heap g → Q none { s with heap := g }) : wpAny (model P w) A (pyNext (.ref e)) Q E s := by
  obtain ⟨he, hj, ne⟩ := o
  have ty : s.TypeIs (.ref e) "enumerate" := ⟨_, he, rfl⟩
  unfold pyNext
  refine wpAny_bind (wpAny_attempt (wpAny_callSpecial?_slot (name := Str.ofString "__next__") ty PySem.F.slot_enumerate_next (wpAny_call_entry PySem.F.slot_enumerate_next ty PySem.F.entry_enumerate_next ?_ (PySem.F.args_enumerate_next_1 _))))
  show wpAny _ _ (field (.ref e) 2 >>= _) _ _ s
  refine wpAny_bind (wpAny_field he rfl (x := .ref j) rfl ?_)
  refine wpAny_bind (next_out calm hj ht at_ fun g b x1 x2 => ?_)
  obtain ⟨ob, eb, cb⟩ := x2
  exact wpAny_bind (wpAny_isInstance (T := "StopIteration") (b := true) ⟨ob, eb, cb⟩ isSubtype_stop (wpAny_pure (q _ x1)))
theorem meets_new (t : Addr) (xs : Array Value) (m : Nat) (dd : Option Addr) (sl : Array (Option Value)) :
    Meets (Builtin.«enumerate.__new__» ⟨[.type "enumerate", .ref t], []⟩) (fun _ R s => s.heap.get? t = some { cls := .type "tuple", dict := dd, data := .seq xs m, slots := sl } ∧
      R (.ok (.ret (.ref (s.heap.push { cls := .type "tuple_iterator", data := .fields #[.ref t, .int 0 0] }).objs.size)))
        { s with heap := (s.heap.push { cls := .type "tuple_iterator", data := .fields #[.ref t, .int 0 0] }).push { cls := .type "enumerate", data := .fields #[.none, .bool false, .ref s.heap.objs.size, rawInt 0, .none, .none] } }) :=
  .of_wp fun prog w A R s hh => by
    obtain ⟨hp, gs, dr, tk, os⟩ := s
    obtain ⟨ht, hh⟩ := hh
    have sb := sub_enumerate
    have hT : Heap.IsTuple (Shared.heap ⟨hp, gs, dr, tk, os⟩) t xs := ⟨_, ht, rfl, m, rfl⟩
    wp_walk using wpAny_loadPart' ht
    refine wpAny_stack_any fun st => wpAny_pure ?_
    split
    · rename_i c _ _ _ _ _
      cases (c == Value.type "enumerate")
      · wp_walk using wpAny_loadPart' ht, wpAny_pyIter_tuple hT
        exact ⟨_, rfl, hh⟩
      · wp_walk using wpAny_loadPart' ht, wpAny_pyIter_tuple hT
        exact ⟨_, rfl, hh⟩
    · wp_walk using wpAny_loadPart' ht, wpAny_pyIter_tuple hT
      exact ⟨_, rfl, hh⟩
theorem made {Q : Value → Shared → Prop} (ht : s.heap.IsTuple t xs)
    (q : ∀ g, On g (s.heap.objs.size + 1) s.heap.objs.size t 0 .none → g.objs.size = s.heap.objs.size + 2 → (∀ b o, s.heap.get? b = some o → g.get? b = some o) → Q (.ref (s.heap.objs.size + 1)) { s with heap := g }) :
    wpAny (model P w) A (call (.type "enumerate") [.ref t]) Q E s := by
  obtain ⟨⟨c, dd, dt, sl⟩, et, hc, m, hd⟩ := ht
  obtain rfl : c = .type "tuple" := hc
  obtain rfl : dt = .seq xs m := hd
  refine callType_new PySem.F.called_enumerate (by decide) (PySem.F.typeCall_enumerate_1 _) (PySem.F.newCall_enumerate_1 _) (fun obj => PySem.F.args_object_init_2 obj _) PySem.F.entry_enumerate_new (meets_new t xs m dd sl) ⟨et, ?_⟩
  have z : (s.heap.push { cls := .type "tuple_iterator", data := .fields #[.ref t, .int 0 0] }).objs.size = s.heap.objs.size + 1 := Heap.size_push ..
  show _ ∧ _
  rw [z]
  have en := Heap.get?_push_size (s.heap.push { cls := .type "tuple_iterator", data := .fields #[.ref t, .int 0 0] }) (o := { cls := .type "enumerate", data := .fields #[.none, .bool false, .ref s.heap.objs.size, rawInt 0, .none, .none] }) rfl
  rw [z] at en
  exact ⟨⟨_, en, rfl⟩, q _ ⟨en, ⟨_, Heap.get?_push_of_some _ (Heap.get?_push_size _ rfl), rfl, rfl⟩, Nat.succ_ne_self _⟩ (by rw [Heap.size_push, z]) fun b o y => Heap.get?_push_of_some _ (Heap.get?_push_of_some _ y)⟩
end
end EnT
namespace L2
open PySem PySem.Spec PyProof.Rows
/-- the tuple at a, each item in a new pair with its number -/
def Itet (K : PySem.W.Frag) (a : Addr) : It :=
  ⟨fun i H => ∃ (xs : List V) (x : V), SqT K H a xs ∧ xs[i]? = some x, fun i H v H' => ∃ T x, v = .ref T ∧ H T = none ∧ H' = upd H T (.tup [.int (i : Nat), x]) ∧ ∀ xs, SqT K H a xs → xs[i]? = some x, fun i H => ∃ xs : List V, SqT K H a xs ∧ xs.length ≤ i⟩
theorem turn_enumT {P : Program} {w : World} {K : PySem.W.Frag} {elts : List Expr} {kk : Nat} {tpos : Pos} (a e j : Addr) :
    Turn P w K (.Tuple elts kk tpos) (Itet K a) [e, j] e (fun i h => ∃ old, EnT.On h e j a i old) where
  mem := List.mem_cons_self
  obj := fun i h st b hb => by
    obtain ⟨old, he, ⟨o, ho, hc, hd⟩, _⟩ := st
    rcases List.mem_cons.mp hb with rfl | hb
    · exact ⟨_, he, fun v q => nomatch q⟩
    · obtain rfl := List.mem_singleton.mp hb
      exact ⟨o, ho, fun v q => by
        rw [hd] at q
        cases q⟩
  keep := fun i h h' st k => by
    obtain ⟨old, he, ⟨o, ho, r⟩, ne⟩ := st
    exact ⟨old, k e List.mem_cons_self _ he, ⟨o, k j (List.mem_cons_of_mem _ List.mem_cons_self) _ ho, r⟩, ne⟩
  item := by
    intro X hP hw hK hc i pins s σ H E I hf st hg
    subst hP hw hK
    obtain ⟨old, on⟩ := st
    obtain ⟨xs, x, hq, hx⟩ := hg
    obtain ⟨its, rv, p, hz⟩ := I.tuple hq
    obtain ⟨u, hu, ru⟩ := rv.get hx
    have el : e < s.heap.objs.size := Heap.lt_size on.en
    have jl : j < s.heap.objs.size := by
      obtain ⟨_, q, _⟩ := on.it
      exact Heap.lt_size q
    refine EnT.item on p (x := u) (by simpa using hu) fun g ho hj hT hsz hk => ?_
    refine ⟨_, rfl, wpAny_letOwnedTupleGo_enum (s := { s with heap := g, toks := s.toks + 1 }) ho fun g2 he' sb => ?_⟩
    have hT2 : g2.get? s.heap.objs.size = some { cls := .type "tuple", data := .seq #[.int i s.toks, u] } := (sb.2 _ (Nat.ne_of_gt el)).trans hT
    have new : ObjOk X.prog X.w (upd H s.heap.objs.size (.tup [.int (i : Nat), x])) g2 s.heap.objs.size (.tup [.int (i : Nat), x]) :=
      ⟨by show 2 ≤ sizeLine; decide, [.int i s.toks, u], .cons ⟨_, rfl⟩ (.cons ru .nil), ⟨_, hT2, rfl, _, rfl⟩⟩
    have keep : ∀ b ob, b ∉ [e, j] → s.heap.get? b = some ob → g2.get? b = some ob := fun b ob hb q =>
      (sb.2 b fun z => hb (by rw [z]; exact List.mem_cons_self)).trans (hk b ob (fun z => hb (by rw [z]; exact List.mem_cons_self)) (fun z => hb (by rw [z]; exact List.mem_cons_of_mem _ List.mem_cons_self)) q)
    have I1 : Inv X pins σ (upd H s.heap.objs.size (.tup [.int (i : Nat), x])) { s with heap := g2, toks := s.toks + 1 } := I.turnedNew (ch := [e, j]) keep hf (Nat.le_refl _) new
    obtain ⟨o, eo, r⟩ := hj
    refine ⟨.ref s.heap.objs.size, _, I1, rfl, ⟨_, x, rfl, I.hok.fresh (Nat.le_refl _), rfl, fun ys hy => by rw [I.tuple_inj hy hq]; exact hx⟩, ⟨u, ?_, ⟨o, (sb.2 j (Ne.symm on.ne)).trans eo, r⟩, on.ne⟩, fun b hb => ?_⟩
    · rw [show ((i + 1 : Nat) : Int) = (i : Int) + 1 by omega]
      exact he'
    · have hb' : b < s.heap.objs.size := by
        rcases List.mem_cons.mp hb with rfl | hb
        · exact el
        · rw [List.mem_singleton.mp hb]
          exact jl
      rw [upd_ne (Nat.ne_of_lt hb')]
      exact (hf b hb).1
  done := by
    intro X hP hw hK hc i pins s σ H E I hf st hg
    subst hP hw hK
    obtain ⟨old, on⟩ := st
    obtain ⟨xs, hq, hx⟩ := hg
    obtain ⟨its, rv, p, hz⟩ := I.tuple hq
    obtain ⟨f0, f1, f2, f3, f4, f5⟩ := hf j (List.mem_cons_of_mem _ List.mem_cons_self)
    have hl := rv.length
    exact EnT.ends (I.ok.hd hc) on p (by simp; omega) fun g eb => ⟨rfl, I.turned (t' := s.toks) (fun b o hb q => eb b o hb q) f0 f1 f3 f4 f5⟩
  self := fun A i s Q E st h => let ⟨_, on⟩ := st; wpAny_pyIter_enum on.en h
def iEnumT (K : PySem.W.Frag) (ta : TA) : TI := fun σ H R => ta σ H fun vs H1 => ∃ a xs, vs = [.ref a] ∧ SqT K H1 a xs ∧ R (Itet K a) H1
theorem pi_enumT {X : Cx} {e : Expr} {ta : TA} {p pos tpos : Pos} {elts : List Expr} {kk : Nat} (hg : Gl X "enumerate") (hm : X.mg "enumerate" = none) (ha : PA X [e] ta) (hs : starEach [e] X.env = [(false, eval e X.env)] := by rfl) :
    PI X (.Tuple elts kk tpos) (.Call (.Name "enumerate" p) [e] [] pos) (iEnumT X.K ta) := by
  refine ⟨fun pins s σ H R I h => Call_ (ld_blt I hg hm boot_enumerate (PyProof.Rows.callWith_type1 (thn (ha.run pos pins s σ H _ I h) fun us s1 ⟨vs, H1, I1, r1, q1⟩ => ?_) hs rfl))⟩
  obtain ⟨a, xs, rfl, hq, q⟩ := q1
  obtain ⟨u, rfl, ru⟩ := vals1 r1
  cases ru
  obtain ⟨its, rv, pt, hz⟩ := I1.tuple hq
  refine EnT.made pt fun g on hsz hk => wpAny_pyIter_enum on.en ⟨s1.heap.objs.size + 1, [s1.heap.objs.size + 1, s1.heap.objs.size], _, _, H1, rfl, I1.kept (t' := s1.toks) hk, turn_enumT a (s1.heap.objs.size + 1) s1.heap.objs.size, ⟨_, on⟩, fun b hb => ?_, q⟩
  have le : s1.heap.objs.size ≤ b := by
    rcases List.mem_cons.mp hb with rfl | hb
    · exact Nat.le_succ _
    · rw [List.mem_singleton.mp hb]
      exact Nat.le_refl _
  exact I1.fpOk le (I1.hok.fresh le)
/-- the same over a list or a tuple -/
def iEnumA (K : PySem.W.Frag) (ta : TA) : TI := fun σ H R => ta σ H fun vs H1 => ∃ a xs, vs = [.ref a] ∧ ((SqL K H1 a xs ∧ R (Ite K a) H1) ∨ (SqT K H1 a xs ∧ R (Itet K a) H1))
theorem pi_enumA {X : Cx} {e : Expr} {ta : TA} {p pos tpos : Pos} {elts : List Expr} {kk : Nat} (hg : Gl X "enumerate") (hm : X.mg "enumerate" = none) (ha : PA X [e] ta) (hs : starEach [e] X.env = [(false, eval e X.env)] := by rfl) :
    PI X (.Tuple elts kk tpos) (.Call (.Name "enumerate" p) [e] [] pos) (iEnumA X.K ta) := by
  refine ⟨fun pins s σ H R I h => Call_ (ld_blt I hg hm boot_enumerate (PyProof.Rows.callWith_type1 (thn (ha.run pos pins s σ H _ I h) fun us s1 ⟨vs, H1, I1, r1, q1⟩ => ?_) hs rfl))⟩
  obtain ⟨a, xs, rfl, q1⟩ := q1
  obtain ⟨u, rfl, ru⟩ := vals1 r1
  cases ru
  have le : ∀ b, b ∈ [s1.heap.objs.size + 1, s1.heap.objs.size] → s1.heap.objs.size ≤ b := fun b hb => by
    rcases List.mem_cons.mp hb with rfl | hb
    · exact Nat.le_succ _
    · rw [List.mem_singleton.mp hb]
      exact Nat.le_refl _
  rcases q1 with ⟨hq, q⟩ | ⟨hq, q⟩
  · obtain ⟨its, rv, pt, hz⟩ := I1.list hq
    exact call_enumerate_list pt.isList fun g he hit hsz hk => wpAny_pyIter_enum he ⟨s1.heap.objs.size + 1, [s1.heap.objs.size + 1, s1.heap.objs.size], _, _, H1, rfl, I1.kept (t' := s1.toks) hk, turn_enum a (s1.heap.objs.size + 1) s1.heap.objs.size, ⟨⟨.none, he⟩, hit, Nat.succ_ne_self _⟩, fun b hb => I1.fpOk (le b hb) (I1.hok.fresh (le b hb)), q⟩
  · obtain ⟨its, rv, pt, hz⟩ := I1.tuple hq
    exact EnT.made pt fun g on hsz hk => wpAny_pyIter_enum on.en ⟨s1.heap.objs.size + 1, [s1.heap.objs.size + 1, s1.heap.objs.size], _, _, H1, rfl, I1.kept (t' := s1.toks) hk, turn_enumT a (s1.heap.objs.size + 1) s1.heap.objs.size, ⟨_, on⟩, fun b hb => I1.fpOk (le b hb) (I1.hok.fresh (le b hb)), q⟩
theorem walk_enumT {K : PySem.W.Frag} {a : Addr} {xs : List V} : Walk (Itet K a) xs.length (fun H => SqT K H a xs) (YPair (fun i => some (.int (i : Nat))) (fun i => xs[i]?)) where
  goes := fun i H hi h => ⟨xs, xs[i], h, List.getElem?_eq_getElem hi⟩
  stops := fun H h => ⟨xs, h, Nat.le_refl _⟩
  yields := fun i H x H' hi h y => by
    obtain ⟨T, z, rfl, n, rfl, e⟩ := y
    exact ⟨T, _, z, rfl, n, rfl, rfl, e xs h⟩
end L2

/-! Further readings, one construct at a time. -/
namespace L2
open PySem PySem.Spec PyProof.Rows
/-- what a for asks of its walk -/
def ForG (J : It) (g : TG) (tb : TS) (D : Ends) (σ : L2.St) (H1 : Hp) : Prop :=
  ∃ W : Nat → Nat → L2.St → Hp → Prop, (∃ m, W 0 m σ H1) ∧ ∀ i m σ H, W i m σ H → (J.stop i H ∧ D.nx σ H) ∨ (J.go i H ∧ ∃ N : L2.St → Hp → Prop, (∀ σ' H', N σ' H' → ∃ m', m' < m ∧ W (i + 1) m' σ' H') ∧
    ∀ x H', J.yld i H x H' → g x σ H' fun σ2 H2 => tb { nx := N, rt := D.rt, bk := D.nx, ct := N } σ2 H2)
/-- what a comprehension over a range asks -/
def LcJ (J : It) (i : Nat) (ii : List Nat) (te : TE) (σ : L2.St) (H1 : Hp) (Q : VK) : Prop :=
  ∀ D, H1 D = none → ∃ W : Nat → Nat → Hp → Prop, (∃ m, W 0 m (upd H1 D (.lst []))) ∧ ∀ k m H, W k m H →
      (J.stop k H ∧ Q (.ref D) H) ∨ (J.go k H ∧ ∃ Nx : Hp → Prop, (∀ H', Nx H' → ∃ m', m' < m ∧ W (k + 1) m' H') ∧ ∀ x H', J.yld k H x H' → gName i x (wipe σ ii) H' fun σ2 H2 => wipe σ2 ii = wipe σ ii ∧ tYes σ2 H2 fun b H3 =>
        if b = true then te σ2 H3 (fun y H4 => ∃ acc, H4 D = some (.lst acc) ∧ acc.length < sizeLine ∧ Nx (upd H4 D (.lst (acc ++ [y])))) else Nx H3)
theorem lcR1 {ta : TA} {te : TE} {i : Nat} {ii : List Nat} {σ : L2.St} {H : Hp} {Q : VK} (h : ta σ H fun vs H1 => ∃ j, vs = [.int j] ∧ -2 ^ 62 ≤ j ∧ j < 2 ^ 62 ∧ LcJ (Itr 0 j.toNat) i ii te σ H1 Q) : tLc (iRng1 ta) (gName i) tYes te ii σ H Q := h
theorem lcR2 {ta : TA} {te : TE} {i : Nat} {ii : List Nat} {σ : L2.St} {H : Hp} {Q : VK} (h : ta σ H fun vs H1 => ∃ a b, vs = [.int a, .int b] ∧ (-2 ^ 62 ≤ a ∧ a < 2 ^ 62 ∧ -2 ^ 62 ≤ b ∧ b < 2 ^ 62) ∧ LcJ (Itr a (b - a).toNat) i ii te σ H1 Q) : tLc (iRng2 ta) (gName i) tYes te ii σ H Q := h
/-- over a range, by what holds of the turn, of what is made so far, and of the heap -/
theorem lcGen {lo : Int} {n i : Nat} {ii : List Nat} {te : TE} {σ : L2.St} {H1 : Hp} {Q : VK} (J : Nat → List V → Hp → Prop) (hi : ii = [i]) (hl : n ≤ 100000) (j0 : J 0 [] H1)
    (st : ∀ k acc (H : Hp) D o, H1 D = none → J k acc H → J k acc (upd H D o))
    (ht : ∀ k acc (H2 : Hp) (Q' : VK), k < n → acc.length = k → J k acc H2 → (∀ v (H3 : Hp), (∀ b o, H1 b = none → H2 b = some o → H3 b = some o) → J (k + 1) (acc ++ [v]) H3 → Q' v H3) → te ((wipe σ [i]).set i (some (.int (lo + (k : Int))))) H2 Q')
    (q : ∀ D acc (H2 : Hp), H1 D = none → acc.length = n → J n acc H2 → H2 D = some (.lst acc) → Q (.ref D) H2) : LcJ (Itr lo n) i ii te σ H1 Q := by
  subst hi
  intro D hD
  refine lc_it walk_range (fun k H2 => ∃ acc : List V, acc.length = k ∧ J k acc H2 ∧ H2 D = some (.lst acc)) ⟨[], rfl, st 0 [] H1 D _ hD j0, upd_same⟩ (fun _ _ _ _ => trivial) (fun k x H H' hk p hy => ?_) fun H2 p => ?_
  · obtain ⟨rfl, rfl⟩ := hy
    obtain ⟨acc, al, j, c⟩ := p
    refine ⟨by show List.set (List.set (List.set σ i none) i _) i none = List.set σ i none; rw [List.set_set, List.set_set], iteT (B := ∃ acc : List V, acc.length = k + 1 ∧ J (k + 1) acc H' ∧ H' D = some (.lst acc)) ?_⟩
    refine ht k acc H' _ hk al j fun v H3 kp j3 => ⟨acc, kp D _ hD c, ?_, acc ++ [v], by rw [List.length_append, al]; rfl, st _ _ _ D _ hD j3, upd_same⟩
    rw [al]
    exact Nat.lt_of_lt_of_le (show k < 100001 by omega) (by decide)
  · obtain ⟨acc, al, j, c⟩ := p
    exact q D acc H2 hD al j c
end L2
namespace Rd
open PySem PySem.Spec PyProof.Rows L2
section
variable {σ : L2.St} {H : Hp} {i : Nat} {v x y : V} {ta tb tc te : TE} {t tr : TA} {r r' : R2} {Q : VK} {QA : List V → Hp → Prop} {QB : Bool → Hp → Prop} {D : Ends} {t1 t2 : TS} {tt uu : TT} {xs ys : List V} {K : PySem.W.Frag} {g : TG} {m : V → Option Int → Option Int → Hp → VK → Prop}
theorem andV (h : ta σ H fun x H1 => ∃ c, x = .bl c ∧ if c = true then tb σ H1 Q else Q (.bl false) H1) : tAndV ta tb σ H Q := h
theorem orV (h : ta σ H fun x H1 => ∃ c, x = .bl c ∧ if c = true then Q (.bl true) H1 else tb σ H1 Q) : tOrV ta tb σ H Q := h
theorem notV (h : ta σ H fun x H1 => ∃ c, x = .bl c ∧ Q (.bl (!c)) H1) : tNotV ta σ H Q := h
theorem andT (h : tt σ H fun c H1 => if c = true then uu σ H1 QB else QB false H1) : tAnd tt uu σ H QB := h
theorem orT (h : tt σ H fun c H1 => if c = true then QB true H1 else uu σ H1 QB) : tOr tt uu σ H QB := h
theorem chain (h : ta σ H fun x H1 => tb σ H1 fun y H2 => r x y H2 fun z H3 => ∃ k, z = .bl k ∧ (if k = true then tc σ H3 fun w' H4 => r' y w' H4 Q else Q (.bl false) H3)) : tChain r r' ta tb tc σ H Q := h
theorem isT {k : Bool} {A B : Prop} (e : k = true) (h : A) : ∃ c, V.bl k = .bl c ∧ if c = true then A else B := ⟨k, rfl, by rw [e]; exact iteT h⟩
theorem isF {k : Bool} {A B : Prop} (e : k = false) (h : B) : ∃ c, V.bl k = .bl c ∧ if c = true then A else B := ⟨k, rfl, by rw [e]; exact iteF h⟩
theorem forEA {D : Ends} (h : t σ H fun vs H1 => ∃ a xs, vs = [.ref a] ∧ ((SqL K H1 a xs ∧ ForG (Ite K a) g t1 D σ H1) ∨ (SqT K H1 a xs ∧ ForG (Itet K a) g t1 D σ H1))) : tFor (iEnumA K t) g t1 D σ H := h
theorem forR1 {D : Ends} (h : t σ H fun vs H1 => ∃ j, vs = [.int j] ∧ -2 ^ 62 ≤ j ∧ j < 2 ^ 62 ∧ ForG (Itr 0 j.toNat) g t1 D σ H1) : tFor (iRng1 t) g t1 D σ H := h
theorem forR2 {D : Ends} (h : t σ H fun vs H1 => ∃ i j, vs = [.int i, .int j] ∧ (-2 ^ 62 ≤ i ∧ i < 2 ^ 62 ∧ -2 ^ 62 ≤ j ∧ j < 2 ^ 62) ∧ ForG (Itr i (j - i).toNat) g t1 D σ H1) : tFor (iRng2 t) g t1 D σ H := h
theorem forL {D : Ends} (h : te σ H fun x H1 => ∃ a, x = .ref a ∧ (∃ xs, SqL K H1 a xs) ∧ ForG (Itl K a) g t1 D σ H1) : tFor (iList K te) g t1 D σ H := h
theorem forT {D : Ends} (h : te σ H fun x H1 => ∃ a, x = .ref a ∧ (∃ xs, SqT K H1 a xs) ∧ ForG (Itt K a) g t1 D σ H1) : tFor (iTup K te) g t1 D σ H := h
theorem meth {C : Addr} {mn : Str} {sp : Sp} {dvs : List V} {E : XK} (h : ta σ H fun x H1 => ∃ a dx fs, x = .ref a ∧ H1 a = some (.ins C dx fs) ∧ fs.lookup mn = none ∧ t σ H1 fun vs H2 => sp (x :: (vs ++ dvs)) H2 Q E) : tMeth C mn sp dvs E ta t σ H Q := h
theorem make {C : Addr} {sp : Sp} {dvs : List V} {E : XK} (h : t σ H fun vs H1 => ∀ x dx, H1 x = none → H1 dx = none → dx ≠ x → sp (.ref x :: (vs ++ dvs)) (upd (upd H1 dx (.own x)) x (.ins C dx [])) (fun v H2 => v = .non ∧ Q (.ref x) H2) E) : tMake C sp dvs E t σ H Q := h
theorem prop {C : Addr} {sp : Sp} {dvs : List V} {E : XK} (h : ta σ H fun x H1 => ∃ a dx fs, x = .ref a ∧ H1 a = some (.ins C dx fs) ∧ sp (.ref a :: dvs) H1 Q E) : tProp C sp dvs E ta σ H Q := h
theorem js {ts : List TE} {acc : Str} {QS : Str → Hp → Prop} (h : te σ H fun x H1 => ∃ y : Str, x = .str y ∧ (acc ++ y).length ≤ sizeLine ∧ tJs ts (acc ++ y) σ H1 QS) : tJs (te :: ts) acc σ H QS := h
theorem js0 {acc : Str} {QS : Str → Hp → Prop} (h : QS acc H) : tJs [] acc σ H QS := h
theorem par {j : Nat} {D : Ends} (h : t σ H fun vs H1 => ∃ v w, vs = [v, w] ∧ D.nx ((σ.set i (some v)).set j (some w)) H1) : tPar i j t D σ H := h
theorem star (h : te σ H fun x H1 => ∃ p xs, x = .ref p ∧ (SqT K H1 p xs ∨ SqL K H1 p xs) ∧ t σ H1 fun ys H2 => QA (xs ++ ys) H2) : StX.tStar K te t σ H QA := h
theorem m0 {rm : V → List V → Hp → VK → Prop} (h : te σ H fun x H1 => (∃ a, x = .str a) ∧ rm x [] H1 Q) : tM0 rm te σ H Q := h
theorem m1 {rm : V → List V → Hp → VK → Prop} (h : ta σ H fun x H1 => (∃ a, x = .str a) ∧ te σ H1 fun y H2 => rm x [y] H2 Q) : tM1 rm ta te σ H Q := h
theorem bm0 {T : String} {rm : V → List V → Hp → VK → Prop} (h : te σ H fun x H1 => tyV K T x H1 ∧ rm x [] H1 Q) : tBM0 K T rm te σ H Q := h
theorem bm {T : String} {rm : V → List V → Hp → VK → Prop} (h : te σ H fun x H1 => tyV K T x H1 ∧ t σ H1 fun xs H2 => rm x xs H2 Q) : tBM K T rm te t σ H Q := h
theorem sl {tl th : TO} (h : te σ H fun x H1 => tl σ H1 fun l H2 => th σ H2 fun u H3 => m x l u H3 Q) : L2.tSl m te tl th σ H Q := h
theorem part {QO : Option Int → Hp → Prop} (h : te σ H fun x H1 => ∃ i, x = .int i ∧ QO (some i) H1) : tPart te σ H QO := h
theorem part0 {QO : Option Int → Hp → Prop} (h : QO none H) : tNoPart σ H QO := h
theorem isI {i : Int} {QO : Int → Prop} (h : QO i) : ∃ j, V.int i = .int j ∧ QO j := ⟨i, rfl, h⟩
theorem fmt (h : te σ H fun x H1 => (∃ y : Str, x = .str y ∧ y.length ≤ sizeLine ∧ Q (.str y) H1) ∨ ∃ i : Int, x = .int i ∧ i.natAbs.log2 < 1920 ∧ Q (.str (toString i)) H1) : tFmt te σ H Q := h
theorem fmtRD (h : te σ H fun x H1 => ∃ a d, x = .ref a ∧ Dd K H1 (.ref a) d ∧ d.showable = true ∧ d.depth ≤ 20 ∧ d.shown.length ≤ sizeLine ∧ Q (.str d.shown) H1) : tFmtRD K te σ H Q := h
theorem fld {f : Str} (h : te σ H fun x H1 => ∃ a C dx fs v, x = .ref a ∧ H1 a = some (.ins C dx fs) ∧ Cls K C ∧ NoAttr K C f ∧ fs.lookup f = some v ∧ Q v H1) : tFld K te f σ H Q := h
theorem sfld {f : Str} {D : Ends} (h : tb σ H fun y H1 => ta σ H1 fun x H2 => ∃ a C dx fs, x = .ref a ∧ H2 a = some (.ins C dx fs) ∧ Cls K C ∧ NoAttr K C f ∧ fs.length < 1000 ∧ D.nx σ (upd H2 a (.ins C dx (putF f y fs)))) : sFld K ta tb f D σ H := h
theorem aug {ti : TIp} (h : ∃ x, σ[i]? = some (some x) ∧ te σ H fun y H1 => ti x y H1 fun z H2 => D.nx (σ.set i (some z)) H2) : tAug i te ti D σ H := h
theorem expr {D : Ends} (h : te σ H fun _ H1 => D.nx σ H1) : tDrop te D σ H := h
/-- isinstance of one written class -/
theorem isi {x : V} {a b : String} {k : Bool} (ty : TyX K H x (.type a)) (e : kitB a b = some k) (q : Q (.bl k) H) : rIsi K [x, .ty b] H Q := ⟨x, .ty b, .type a, .type b, k, rfl, .ty b, ty, kit_ty e, q⟩
theorem whl {D : Ends} (h : ∃ W : Nat → L2.St → Hp → Prop, (∃ m, W m σ H) ∧ ∀ m σ H, W m σ H → tt σ H fun b H1 => if b = true then ∃ N : L2.St → Hp → Prop, (∀ σ' H', N σ' H' → ∃ m', m' < m ∧ W m' σ' H') ∧ t1 { D with nx := N, ct := N, bk := D.nx } σ H1 else D.nx σ H1) : tWhile tt t1 D σ H := h
theorem ixT {p : Addr} {a : Int} (h : SqT K H p xs) (e : atI xs a = some v) (q : Q v H) : rIxT K (.ref p) (.int a) H Q := ⟨p, xs, a, v, rfl, rfl, h, e, q⟩
theorem at_neg {j : Nat} (h : j < xs.length) : atI xs (-1 - (j : Int)) = xs[xs.length - 1 - j]? := by
  unfold atI ixN
  rw [if_neg (by omega), if_pos (by omega)]
  show xs[_]? = _
  congr 1
  omega
theorem at_nat {j : Nat} (h : j < xs.length) : atI xs (j : Int) = xs[j]? := by
  unfold atI ixN
  rw [if_pos (by omega), if_pos (by omega)]
  show xs[_]? = _
  congr 1
theorem at_last (h : 0 < xs.length) : atI xs (-1) = xs[xs.length - 1]? := at_neg (j := 0) h
theorem ixL' {p : Addr} {a : Int} (h : SqL K H p xs) (e : atI xs a = some v) (q : Q v H) : rIxL K (.ref p) (.int a) H Q := ⟨p, xs, a, v, rfl, rfl, h, e, q⟩
/-! slices and sums of sequences, where only what is made is said -/
theorem cut_whole {lo hi : Option Int} (w : HT.sIx xs.length 0 lo = 0 ∧ HT.sIx xs.length xs.length hi = xs.length) : cutV xs lo hi = xs := by
  unfold cutV
  rw [w.1, w.2, List.drop_zero, Nat.sub_zero, List.take_length]
theorem cut_from {k : Nat} (h : k ≤ xs.length) : cutV xs (some (k : Int)) none = xs.drop k := by
  unfold cutV
  rw [HT.sIx_nat, HT.sIx_none, Nat.min_eq_left h, List.take_of_length_le (by rw [List.length_drop]; omega)]
theorem cut_to {k : Nat} : cutV xs none (some (k : Int)) = xs.take k := by
  unfold cutV
  rw [HT.sIx_nat, HT.sIx_none, List.drop_zero, Nat.sub_zero]
  by_cases h : k ≤ xs.length
  · rw [Nat.min_eq_left h]
  · rw [Nat.min_eq_right (by omega), List.take_length, List.take_of_length_le (by omega)]
theorem cut_last {k : Nat} (h : xs.length = k + 1) : cutV xs (some (-1)) none = xs.drop k := by
  unfold cutV
  have e : HT.sIx xs.length 0 (some (-1)) = k := by
    show (if (-1 : Int) < 0 then ((-1 : Int) + (xs.length : Int)).toNat else min (-1 : Int).toNat xs.length) = k
    rw [if_pos (by decide), h]
    omega
  rw [e, HT.sIx_none, List.take_of_length_le (by rw [List.length_drop]; omega)]
theorem cut_front {k : Nat} (h : xs.length = k + 1) : cutV xs none (some (-1)) = xs.take k := by
  unfold cutV
  have e : HT.sIx xs.length xs.length (some (-1)) = k := by
    show (if (-1 : Int) < 0 then ((-1 : Int) + (xs.length : Int)).toNat else min (-1 : Int).toNat xs.length) = k
    rw [if_pos (by decide), h]
    omega
  rw [e, HT.sIx_none, List.drop_zero, Nat.sub_zero]
theorem slA {a : Addr} {lo hi : Option Int} (h : SqT K H a xs) (q : ∀ (p : Addr) (H' : Hp), Same H H' → SqT K H' p (cutV xs lo hi) → Q (.ref p) H') : rSlA K (.ref a) lo hi H Q :=
  ⟨a, xs, rfl, h, fun w => q a H (Same.refl _) (by rw [cut_whole w]; exact h), fun _ p hp => q p _ (fun b u e => by rw [upd_ne (ne_of_none e hp)]; exact e) (SqT.of upd_same)⟩
theorem slL {a : Addr} {lo hi : Option Int} (h : SqL K H a xs) (q : ∀ (p : Addr) (H' : Hp), H p = none → Same H H' → H' p = some (.lst (cutV xs lo hi)) → Q (.ref p) H') : rSlL K (.ref a) lo hi H Q :=
  ⟨a, xs, rfl, h, fun p hp => q p _ hp (fun b u e => by rw [upd_ne (ne_of_none e hp)]; exact e) upd_same⟩
theorem catA {a b : Addr} (h1 : SqT K H a xs) (h2 : SqT K H b ys) (z : xs.length + ys.length ≤ 100000) (q : ∀ (p : Addr) (H' : Hp), Same H H' → SqT K H' p (xs ++ ys) → Q (.ref p) H') : rCatA K (.ref a) (.ref b) H Q :=
  ⟨a, b, xs, ys, rfl, rfl, h1, h2, small z, fun e => q b H (Same.refl _) (by rw [e, List.nil_append]; exact h2), fun _ e => q a H (Same.refl _) (by rw [e, List.append_nil]; exact h1),
    fun _ _ p hp => q p _ (fun b u e => by rw [upd_ne (ne_of_none e hp)]; exact e) (SqT.of upd_same)⟩
end
end Rd

/-! C.m(e, ..) where m is a plain def found on the class C; a written dict with text keys. -/
namespace L2
open PySem PySem.Spec PyProof.Rows
structure CFn (K : PySem.W.Frag) (C : Addr) (m : Str) (g : Addr) : Prop where
  rd : ClX.CRead K C (.type "type")
  at_ : PySem.W.findCls K (.ref C) (.type "type") m = some (.val (.ref g))
def tCFn (C : Addr) (sp : Sp) (E : XK) (ta : TE) (t : TA) : TE := fun σ H Q => ta σ H fun x H1 => x = .ref C ∧ t σ H1 fun vs H2 => sp vs H2 Q E
theorem Rd.cfn {C : Addr} {sp : Sp} {E : XK} {t : TA} {σ : St} {H : Hp} {Q : VK} (h : t σ H fun vs H2 => sp vs H2 Q E) : tCFn C sp E (tC (.ref C)) t σ H Q := ⟨rfl, h⟩
section
variable {X : Cx} {CX : CXT} {k : Nat} {C g : Addr} {fd : FuncData} {ps : List Str} {sp : Sp} {E : XK} {o e : Expr} {es : List Expr} {m : Str} {pos apos : Pos} {ta : TE} {t : TA} {pl : Sem Bool}
theorem pe_cfn (he : PE X o ta) (c : CFn X.K C m g) (F : FnOk X.prog X.w X.K X.mg X.base CX k g fd ps sp) (hr : Room k X.A) (hk : PySem.W.keepIn X.K (.ref g) = true) (hb : Binds X.K fd ps []) (hx : Passes CX X E) (ha : PA X (e :: es) t)
    (hst : starEach (e :: es) X.env = (false, eval e X.env) :: starEach es X.env := by rfl) (hpl : (backTo pos (starEach es X.env)).any (·.1) = false := by rfl)
    (ht : eval (.Call (.Attribute o m apos) (e :: es) [] pos) X.env = (do
      let ov ← eval o X.env
      standAt apos.atName
      let (f, first) ← holding [ov] (getMethod ov m pl)
      callWith pos f first (backTo pos (starEach (e :: es) X.env)) (backToKw pos (keywordEach [] X.env))) := by rfl) :
    PE X (.Call (.Attribute o m apos) (e :: es) [] pos) (tCFn C sp E ta t) := by
  refine ⟨fun pins s σ H Q I h => ?_⟩
  refine PySem.W.methodCall_KW (pl := pl) (thn (he.run pins s σ H _ I h) fun u s1 ⟨x, H1, I1, rx, ex, q⟩ => ?_) ht
  subst ex
  obtain rfl : u = Value.ref C := rx
  refine PySem.W.method_cls I1.kIn c.rd.ga (PySem.W.cls_value I1.kIn c.rd.rd c.at_ (handed_of (v := .ref g) rfl) ?_)
  refine PySem.W.callWith_K (first := []) (h₀ := X.base) I.ok.mod.kin hk (thn (ha.run pos pins _ σ H1 _ (I1.tok _) q) fun us s2 ⟨vs, H2, I2, r, q2⟩ => ⟨I2.kIn, ?_⟩) hst hpl
  exact run_fn (us := us) (vs := vs) F hr hb .nil hx I2 r (by rw [List.append_nil]; exact q2)
end
end L2

/-! The head's facts: a check of one's own, and the top's dicts with text keys; the addresses gathered with a set of bits. -/
namespace He
open PySem PySem.Spec PyProof.Rows L2
/-- those that are new, ahead of the others -/
def visitA : List Addr → Nat → List Addr → Nat × List Addr
  | [], seen, new => (seen, new)
  | a :: as, seen, new => match Nat.testBit seen a with
    | true => visitA as seen new
    | false => match Nat.lor seen (Nat.shiftLeft 1 a) with
      | 0 => visitA as 0 (a :: new)
      | n + 1 => visitA as (n + 1) (a :: new)
def asV (g : Addr → Option Obj) : Nat → Nat → List Addr → List Addr → List Addr
  | 0, _, _, all => all
  | n + 1, seen, new, all => match visitA (new.flatMap fun a => match g a with
      | some o => refsD o
      | none => []) seen [] with
    | (s, ns) => asV g n s ns (ns ++ all)
def as0 (n : Nat) (g : Addr → Option Obj) : List Addr := cStatics :: sysModules :: asV g n (Nat.shiftLeft 1 mainGlobals) [mainGlobals] [mainGlobals]
abbrev AlW : Type := Bool × AlD × List FnW × List (Option (List (Option (Str × Int))))
def obsW (xf : PySem.W.Frag → Bool) (fa : List Fa) (fn : List DefD) (fp : List DefP) (ts : List Tab) (K : PySem.W.Frag) : AlW := (xf K && fp.all fun d => d.ok K, obsD fa fn K, (fp.map fun d => fnAt K (d.path K)), ts.map fun t => dicW K (t.1 K))
def valW (fn : List DefD) (fp : List DefP) (ts : List Tab) (w : World) : AlW := (true, valD fn, fp.map DefP.val, ts.map fun t => some (keysIn w.params t.2))
def obsWG (n : Nat) (xf : PySem.W.Frag → Bool) (fa : List Fa) (fn : List DefD) (fp : List DefP) (ts : List Tab) (g : Addr → Option Obj) : AlW := obsW xf fa fn fp ts (frG g (as0 n g))
structure SaysW (xf : PySem.W.Frag → Bool) (fa : List Fa) (fn : List DefD) (fp : List DefP) (ts : List Tab) (w : World) (K : PySem.W.Frag) : Prop where
  x : xf K = true
  p : ∀ d ∈ fp, d.ok K = true
  d : SaysD fa fn K
  v : fp.map (fun d => fnAt K (d.path K)) = fp.map DefP.val
  t : (ts.map fun t => dicW K (t.1 K)) = ts.map fun t => some (keysIn w.params t.2)
def hookW (n : Nat) (xf : PySem.W.Frag → Bool) (fa : List Fa) (fn : List DefD) (fp : List DefP) (ts : List Tab) : PySem.W.Hook where
  α := AlW
  obs := fun s => obsWG n xf fa fn fp ts s.heap.get?
  val := fun w => valW fn fp ts w
  says := fun w h => ∃ K : PySem.W.Frag, K.In h ∧ SaysW xf fa fn fp ts w K
  of := fun _ _ e => by
    have e1 := ba (congrArg (fun z : AlW => z.1) e)
    exact ⟨_, frG_in, e1.1, fun d hd => List.all_eq_true.mp e1.2 d hd, congrArg (fun z : AlW => z.2.1) e, congrArg (fun z : AlW => z.2.2.1) e, congrArg (fun z : AlW => z.2.2.2) e⟩
  keeps := fun _ _ _ y k => y.imp fun _ z => ⟨PySem.W.Frag.In.keeps z.1 k, z.2⟩
theorem obsWG_eq {n : Nat} {xf : PySem.W.Frag → Bool} {fa : List Fa} {fn : List DefD} {fp : List DefP} {ts : List Tab} {g : Addr → Option Obj} {s : Shared} (h : ∀ a, g a = s.heap.get? a) : obsWG n xf fa fn fp ts g = (hookW n xf fa fn fp ts).obs s := by
  obtain rfl : g = s.heap.get? := funext h
  rfl
theorem comb {α β γ δ : Type} {o : Option α} {A : α → Bool} {B : α → β} {x : α → Bool} {d : α → γ} {e : α → δ} {a : Bool} {b : β} {v : γ} {z : δ} (h1 : o.map (fun s => (A s, B s)) = some (a, b)) (h2 : o.map x = some true) (h3 : o.map (fun s => (d s, e s)) = some (v, z)) : o.map (fun s => (A s, B s, (x s, d s, e s))) = some (a, b, (true, v, z)) := by
  cases o with
  | none => cases h1
  | some s =>
    have k1 : (A s, B s) = (a, b) := Option.some.inj h1
    have k2 : x s = true := Option.some.inj h2
    have k3 : (d s, e s) = (v, z) := Option.some.inj h3
    show some (A s, B s, (x s, d s, e s)) = _
    rw [k2, k3]
    cases k1
    rfl
/-- no such key in a dict of the top -/
theorem miss_of {K : PySem.W.Frag} {w : World} {a : Addr} {ks : List Str} (h : dicW K a = some (keysIn w.params ks)) {x : Str} (hx : x ∉ ks) : PySem.W.nsIn K a x = some none := by
  have key : ∀ {P : Params} {l : List DictEntry} {ks : List Str}, l.map keyOf = keysIn P ks → ∀ e ∈ l, ∃ k t, k ∈ ks ∧ e.key = .str k t := by
    intro P l
    induction l with
    | nil => intro ks _ e he; cases he
    | cons e r ih =>
      intro ks h
      cases ks with
      | nil => cases h
      | cons k ks =>
        have h1 : keyOf e :: r.map keyOf = some (k, PyData.keyHash P k) :: keysIn P ks := h
        injection h1 with h2 h3
        intro e' he
        rcases List.mem_cons.mp he with rfl | he
        · unfold keyOf at h2
          split at h2
          · rename_i y t q
            have h4 := Option.some.inj h2
            obtain ⟨h5, h6⟩ := Prod.mk.inj h4
            exact ⟨k, t, List.mem_cons_self, by rw [q, h5]⟩
          · cases h2
        · obtain ⟨k', t, hm, e1⟩ := ih h3 e' he
          exact ⟨k', t, List.mem_cons_of_mem _ hm, e1⟩
  have fin : ∀ l : List DictEntry, (∀ e ∈ l, ∃ k t, k ∈ ks ∧ e.key = .str k t) → (match l.find? (·.key.isStr x) with
      | some e => some (some e.val)
      | none => if l.any (·.refKey) then none else some none) = some none := by
    intro l hl
    have h1 : l.find? (·.key.isStr x) = none := List.find?_eq_none.mpr fun e he z => by
      obtain ⟨k, t, hk, ek⟩ := hl e he
      rw [ek] at z
      have z : (k == x) = true := z
      exact hx (beq_iff_eq.mp z ▸ hk)
    have h2 : l.any (·.refKey) = false := by
      rw [List.any_eq_false]
      intro e he
      obtain ⟨k, t, hk, ek⟩ := hl e he
      unfold DictEntry.refKey
      rw [ek]
      exact Bool.false_ne_true
    rw [h1, h2]
    rfl
  obtain ⟨es, n, D⟩ := dicW_ok (w := w) h
  have e := D.at_
  have h' : dicW K a = some (es.toList.map keyOf) := by
    unfold dicW at h ⊢
    rw [e] at h ⊢
    dsimp only at h ⊢
    split
    · rfl
    · rename_i z
      rw [z] at h
      cases h
  have h3 : es.toList.map keyOf = keysIn w.params ks := Option.some.inj (h'.symm.trans h)
  unfold PySem.W.nsIn
  rw [e]
  exact fin _ (key h3)
theorem SaysW.tab {xf : PySem.W.Frag → Bool} {fa : List Fa} {fn : List DefD} {fp : List DefP} {ts : List Tab} {w : World} {K : PySem.W.Frag} (c : SaysW xf fa fn fp ts w K) (i : Nat) {t : Tab} (h : ts[i]? = some t := by rfl) : (∃ es n, KDict K w (t.1 K) es n) ∧ ∀ x, x ∉ t.2 → PySem.W.nsIn K (t.1 K) x = some none := by
  have e2 : (ts.map fun t => dicW K (t.1 K))[i]? = (ts.map fun t => some (keysIn w.params t.2))[i]? := by rw [c.t]
  rw [List.getElem?_map, List.getElem?_map, h] at e2
  have e3 := Option.some.inj e2
  exact ⟨dicW_ok e3, fun x hx => miss_of e3 hx⟩
theorem SaysW.def_ {xf : PySem.W.Frag → Bool} {fa : List Fa} {fn : List DefD} {fp : List DefP} {ts : List Tab} {w : World} {K : PySem.W.Frag} (c : SaysW xf fa fn fp ts w K) (i : Nat) {d : DefP} (h : fp[i]? = some d := by rfl) : ∃ fd, FunD K d.name d.qual d.params d.body d.scope [] [] (d.path K) fd := by
  have e2 : (fp.map fun d => fnAt K (d.path K))[i]? = (fp.map DefP.val)[i]? := by rw [c.v]
  rw [List.getElem?_map, List.getElem?_map, h] at e2
  exact DefP.funD (Option.some.inj e2) (c.p d (List.mem_of_getElem? h))
/-- the class C's own def m, read off the class -/
def cfnB (K : PySem.W.Frag) (C : Str) (m : Str) : Bool := PySem.W.readsIn K (ga K C) (.type "type") && (eqO (PySem.W.specialIn K (.ref (ga K C)) "__getattribute__") (some (some (.builtin "type.__getattribute__"))) &&
  (match PySem.W.findCls K (.ref (ga K C)) (.type "type") m with
    | some (.val (.ref g)) => g == ma K (ga K C) m
    | _ => false))
theorem cfn_ok {K : PySem.W.Frag} {C m : Str} (h : cfnB K C m = true) : CFn K (ga K C) m (ma K (ga K C) m) := by
  obtain ⟨h1, h⟩ := ba h
  obtain ⟨h2, h3⟩ := ba h
  refine ⟨⟨h1, eqO_ok h2⟩, ?_⟩
  split at h3
  · rename_i g e
    rw [e, beq_iff_eq.mp h3]
  · cases h3
end He

namespace K17
open PySem PySem.Spec PyProof.Rows L2
local macro_rules | `(tactic| walk_at "rd1") => `(tactic| first
  | (with_reducible refine Rd.seq ?_) | (with_reducible refine Rd.asg ?_) | (with_reducible refine Rd.ret ?_) | (with_reducible refine Rd.nxt ?_) | (with_reducible refine Rd.ifS ?_)
  | (with_reducible refine Rd.op ?_) | (with_reducible refine Rd.un ?_) | (with_reducible refine Rd.cb ?_) | (with_reducible refine Rd.cons ?_) | (with_reducible refine Rd.nil ?_) | (with_reducible refine Rd.ifx ?_)
  | (with_reducible refine Rd.test ?_) | (with_reducible refine Rd.testB ?_) | (with_reducible refine Rd.notT ?_) | (with_reducible refine Rd.isB ?_) | (with_reducible refine Rd.lst ?_) | (with_reducible refine Rd.tup ?_)
  | (with_reducible refine Rd.call ?_) | (with_reducible refine Rd.asgG ?_) | (with_reducible refine Rd.gNm ?_) | (with_reducible refine Rd.gSb ?_) | (with_reducible refine Rd.gC ?_) | (with_reducible refine Rd.gN ?_)
  | ((with_reducible refine' Rd.var ?hv ?_); (case hv => exact rfl)) | (with_reducible refine Rd.c ?_) | (with_reducible refine Rd.i0 ?_) | (with_reducible refine Rd.neg ?_)
  | ((with_reducible refine' Rd.iC ?hc ?_); (case hc => first | (show (0 : Int) < _; decide) | exact ⟨by decide, by decide⟩ | exact ⟨by decide, by decide, by decide⟩ | exact .inl ⟨by decide, by decide⟩ | exact .inr ⟨by decide, by decide⟩ | exact .inl ⟨by omega, by omega⟩ | (show (0 : Int) < _; omega) | exact ⟨by omega, by omega⟩))
  | ((with_reducible refine' Rd.eqS ?hc ?_); (case hc => rfl)) | ((with_reducible refine' Rd.neS ?hc ?_); (case hc => rfl)))
local macro_rules | `(tactic| walk_at "rd") => `(tactic| repeat walk_at "rd1")
/-! the places of the rows at the text's top (another commit: other places) -/
abbrev i_wall : Nat := 0
abbrev iis_integer : Nat := 9
abbrev iis_between : Nat := 10
abbrev iis_list : Nat := 11
abbrev iis_name : Nat := 12
abbrev iis_chosen : Nat := 13
abbrev iSheetError : Nat := 15
abbrev iInvalidNumber : Nat := 16
abbrev iInvalidName : Nat := 17
abbrev iInvalidFormula : Nat := 18
abbrev iInvalidChosen : Nat := 19
abbrev iInvalidPosition : Nat := 20
abbrev iInvalidText : Nat := 21
abbrev iLimitError : Nat := 22
abbrev iTooMany : Nat := 23
abbrev iFormulaText : Nat := 27
abbrev iwords_of : Nat := 28
abbrev iFormula : Nat := 30
abbrev iNumber : Nat := 31
abbrev iReference : Nat := 32
abbrev iHere : Nat := 33
abbrev iUp : Nat := 34
abbrev iDown : Nat := 35
abbrev iPair : Nat := 36
abbrev iPlus : Nat := 37
abbrev iLeast : Nat := 38
abbrev iMost : Nat := 39
abbrev iSame : Nat := 40
abbrev iChoice : Nat := 41
abbrev i_check_formula : Nat := 42
abbrev i_pair : Nat := 43
abbrev i_leaf : Nat := 44
abbrev i_built : Nat := 45
abbrev i_law_pot : Nat := 47
abbrev i_law_draw : Nat := 48
abbrev i_law_pick : Nat := 49
abbrev i_law_taken : Nat := 50
abbrev i_law_leaf : Nat := 51
abbrev i_law_part : Nat := 52
abbrev i_law_formula : Nat := 53
abbrev i_law_joined : Nat := 54
abbrev i_law_lazy : Nat := 55
abbrev i_law_wrapped : Nat := 56
abbrev i_law_answer : Nat := 57
abbrev i_law_put_right : Nat := 58
abbrev i_law_rows : Nat := 59
abbrev i_law_right : Nat := 60
abbrev ilaw : Nat := 61
def topA (i : Nat) : Stmt := PySem.Challenge.pw_belowneeds_k17_whole_lazy_choices.main.body.getD i (.Pass ⟨0, 0, 0, 0⟩)
abbrev sPot : Stmt := topA i_law_pot
abbrev sDraw : Stmt := topA i_law_draw
abbrev sPick : Stmt := topA i_law_pick
abbrev FnP (K : PySem.W.Frag) (x : Str) (st : Stmt) (f : Addr) (fd : FuncData) : Prop := FunD K x x (defArgs st) (defBody st) (defScope st) [] [] f fd
/-- all but p as it was -/
def But (p : Addr) (H H' : Hp) : Prop := ∀ b o, b ≠ p → H b = some o → H' b = some o
theorem But.refl {p : Addr} {H : Hp} : But p H H := fun _ _ _ h => h
theorem But.trans {p : Addr} {H H1 H2 : Hp} (a : But p H H1) (b : But p H1 H2) : But p H H2 := fun c o h e => b c o h (a c o h e)
theorem But.new {p q : Addr} {H : Hp} {o : HO} (h : H q = none) : But p H (upd H q o) := fun b u _ e => by rw [upd_ne (ne_of_none e h)]; exact e
theorem But.set {p : Addr} {H : Hp} {o : HO} : But p H (upd H p o) := fun b u hb e => by rw [upd_ne hb]; exact e
/-- a pot of numbers that are left to be drawn -/
def PotAt (H : Hp) (p : Addr) : Prop := ∃ x y : Int, H p = some (.lst [.int x, .int y]) ∧ 0 ≤ x ∧ 0 ≤ y ∧ y < 2147483648
/-! ### promises -/
def spPot (K : PySem.W.Frag) : Sp := fun vs H Q _ => ∃ (a : Addr) (ns : List Int) (k : Nat), vs = [.ref a, .int k] ∧ SqL K H a (ns.map V.int) ∧ ns.length ≤ 63 ∧ k < 1000 ∧ ∀ p H', H p = none → Same H H' → PotAt H' p → Q (.ref p) H'
def spDraw : Sp := fun vs H Q _ => ∃ (p : Addr) (m : Int), vs = [.ref p, .int m] ∧ PotAt H p ∧ 0 < m ∧ m < 2 ^ 2000 ∧ ∀ (d : Int) H', 0 ≤ d → d < m → PotAt H' p → But p H H' → Q (.int d) H'
def spPick (K : PySem.W.Frag) : Sp := fun vs H Q _ => ∃ (p l : Addr) (xs : List V), vs = [.ref p, .ref l] ∧ PotAt H p ∧ H l = some (.lst xs) ∧ l ≠ p ∧ xs ≠ [] ∧ xs.length < 1000000 ∧ ∀ v H', v ∈ xs → PotAt H' p → But p H H' → Q v H'
section
variable {P : Program} {w : World} {K : PySem.W.Frag} {mg : Str → Option Value} {base : Heap} {f fP fD : Addr} {fd fdP fdD : FuncData}
theorem scPot : FnScope ["_law_script", "_law_k", "_law_cell"] ["_law_script", "_law_k"] (defScope sPot) := ⟨rfl, rfl, rfl, by decide +kernel, rfl, by decide +kernel, by decide +kernel⟩
theorem ok_pot (F : FnP K "_law_pot" sPot f fd) (gLen : mg "len" = none) (gAbs : mg "abs" = none) (gMax : mg "max" = none) (gInt : mg "int" = none) : FnOk P w K mg base CX0 1 f fd ["_law_script", "_law_k"] (spPot K) := by
  refine F.ok scPot (fun vs H Q E h => ?_) (fun cdv A outer s H vs Q E hr h => ?_)
  · obtain ⟨a, ns, k, rfl, _⟩ := h
    rfl
  · obtain ⟨a, ns, k, rfl, hS, hl, k1, q⟩ := h
    refine ⟨_, PSs.nox (pss_cons (ps_set (i := 2) scPot.nd rfl (Or.inl rfl) (pe_ifExp (pt_cmpR op_lt (pv 1) (pe_callB call_len rfl gLen boot_len (pa_cons (pv 0) pa_nil)) (nomark _))
        (pe_callB call_abs rfl gAbs boot_abs (pa_cons (pe_ix ix_list (pv 0) (pv 1) (fun _ _ => rfl)) pa_nil)) (pe_op op_add (pe_op op_mul pe_int (pv 1)) pe_int)))
      (pss_one (ps_ret (pe_lst (pa_cons (pe_callB (call_max2 rfl) rfl gMax boot_max (pa_cons pe_int (pa_cons (pe_op op_sub (pv 2) (pe_op op_pow pe_int pe_int)) pa_nil)))
        (pa_cons (pe_op op_add (pe_op op_mod (pe_callTy call_int1 rfl gInt boot_int (pa_cons (pe_op op_add (pe_op op_add (pe_op op_mul (pe_op op_mod (pe_callTy call_int1 rfl gInt boot_int (pa_cons (pv 2) pa_nil)) pe_int) pe_int) (pe_op op_mul pe_int (pv 1))) pe_int) pa_nil)) pe_int) pe_int) pa_nil)))))), ?_⟩
    walk_at "rd"
    refine ⟨_, _, rfl, .inl ⟨_, hS, rfl⟩, ?_⟩
    walk_at "rd"
    have hz : ∀ z : Int, 0 ≤ (if z < 0 then -z else z) := fun z => by split <;> omega
    refine Rd.ifB (fun ht => ?_) (fun ht => ?_)
    · have hk : k < ns.length := by
        have z := of_decide_eq_true ht
        rw [List.length_map] at z
        omega
      walk_at "rd"
      refine ⟨a, _, (k : Int), V.int ns[k], rfl, rfl, hS, atI_nat (by rw [List.getElem?_map, List.getElem?_eq_getElem hk]; rfl), ?_⟩
      walk_at "rd"
      refine ⟨_, rfl, ?_⟩
      have hc := hz ns[k]
      generalize (if ns[k] < 0 then -ns[k] else ns[k]) = c at hc ⊢
      walk_at "rd"
      refine ⟨_, _, rfl, ?_⟩
      walk_at "rd"
      refine .inl ⟨_, rfl, ?_⟩
      walk_at "rd"
      refine .inl ⟨_, rfl, ?_⟩
      walk_at "rd"
      refine ⟨Rd.small (by show 2 ≤ 100000; decide), fun p hp => q p _ hp (fun b u e => by rw [upd_ne (ne_of_none e hp)]; exact e) ⟨_, _, upd_same, by split <;> omega, by omega, by omega⟩⟩
    · walk_at "rd"
      have hc : (0 : Int) ≤ 11 * (k : Int) + 6 := by omega
      generalize 11 * (k : Int) + 6 = c at hc ⊢
      refine ⟨_, _, rfl, ?_⟩
      walk_at "rd"
      refine .inl ⟨_, rfl, ?_⟩
      walk_at "rd"
      refine .inl ⟨_, rfl, ?_⟩
      walk_at "rd"
      refine ⟨Rd.small (by show 2 ≤ 100000; decide), fun p hp => q p _ hp (fun b u e => by rw [upd_ne (ne_of_none e hp)]; exact e) ⟨_, _, upd_same, by split <;> omega, by omega, by omega⟩⟩
theorem div_small {i m : Int} (h : 0 < m) (h2 : m < 2 ^ 2000) : CDivP i m := by
  refine ⟨h, ?_⟩
  have z : m.natAbs.log2 < 2000 := PySem.Flt.log2_lt_of (by decide) (by omega)
  show (decide ((if m == 0 then 0 else m.natAbs.log2 / 30 + 1) > 300) && _) = false
  rw [if_neg (show ¬ (m == 0) = true by simpa using (show m ≠ 0 by omega))]
  have k : ¬ (m.natAbs.log2 / 30 + 1 > 300) := by omega
  rw [decide_eq_false k]
  rfl
theorem scDraw : FnScope ["_law_pot_here", "_law_many", "_law_digit"] ["_law_pot_here", "_law_many"] (defScope sDraw) := ⟨rfl, rfl, rfl, by decide +kernel, rfl, by decide +kernel, by decide +kernel⟩
theorem ok_draw (F : FnP K "_law_draw" sDraw f fd) (gDiv : mg "divmod" = none) (gInt : mg "int" = none) : FnOk P w K mg base CX0 1 f fd ["_law_pot_here", "_law_many"] spDraw := by
  refine F.ok scDraw (fun vs H Q E h => ?_) (fun cdv A outer s H vs Q E hr h => ?_)
  · obtain ⟨p, m, rfl, _⟩ := h
    rfl
  · obtain ⟨p, m, rfl, ⟨x, y, hp, hx, hy, hy2⟩, m0, m1, q⟩ := h
    refine ⟨_, PSs.nox (pss_cons (ps_if (pt_cmpR op_gt (pe_ix ix_list (pv 0) pe_int (fun _ _ => rfl)) pe_int (nomark _))
        (pss_cons (ps_asg (pe_callB call_divmodW rfl gDiv boot_divmod (pa_cons (pe_ix ix_list (pv 0) pe_int (fun _ _ => rfl)) (pa_cons (pv 1) pa_nil)))
          (pg_tup rfl (pgs_cons (pg_sub (pv 0) pe_int set_list) (pgs_cons (pg_name (i := 2) scDraw.nd rfl (Or.inl rfl)) pgs_nil)))) (pss_one (ps_ret (pv 2)))) pss_nil)
      (pss_cons (ps_asg (pe_op op_mod (pe_callTy call_int1 rfl gInt boot_int (pa_cons (pe_op op_add (pe_op op_mul (pe_ix ix_list (pv 0) pe_int (fun _ _ => rfl)) pe_int) pe_int) pa_nil)) pe_int) (pg_sub (pv 0) pe_int set_list))
      (pss_one (ps_ret (pe_op op_mod (pe_callTy call_int1 rfl gInt boot_int (pa_cons (pe_op op_fdiv (pe_op op_mod (pe_callTy call_int1 rfl gInt boot_int (pa_cons (pe_op op_mul (pe_ix ix_list (pv 0) pe_int (fun _ _ => rfl)) (pe_ix ix_list (pv 0) pe_int (fun _ _ => rfl))) pa_nil)) pe_int) pe_int) pa_nil)) (pv 1)))))), ?_⟩
    walk_at "rd"
    refine Rd.ixL (SqL.of hp) (atI_nat (j := 0) rfl) ?_
    walk_at "rd"
    refine Rd.ifB (fun ht => ?_) (fun ht => ?_)
    · have hx0 : 0 < x := of_decide_eq_true ht
      walk_at "rd"
      refine Rd.ixL (SqL.of hp) (atI_nat (j := 0) rfl) ?_
      walk_at "rd"
      refine ⟨_, _, rfl, div_small m0 m1, fun t ht => ?_⟩
      have npt : p ≠ t := ne_of_none hp ht
      refine ⟨t, _, rfl, SqT.of upd_same, rfl, ?_⟩
      walk_at "rd"
      refine Rd.setL (xs := [.int x, .int y]) (j := 0) (by rw [upd_ne npt]; exact hp) rfl ?_
      walk_at "rd"
      refine q _ _ (Int.emod_nonneg _ (by omega)) (Int.emod_lt_of_pos _ m0) ⟨_, _, upd_same, Int.ediv_nonneg hx (by omega), hy, hy2⟩ ?_
      exact But.trans (But.new ht) But.set
    · walk_at "rd"
      refine Rd.ixL (SqL.of hp) (atI_nat (j := 1) rfl) ?_
      walk_at "rd"
      refine .inl ⟨_, rfl, ?_⟩
      walk_at "rd"
      refine Rd.setL (j := 1) hp rfl ?_
      walk_at "rd"
      have z0 : 0 ≤ (y * 39373 + 12227) % 2147483587 := by omega
      have z1 : (y * 39373 + 12227) % 2147483587 < 2147483587 := by omega
      generalize (y * 39373 + 12227) % 2147483587 = z at z0 z1 ⊢
      have hp2 : upd H p (.lst ([V.int x, V.int y].set 1 (V.int z))) p = some (.lst [.int x, .int z]) := upd_same
      refine Rd.ixL (SqL.of hp2) (atI_nat (j := 1) rfl) ?_
      walk_at "rd"
      refine Rd.ixL (SqL.of hp2) (atI_nat (j := 1) rfl) ?_
      walk_at "rd"
      refine .inl ⟨_, rfl, ?_⟩
      walk_at "rd"
      refine .inl ⟨_, rfl, ?_⟩
      walk_at "rd"
      exact q _ _ (Int.emod_nonneg _ (by omega)) (Int.emod_lt_of_pos _ m0) ⟨_, _, hp2, hx, z0, by omega⟩ But.set
theorem scPick : FnScope ["_law_pot_here", "_law_some"] ["_law_pot_here", "_law_some"] (defScope sPick) := ⟨rfl, rfl, rfl, by decide +kernel, rfl, by decide +kernel, by decide +kernel⟩
theorem ok_pick (F : FnP K "_law_pick" sPick f fd) (FD : FnP K "_law_draw" sDraw fD fdD) (gDraw : mg "_law_draw" = some (.ref fD)) (gLen : mg "len" = none) (gDiv : mg "divmod" = none) (gInt : mg "int" = none) : FnOk P w K mg base CX0 2 f fd ["_law_pot_here", "_law_some"] (spPick K) := by
  have GD : FnOk P w K mg base CX0 1 fD fdD ["_law_pot_here", "_law_many"] spDraw := ok_draw FD gDiv gInt
  have bD : Binds K fdD ["_law_pot_here", "_law_many"] [] := FD.bindsN fun _ _ _ _ _ _ us hl => match us, hl with | [_, _], _ => rfl
  refine F.ok scPick (fun vs H Q E h => ?_) (fun cdv A outer s H vs Q E hr h => ?_)
  · obtain ⟨p, l, xs, rfl, _⟩ := h
    rfl
  · obtain ⟨p, l, xs, rfl, hp, hl, nlp, hne, hz, q⟩ := h
    refine ⟨_, PSs.nox (pss_one (ps_ret (pe_ix ix_list (pv 1) (pe_call GD hr rfl gDraw FD.kp bD .nil pass0 (pa_cons (pv 0) (pa_cons (pe_callB call_len rfl gLen boot_len (pa_cons (pv 1) pa_nil)) pa_nil))) (fun _ _ => rfl)))), ?_⟩
    walk_at "rd"
    refine ⟨_, _, rfl, .inl ⟨_, SqL.of hl, rfl⟩, ?_⟩
    walk_at "rd"
    have h0 : 0 < xs.length := List.length_pos_iff.mpr hne
    refine ⟨p, _, rfl, hp, by omega, Int.lt_trans (show (xs.length : Int) < 1000000 by omega) (by decide +kernel), fun d H1 d0 d1 hp1 hb => ?_⟩
    obtain ⟨j, rfl⟩ := Int.eq_ofNat_of_zero_le d0
    have hj : j < xs.length := by omega
    refine Rd.ixL (SqL.of (hb l _ nlp hl)) (atI_nat (List.getElem?_eq_getElem hj)) ?_
    exact q _ _ (List.getElem_mem hj) hp1 hb
end
end K17

namespace K17
open PySem PySem.Spec PyProof.Rows L2
local macro_rules | `(tactic| walk_at "rd1") => `(tactic| first
  | (with_reducible refine Rd.seq ?_) | (with_reducible refine Rd.asg ?_) | (with_reducible refine Rd.ret ?_) | (with_reducible refine Rd.nxt ?_) | (with_reducible refine Rd.ifS ?_)
  | (with_reducible refine Rd.op ?_) | (with_reducible refine Rd.un ?_) | (with_reducible refine Rd.cb ?_) | (with_reducible refine Rd.cons ?_) | (with_reducible refine Rd.nil ?_) | (with_reducible refine Rd.ifx ?_)
  | (with_reducible refine Rd.test ?_) | (with_reducible refine Rd.testB ?_) | (with_reducible refine Rd.notT ?_) | (with_reducible refine Rd.isB ?_) | (with_reducible refine Rd.lst ?_) | (with_reducible refine Rd.tup ?_)
  | (with_reducible refine Rd.andV ?_) | (with_reducible refine Rd.orV ?_) | (with_reducible refine Rd.notV ?_) | (with_reducible refine Rd.andT ?_) | (with_reducible refine Rd.orT ?_) | (with_reducible refine Rd.chain ?_)
  | (with_reducible refine Rd.m0 ?_) | (with_reducible refine Rd.m1 ?_) | (with_reducible refine Rd.bm0 ?_) | (with_reducible refine Rd.bm ?_) | (with_reducible refine Rd.sl ?_) | (with_reducible refine Rd.part ?_) | (with_reducible refine Rd.part0 ?_) | (with_reducible refine Rd.isI ?_)
  | (with_reducible refine Rd.fmt ?_) | (with_reducible refine Rd.fmtRD ?_) | (with_reducible refine Rd.meth ?_) | (with_reducible refine Rd.make ?_) | (with_reducible refine Rd.prop ?_) | (with_reducible refine Rd.js ?_) | (with_reducible refine Rd.js0 ?_) | (with_reducible refine Rd.par ?_) | (with_reducible refine Rd.star ?_) | (with_reducible refine lcR1 ?_) | (with_reducible refine lcR2 ?_) | (with_reducible refine Rd.fld ?_) | (with_reducible refine Rd.sfld ?_) | (with_reducible refine Rd.expr ?_) | (with_reducible refine L2.isNR ?_) | (with_reducible refine L2.methI ?_) | (with_reducible refine Rd.forZ ?_)
  | (with_reducible refine Rd.forEA ?_) | (with_reducible refine Rd.forR1 ?_) | (with_reducible refine Rd.forR2 ?_) | (with_reducible refine Rd.forL ?_) | (with_reducible refine Rd.forT ?_)
  | (with_reducible refine Rd.call ?_) | (with_reducible refine Rd.asgG ?_) | (with_reducible refine Rd.gNm ?_) | (with_reducible refine Rd.gSb ?_) | (with_reducible refine Rd.gC ?_) | (with_reducible refine Rd.gN ?_)
  | ((with_reducible refine' Rd.var ?hv ?_); (case hv => exact rfl)) | (with_reducible refine Rd.c ?_) | (with_reducible refine Rd.i0 ?_) | (with_reducible refine Rd.neg ?_)
  | ((with_reducible refine' Rd.iC ?hc ?_); (case hc => first | (show (0 : Int) < _; decide) | exact ⟨by decide, by decide⟩ | exact ⟨by decide, by decide, by decide⟩ | exact .inl ⟨by decide, by decide⟩ | exact .inr ⟨by decide, by decide⟩ | exact .inl ⟨by omega, by omega⟩ | (show (0 : Int) < _; omega) | exact ⟨by omega, by omega⟩))
  | ((with_reducible refine' Rd.eqS ?hc ?_); (case hc => rfl)) | ((with_reducible refine' Rd.neS ?hc ?_); (case hc => rfl)))
local macro_rules | `(tactic| walk_at "rd") => `(tactic| repeat walk_at "rd1")
theorem same_new {H : Hp} {q : Addr} {o : HO} (h : H q = none) : Same H (upd H q o) := fun b u e => by rw [upd_ne (ne_of_none e h)]; exact e
/-! ### the classes of formulas -/
def reserved : List Str := ["if", "then", "else", "in", "here", "up", "down", "least", "most"]
def fldNames : List Str := ["_called", "_given", "_parts", "_many", "_sequence", "depth", "value", "where", "column", "left", "right", "test", "chosen", "then", "other"]
/-- a class of formulas: its attributes are the objects' own -/
structure Fc (K : PySem.W.Frag) (C : Addr) : Prop where
  cl : Cls K C
  na : ∀ f ∈ fldNames, NoAttr K C f
theorem Fc.no {K : PySem.W.Frag} {C : Addr} (c : Fc K C) (f : Str) (h : f ∈ fldNames := by decide) : NoAttr K C f := c.na f h
/-- a part: an object with so many nodes, of such a depth -/
def PartAt (K : PySem.W.Frag) (H : Hp) (v : V) (q : Nat × Nat) : Prop := ∃ a C dx fs, v = .ref a ∧ H a = some (.ins C dx fs) ∧ Fc K C ∧ fs.lookup ("_many" : Str) = some (.int (q.1 : Nat)) ∧ fs.lookup ("depth" : Str) = some (.int (q.2 : Nat))
def fmN (ps : List (Nat × Nat)) : Nat := ps.foldl (fun m p => m + p.1) 1
def fmD (ps : List (Nat × Nat)) : Nat := ps.foldl (fun m p => if m ≤ p.2 then p.2 + 1 else m) 0
theorem fmN_take {ps : List (Nat × Nat)} {i : Nat} {p : Nat × Nat} (h : ps[i]? = some p) : fmN (ps.take (i + 1)) = fmN (ps.take i) + p.1 := by
  unfold fmN
  rw [List.take_add_one, h, Option.toList_some, List.foldl_append]
  rfl
theorem fmD_take {ps : List (Nat × Nat)} {i : Nat} {p : Nat × Nat} (h : ps[i]? = some p) : fmD (ps.take (i + 1)) = if fmD (ps.take i) ≤ p.2 then p.2 + 1 else fmD (ps.take i) := by
  unfold fmD
  rw [List.take_add_one, h, Option.toList_some, List.foldl_append]
  rfl
structure Parts (K : PySem.W.Frag) (H : Hp) (vs : List V) (ps : List (Nat × Nat)) : Prop where
  len : vs.length = ps.length
  at_ : ∀ (i : Nat) (v : V), vs[i]? = some v → ∃ q, ps[i]? = some q ∧ PartAt K H v q
def baseFs (name : Str) (g p : Addr) (n d : Nat) : List (Str × V) := [("_called", .str name), ("_given", .ref g), ("_parts", .ref p), ("_many", .int (n : Nat)), ("_sequence", .non), ("depth", .int (d : Nat))]
/-- numbers that the text's top has written -/
structure Gf (mg : Str → Option Value) : Prop where
  mn : ∃ t, mg "MAX_NODES" = some (.int 40 t)
  md : ∃ t, mg "MAX_DEPTH" = some (.int 8 t)
  gn : ∃ t, mg "GREATEST_NUMBER" = some (.int 8 t)
def sMeth (c j : Nat) : Stmt := inClass (topA c) j
abbrev sInitF : Stmt := sMeth iFormula 0
def spInitF (K : PySem.W.Frag) : Sp := fun args H Q _ => ∃ (x C dx g p : Addr) (name : Str) (vs : List V) (ps : List (Nat × Nat)), args = [.ref x, .str name, .ref g, .ref p] ∧ H x = some (.ins C dx []) ∧ Fc K C ∧ SqT K H p vs ∧ Parts K H vs ps ∧ fmN ps ≤ 40 ∧ fmD ps ≤ 8 ∧
  ∀ H', But x H H' → H' x = some (.ins C dx (baseFs name g p (fmN ps) (fmD ps))) → Q .non H'
section
variable {P : Program} {w : World} {K : PySem.W.Frag} {mg : Str → Option Value} {base : Heap} {f : Addr} {fd : FuncData}
theorem scInitF : FnScope ["self", "name", "given", "parts", "many", "depth", "part"] ["self", "name", "given", "parts"] (defScope sInitF) := ⟨rfl, rfl, rfl, by decide +kernel, rfl, by decide +kernel, by decide +kernel⟩
theorem ok_initF (F : FunD K "__init__" "Formula.__init__" (defArgs sInitF) (defBody sInitF) (defScope sInitF) [] [] f fd) (T : Gf mg) : FnOk P w K mg base CX0 1 f fd ["self", "name", "given", "parts"] (spInitF K) := by
  obtain ⟨t1, gN⟩ := T.mn
  obtain ⟨t2, gD⟩ := T.md
  refine F.ok scInitF (fun vs H Q E h => ?_) (fun cdv A outer s H vs Q E hr h => ?_)
  · obtain ⟨x, C, dx, g, p, name, us, ps, rfl, _⟩ := h
    rfl
  · obtain ⟨x, C, dx, g, p, name, us, ps, rfl, hx, fc, hp, pt, le1, le2, q⟩ := h
    refine ⟨_, PSs.nox (pss_cons (ps_set (i := 4) scInitF.nd rfl (Or.inl rfl) pe_int) (pss_cons (ps_set (i := 5) scInitF.nd rfl (Or.inl rfl) pe_int)
      (pss_cons (ps_for PassesOwn.never rfl (pi_tup (pv 3)) (pg_name (i := 6) scInitF.nd rfl (Or.inl rfl))
        (pss_cons (ps_set (i := 4) scInitF.nd rfl (Or.inl rfl) (pe_op op_add (pv 4) (pe_fld (pv 6) rfl)))
        (pss_one (ps_if (pt_cmpR op_ge (pe_fld (pv 6) rfl) (pv 5) (nomark _)) (pss_one (ps_set (i := 5) scInitF.nd rfl (Or.inl rfl) (pe_op op_add (pe_fld (pv 6) rfl) pe_int))) pss_nil))))
      (pss_cons (ps_if (pt_cmpR op_gt (pv 4) (pe_glob rfl gN (v := .int 40) ⟨_, rfl⟩) (nomark _)) (pss_one ps_never) pss_nil)
      (pss_cons (ps_if (pt_cmpR op_gt (pv 5) (pe_glob rfl gD (v := .int 8) ⟨_, rfl⟩) (nomark _)) (pss_one ps_never) pss_nil)
      (pss_cons (ps_fld (pv 0) (pv 1) rfl) (pss_cons (ps_fld (pv 0) (pv 2) rfl) (pss_cons (ps_fld (pv 0) (pv 3) rfl) (pss_cons (ps_fld (pv 0) (pv 4) rfl) (pss_cons (ps_fld (pv 0) pe_non rfl)
      (pss_one (ps_fld (pv 0) (pv 5) rfl)))))))))))), ?_⟩
    walk_at "rd"
    refine ⟨p, rfl, ⟨_, hp⟩, ?_⟩
    refine for_it walk_tup (fun i σ H' => (∃ b, σ = [some (.ref x), some (.str name), some (.ref g), some (.ref p), some (.int (fmN (ps.take i) : Nat)), some (.int (fmD (ps.take i) : Nat)), b]) ∧ H' = H) ⟨⟨_, rfl⟩, rfl⟩ (fun i σ H' _ z => by rw [z.2]; exact hp) (fun i v σ H2 H3 hi hy z => ?_) (fun σ H' z => ?_)
    · obtain ⟨⟨b, rfl⟩, rfl⟩ := hy
      obtain ⟨rfl, ev⟩ := z
      obtain ⟨c, ec, a', C', dx', fs', rfl, ha', fc', l1, l2⟩ := pt.at_ i v ev
      walk_at "rd"
      refine ⟨a', C', dx', fs', _, rfl, ha', fc'.cl, fc'.no "_many", l1, ?_⟩
      walk_at "rd"
      refine ⟨a', C', dx', fs', _, rfl, ha', fc'.cl, fc'.no "depth", l2, ?_⟩
      walk_at "rd"
      have e1 : ((fmN (ps.take i) : Nat) : Int) + ((c.1 : Nat) : Int) = ((fmN (ps.take (i + 1)) : Nat) : Int) := by rw [fmN_take ec, Int.natCast_add]
      have e2 := fmD_take ec
      refine Rd.ifB (fun z => ?_) (fun z => ?_)
      · have z := of_decide_eq_true z
        walk_at "rd"
        refine ⟨a', C', dx', fs', _, rfl, ha', fc'.cl, fc'.no "depth", l2, ?_⟩
        walk_at "rd"
        rw [if_pos (by omega)] at e2
        refine ⟨⟨some (.ref a'), ?_⟩, rfl⟩
        rw [← e1, e2, Int.natCast_add]
        rfl
      · have z := of_decide_eq_false z
        walk_at "rd"
        rw [if_neg (by omega)] at e2
        refine ⟨⟨some (.ref a'), ?_⟩, rfl⟩
        rw [← e1, e2]
        rfl
    · obtain ⟨⟨b, rfl⟩, rfl⟩ := z
      rw [pt.len, List.take_length]
      walk_at "rd"
      refine Rd.ifB (fun z => ?_) (fun _ => ?_)
      · have := of_decide_eq_true z
        omega
      walk_at "rd"
      refine Rd.ifB (fun z => ?_) (fun _ => ?_)
      · have := of_decide_eq_true z
        omega
      walk_at "rd"
      refine ⟨x, C, dx, _, rfl, hx, fc.cl, fc.no "_called", (by decide : 0 < 1000), ?_⟩
      have x1 := upd_same (H := H') (a := x) (o := HO.ins C dx (putF "_called" (.str name) []))
      have b1 := But.set (p := x) (H := H') (o := HO.ins C dx (putF "_called" (.str name) []))
      generalize upd H' x (HO.ins C dx (putF "_called" (.str name) [])) = H1 at x1 b1 ⊢
      walk_at "rd"
      refine ⟨x, C, dx, [("_called", .str name)], rfl, x1, fc.cl, fc.no "_given", (by decide : 1 < 1000), ?_⟩
      have x2 := upd_same (H := H1) (a := x) (o := HO.ins C dx (putF "_given" (.ref g) [("_called", .str name)]))
      have b2 := But.set (p := x) (H := H1) (o := HO.ins C dx (putF "_given" (.ref g) [("_called", .str name)]))
      generalize upd H1 x (HO.ins C dx (putF "_given" (.ref g) [("_called", .str name)])) = H2 at x2 b2 ⊢
      walk_at "rd"
      refine ⟨x, C, dx, [("_called", .str name), ("_given", (.ref g))], rfl, x2, fc.cl, fc.no "_parts", (by decide : 2 < 1000), ?_⟩
      have x3 := upd_same (H := H2) (a := x) (o := HO.ins C dx (putF "_parts" (.ref p) [("_called", .str name), ("_given", (.ref g))]))
      have b3 := But.set (p := x) (H := H2) (o := HO.ins C dx (putF "_parts" (.ref p) [("_called", .str name), ("_given", (.ref g))]))
      generalize upd H2 x (HO.ins C dx (putF "_parts" (.ref p) [("_called", .str name), ("_given", (.ref g))])) = H3 at x3 b3 ⊢
      walk_at "rd"
      refine ⟨x, C, dx, [("_called", .str name), ("_given", (.ref g)), ("_parts", (.ref p))], rfl, x3, fc.cl, fc.no "_many", (by decide : 3 < 1000), ?_⟩
      have x4 := upd_same (H := H3) (a := x) (o := HO.ins C dx (putF "_many" (.int (fmN ps : Nat)) [("_called", .str name), ("_given", (.ref g)), ("_parts", (.ref p))]))
      have b4 := But.set (p := x) (H := H3) (o := HO.ins C dx (putF "_many" (.int (fmN ps : Nat)) [("_called", .str name), ("_given", (.ref g)), ("_parts", (.ref p))]))
      generalize upd H3 x (HO.ins C dx (putF "_many" (.int (fmN ps : Nat)) [("_called", .str name), ("_given", (.ref g)), ("_parts", (.ref p))])) = H4 at x4 b4 ⊢
      walk_at "rd"
      refine ⟨x, C, dx, [("_called", .str name), ("_given", (.ref g)), ("_parts", (.ref p)), ("_many", (.int (fmN ps : Nat)))], rfl, x4, fc.cl, fc.no "_sequence", (by decide : 4 < 1000), ?_⟩
      have x5 := upd_same (H := H4) (a := x) (o := HO.ins C dx (putF "_sequence" (.non) [("_called", .str name), ("_given", (.ref g)), ("_parts", (.ref p)), ("_many", (.int (fmN ps : Nat)))]))
      have b5 := But.set (p := x) (H := H4) (o := HO.ins C dx (putF "_sequence" (.non) [("_called", .str name), ("_given", (.ref g)), ("_parts", (.ref p)), ("_many", (.int (fmN ps : Nat)))]))
      generalize upd H4 x (HO.ins C dx (putF "_sequence" (.non) [("_called", .str name), ("_given", (.ref g)), ("_parts", (.ref p)), ("_many", (.int (fmN ps : Nat)))])) = H5 at x5 b5 ⊢
      walk_at "rd"
      refine ⟨x, C, dx, [("_called", .str name), ("_given", (.ref g)), ("_parts", (.ref p)), ("_many", (.int (fmN ps : Nat))), ("_sequence", .non)], rfl, x5, fc.cl, fc.no "depth", (by decide : 5 < 1000), ?_⟩
      have x6 := upd_same (H := H5) (a := x) (o := HO.ins C dx (putF "depth" (.int (fmD ps : Nat)) [("_called", .str name), ("_given", (.ref g)), ("_parts", (.ref p)), ("_many", (.int (fmN ps : Nat))), ("_sequence", .non)]))
      have b6 := But.set (p := x) (H := H5) (o := HO.ins C dx (putF "depth" (.int (fmD ps : Nat)) [("_called", .str name), ("_given", (.ref g)), ("_parts", (.ref p)), ("_many", (.int (fmN ps : Nat))), ("_sequence", .non)]))
      generalize upd H5 x (HO.ins C dx (putF "depth" (.int (fmD ps : Nat)) [("_called", .str name), ("_given", (.ref g)), ("_parts", (.ref p)), ("_many", (.int (fmN ps : Nat))), ("_sequence", .non)])) = H6 at x6 b6 ⊢
      walk_at "rd"
      exact q _ (b1.trans (b2.trans (b3.trans (b4.trans (b5.trans b6))))) x6
end
end K17

namespace K17
open PySem PySem.Spec PyProof.Rows L2
def dTop (i : Nat) (x : Str) : He.DefD := ⟨(x, none), x, x, defArgs (topA i), defBody (topA i), defScope (topA i), [], []⟩
def dMeth (c : Nat) (C : Str) (j : Nat) (m : Str) : He.DefD := ⟨(C, some m), m, C ++ "." ++ m, defArgs (sMeth c j), defBody (sMeth c j), defScope (sMeth c j), [], []⟩
def conc : List Str := ["Number", "Here", "Up", "Down", "Plus", "Least", "Most", "Same", "Choice"]
def fcB (K : PySem.W.Frag) (C : Addr) : Bool := fldNames.all fun f => He.eqO (PySem.W.findIn K (.ref C) f) (some none)
def kiB (K : PySem.W.Frag) (C : Addr) : Bool := He.eqO (PySem.W.findIn K (.ref C) "__class__") (some (some (.builtin "object.__class__"))) && (decide (PySem.W.mroIn K C (.type "object") = some true) && decide (PySem.W.kitOne K (.ref C) (.ref (He.ga K "Formula")) = some true))
def gtB (K : PySem.W.Frag) : Bool := He.eqO (PySem.W.specialIn K (.builtin "object.__class__") "__get__") (some (some (.builtin "getset_descriptor.__get__"))) && decide (PySem.W.takesIn K (.builtin "object.__class__") = some true)
def supC : List Str := ["Formula", "Reference", "Pair"]
def ofC : List Str := ["Plus", "Least", "Most", "Same", "Choice"]
def mF (K : PySem.W.Frag) (m : Str) : Addr := He.ma K (He.ga K "Formula") m
def mems : List Str := ["_every", "_with_node", "put", "nodes", "work_out", "need", "met", "looked"]
def ownB (K : PySem.W.Frag) (C f : Addr) (m : Str) : Bool := He.eqO (PySem.W.findIn K (.ref C) m) (some (some (.ref f))) && PySem.W.isFn K (.ref f)
def clsB (K : PySem.W.Frag) (x : Str) : Bool := (fun C => mems.all (fun m => ownB K C (mF K m) m) && decide (PySem.W.kitOne K (.ref C) (.ref (He.ga K "Reference")) = some ((["Here", "Up", "Down"] : List Str).contains x))) (He.ga K x)
def wtB (K : PySem.W.Frag) (s : Str × Str) : Bool := ownB K (He.ga K s.1) (He.ma K (He.ga K s.2) "_worth") "_worth"
def wts : List (Str × Str) := [("Number", "Number"), ("Here", "Reference"), ("Up", "Reference"), ("Down", "Reference"), ("Plus", "Pair"), ("Least", "Pair"), ("Most", "Pair"), ("Same", "Pair"), ("Choice", "Choice")]
def joB (K : PySem.W.Frag) (x : Str) : Bool := ownB K (He.ga K x) (He.ma K (He.ga K x) "joined") "joined"
def joC : List Str := ["Plus", "Least", "Most", "Same"]
def ofB (K : PySem.W.Frag) (x : Str) : Bool := ownB K (He.ga K x) (He.ma K (He.ga K x) "_of_parts") "_of_parts"
def xf (K : PySem.W.Frag) : Bool := smOk K && (gtB K && (conc.all (fun x => fcB K (He.ga K x) && kiB K (He.ga K x)) && (supC.all (fun x => He.cfnB K x "__init__") && (conc.all (clsB K) && (wts.all (wtB K) && (joC.all (joB K) && ofC.all (ofB K)))))))
def fn : List He.DefD := [dTop iis_between "is_between", dTop iis_list "is_list", dTop iis_name "is_name", dTop iis_chosen "is_chosen", dTop i_check_formula "_check_formula", dTop i_law_pot "_law_pot", dTop i_law_draw "_law_draw", dTop i_law_pick "_law_pick", dTop i_law_taken "_law_taken", dTop i_law_leaf "_law_leaf", dTop i_law_part "_law_part", dTop i_law_formula "_law_formula", dTop i_law_joined "_law_joined", dTop i_law_lazy "_law_lazy", dTop i_law_wrapped "_law_wrapped", dTop i_law_answer "_law_answer", dTop i_law_put_right "_law_put_right", dTop i_law_rows "_law_rows", dTop i_law_right "_law_right", dTop ilaw "law", dMeth iFormula "Formula" 0 "__init__", dMeth iFormula "Formula" 15 "_every", dMeth iFormula "Formula" 17 "_with_node", dMeth iFormula "Formula" 4 "put", dMeth iFormula "Formula" 2 "nodes", dMeth iFormula "Formula" 6 "work_out", dMeth iFormula "Formula" 7 "need", dMeth iFormula "Formula" 8 "met", dMeth iFormula "Formula" 9 "looked", dMeth iPlus "Plus" 3 "_of_parts", dMeth iLeast "Least" 3 "_of_parts", dMeth iMost "Most" 3 "_of_parts", dMeth iSame "Same" 3 "_of_parts", dMeth iChoice "Choice" 4 "_of_parts", dMeth iNumber "Number" 3 "_worth", dMeth iReference "Reference" 3 "_worth", dMeth iPair "Pair" 1 "_worth", dMeth iChoice "Choice" 3 "_worth", dMeth iPlus "Plus" 2 "joined", dMeth iLeast "Least" 2 "joined", dMeth iMost "Most" 2 "joined", dMeth iSame "Same" 2 "joined", dMeth iNumber "Number" 0 "__init__", dMeth iReference "Reference" 0 "__init__", dMeth iHere "Here" 0 "__init__", dMeth iUp "Up" 0 "__init__", dMeth iDown "Down" 0 "__init__", dMeth iPair "Pair" 0 "__init__", dMeth iPlus "Plus" 0 "__init__", dMeth iLeast "Least" 0 "__init__", dMeth iMost "Most" 0 "__init__", dMeth iSame "Same" 0 "__init__", dMeth iChoice "Choice" 0 "__init__"]
def fp : List He.DefP := []
def ts : List He.Tab := [(fun K => He.ga K "RESERVED", reserved)]
def fa : List He.Fa := [.glo "is_between", .glo "is_list", .glo "is_name", .glo "is_chosen", .glo "_check_formula", .glo "_law_pot", .glo "_law_draw", .glo "_law_pick", .glo "_law_taken", .glo "_law_leaf", .glo "_law_part", .glo "_law_formula", .glo "_law_joined", .glo "_law_lazy", .glo "_law_wrapped", .glo "_law_answer", .glo "_law_put_right", .glo "_law_rows", .glo "_law_right", .glo "law", .glo "RESERVED", .int "LONGEST_NAME" 8, .int "MAX_NODES" 40, .int "MAX_DEPTH" 8, .int "GREATEST_NUMBER" 8, .glo "Formula", .glo "Reference", .glo "Pair", .glo "Number", .glo "Here", .glo "Up", .glo "Down", .glo "Plus", .glo "Least", .glo "Most", .glo "Same", .glo "Choice", .cls "Number", .cls "Here", .cls "Up", .cls "Down", .cls "Plus", .cls "Least", .cls "Most", .cls "Same", .cls "Choice", .mkr "Number", .mkr "Here", .mkr "Up", .mkr "Down", .mkr "Plus", .mkr "Least", .mkr "Most", .mkr "Same", .mkr "Choice", .free "len", .free "abs", .free "max", .free "min", .free "int", .free "divmod", .free "isinstance", .free "bool", .free "list", .free "tuple", .free "str", .free "repr", .free "enumerate", .free "range", .free "all", .free "zip", .free "sorted"]
abbrev R : PySem.W.OpenRow := PySem.W.OpenLaw.row PySem.Challenge.rw_belowneeds_k17_whole_lazy_choices
abbrev hk : PySem.W.Hook := He.hookW 6 xf fa fn fp ts
def ob (s : PySem.W.SharedT) : He.AlW := He.obsWG 6 xf fa fn fp ts (HandSHeadRun.getT s)
theorem ob_eq (s : PySem.W.SharedT) : ob s = hk.obs s.abs := He.obsWG_eq (HandSHeadRun.getT_eq s)
def loose : List Str := (["_wall", "MAX_NODES", "MAX_DEPTH", "GREATEST_NUMBER", "LONGEST_NAME", "RESERVED", "WHERES", "DIGITS", "is_integer", "is_between", "is_list", "is_name", "is_chosen", "SheetError", "InvalidNumber", "InvalidName", "InvalidFormula", "InvalidChosen"] : List Str) ++ (["InvalidPosition", "InvalidText", "LimitError", "TooMany", "LONGEST_TEXT", "END", "FormulaText", "words_of", "Formula", "Number", "Reference", "Here", "Up", "Down", "Pair", "Plus", "Least", "Most"] : List Str) ++ (["Same", "Choice", "_check_formula", "_pair", "_leaf", "_built", "_law_pot", "_law_draw", "_law_pick", "_law_taken", "_law_leaf", "_law_part", "_law_formula", "_law_joined", "_law_lazy", "_law_wrapped", "_law_answer", "_law_put_right"] : List Str) ++ (["_law_rows", "_law_right"] : List Str)
abbrev topI : Nat := 61
end K17
namespace K17
open PySem PySem.W PySem.Spec PySem.Calls PyProof.Rows HandSHeadRun He
def kf (s : PySem.W.SharedT) : PySem.W.Frag := frG (HandSHeadRun.getT s) (as0 6 (HandSHeadRun.getT s))
noncomputable abbrev runO (w : World) (os : OsState) := endF (stepQ (denQ tabQ) R.prog w) 12000 R.prog w os
noncomputable abbrev qv : Program := view R.prog [topI]
def row : String := "special-get-raises"
theorem run_a_false (w : World) (os : OsState) : (runO (w.withFollow row false) os).map (fun s => (looksF R.prog (boot_heap (w.withFollow row false).params) s.abs, seenQ qv loose (importedModules R.prog.main.body) (fun s => xlAt qv [] s && recOk R.toRowW.records s) s.abs)) = some (true, openGood qv loose) := by
  kernel_rfl
theorem run_b_false (w : World) (os : OsState) : (runO (w.withFollow row false) os).map (fun s => xf (kf s) && fp.all fun d => d.ok (kf s)) = some true := by
  kernel_rfl
theorem run_c_false (w : World) (os : OsState) : (runO (w.withFollow row false) os).map (fun s => (obsD fa fn (kf s), (fp.map fun d => fnAt (kf s) (d.path (kf s))), ts.map fun t => dicW (kf s) (t.1 (kf s)))) = some (valD fn, fp.map DefP.val, ts.map fun t => some (keysIn (w.withFollow row false).params t.2)) := by
  kernel_rfl
theorem run_a_true (w : World) (os : OsState) : (runO (w.withFollow row true) os).map (fun s => (looksF R.prog (boot_heap (w.withFollow row true).params) s.abs, seenQ qv loose (importedModules R.prog.main.body) (fun s => xlAt qv [] s && recOk R.toRowW.records s) s.abs)) = some (true, openGood qv loose) := by
  kernel_rfl
theorem run_b_true (w : World) (os : OsState) : (runO (w.withFollow row true) os).map (fun s => xf (kf s) && fp.all fun d => d.ok (kf s)) = some true := by
  kernel_rfl
theorem run_c_true (w : World) (os : OsState) : (runO (w.withFollow row true) os).map (fun s => (obsD fa fn (kf s), (fp.map fun d => fnAt (kf s) (d.path (kf s))), ts.map fun t => dicW (kf s) (t.1 (kf s)))) = some (valD fn, fp.map DefP.val, ts.map fun t => some (keysIn (w.withFollow row true).params t.2)) := by
  kernel_rfl
theorem run (w : World) : HandSHeadRun.RunEq R (PySem.W.view R.prog [topI]) hk ob 12000 loose w := PySem.W.byRow2 row (P := fun w => HandSHeadRun.RunEq R (PySem.W.view R.prog [topI]) hk ob 12000 loose w) (fun w os => He.comb (run_a_false w os) (run_b_false w os) (run_c_false w os)) (fun w os => He.comb (run_a_true w os) (run_b_true w os) (run_c_true w os)) w
end K17

/-! == of tuples whose items have a == of their own: both answers. -/
namespace GQ
open PySem PySem.SeqAt
open AutoSeq1 (wpAny_loadPart')
open MeetsSeq MeetsSeq2 MeetsSeq3 SeqRoads2
section
variable {prog : Program} {w : World} {A : Around} {R : Result → Shared → Prop}
theorem tuple_eq2 (l b : Addr) (items items2 : Array Value) (n n2 : Nat) (dd dd2 : Option Addr) (sl sl2 : Array (Option Value)) (I : Nat → Shared → Prop) (N : Shared → Prop)
    (turn : ∀ i (h1 : i < items.size) (h2 : i < items2.size) s, I i s → wpAny (model prog w) A.in1 (eqBool items[i] items2[i]) (fun r s' => (r = true ∧ I (i + 1) s') ∨ (r = false ∧ N s')) (fun e s' => R (.error e) s') s)
    (fin : ∀ s, I (min items.size items2.size) s → R (.ok (.ret (.bool (decide (items.size = items2.size))))) s) (fin0 : ∀ s, N s → R (.ok (.ret (.bool false))) s) {s : Shared} (hl1 : s.heap.get? l = some { cls := .type "tuple", dict := dd, data := .seq items n, slots := sl }) (hb1 : s.heap.get? b = some { cls := .type "tuple", dict := dd2, data := .seq items2 n2, slots := sl2 }) (h : I 0 s) :
    wpAny (model prog w) A.in1 (Builtin.«tuple.__eq__» ⟨[.ref l, .ref b], []⟩) (FinOf prog w A R) (fun e s' => R (.error e) s') s := by
  have f2 := AutoSeq1.sub_tuple_tuple
  have hZ : (items.toList.zip items2.toList).length = min items.size items2.size := by simp
  have h0 := h
  obtain ⟨hp, g, d, tk, os⟩ := s
  wp_walk using wpAny_loadPart' hl1, wpAny_loadPart' hb1, wpAny_forIn_list _ (fun rest b s' => b.1 = none ∧ ∃ i, rest = (items.toList.zip items2.toList).drop i ∧ i ≤ min items.size items2.size ∧ I i s') _
  case turn =>
    rintro ⟨y, x⟩ rest b s' ⟨hb', i, hz, hi, hI⟩
    · have hlt : i < (items.toList.zip items2.toList).length := by
        rcases Nat.lt_or_ge i (items.toList.zip items2.toList).length with h' | h'
        · exact h'
        · rw [List.drop_of_length_le h'] at hz; cases hz
      have h12 : i < min items.size items2.size := hZ ▸ hlt
      have h1 : i < items.size := by omega
      have h2 : i < items2.size := by omega
      rw [List.drop_eq_getElem_cons hlt] at hz
      injection hz with hyx hrest
      have hy : y = items[i] := by have := congrArg Prod.fst hyx; simpa using this
      have hx : x = items2[i] := by have := congrArg Prod.snd hyx; simpa using this
      subst hy hx
      refine wpAny_bind (wpAny_mono (turn i h1 h2 s' hI) (fun r s2 q2 => ?_) fun _ _ x => x)
      rcases q2 with ⟨hr, q2⟩ | ⟨hr, q2⟩
      · subst hr
        wp_walk
        exact ⟨rfl, i + 1, hrest, h12, q2⟩
      · subst hr
        wp_walk
        exact fin0 _ q2
  case fin =>
    rintro ⟨b1, b2⟩ s' ⟨hb', i, hz, hi, hI⟩
    · simp only at hb'
      subst hb'
      have hge : min items.size items2.size ≤ i := by
        rcases Nat.lt_or_ge i (items.toList.zip items2.toList).length with h' | h'
        · rw [List.drop_eq_getElem_cons h'] at hz; cases hz
        · exact hZ ▸ h'
      have hi' : i = min items.size items2.size := by omega
      have hR : R (.ok (.ret (.bool (decide (items.size = items2.size))))) s' := fin s' (hi' ▸ hI)
      wp_walk
      have e : (items.size == items2.size) = decide (items.size = items2.size) := rfl
      rw [← e] at hR
      simp only [Builtin.Tuple.tupleCompareSizes]
      exact hR
  case h =>
    exact ⟨rfl, 0, rfl, Nat.zero_le _, h0⟩
end
section
variable {prog : Program} {w : World} {A : Around} {E : Value → Shared → Prop} {s : Shared}
theorem rc_tup2 {l b : Addr} {items items2 : Array Value} {Q : Value → Shared → Prop} (hu : A.units < cLine) (I : Nat → Shared → Prop) (N : Shared → Prop)
    (hl : s.heap.IsTuple l items) (hb : s.heap.IsTuple b items2)
    (turn : ∀ i (h1 : i < items.size) (h2 : i < items2.size) s, I i s → wpAny (model prog w) A.in1 (eqBool items[i] items2[i]) (fun r s' => (r = true ∧ I (i + 1) s') ∨ (r = false ∧ N s')) E s)
    (fin : ∀ s, I (min items.size items2.size) s → Q (.bool (decide (items.size = items2.size))) s) (fin0 : ∀ s, N s → Q (.bool false) s) (h : I 0 s) : wpAny (model prog w) A (richCompare .Eq (.ref l) (.ref b)) Q E s := by
  obtain ⟨⟨cls, dd, data, sl⟩, ho, hc, n, hd⟩ := id hl
  obtain ⟨⟨cls2, dd2, data2, sl2⟩, ho2, hc2, n2, hd2⟩ := id hb
  simp only at hc hd hc2 hd2
  subst hc hd hc2 hd2
  refine wpAny_richCompare_same_room (op := .Eq) ⟨_, ho, rfl⟩ ⟨_, ho2, rfl⟩ F.slot_tuple_eq (call_here F.slot_tuple_eq ⟨_, ho, rfl⟩ F.entry_tuple_eq (F.args_tuple_eq_2 _ _) ?_) hu
  exact tuple_eq2 (R := wants (fun v s' => v ≠ .notImplemented ∧ Q v s') E) l b items items2 n n2 dd dd2 sl sl2 I N turn (fun s' q => ⟨(fun x => nomatch x), fin s' q⟩) (fun s' q => ⟨(fun x => nomatch x), fin0 s' q⟩) ho ho2 h
end
end GQ
namespace L2
open PySem PySem.Spec PyProof.Rows
/-- what == answers for two values, by the abstract heap -/
abbrev Eqw := V → V → Bool → Hp → Prop
def Monw (D : Eqw) : Prop := ∀ x y k H H', Ext H H' → D x y k H → D x y k H'
/-- == gives the answer that D tells, and only makes objects -/
def EqW (X : Cx) (n : Nat) (D : Eqw) : Prop :=
  ∀ (A : Around) (pins : List (Addr × Obj)) (s : Shared) (σ : St) (H : Hp) (x y : V) (k : Bool) (u v : Value), A.guards = some [] → Sub X n A → Inv X pins σ H s → RelV x u → RelV y v → D x y k H →
    wpAny (model X.prog X.w) A (eqBool u v) (fun r s' => r = k ∧ LoopI X pins σ H s') X.xe s
def RcW (X : Cx) (n : Nat) (D : Eqw) : Prop :=
  ∀ (A : Around) (pins : List (Addr × Obj)) (s : Shared) (σ : St) (H : Hp) (x y : V) (k : Bool) (u v : Value), A.guards = some [] → Sub X n A → Inv X pins σ H s → RelV x u → RelV y v → D x y k H →
    wpAny (model X.prog X.w) A (richCompare .Eq u v) (fun r s' => r = .bool k ∧ LoopI X pins σ H s') X.xe s
/-- item by item: all equal, or one at which they differ and all ahead of it equal -/
def Prw (D : Eqw) (xs ys : List V) (k : Bool) (H : Hp) : Prop := ∃ ks : List Bool, ks.length = min xs.length ys.length ∧ k = (ks.all id && decide (xs.length = ys.length)) ∧ ∀ (i : Nat) x y c, xs[i]? = some x → ys[i]? = some y → ks[i]? = some c → D x y c H
def DTupW (K : PySem.W.Frag) (D : Eqw) : Eqw := fun x y k H => ∃ a b xs ys, x = .ref a ∧ y = .ref b ∧ SqT K H a xs ∧ SqT K H b ys ∧ Prw D xs ys k H
section
variable {X : Cx} {n : Nat} {D : Eqw}
theorem all_take {ks : List Bool} {i : Nat} (h : ks[i]? = some false) : ks.all id = false := by
  rw [List.all_eq_false]
  exact ⟨false, List.mem_of_getElem? h, by decide⟩
theorem rcW_tup (hD : Monw D) (h : EqW X n D) : RcW X (n + 1) (DTupW X.K D) := by
  intro A pins s σ H x y k u v hgu sb I rx ry d
  obtain ⟨a, b, xs, ys, rfl, rfl, ha, hb, ks, lk, rfl, at_⟩ := d
  cases rx
  cases ry
  obtain ⟨its, r, e, z⟩ := I.tuple ha
  obtain ⟨its2, r2, e2, z2⟩ := I.tuple hb
  have s1 : its.toArray.size = xs.length := by rw [List.size_toArray, ← r.length]
  have s2 : its2.toArray.size = ys.length := by rw [List.size_toArray, ← r2.length]
  refine GQ.rc_tup2 sb.room.units0 (fun i s' => LoopI X pins σ H s' ∧ (ks.take i).all id = true) (fun s' => LoopI X pins σ H s' ∧ ks.all id = false) e e2 (fun i h1 h2 s' q => ?_) (fun s' q => ?_) (fun s' q => ?_) ⟨⟨H, I, Ext.rfl'⟩, rfl⟩
  · obtain ⟨⟨H1, I1, e1⟩, tk⟩ := q
    have g1 : its[i]? = some its.toArray[i] := by
      have h1' : i < its.length := by simpa using h1
      rw [List.getElem?_eq_getElem h1'] <;> simp
    have g2 : its2[i]? = some its2.toArray[i] := by
      have h2' : i < its2.length := by simpa using h2
      rw [List.getElem?_eq_getElem h2'] <;> simp
    have k1 : i < xs.length := by rw [r.length]; simpa using h1
    have k2 : i < ys.length := by rw [r2.length]; simpa using h2
    have k3 : i < ks.length := by omega
    obtain ⟨u, hu, ru⟩ := r.get (List.getElem?_eq_getElem k1)
    obtain ⟨v, hv, rv⟩ := r2.get (List.getElem?_eq_getElem k2)
    rw [g1] at hu
    rw [g2] at hv
    rw [Option.some.inj hu, Option.some.inj hv]
    refine wpAny_mono (h A.in1 pins s' σ H1 _ _ ks[i] u v hgu sb.in1 I1 ru rv (hD _ _ _ _ _ e1 (at_ i _ _ _ (List.getElem?_eq_getElem k1) (List.getElem?_eq_getElem k2) (List.getElem?_eq_getElem k3)))) (fun c s2 q => ?_) fun _ _ x => x
    obtain ⟨hc, H2, I2, e2⟩ := q
    have gk := List.getElem?_eq_getElem k3
    cases hk : ks[i] with
    | true =>
      rw [hk] at hc
      refine .inl ⟨hc, ⟨H2, I2, e1.trans e2⟩, ?_⟩
      rw [List.take_add_one, gk, hk, Option.toList_some, List.all_append, tk]
      rfl
    | false =>
      rw [hk] at hc gk
      exact .inr ⟨hc, ⟨H2, I2, e1.trans e2⟩, all_take gk⟩
  · obtain ⟨l, tk⟩ := q
    rw [s1, s2, ← lk, List.take_length] at tk
    exact ⟨by rw [tk, s1, s2]; rfl, l⟩
  · obtain ⟨l, tk⟩ := q
    exact ⟨by rw [tk]; rfl, l⟩
/-- an object is one with itself; else by the rich comparison -/
theorem RcW.eqW (h : RcW X n D) (hr : ∀ (pins : List (Addr × Obj)) (s : Shared) (σ : St) x y k H, Inv X pins σ H s → D x y k H → ∃ a b, x = .ref a ∧ y = .ref b ∧ (a = b → k = true)) : EqW X n D := by
  intro A pins s σ H x y k u v hgu sb I rx ry d
  obtain ⟨a, b, rfl, rfl, one⟩ := hr _ _ _ _ _ _ _ I d
  cases rx
  cases ry
  by_cases hab : a = b
  · subst hab
    rw [one rfl]
    exact SeqAt.EqAt.same (A := A) (s := s) (.ref a) X.prog X.w X.xe _ ⟨rfl, H, I, Ext.rfl'⟩
  · refine GQ.eqBool_refG hab (wpAny_mono (h A pins s σ H (.ref a) (.ref b) k _ _ hgu sb I rfl rfl d) (fun r s' q => ?_) fun _ _ x => x)
    obtain ⟨hr', q⟩ := q
    exact ⟨k, hr', rfl, q⟩
/-- flat values -/
def DFlatW : Eqw := fun x y k _ => flatV x = true ∧ flatV y = true ∧ eqV x y = k
theorem eqW_flat : EqW X 0 DFlatW := by
  intro A pins s σ H x y k u v _ sb I rx ry d
  obtain ⟨fx, fy, e⟩ := d
  have q := eqAt_V (A := A) (s := s) rx ry fx fy
  rw [e] at q
  exact q X.prog X.w X.xe _ ⟨rfl, H, I, Ext.rfl'⟩
/-- x == y as an expression -/
def rEqW (D : Eqw) : R2 := fun x y H Q => ∃ k, D x y k H ∧ ∀ H', Ext H H' → Q (.bl k) H'
theorem op_eqW (h : RcW X n D) (hr : Room n X.A) (hgu : X.A.guards = some []) : OpR X (compareOp .Eq) (rEqW D) := by
  intro pins s σ H x y v u Q I rx ry hq
  obtain ⟨k, d, q⟩ := hq
  show wpAny (model X.prog X.w) X.A (richCompare .Eq v u) (EP X pins σ Q) X.xe s
  refine wpAny_mono (h X.A pins s σ H x y k v u hgu ⟨hr, rfl⟩ I rx ry d) (fun r s' z => ?_) fun _ _ x => x
  obtain ⟨hr', H', I', e⟩ := z
  subst hr'
  exact ⟨.bl k, H', I', rfl, q H' e⟩
theorem EqW.mono {m : Nat} (h : EqW X n D) (hn : n ≤ m) : EqW X m D := fun A pins s σ H x y k u v g sb => h A pins s σ H x y k u v g (sb.mono hn)
theorem RcW.mono {m : Nat} (h : RcW X n D) (hn : n ≤ m) : RcW X m D := fun A pins s σ H x y k u v g sb => h A pins s σ H x y k u v g (sb.mono hn)
theorem EqW.or {D' : Eqw} (h : EqW X n D) (h' : EqW X n D') : EqW X n (fun x y k H => D x y k H ∨ D' x y k H) := fun A pins s σ H x y k u v g sb I rx ry d =>
  d.elim (fun d => h A pins s σ H x y k u v g sb I rx ry d) fun d => h' A pins s σ H x y k u v g sb I rx ry d
theorem Monw.or {D' : Eqw} (h : Monw D) (h' : Monw D') : Monw (fun x y k H => D x y k H ∨ D' x y k H) := fun x y k H H' e d => d.elim (fun d => .inl (h x y k H H' e d)) fun d => .inr (h' x y k H H' e d)
theorem monw_flat : Monw DFlatW := fun _ _ _ _ _ _ d => d
theorem monw_tup {K : PySem.W.Frag} (hD : Monw D) : Monw (DTupW K D) := fun x y k H H' e d => by
  obtain ⟨a, b, xs, ys, hx, hy, ha, hb, ks, lk, hk, at_⟩ := d
  exact ⟨a, b, xs, ys, hx, hy, ha.ext e, hb.ext e, ks, lk, hk, fun i x y c h1 h2 h3 => hD _ _ _ _ _ e (at_ i x y c h1 h2 h3)⟩
/-- an instance with a == of its own, at f, and something that does not come first -/
def DInsW (K : PySem.W.Frag) (f : Addr) (sp : Sp) : Eqw := fun x y k H => ∃ a C dx fs t, x = .ref a ∧ H a = some (.ins C dx fs) ∧ OwnM K C "__eq__" f ∧ TyX K H y t ∧ PySem.W.notFirst K C t = true ∧ ∀ (Q : VK) (E : XK), (∀ H', Ext H H' → Q (.bl k) H') → sp [x, y] H Q E
theorem rcW_ins {CX : CXT} {E : XK} {f : Addr} {fd : FuncData} {ps : List Str} {sp : Sp} (F : FnG X.prog X.w X.K X.mg X.base CX n f fd ps sp) (hb : Binds X.K fd ps []) (hx : Passes CX X E) : RcW X n (DInsW X.K f sp) := by
  intro A pins s σ H x y k u v hgu sb I rx ry d
  obtain ⟨a, C, dx, fs, t, rfl, ha, m, ty, nf, h⟩ := d
  obtain ⟨P, kit, hp, _⟩ := kit_of I ry ty
  obtain ⟨mA, J, _⟩ := ins_get I.hok ha
  obtain ⟨od, J, _⟩ := J.look
  obtain ⟨m', hF⟩ := I.fr
  cases rx
  refine PySem.W.cmp_K (op := .Eq) (tb := t) sb.room.units0 hF I.ok.mod.kin J (kit.ty _ _ I.kIn hp) nf m.find m.fn (wpAny_mono (call_at (Q := fun v H' => v = .bl k ∧ Ext H H') (vs := [V.ref a, y]) F hb hx sb hgu I (.cons rfl (.cons ry .nil)) (h _ _ fun H' e => ⟨rfl, e⟩)) (fun v s' z => ?_) fun _ _ y => y)
  obtain ⟨v, H', I', rv, rfl, e⟩ := z
  cases rv
  exact ⟨rfl, H', I', e⟩
end
end L2

/-! A tuple's items are one thing; o.m(..) where the class of o is one of several. -/
namespace L2
open PySem PySem.Spec PyProof.Rows
/-- where a tuple stands, its items are one list -/
def InjT (K : PySem.W.Frag) (H : Hp) : Prop := ∀ (a : Addr) (xs ys : List V), SqT K H a xs → SqT K H a ys → xs = ys
section
variable {X : Cx}
def eInj (K : PySem.W.Frag) (t : TE) : TE := fun σ H Q => InjT K H → t σ H Q
def sInj (K : PySem.W.Frag) (t : TS) : TS := fun D σ H => InjT K H → t D σ H
theorem pe_inj {e : Expr} {t : TE} (h : PE X e t) : PE X e (eInj X.K t) :=
  ⟨fun pins s σ H Q I q => h.run pins s σ H Q I (q fun _ _ _ h1 h2 => I.tuple_inj h1 h2)⟩
theorem pss_inj {st : List Stmt} {t : TS} (h : PSs X st t) : PSs X st (sInj X.K t) :=
  ⟨fun pins s σ H D I q => h.run pins s σ H D I (q fun _ _ _ h1 h2 => I.tuple_inj h1 h2)⟩
/-- o.m(..): the class of o is one of several -/
def tMethI {ι : Type} (C : ι → Addr) (m : Str) (sp : ι → Sp) (dvs : List V) (E : XK) (ta : TE) (t : TA) : TE := fun σ H Q => ta σ H fun x H1 => ∃ i a dx fs, x = .ref a ∧ H1 a = some (.ins (C i) dx fs) ∧ fs.lookup m = none ∧
  t σ H1 fun vs H2 => sp i (x :: (vs ++ dvs)) H2 Q E
section
variable {CX : CXT} {k : Nat} {ι : Type} {f C : ι → Addr} {fd : ι → FuncData} {ps : List Str} {sp : ι → Sp} {dvs : List V} {ds : List Value} {E : XK} {m : Str} {pos apos : Pos} {e o : Expr} {es : List Expr} {ta : TE} {t : TA}
theorem pe_methI {pl : Sem Bool} (he : PE X o ta) (c : ∀ i, Cls X.K (C i)) (hm : ∀ i, Meth X.K (C i) m (f i)) (F : ∀ i, FnOk X.prog X.w X.K X.mg X.base CX k (f i) (fd i) ps (sp i)) (hr : Room k X.A) (hb : ∀ i, Binds X.K (fd i) ps ds) (hd : Vals dvs ds) (hx : Passes CX X E) (ha : PA X (e :: es) t)
    (hst : starEach (e :: es) X.env = (false, eval e X.env) :: starEach es X.env := by rfl) (hpl : (backTo pos (starEach es X.env)).any (·.1) = false := by rfl)
    (ht : eval (.Call (.Attribute o m apos) (e :: es) [] pos) X.env = (do
      let ov ← eval o X.env
      standAt apos.atName
      let (f, first) ← holding [ov] (getMethod ov m pl)
      callWith pos f first (backTo pos (starEach (e :: es) X.env)) (backToKw pos (keywordEach [] X.env))) := by rfl) :
    PE X (.Call (.Attribute o m apos) (e :: es) [] pos) (tMethI C m sp dvs E ta t) := by
  refine ⟨fun pins s σ H Q I h => ?_⟩
  refine PySem.W.methodCall_KW (pl := pl) (thn (he.run pins s σ H _ I h) fun u s1 ⟨x, H1, I1, rx, i, a, dx, fs, ex, ea, l, q⟩ => ?_) ht
  subst ex
  obtain rfl : u = Value.ref a := rx
  refine getmeth_ok I1 ea (c i) (hm i) l ?_
  refine PySem.W.callWith_K (first := [.ref a]) (h₀ := X.base) I.ok.mod.kin (hm i).kp (thn (ha.run pos pins s1 σ H1 _ I1 q) fun us s2 ⟨vs, H2, I2, r, q2⟩ => ⟨I2.kIn, ?_⟩) hst hpl
  exact run_fn (us := .ref a :: us) (vs := .ref a :: vs) (F i) hr (hb i) hd hx I2 (.cons rfl r) q2
theorem pe_methI0 {pl : Sem Bool} (he : PE X o ta) (c : ∀ i, Cls X.K (C i)) (hm : ∀ i, Meth X.K (C i) m (f i)) (F : ∀ i, FnOk X.prog X.w X.K X.mg X.base CX k (f i) (fd i) ps (sp i)) (hr : Room k X.A) (hb : ∀ i, Binds X.K (fd i) ps ds) (hd : Vals dvs ds) (hx : Passes CX X E)
    (ht : eval (.Call (.Attribute o m apos) [] [] pos) X.env = (do
      let ov ← eval o X.env
      standAt apos.atName
      let (f, first) ← holding [ov] (getMethod ov m pl)
      callWith pos f first (backTo pos (starEach [] X.env)) (backToKw pos (keywordEach [] X.env))) := by rfl) :
    PE X (.Call (.Attribute o m apos) [] [] pos) (tMethI C m sp dvs E ta tNil) := by
  refine ⟨fun pins s σ H Q I h => ?_⟩
  refine PySem.W.methodCall_KW (pl := pl) (thn (he.run pins s σ H _ I h) fun u s1 ⟨x, H1, I1, rx, i, a, dx, fs, ex, ea, l, q⟩ => ?_) ht
  subst ex
  obtain rfl : u = Value.ref a := rx
  refine getmeth_ok I1 ea (c i) (hm i) l ?_
  exact PySem.W.callWith_K0 (first := [.ref a]) I1.kIn (hm i).kp (run_fn (us := [.ref a]) (vs := [.ref a]) (F i) hr (hb i) hd hx I1 (.cons rfl .nil) q)
theorem methI {σ : L2.St} {H : Hp} {Q : VK} (h : ta σ H fun x H1 => ∃ i a dx fs, x = .ref a ∧ H1 a = some (.ins (C i) dx fs) ∧ fs.lookup m = none ∧ t σ H1 fun vs H2 => sp i (x :: (vs ++ dvs)) H2 Q E) : tMethI C m sp dvs E ta t σ H Q := h
end
end
end L2
namespace L2
open PySem PySem.Spec PyProof.Rows
section
variable {X : Cx}
theorem cr_range1 : CallR X (.type "range") (fun vs H Q => ∃ j, vs = [V.int j] ∧ ∀ p, H p = none → Q (.ref p) (upd H p (.rng 0 j))) := by
  intro pins s σ H vs us Q I r h
  obtain ⟨j, rfl, q⟩ := h
  obtain ⟨u1, rfl, rj⟩ := vals1 r
  obtain ⟨t, rfl⟩ := rj
  refine call_range_1 ⟨.ref s.heap.objs.size, upd H s.heap.objs.size (.rng 0 j), I.laid (t' := s.toks + 1 + 1) (fun b o e => Heap.get?_push_of_some _ e) (Nat.le_refl _) ?_, rfl, q _ (I.hok.fresh (Nat.le_refl _))⟩
  exact ⟨s.toks, t, s.toks + 1, Heap.get?_push_size _ rfl⟩
theorem call_lenRng : CallR X (.builtin "len") (fun xs H Q => ∃ (p : Addr) (n : Nat), xs = [.ref p] ∧ H p = some (.rng 0 (n : Nat)) ∧ n ≤ 100000 ∧ Q (.int (n : Nat)) H) := by
  intro pins s σ H xs us Q I r h
  obtain ⟨p, n, rfl, e, hn, q⟩ := h
  obtain ⟨u, rfl, rx⟩ := vals1 r
  cases rx
  obtain ⟨t1, t2, t3, ho⟩ := I.hok p _ e
  refine call_len_range (a := 0) (b := (n : Nat)) (c := 1) (n := n) ho ?_ (by omega) ⟨.int _, H, (I.tok _).tok _, ⟨_, rfl⟩, q⟩
  rw [rangeSize_one]
  split <;> omega
end
end L2
namespace L2
open PySem PySem.Spec PyProof.Rows
section
variable {X : Cx} {CX : CXT} {n : Nat} {f : Addr} {fd : FuncData} {ps : List Str} {sp : Sp} {E : XK}
theorem call_atF (F : FnOk X.prog X.w X.K X.mg X.base CX n f fd ps sp) (hb : Binds X.K fd ps []) (hx : Passes CX X E) {A : Around} (sb : Sub X n A) {pins : List (Addr × Obj)} {s : Shared} {σ : St} {H : Hp} {vs : List V} {us : List Value} {Q : VK}
    (I : Inv X pins σ H s) (r : Vals vs us) (h : sp vs H Q E) : wpAny (model X.prog X.w) A (call (.ref f) us) (EP X pins σ Q) X.xe s := by
  have e0 : Env0 X.prog X.w X.K X.mg X.base A X.stack s H := by
    have e := I.env0
    exact ⟨by rw [sb.fr]; exact e.frames, e.mod, e.bs, e.bsz, e.funs, e.frf, e.hok, e.bare⟩
  have hl := F.len _ _ _ _ h
  have bind := hb s us I.kIn (by rw [List.append_nil, ← r.length]; exact hl)
  rw [List.append_nil] at bind
  refine wpAny_call (codeAny_mono (F.run A X.stack s H ⟨us, []⟩ us vs Q E sb.room e0 bind r h) fun r' s2 y => ?_)
  match r', y with
  | .error e, y => exact hx pins σ H s e s2 I y
  | .ok (.ret u), y => exact I.after y
/-- len(x) by an own __len__; the class is one of several -/
def rLenI {ι : Type} (C : ι → Addr) (sp : Sp) (E : XK) : List V → Hp → VK → Prop := fun xs H Q => ∃ i a dx fs, xs = [.ref a] ∧ H a = some (.ins (C i) dx fs) ∧ sp [.ref a] H (fun v H' => ∃ k : Nat, v = .int (k : Nat) ∧ k < 100000 ∧ Q (.int (k : Nat)) H') E
theorem call_lenI {ι : Type} {C : ι → Addr} (F : FnOk X.prog X.w X.K X.mg X.base CX n f fd ps sp) (m : ∀ i, OwnM X.K (C i) "__len__" f) (hb : Binds X.K fd ps []) (hx : Passes CX X E) (hr : Room (n + 1) X.A) : CallR X (.builtin "len") (rLenI C sp E) := by
  intro pins s σ H xs us Q I r h
  obtain ⟨i, a, dx, fs, rfl, ha, h⟩ := h
  obtain ⟨u, rfl, ru⟩ := vals1 r
  cases ru
  obtain ⟨mA, J, _⟩ := ins_get I.hok ha
  obtain ⟨od, J, _⟩ := J.look
  obtain ⟨m', hF⟩ := I.fr
  have sb : Sub X n X.A.in1 := Sub.in1 ⟨hr, rfl⟩
  refine PySem.W.len_K hF I.ok.mod.kin J (m i).find (m i).fn (wpAny_mono (call_atF (vs := [V.ref a]) F hb hx sb I (.cons rfl .nil) h) (fun v s' z => ?_) fun _ _ y => y)
  obtain ⟨v, H', I', rv, k, rfl, hk, q⟩ := z
  obtain ⟨t, rfl⟩ := rv
  exact ⟨⟨by omega, by omega⟩, .int _, H', I'.tok _, ⟨_, rfl⟩, q⟩
theorem isNR {ta : TE} {σ : L2.St} {H : Hp} {Q : VK} (h : ta σ H fun x H1 => Q (.bl (decide (x = .non))) H1) : tIsN ta σ H Q := h
end
end L2

/-! a + b of instances of several own classes that share one __add__; == and != likewise. -/
namespace PySem.W
open Lean Elab Tactic Meta PySem PySem.Calls PyProof.Rows
section
variable {prog : Program} {w : World} {A : Around} {E : Value → Shared → Prop} {s : Shared} {K : Frag} {x C D L f g : Addr} {h₀ : Heap} {m : Str → Option Value} {ox : Obj} {od : Option Obj}
theorem own_binD {op : Operator} {b : Value} {rc rd : Option Value} {Q : Value → Shared → Prop} (F : Fr h₀ L s.heap m) (X₀ : K.In h₀) (I : InstAt s.heap x ox C od) (hb : Looks (model prog w) s.heap (typeOf b) (.ref D)) (ne : C ≠ D) (hc : selfFirst K C = true) (hcD : selfFirst K D = true)
    (hs : findIn K (.ref C) (PySem.dunder op.info.2) = some (some (.ref f))) (hf : isFn K (.ref f) = true) (hr : findIn K (.ref C) (dunderR op.info.2) = some rc) (hp : rc = none ∨ ∃ g : Addr, rc = some (.ref g))
    (hsD : findIn K (.ref D) (PySem.dunder op.info.2) = some (some (.ref g))) (hrD : findIn K (.ref D) (dunderR op.info.2) = some rd) (hpD : rd = none ∨ ∃ g : Addr, rd = some (.ref g)) (hsub : subIn K (.ref D) (.ref C) = some false)
    (h : wpAny (model prog w) A (call (.ref f) [.ref x, b]) (CmpBack Q) E s) : wpAny (model prog w) A (binaryOp op (.ref x) b) Q E s := by
  have X := X₀.keeps F.keep
  obtain ⟨cd, rest, hcd, hm⟩ := ksp_first hc
  obtain ⟨cd2, rest2, hcd2, hm2⟩ := ksp_first hcD
  rcases hi : op.info with ⟨sym, nm'⟩
  rw [hi] at hs hr hsD hrD
  dsimp only at hs hr hsD hrD
  have one := ksp_try X I hs hf h
  obtain ⟨hh, g, d, tt, os⟩ := s
  have L1 : Looks (model prog w) hh (typeOf (.ref x)) (.ref C) := I.type
  have L2 : Looks (model prog w) hh (typeOf b) (.ref D) := hb
  have L3 : Looks (model prog w) hh (fillsNumberSlot (.ref C) nm') true := fills_K X hcd hm hs
  have L4 : Looks (model prog w) hh (fillsNumberSlot (.ref D) nm') true := fills_K X hcd2 hm2 hsD
  have L5 : Looks (model prog w) hh (isSubtype (.ref D) (.ref C)) false := looks_subIn X hsub
  have L6 : Looks (model prog w) hh (numberSlotInPython (.ref C) nm') true := ksp_inPy X hs hr hp
  have L7 : Looks (model prog w) hh (numberSlotInPython (.ref D) nm') true := ksp_inPy X hsD hrD hpD
  have hne : (Value.ref C == Value.ref D) = false := Bool.eq_false_iff.mpr fun q => by
    have := beq_iff_eq.mp q
    injection this with this
    exact ne this
  simp only [binaryOp, hi]
  refine wpAny_holding (wpAny_bind ?_)
  unfold binaryOp1
  refine wpAny_bind (L1.at (wpAny_bind (L2.at (wpAny_bind (L3.at ?_)))))
  simp only [hne, Bool.false_eq_true, if_false]
  ksp_lk
  refine wpAny_mono one (fun r s' hr' => ?_) fun _ _ e => e
  obtain ⟨v, rfl, hq⟩ := hr'
  ksp_lk
  exact hq
end
end PySem.W
namespace L2
open PySem PySem.Spec PyProof.Rows
section
variable {X : Cx} {CX : CXT} {n : Nat} {ι : Type} {C : ι → Addr} {f : Addr} {fd : FuncData} {ps : List Str} {sp : Sp} {E : XK}
/-- what a + b leans on -/
structure AddK (K : PySem.W.Frag) (C : ι → Addr) (f : Addr) : Prop where
  own : ∀ i, OwnM K (C i) "__add__" f
  first : ∀ i, PySem.W.selfFirst K (C i) = true
  nr : ∀ i, PySem.W.findIn K (.ref (C i)) "__radd__" = some none
  sub : ∀ i j, C i ≠ C j → PySem.W.subIn K (.ref (C j)) (.ref (C i)) = some false
  subI : ∀ i, PySem.W.subIn K (.type "int") (.ref (C i)) = some false
  i1 : ∃ fo, PySem.W.findIn K (.type "int") "__add__" = some fo
  i2 : ∃ ro, PySem.W.findIn K (.type "int") "__radd__" = some ro
def rAddI (C : ι → Addr) (sp : Sp) (E : XK) : R2 := fun x y H Q => ∃ i a dx fs, x = .ref a ∧ H a = some (.ins (C i) dx fs) ∧ ((∃ j b dy gs, y = .ref b ∧ H b = some (.ins (C j) dy gs)) ∨ ∃ k : Int, y = .int k) ∧ sp [x, y] H (fun v H' => (∃ b, v = .ref b) ∧ Q v H') E
theorem op_addI (F : FnOk X.prog X.w X.K X.mg X.base CX n f fd ps sp) (m : AddK X.K C f) (hb : Binds X.K fd ps []) (hx : Passes CX X E) (hr : Room n X.A) : OpR X (binaryOp .Add) (rAddI C sp E) := by
  intro pins s σ H x y v u Q I rx ry hq
  obtain ⟨i, a, dx, fs, rfl, ha, hy, h⟩ := hq
  obtain ⟨mA, J, _⟩ := ins_get I.hok ha
  obtain ⟨od, J, _⟩ := J.look
  obtain ⟨m', hF⟩ := I.fr
  have sb : Sub X n X.A := ⟨hr, rfl⟩
  have run : wpAny (model X.prog X.w) X.A (call (.ref f) [.ref a, u]) (PySem.W.CmpBack (EP X pins σ Q)) X.xe s := by
    have rx' : RelV (V.ref a) (Value.ref a) := rfl
    refine wpAny_mono (call_atF (vs := [V.ref a, y]) F hb hx sb I (.cons rx' (.cons ry .nil)) h) (fun v s' z => ?_) fun _ _ y => y
    obtain ⟨v, H', I', rv, ⟨b, rfl⟩, q⟩ := z
    cases rv
    exact ⟨.ref b, H', I', rfl, q⟩
  cases rx
  rcases hy with ⟨j, b, dy, gs, rfl, hb'⟩ | ⟨k, rfl⟩
  · obtain ⟨mB, J2, _⟩ := ins_get I.hok hb'
    obtain ⟨od2, J2, _⟩ := J2.look
    cases ry
    by_cases e : C i = C j
    · exact PySem.W.binop_K hF I.ok.mod.kin J (by rw [e]; exact J2.type) (m.first i) (m.own i).find (m.own i).fn run
    · exact PySem.W.own_binD hF I.ok.mod.kin J J2.type e (m.first i) (m.first j) (m.own i).find (m.own i).fn (m.nr i) (.inl rfl) (m.own j).find (m.nr j) (.inl rfl) (m.sub i j e) run
  · obtain ⟨t, rfl⟩ := ry
    obtain ⟨fo, h1⟩ := m.i1
    obtain ⟨ro, h2⟩ := m.i2
    exact PySem.W.ksp_binT hF I.ok.mod.kin J rfl (m.first i) (m.own i).find (m.own i).fn (m.nr i) (.inl rfl) h1 h2 (m.subI i) run
/-- x == y, x != y by an own ==; the class of x is one of several -/
def rOwnI (K : PySem.W.Frag) (C : ι → Addr) (sp : Sp) (E : XK) (g : Bool → Bool) : R2 := fun x y H Q => ∃ i a dx fs t, x = .ref a ∧ H a = some (.ins (C i) dx fs) ∧ TyX K H y t ∧ PySem.W.notFirst K (C i) t = true ∧ sp [x, y] H (fun v H' => ∃ k, v = .bl k ∧ Q (.bl (g k)) H') E
theorem op_eqIs (F : FnG X.prog X.w X.K X.mg X.base CX n f fd ps sp) (m : ∀ i, OwnM X.K (C i) "__eq__" f) (hb : Binds X.K fd ps []) (hx : Passes CX X E) (hgu : X.A.guards = some []) (hr : Room n X.A) :
    OpR X (compareOp .Eq) (rOwnI X.K C sp E id) := by
  intro pins s σ H x y v u Q I rx ry hq
  obtain ⟨i, a, dx, fs, t, hx', ha, ty, nf, h⟩ := hq
  exact op_eqI F (m i) hb hx hgu hr pins s σ H x y v u Q I rx ry ⟨a, dx, fs, t, hx', ha, ty, nf, h⟩
theorem op_neIs (F : FnG X.prog X.w X.K X.mg X.base CX n f fd ps sp) (m : ∀ i, OwnM X.K (C i) "__eq__" f) (hne : ∀ i, PySem.W.findIn X.K (.ref (C i)) "__ne__" = some (some (.builtin "object.__ne__"))) (hm : ∀ i, PySem.W.mroIn X.K (C i) (.type "object") = some true)
    (hb : Binds X.K fd ps []) (hx : Passes CX X E) (hgu : X.A.guards = some []) (hr : Room (n + 1) X.A) : OpR X (compareOp .NotEq) (rOwnI X.K C sp E not) := by
  intro pins s σ H x y v u Q I rx ry hq
  obtain ⟨i, a, dx, fs, t, hx', ha, ty, nf, h⟩ := hq
  exact op_neI F (m i) (hne i) (hm i) hb hx hgu hr pins s σ H x y v u Q I rx ry ⟨a, dx, fs, t, hx', ha, ty, nf, h⟩
end
end L2

/-! A comprehension with a test, over a list or a tuple, that only makes objects. -/
namespace L2
open PySem PySem.Spec PyProof.Rows
/-- what a comprehension with a test asks -/
def LcT (J : It) (i : Nat) (ii : List Nat) (tt : TT) (te : TE) (σ : L2.St) (H1 : Hp) (Q : VK) : Prop :=
  ∀ D, H1 D = none → ∃ W : Nat → Nat → Hp → Prop, (∃ m, W 0 m (upd H1 D (.lst []))) ∧ ∀ k m H, W k m H →
      (J.stop k H ∧ Q (.ref D) H) ∨ (J.go k H ∧ ∃ Nx : Hp → Prop, (∀ H', Nx H' → ∃ m', m' < m ∧ W (k + 1) m' H') ∧ ∀ x H', J.yld k H x H' → gName i x (wipe σ ii) H' fun σ2 H2 => wipe σ2 ii = wipe σ ii ∧ tt σ2 H2 fun b H3 =>
        if b = true then te σ2 H3 (fun y H4 => ∃ acc, H4 D = some (.lst acc) ∧ acc.length < sizeLine ∧ Nx (upd H4 D (.lst (acc ++ [y])))) else Nx H3)
theorem lcTl {K : PySem.W.Frag} {tl te : TE} {tt : TT} {i : Nat} {ii : List Nat} {σ : L2.St} {H : Hp} {Q : VK} (h : tl σ H fun x H1 => ∃ a, x = .ref a ∧ (∃ xs, SqL K H1 a xs) ∧ LcT (Itl K a) i ii tt te σ H1 Q) : tLc (iList K tl) (gName i) tt te ii σ H Q := h
theorem lcTt {K : PySem.W.Frag} {tl te : TE} {tt : TT} {i : Nat} {ii : List Nat} {σ : L2.St} {H : Hp} {Q : VK} (h : tl σ H fun x H1 => ∃ a, x = .ref a ∧ (∃ xs, SqT K H1 a xs) ∧ LcT (Itt K a) i ii tt te σ H1 Q) : tLc (iTup K tl) (gName i) tt te ii σ H Q := h
theorem filt_le {p : Nat → Bool} (ys : Nat → V) (k : Nat) : (((List.range k).filter p).map ys).length ≤ k := by
  rw [List.length_map]
  exact Nat.le_trans (List.length_filter_le _ _) (by rw [List.length_range]; exact Nat.le_refl _)
theorem lcFl {K : PySem.W.Frag} {a : Addr} {i : Nat} {ii : List Nat} {tt : TT} {te : TE} {σ : L2.St} {H1 : Hp} {Q : VK} {xs : List V} (p : Nat → Bool) (ys : Nat → V) (hi : ii = [i]) (hl : xs.length ≤ 100000) (hx : SqL K H1 a xs)
    (ht : ∀ k x, xs[k]? = some x → ∀ (H2 : Hp) (QB : Bool → Hp → Prop), Same H1 H2 → (∀ H3, Same H2 H3 → QB (p k) H3) → tt ((wipe σ [i]).set i (some x)) H2 QB)
    (he : ∀ k x, xs[k]? = some x → p k = true → ∀ (H2 : Hp) (Q' : VK), Same H1 H2 → (∀ H3, Same H2 H3 → Q' (ys k) H3) → te ((wipe σ [i]).set i (some x)) H2 Q')
    (q : ∀ D (H2 : Hp), H1 D = none → Same H1 H2 → H2 D = some (.lst (((List.range xs.length).filter p).map ys)) → Q (.ref D) H2) : LcT (Itl K a) i ii tt te σ H1 Q := by
  subst hi
  intro D hD
  have st : ∀ {H2 : Hp} {o : HO}, Same H1 H2 → Same H1 (upd H2 D o) := fun s b u e => by rw [upd_ne (ne_of_none e hD)]; exact s b u e
  refine lc_it walk_list (fun k H2 => Same H1 H2 ∧ H2 D = some (.lst (((List.range k).filter p).map ys))) ⟨st (Same.refl _), upd_same⟩ (fun _ _ _ z => hx.ext z.1) (fun k x H H' hk z hy => ?_) fun H2 z => q D H2 hD z.1 z.2
  obtain ⟨rfl, ex⟩ := hy
  obtain ⟨s2, c⟩ := z
  refine ⟨by show List.set (List.set (List.set σ i none) i _) i none = List.set σ i none; rw [List.set_set, List.set_set], ?_⟩
  refine ht k x ex H' _ s2 fun H3 s3 => ?_
  cases hp : p k with
  | false =>
    refine iteF ⟨s2.trans s3, ?_⟩
    rw [List.range_succ, List.filter_append, List.filter_cons_of_neg (by rw [hp]; decide), List.filter_nil, List.append_nil]
    exact s3 _ _ c
  | true =>
    refine iteT (he k x ex hp H3 _ (s2.trans s3) fun H4 s4 => ⟨_, s4 _ _ (s3 _ _ c), ?_, st ((s2.trans s3).trans s4), ?_⟩)
    · exact Nat.lt_of_le_of_lt (filt_le ys k) (Nat.lt_of_lt_of_le (show k < 100001 by omega) (by decide))
    · rw [upd_same, List.range_succ, List.filter_append, List.filter_cons_of_pos hp, List.filter_nil, List.map_append]
      rfl

theorem lcFt {K : PySem.W.Frag} {a : Addr} {i : Nat} {ii : List Nat} {tt : TT} {te : TE} {σ : L2.St} {H1 : Hp} {Q : VK} {xs : List V} (p : Nat → Bool) (ys : Nat → V) (hi : ii = [i]) (hl : xs.length ≤ 100000) (hx : SqT K H1 a xs)
    (ht : ∀ k x, xs[k]? = some x → ∀ (H2 : Hp) (QB : Bool → Hp → Prop), Same H1 H2 → (∀ H3, Same H2 H3 → QB (p k) H3) → tt ((wipe σ [i]).set i (some x)) H2 QB)
    (he : ∀ k x, xs[k]? = some x → p k = true → ∀ (H2 : Hp) (Q' : VK), Same H1 H2 → (∀ H3, Same H2 H3 → Q' (ys k) H3) → te ((wipe σ [i]).set i (some x)) H2 Q')
    (q : ∀ D (H2 : Hp), H1 D = none → Same H1 H2 → H2 D = some (.lst (((List.range xs.length).filter p).map ys)) → Q (.ref D) H2) : LcT (Itt K a) i ii tt te σ H1 Q := by
  subst hi
  intro D hD
  have st : ∀ {H2 : Hp} {o : HO}, Same H1 H2 → Same H1 (upd H2 D o) := fun s b u e => by rw [upd_ne (ne_of_none e hD)]; exact s b u e
  refine lc_it walk_tup (fun k H2 => Same H1 H2 ∧ H2 D = some (.lst (((List.range k).filter p).map ys))) ⟨st (Same.refl _), upd_same⟩ (fun _ _ _ z => hx.ext z.1) (fun k x H H' hk z hy => ?_) fun H2 z => q D H2 hD z.1 z.2
  obtain ⟨rfl, ex⟩ := hy
  obtain ⟨s2, c⟩ := z
  refine ⟨by show List.set (List.set (List.set σ i none) i _) i none = List.set σ i none; rw [List.set_set, List.set_set], ?_⟩
  refine ht k x ex H' _ s2 fun H3 s3 => ?_
  cases hp : p k with
  | false =>
    refine iteF ⟨s2.trans s3, ?_⟩
    rw [List.range_succ, List.filter_append, List.filter_cons_of_neg (by rw [hp]; decide), List.filter_nil, List.append_nil]
    exact s3 _ _ c
  | true =>
    refine iteT (he k x ex hp H3 _ (s2.trans s3) fun H4 s4 => ⟨_, s4 _ _ (s3 _ _ c), ?_, st ((s2.trans s3).trans s4), ?_⟩)
    · exact Nat.lt_of_le_of_lt (filt_le ys k) (Nat.lt_of_lt_of_le (show k < 100001 by omega) (by decide))
    · rw [upd_same, List.range_succ, List.filter_append, List.filter_cons_of_pos hp, List.filter_nil, List.map_append]
      rfl

end L2

/-! A comprehension, whatever its element does, by what holds of the list that is made. -/
namespace L2
open PySem PySem.Spec PyProof.Rows
theorem lcGLi {K:PySem.W.Frag} {a:Addr} {xs:List V} {i : Nat} {ii : List Nat} {te : TE} {σ : L2.St} {H1 : Hp} {Q : VK} (J : Addr → Nat → List V → Hp → Prop) (hi : ii = [i]) (hx:SqL K H1 a xs) (hG:∀ D k acc H, J D k acc H → SqL K H a xs) (hl : xs.length ≤ 100000)
    (init : ∀ D, H1 D = none → J D 0 [] (upd H1 D (.lst [])))
    (ht : ∀ D k x acc (H2 : Hp) (Q' : VK), H1 D = none → k < xs.length → xs[k]? = some x → acc.length = k → H2 D = some (.lst acc) → J D k acc H2 → (∀ v (H3 : Hp), H3 D = some (.lst acc) → J D (k + 1) (acc ++ [v]) (upd H3 D (.lst (acc ++ [v]))) → Q' v H3) → te ((wipe σ [i]).set i (some x)) H2 Q')
    (q : ∀ D acc (H2 : Hp), H1 D = none → acc.length = xs.length → J D (xs.length) acc H2 → H2 D = some (.lst acc) → Q (.ref D) H2) : LcJ (Itl K a) i ii te σ H1 Q := by
  subst hi
  intro D hD
  refine lc_it walk_list (fun k H2 => ∃ acc : List V, acc.length = k ∧ H2 D = some (.lst acc) ∧ J D k acc H2) ⟨[], rfl, upd_same, init D hD⟩ (fun k H hk z => by obtain ⟨acc, _, _, j⟩ := z; exact hG _ _ _ _ j) (fun k x H H' hk p hy => ?_) fun H2 p => ?_
  · obtain ⟨rfl, ex⟩ := hy
    obtain ⟨acc, al, c, j⟩ := p
    refine ⟨by show List.set (List.set (List.set σ i none) i _) i none = List.set σ i none; rw [List.set_set, List.set_set], iteT (B := ∃ acc : List V, acc.length = k + 1 ∧ H' D = some (.lst acc) ∧ J D (k + 1) acc H') ?_⟩
    refine ht D k _ acc H' _ hD hk ex al c j fun v H3 c3 j3 => ⟨acc, c3, ?_, acc ++ [v], by rw [List.length_append, al]; rfl, upd_same, j3⟩
    rw [al]
    exact Nat.lt_of_lt_of_le (show k < 100001 by omega) (by decide)
  · obtain ⟨acc, al, c, j⟩ := p
    exact q D acc H2 hD al j c

theorem lcGRa {lo:Int} {n:Nat} {i : Nat} {ii : List Nat} {te : TE} {σ : L2.St} {H1 : Hp} {Q : VK} (J : Addr → Nat → List V → Hp → Prop) (hi : ii = [i]) (_h0:True) (hG:True) (hl : n ≤ 100000)
    (init : ∀ D, H1 D = none → J D 0 [] (upd H1 D (.lst [])))
    (ht : ∀ D k x acc (H2 : Hp) (Q' : VK), H1 D = none → k < n → x = .int (lo + (k:Int)) → acc.length = k → H2 D = some (.lst acc) → J D k acc H2 → (∀ v (H3 : Hp), H3 D = some (.lst acc) → J D (k + 1) (acc ++ [v]) (upd H3 D (.lst (acc ++ [v]))) → Q' v H3) → te ((wipe σ [i]).set i (some x)) H2 Q')
    (q : ∀ D acc (H2 : Hp), H1 D = none → acc.length = n → J D (n) acc H2 → H2 D = some (.lst acc) → Q (.ref D) H2) : LcJ (Itr lo n) i ii te σ H1 Q := by
  subst hi
  intro D hD
  refine lc_it walk_range (fun k H2 => ∃ acc : List V, acc.length = k ∧ H2 D = some (.lst acc) ∧ J D k acc H2) ⟨[], rfl, upd_same, init D hD⟩ (fun k H hk z => by obtain ⟨acc, _, _, j⟩ := z; exact trivial) (fun k x H H' hk p hy => ?_) fun H2 p => ?_
  · obtain ⟨rfl, rfl⟩ := hy
    obtain ⟨acc, al, c, j⟩ := p
    refine ⟨by show List.set (List.set (List.set σ i none) i _) i none = List.set σ i none; rw [List.set_set, List.set_set], iteT (B := ∃ acc : List V, acc.length = k + 1 ∧ H' D = some (.lst acc) ∧ J D (k + 1) acc H') ?_⟩
    refine ht D k _ acc H' _ hD hk rfl al c j fun v H3 c3 j3 => ⟨acc, c3, ?_, acc ++ [v], by rw [List.length_append, al]; rfl, upd_same, j3⟩
    rw [al]
    exact Nat.lt_of_lt_of_le (show k < 100001 by omega) (by decide)
  · obtain ⟨acc, al, c, j⟩ := p
    exact q D acc H2 hD al j c

end L2

/-! Lists and tuples of texts as data. -/
namespace L2
open PySem PySem.Spec PyProof.Rows
theorem dpa_strs {K : PySem.W.Frag} {H : Hp} : ∀ l : List Str, DpAll K H (l.map V.str) (l.map PyData.str)
  | [] => .nil
  | x :: l => .cons (.str x) (dpa_strs l)
theorem dds_strs {K : PySem.W.Frag} {H : Hp} : ∀ l : List Str, Dds K H (l.map V.str) (l.map PyData.str)
  | [] => .nil
  | x :: l => .cons (.str x) (dds_strs l)
theorem eqva_strs : ∀ l m : List Str, PyData.eqvAll (l.map .str) (m.map .str) = decide (l = m)
  | [], [] => by
    rw [decide_eq_true rfl]
    simp only [List.map_nil, PyData.eqvAll]
  | [], _ :: _ => by
    rw [decide_eq_false (fun z => by cases z)]
    simp only [List.map_nil, List.map_cons, PyData.eqvAll]
  | _ :: _, [] => by
    rw [decide_eq_false (fun z => by cases z)]
    simp only [List.map_nil, List.map_cons, PyData.eqvAll]
  | x :: l, y :: m => by
    simp only [List.map_cons, PyData.eqvAll, PyData.eqv]
    rw [eqva_strs l m]
    by_cases h : x = y
    · subst h
      by_cases g : l = m
      · subst g; simp
      · rw [decide_eq_false g, Bool.and_false, decide_eq_false (fun z => g (List.cons.inj z).2)]
    · rw [beq_false_of_ne h, Bool.false_and, decide_eq_false (fun z => h (List.cons.inj z).1)]
theorem eqv_tups (l m : List Str) : PyData.eqv (.tuple (l.map .str)) (.tuple (m.map .str)) = decide (l = m) := by rw [PyData.eqv, eqva_strs]
theorem eqv_lists (l m : List Str) : PyData.eqv (.list (l.map .str)) (.list (m.map .str)) = decide (l = m) := by rw [PyData.eqv, eqva_strs]
theorem depth_strs : ∀ l : List Str, PyData.depthAll (l.map .str) = 0
  | [] => by simp only [List.map_nil, PyData.depthAll]
  | x :: l => by simp only [List.map_cons, PyData.depthAll, PyData.depth, depth_strs l, Nat.max_self]
theorem canlay_strs : ∀ l : List Str, (∀ x ∈ l, PyData.strOk x = true) → PyData.canLayAll0 (l.map .str) = true
  | [], _ => by simp only [List.map_nil, PyData.canLayAll0]
  | x :: l, h => by
    simp only [List.map_cons, PyData.canLayAll0, PyData.canLay0]
    rw [h x List.mem_cons_self, canlay_strs l fun y hy => h y (List.mem_cons_of_mem _ hy)]
    rfl
theorem showable_strs : ∀ l : List Str, PyData.showableAll (l.map .str) = true
  | [] => by simp only [List.map_nil, PyData.showableAll]
  | x :: l => by simp only [List.map_cons, PyData.showableAll, PyData.showable, showable_strs l, Bool.and_self]
theorem shaped_tup {l : List Str} (h : ∀ x ∈ l, PyData.strOk x = true) : SeqAt.shaped (.tuple (l.map .str)) = true := by
  unfold SeqAt.shaped
  rw [PyData.canLay0, canlay_strs l h, PyData.depth, depth_strs]
  rfl
theorem shaped_lst {l : List Str} (h : ∀ x ∈ l, PyData.strOk x = true) : SeqAt.shaped (.list (l.map .str)) = true := by
  unfold SeqAt.shaped
  rw [PyData.canLay0, canlay_strs l h, PyData.depth, depth_strs]
  rfl
end L2

namespace K17
open PySem PySem.Spec PyProof.Rows L2
local macro_rules | `(tactic| walk_at "rd1") => `(tactic| first
  | (with_reducible refine Rd.seq ?_) | (with_reducible refine Rd.asg ?_) | (with_reducible refine Rd.ret ?_) | (with_reducible refine Rd.nxt ?_) | (with_reducible refine Rd.ifS ?_)
  | (with_reducible refine Rd.op ?_) | (with_reducible refine Rd.un ?_) | (with_reducible refine Rd.cb ?_) | (with_reducible refine Rd.cons ?_) | (with_reducible refine Rd.nil ?_) | (with_reducible refine Rd.ifx ?_)
  | (with_reducible refine Rd.test ?_) | (with_reducible refine Rd.testB ?_) | (with_reducible refine Rd.notT ?_) | (with_reducible refine Rd.isB ?_) | (with_reducible refine Rd.lst ?_) | (with_reducible refine Rd.tup ?_)
  | (with_reducible refine Rd.andV ?_) | (with_reducible refine Rd.orV ?_) | (with_reducible refine Rd.notV ?_) | (with_reducible refine Rd.andT ?_) | (with_reducible refine Rd.orT ?_) | (with_reducible refine Rd.chain ?_)
  | (with_reducible refine Rd.m0 ?_) | (with_reducible refine Rd.m1 ?_) | (with_reducible refine Rd.bm0 ?_) | (with_reducible refine Rd.bm ?_) | (with_reducible refine Rd.sl ?_) | (with_reducible refine Rd.part ?_) | (with_reducible refine Rd.part0 ?_) | (with_reducible refine Rd.isI ?_)
  | (with_reducible refine Rd.fmt ?_) | (with_reducible refine Rd.fmtRD ?_) | (with_reducible refine Rd.meth ?_) | (with_reducible refine Rd.make ?_) | (with_reducible refine Rd.prop ?_) | (with_reducible refine Rd.js ?_) | (with_reducible refine Rd.js0 ?_) | (with_reducible refine Rd.par ?_) | (with_reducible refine Rd.star ?_) | (with_reducible refine lcR1 ?_) | (with_reducible refine lcR2 ?_) | (with_reducible refine Rd.fld ?_) | (with_reducible refine Rd.sfld ?_) | (with_reducible refine Rd.expr ?_) | (with_reducible refine L2.isNR ?_) | (with_reducible refine L2.methI ?_) | (with_reducible refine Rd.forZ ?_)
  | (with_reducible refine Rd.forEA ?_) | (with_reducible refine Rd.forR1 ?_) | (with_reducible refine Rd.forR2 ?_) | (with_reducible refine Rd.forL ?_) | (with_reducible refine Rd.forT ?_)
  | (with_reducible refine Rd.call ?_) | (with_reducible refine Rd.asgG ?_) | (with_reducible refine Rd.gNm ?_) | (with_reducible refine Rd.gSb ?_) | (with_reducible refine Rd.gC ?_) | (with_reducible refine Rd.gN ?_)
  | ((with_reducible refine' Rd.var ?hv ?_); (case hv => exact rfl)) | (with_reducible refine Rd.c ?_) | (with_reducible refine Rd.i0 ?_) | (with_reducible refine Rd.neg ?_)
  | ((with_reducible refine' Rd.iC ?hc ?_); (case hc => first | (show (0 : Int) < _; decide) | exact ⟨by decide, by decide⟩ | exact ⟨by decide, by decide, by decide⟩ | exact .inl ⟨by decide, by decide⟩ | exact .inr ⟨by decide, by decide⟩ | exact .inl ⟨by omega, by omega⟩ | (show (0 : Int) < _; omega) | exact ⟨by omega, by omega⟩))
  | ((with_reducible refine' Rd.eqS ?hc ?_); (case hc => rfl)) | ((with_reducible refine' Rd.neS ?hc ?_); (case hc => rfl)))
local macro_rules | `(tactic| walk_at "rd") => `(tactic| repeat walk_at "rd1")
abbrev sInitN : Stmt := sMeth iNumber 0
def spNum (K : PySem.W.Frag) (C : Addr) : Sp := fun args H Q _ => ∃ (x dx : Addr) (n : Nat), args = [.ref x, .int (n : Nat)] ∧ H x = some (.ins C dx []) ∧ n ≤ 8 ∧
  ∀ H' g p, But x H H' → H' x = some (.ins C dx (baseFs "Number" g p 1 0 ++ ([("value", .int (n : Nat))] : List (Str × V)))) → SqT K H' g [.int (n : Nat)] → SqT K H' p [] → Q .non H'
def spBetween : Sp := fun vs H Q _ => ∃ v lo hi : Int, vs = [.int v, .int lo, .int hi] ∧ Q (.bl (decide (lo ≤ v) && decide (v ≤ hi))) H
abbrev sBetween : Stmt := topA iis_between
section
variable {P : Program} {w : World} {K : PySem.W.Frag} {mg : Str → Option Value} {base : Heap} {C f fB fI cc : Addr} {fd fdB fdI : FuncData}
theorem scNum : FnScope ["self", "value"] ["self", "value"] (defScope sInitN) := ⟨rfl, rfl, rfl, by decide +kernel, rfl, by decide +kernel, by decide +kernel⟩
theorem ok_num (F : FunD K "__init__" "Number.__init__" (defArgs sInitN) (defBody sInitN) (defScope sInitN) [] [] f fd) (fc : Fc K C) (T : Gf mg)
    (FI : FunD K "__init__" "Formula.__init__" (defArgs sInitF) (defBody sInitF) (defScope sInitF) [] [] fI fdI) {CS : Addr} (gS : mg "Formula" = some (.ref CS)) (cS : CFn K CS "__init__" fI) (GI : FnOk P w K mg base CX0 1 fI fdI ["self", "name", "given", "parts"] (spInitF K))
    (FB : FnP K "is_between" sBetween fB fdB) (GB : FnOk P w K mg base CX0 1 fB fdB ["value", "low", "high"] spBetween) (gB : mg "is_between" = some (.ref fB)) : FnOk P w K mg base CX0 2 f fd ["self", "value"] (spNum K C) := by
  have bI : Binds K fdI ["self", "name", "given", "parts"] [] := FI.bindsN fun _ _ _ _ _ _ us hl => match us, hl with | [_, _, _, _], _ => rfl
  have bB : Binds K fdB ["value", "low", "high"] [] := FB.bindsN fun _ _ _ _ _ _ us hl => match us, hl with | [_, _, _], _ => rfl
  obtain ⟨t3, gG⟩ := T.gn
  refine F.ok scNum (fun vs H Q E h => ?_) (fun cdv A outer s H vs Q E hr h => ?_)
  · obtain ⟨x, dx, n, rfl, _⟩ := h
    rfl
  · obtain ⟨x, dx, n, rfl, hx, hn, q⟩ := h
    refine ⟨_, PSs.nox (pss_cons (ps_if (pt_not (pt_val (pe_call GB hr rfl gB FB.kp bB .nil pass0 (pa_cons (pv 1) (pa_cons pe_int (pa_cons (pe_glob rfl gG (v := .int 8) ⟨_, rfl⟩) pa_nil)))))) (pss_one ps_never) pss_nil)
      (pss_cons (ps_expr (pe_cfn (pe_glob rfl gS (v := .ref CS) rfl) cS GI hr FI.kp bI pass0 (pa_cons (pv 0) (pa_cons pe_str (pa_cons (pe_tup (pa_cons (pv 1) pa_nil)) (pa_cons (pe_tup pa_nil) pa_nil))))))
      (pss_one (ps_fld (pv 0) (pv 1) rfl)))), ?_⟩
    walk_at "rd"
    refine ⟨_, _, _, rfl, ?_⟩
    rw [decide_eq_true (show (0 : Int) ≤ (n : Nat) by omega), decide_eq_true (show ((n : Nat) : Int) ≤ 8 by omega)]
    walk_at "rd"
    refine iteF ?_
    walk_at "rd"
    refine Rd.cfn ?_
    walk_at "rd"
    refine ⟨Rd.small (by show 1 ≤ 100000; decide), fun g n1 => ?_⟩
    have s1 := same_new (o := HO.tup ([V.int (n : Nat)])) n1
    have t1 := upd_same (H := H) (a := g) (o := HO.tup ([V.int (n : Nat)]))
    generalize upd H g (HO.tup ([V.int (n : Nat)])) = H1 at s1 t1 ⊢
    walk_at "rd"
    refine ⟨Rd.small (by show 0 ≤ 100000; decide), fun p n2 => ?_⟩
    have s2 := same_new (o := HO.tup ([])) n2
    have t2 := upd_same (H := H1) (a := p) (o := HO.tup ([]))
    generalize upd H1 p (HO.tup ([])) = H2 at s2 t2 ⊢
    walk_at "rd"
    have x2 := s2 _ _ (s1 _ _ hx)
    refine ⟨x, C, dx, g, p, _, _, [], rfl, x2, fc, SqT.of t2, ⟨rfl, fun i v h => by simp at h⟩, by decide, by decide, fun H3 b3 x3 => ?_⟩
    walk_at "rd"
    refine ⟨x, C, dx, _, rfl, x3, fc.cl, fc.no "value", (by show 6 < 1000; decide), ?_⟩
    have x4 := upd_same (H := H3) (a := x) (o := HO.ins C dx (putF "value" (.int (n : Nat)) (baseFs "Number" g p 1 0)))
    have b4 := But.set (p := x) (H := H3) (o := HO.ins C dx (putF "value" (.int (n : Nat)) (baseFs "Number" g p 1 0)))
    have eF : fmN [] = 1 ∧ fmD [] = 0 := ⟨rfl, rfl⟩
    rw [eF.1, eF.2]
    generalize upd H3 x (HO.ins C dx (putF "value" (.int (n : Nat)) (baseFs "Number" g p 1 0))) = H4 at x4 b4 ⊢
    have ne : ∀ {o : HO} {b : Addr}, H2 b = some o → (∀ C dx fs, o ≠ .ins C dx fs) → b ≠ x := fun e n z => by
      rw [z, x2] at e
      cases e
      exact n _ _ _ rfl
    have g2 := s2 _ _ t1
    have g4 := b4 _ _ (ne g2 fun _ _ _ z => by cases z) (b3 _ _ (ne g2 fun _ _ _ z => by cases z) g2)
    have p4 := b4 _ _ (ne t2 fun _ _ _ z => by cases z) (b3 _ _ (ne t2 fun _ _ _ z => by cases z) t2)
    exact q H4 g p (fun b o hb e => b4 b o hb (b3 b o hb (s2 _ _ (s1 _ _ e)))) x4 (SqT.of g4) (SqT.of p4)
end
end K17

namespace K17
open PySem PySem.Spec PyProof.Rows L2
/-! ### formulas as data -/
inductive Fm where
  | num (n : Nat)
  | ref (w : Nat) (c : Str)
  | pair (o : Nat) (l r : Fm)
  | cho (t : Fm) (s : List Nat) (a b : Fm)
/-- how many nodes, how deep -/
def Fm.q : Fm → Nat × Nat
  | .num _ => (fmN [], fmD [])
  | .ref _ _ => (fmN [], fmD [])
  | .pair _ l r => (fmN [l.q, r.q], fmD [l.q, r.q])
  | .cho t _ a b => (fmN [t.q, a.q, b.q], fmD [t.q, a.q, b.q])
def refName : Nat → Str
  | 0 => "Here"
  | 1 => "Up"
  | _ => "Down"
def refWhere : Nat → Str
  | 0 => "here"
  | 1 => "up"
  | _ => "down"
def pairName : Nat → Str
  | 0 => "Plus"
  | 1 => "Least"
  | 2 => "Most"
  | _ => "Same"
/-- where the classes are -/
structure Cs where
  num : Addr
  ref : Nat → Addr
  pair : Nat → Addr
  cho : Addr
/-- what every formula has: its name, given values, parts, number of nodes, depth; the nodes in their sequence, once asked -/
structure Bs (H : Hp) (fs : List (Str × V)) (name : Str) (g p : Addr) (q : Nat × Nat) (l : List V) : Prop where
  nm : fs.lookup ("_called" : Str) = some (.str name)
  gv : fs.lookup ("_given" : Str) = some (.ref g)
  pt : fs.lookup ("_parts" : Str) = some (.ref p)
  mn : fs.lookup ("_many" : Str) = some (.int (q.1 : Nat))
  dp : fs.lookup ("depth" : Str) = some (.int (q.2 : Nat))
  sq : ∃ z, fs.lookup ("_sequence" : Str) = some z ∧ (z = .non ∨ ∃ b, z = .ref b ∧ H b = some (.lst l))
  few : fs.length < 900
  ks : (fs.all fun p => fldNames.contains p.1) = true
def natV (n : Nat) : V := .int (n : Nat)
/-- at v stands the formula f; its nodes are l -/
def FmAt (K : PySem.W.Frag) (c : Cs) (H : Hp) : Fm → V → List V → Prop
  | .num n, v, l => l = [v] ∧ n ≤ 8 ∧ ∃ a dx fs g p, v = .ref a ∧ H a = some (.ins c.num dx fs) ∧ Bs H fs "Number" g p (Fm.num n).q l ∧ SqT K H g [natV n] ∧ SqT K H p [] ∧ fs.lookup ("value" : Str) = some (natV n)
  | .ref w x, v, l => l = [v] ∧ ∃ a dx fs g p, v = .ref a ∧ H a = some (.ins (c.ref w) dx fs) ∧ Bs H fs (refName w) g p (Fm.ref w x).q l ∧ SqT K H g [.str x] ∧ SqT K H p [] ∧ fs.lookup ("where" : Str) = some (.str (refWhere w)) ∧ fs.lookup ("column" : Str) = some (.str x)
  | .pair o f1 f2, v, l => ∃ v1 l1 v2 l2, l = v :: (l1 ++ l2) ∧ FmAt K c H f1 v1 l1 ∧ FmAt K c H f2 v2 l2 ∧ ∃ a dx fs g p, v = .ref a ∧ H a = some (.ins (c.pair o) dx fs) ∧ Bs H fs (pairName o) g p (Fm.pair o f1 f2).q l ∧ SqT K H g [v1, v2] ∧ SqT K H p [v1, v2] ∧
      fs.lookup ("left" : Str) = some v1 ∧ fs.lookup ("right" : Str) = some v2
  | .cho f1 s f2 f3, v, l => ∃ v1 l1 v2 l2 v3 l3, l = v :: (l1 ++ (l2 ++ l3)) ∧ FmAt K c H f1 v1 l1 ∧ FmAt K c H f2 v2 l2 ∧ FmAt K c H f3 v3 l3 ∧ ∃ a dx fs g p t, v = .ref a ∧ H a = some (.ins c.cho dx fs) ∧ Bs H fs "Choice" g p (Fm.cho f1 s f2 f3).q l ∧
      SqT K H g [v1, .ref t, v2, v3] ∧ SqT K H p [v1, v2, v3] ∧ SqT K H t (s.map natV) ∧ fs.lookup ("test" : Str) = some v1 ∧ fs.lookup ("chosen" : Str) = some (.ref t) ∧ fs.lookup ("then" : Str) = some v2 ∧ fs.lookup ("other" : Str) = some v3
/-! ### what may change without a formula's change: an object that has no attributes yet, a pot -/
def Bad : HO → Prop
  | .ins _ _ fs => fs = []
  | .lst l => ∃ x y : Int, l = [.int x, .int y]
  | _ => False
def Kp (H H' : Hp) : Prop := ∀ b o, H b = some o → ¬ Bad o → H' b = some o
theorem Kp.refl {H : Hp} : Kp H H := fun _ _ e _ => e
theorem Kp.trans {H H1 H2 : Hp} (a : Kp H H1) (b : Kp H1 H2) : Kp H H2 := fun c o e n => b c o (a c o e n) n
theorem kp_same {H H' : Hp} (s : Same H H') : Kp H H' := fun b o e _ => s b o e
theorem kp_new {H H' : Hp} {x C dx : Addr} (h : H x = some (.ins C dx [])) (b : But x H H') : Kp H H' := fun c o e n => b c o (fun z => by
  rw [z, h] at e
  cases e
  exact n rfl) e
theorem kp_pot {H H' : Hp} {p : Addr} (h : PotAt H p) (b : But p H H') : Kp H H' := fun c o e n => b c o (fun z => by
  obtain ⟨x, y, h, _⟩ := h
  rw [z, h] at e
  cases e
  exact n ⟨x, y, rfl⟩) e
theorem sqt_kp {K : PySem.W.Frag} {H H' : Hp} {a : Addr} {l : List V} (k : Kp H H') (h : SqT K H a l) : SqT K H' a l := by
  rcases h with (h | ⟨o, h⟩) | h
  · exact .inl (.inl (k _ _ h id))
  · exact .inl (.inr ⟨o, k _ _ h id⟩)
  · exact .inr h
theorem Bs.kp {H H' : Hp} {fs : List (Str × V)} {name : Str} {g p a : Addr} {q : Nat × Nat} {r : List V} (k : Kp H H') (h : Bs H fs name g p q (.ref a :: r)) : Bs H' fs name g p q (.ref a :: r) := by
  refine ⟨h.nm, h.gv, h.pt, h.mn, h.dp, ?_, h.few, h.ks⟩
  obtain ⟨z, e, w⟩ := h.sq
  refine ⟨z, e, w.imp id fun ⟨b, e, w⟩ => ⟨b, e, k _ _ w ?_⟩⟩
  rintro ⟨x, y, e⟩
  cases e
theorem Bs.ne {H : Hp} {fs : List (Str × V)} {name : Str} {g p : Addr} {q : Nat × Nat} {l : List V} {C dx : Addr} (h : Bs H fs name g p q l) : ¬ Bad (.ins C dx fs) := fun e => by
  have e : fs = [] := e
  have := h.nm
  rw [e] at this
  cases this
theorem lookup_none {m : Str} (hm : fldNames.contains m = false) : ∀ {fs : List (Str × V)}, (fs.all fun p => fldNames.contains p.1) = true → fs.lookup m = none
  | [], _ => rfl
  | (g, x) :: r, h => by
    rw [List.all_cons, Bool.and_eq_true] at h
    obtain ⟨h1, h2⟩ := h
    have ne : (m == g) = false := beq_eq_false_iff_ne.mpr fun e => by
      rw [e] at hm
      rw [hm] at h1
      cases h1
    show (match m == g with | true => some x | false => r.lookup m) = none
    rw [ne]
    exact lookup_none hm h2
theorem Bs.meth {H : Hp} {fs : List (Str × V)} {name : Str} {g p : Addr} {q : Nat × Nat} {l : List V} (h : Bs H fs name g p q l) (m : Str) (hm : fldNames.contains m = false := by decide +kernel) : fs.lookup m = none := lookup_none hm h.ks
theorem FmAt.kp {K : PySem.W.Frag} {c : Cs} {H H' : Hp} (k : Kp H H') : ∀ {f : Fm} {v : V} {l : List V}, FmAt K c H f v l → FmAt K c H' f v l
  | .num n, v, l, h => by
    obtain ⟨rfl, hn, a, dx, fs, g, p, rfl, h1, h2, h3, h4, h5⟩ := h
    exact ⟨rfl, hn, a, dx, fs, g, p, rfl, k _ _ h1 h2.ne, h2.kp k, sqt_kp k h3, sqt_kp k h4, h5⟩
  | .ref w x, v, l, h => by
    obtain ⟨rfl, a, dx, fs, g, p, rfl, h1, h2, h3, h4, h5⟩ := h
    exact ⟨rfl, a, dx, fs, g, p, rfl, k _ _ h1 h2.ne, h2.kp k, sqt_kp k h3, sqt_kp k h4, h5⟩
  | .pair o f1 f2, v, l, h => by
    obtain ⟨v1, l1, v2, l2, rfl, t1, t2, a, dx, fs, g, p, rfl, h1, h2, h3, h4, h5⟩ := h
    exact ⟨v1, l1, v2, l2, rfl, FmAt.kp k t1, FmAt.kp k t2, a, dx, fs, g, p, rfl, k _ _ h1 h2.ne, h2.kp k, sqt_kp k h3, sqt_kp k h4, h5⟩
  | .cho f1 s f2 f3, v, l, h => by
    obtain ⟨v1, l1, v2, l2, v3, l3, rfl, t1, t2, t3, a, dx, fs, g, p, t, rfl, h1, h2, h3, h4, h5, h6⟩ := h
    exact ⟨v1, l1, v2, l2, v3, l3, rfl, FmAt.kp k t1, FmAt.kp k t2, FmAt.kp k t3, a, dx, fs, g, p, t, rfl, k _ _ h1 h2.ne, h2.kp k, sqt_kp k h3, sqt_kp k h4, sqt_kp k h5, h6⟩
/-- what is known of the classes -/
structure Cl (K : PySem.W.Frag) (c : Cs) : Prop where
  num : Fc K c.num
  ref : ∀ w, Fc K (c.ref w)
  pair : ∀ o, Fc K (c.pair o)
  cho : Fc K c.cho
def clsOf (c : Cs) : Fm → Addr
  | .num _ => c.num
  | .ref w _ => c.ref w
  | .pair o _ _ => c.pair o
  | .cho .. => c.cho
def nameOf : Fm → Str
  | .num _ => "Number"
  | .ref w _ => refName w
  | .pair o _ _ => pairName o
  | .cho .. => "Choice"
theorem Cl.at_ {K : PySem.W.Frag} {c : Cs} (T : Cl K c) (f : Fm) : Fc K (clsOf c f) := by
  cases f
  · exact T.num
  · exact T.ref _
  · exact T.pair _
  · exact T.cho
/-- what all have -/
theorem FmAt.obj {K : PySem.W.Frag} {c : Cs} {H : Hp} {f : Fm} {v : V} {l : List V} (h : FmAt K c H f v l) : ∃ a dx fs g p r, v = .ref a ∧ l = v :: r ∧ H a = some (.ins (clsOf c f) dx fs) ∧ Bs H fs (nameOf f) g p f.q l := by
  cases f with
  | num n =>
    obtain ⟨rfl, hn, a, dx, fs, g, p, rfl, h1, h2, _⟩ := h
    exact ⟨a, dx, fs, g, p, _, rfl, rfl, h1, h2⟩
  | ref w x =>
    obtain ⟨rfl, a, dx, fs, g, p, rfl, h1, h2, _⟩ := h
    exact ⟨a, dx, fs, g, p, _, rfl, rfl, h1, h2⟩
  | pair o f1 f2 =>
    obtain ⟨v1, l1, v2, l2, rfl, t1, t2, a, dx, fs, g, p, rfl, h1, h2, _⟩ := h
    exact ⟨a, dx, fs, g, p, _, rfl, rfl, h1, h2⟩
  | cho f1 s f2 f3 =>
    obtain ⟨v1, l1, v2, l2, v3, l3, rfl, t1, t2, t3, a, dx, fs, g, p, t, rfl, h1, h2, _⟩ := h
    exact ⟨a, dx, fs, g, p, _, rfl, rfl, h1, h2⟩
/-- its nodes have not been asked for -/
def SqNon (H : Hp) (v : V) : Prop := ∃ x C dx fs, v = .ref x ∧ H x = some (.ins C dx fs) ∧ fs.lookup ("_sequence" : Str) = some .non
theorem FmAt.part {K : PySem.W.Frag} {c : Cs} {H : Hp} {f : Fm} {v : V} {l : List V} (T : Cl K c) (h : FmAt K c H f v l) : PartAt K H v f.q := by
  obtain ⟨a, dx, fs, g, p, r, rfl, _, h1, h2⟩ := h.obj
  exact ⟨a, _, dx, fs, rfl, h1, T.at_ f, h2.mn, h2.dp⟩
end K17

namespace K17
open PySem PySem.Spec PyProof.Rows L2
local macro_rules | `(tactic| walk_at "rd1") => `(tactic| first
  | (with_reducible refine Rd.seq ?_) | (with_reducible refine Rd.asg ?_) | (with_reducible refine Rd.ret ?_) | (with_reducible refine Rd.nxt ?_) | (with_reducible refine Rd.ifS ?_)
  | (with_reducible refine Rd.op ?_) | (with_reducible refine Rd.un ?_) | (with_reducible refine Rd.cb ?_) | (with_reducible refine Rd.cons ?_) | (with_reducible refine Rd.nil ?_) | (with_reducible refine Rd.ifx ?_)
  | (with_reducible refine Rd.test ?_) | (with_reducible refine Rd.testB ?_) | (with_reducible refine Rd.notT ?_) | (with_reducible refine Rd.isB ?_) | (with_reducible refine Rd.lst ?_) | (with_reducible refine Rd.tup ?_)
  | (with_reducible refine Rd.andV ?_) | (with_reducible refine Rd.orV ?_) | (with_reducible refine Rd.notV ?_) | (with_reducible refine Rd.andT ?_) | (with_reducible refine Rd.orT ?_) | (with_reducible refine Rd.chain ?_)
  | (with_reducible refine Rd.m0 ?_) | (with_reducible refine Rd.m1 ?_) | (with_reducible refine Rd.bm0 ?_) | (with_reducible refine Rd.bm ?_) | (with_reducible refine Rd.sl ?_) | (with_reducible refine Rd.part ?_) | (with_reducible refine Rd.part0 ?_) | (with_reducible refine Rd.isI ?_)
  | (with_reducible refine Rd.fmt ?_) | (with_reducible refine Rd.fmtRD ?_) | (with_reducible refine Rd.meth ?_) | (with_reducible refine Rd.make ?_) | (with_reducible refine Rd.prop ?_) | (with_reducible refine Rd.js ?_) | (with_reducible refine Rd.js0 ?_) | (with_reducible refine Rd.par ?_) | (with_reducible refine Rd.star ?_) | (with_reducible refine lcR1 ?_) | (with_reducible refine lcR2 ?_) | (with_reducible refine Rd.fld ?_) | (with_reducible refine Rd.sfld ?_) | (with_reducible refine Rd.expr ?_) | (with_reducible refine L2.isNR ?_) | (with_reducible refine L2.methI ?_) | (with_reducible refine Rd.forZ ?_)
  | (with_reducible refine Rd.forEA ?_) | (with_reducible refine Rd.forR1 ?_) | (with_reducible refine Rd.forR2 ?_) | (with_reducible refine Rd.forL ?_) | (with_reducible refine Rd.forT ?_)
  | (with_reducible refine Rd.call ?_) | (with_reducible refine Rd.asgG ?_) | (with_reducible refine Rd.gNm ?_) | (with_reducible refine Rd.gSb ?_) | (with_reducible refine Rd.gC ?_) | (with_reducible refine Rd.gN ?_)
  | ((with_reducible refine' Rd.var ?hv ?_); (case hv => exact rfl)) | (with_reducible refine Rd.c ?_) | (with_reducible refine Rd.i0 ?_) | (with_reducible refine Rd.neg ?_)
  | ((with_reducible refine' Rd.iC ?hc ?_); (case hc => first | (show (0 : Int) < _; decide) | exact ⟨by decide, by decide⟩ | exact ⟨by decide, by decide, by decide⟩ | exact .inl ⟨by decide, by decide⟩ | exact .inr ⟨by decide, by decide⟩ | exact .inl ⟨by omega, by omega⟩ | (show (0 : Int) < _; omega) | exact ⟨by omega, by omega⟩))
  | ((with_reducible refine' Rd.eqS ?hc ?_); (case hc => rfl)) | ((with_reducible refine' Rd.neS ?hc ?_); (case hc => rfl)))
local macro_rules | `(tactic| walk_at "rd") => `(tactic| repeat walk_at "rd1")
/-! ### names and numbers -/
structure Nam (x : Str) : Prop where
  few : x.length ≤ 8
  res : x ∉ reserved
  asc : Txt.isascii x = true
  alp : Txt.isalpha x = true
  low : Txt.islower x = true
  sok : PyData.strOk x = true
  rep : (PyData.str x).shown.length ≤ 20
  rok : PyData.strOk (PyData.str x).shown = true
def spIsName : Sp := fun vs H Q _ => ∃ x : Str, vs = [.str x] ∧ Nam x ∧ Q (.bl true) H
/-- what the text's top has written of names -/
structure Gs (K : PySem.W.Frag) (w : World) (mg : Str → Option Value) : Prop where
  rs : ∃ r, mg "RESERVED" = some (.ref r) ∧ (∃ es n, KDict K w r es n) ∧ ∀ x, x ∉ reserved → PySem.W.nsIn K r x = some none
  ln : ∃ t, mg "LONGEST_NAME" = some (.int 8 t)
abbrev sIsName : Stmt := topA iis_name
section
variable {P : Program} {w : World} {K : PySem.W.Frag} {mg : Str → Option Value} {base : Heap} {f fP fD : Addr} {fd fdP fdD : FuncData}
theorem scBetween : FnScope ["value", "low", "high"] ["value", "low", "high"] (defScope sBetween) := ⟨rfl, rfl, rfl, by decide +kernel, rfl, by decide +kernel, by decide +kernel⟩
theorem ok_between (F : FnP K "is_between" sBetween f fd) (gIs : mg "isinstance" = none) (gInt : mg "int" = none) (gBool : mg "bool" = none) : FnOk P w K mg base CX0 1 f fd ["value", "low", "high"] spBetween := by
  refine F.ok scBetween (fun vs H Q E h => ?_) (fun cdv A outer s H vs Q E hr h => ?_)
  · obtain ⟨v, lo, hi, rfl, _⟩ := h
    rfl
  · obtain ⟨v, lo, hi, rfl, q⟩ := h
    refine ⟨_, PSs.nox (pss_one (ps_ret (pe_and (pe_callB call_isi rfl gIs (by decide +kernel) (pa_cons (pv 0) (pa_cons (pe_bltn rfl gInt (by decide +kernel) (v := .ty "int") rfl) pa_nil)))
      (pe_and (pe_not (pe_callB call_isi rfl gIs (by decide +kernel) (pa_cons (pv 0) (pa_cons (pe_bltn rfl gBool (by decide +kernel) (v := .ty "bool") rfl) pa_nil)))) (pe_one (pe_chain op_le op_le (pv 1) (pv 0) (pv 2))))))), ?_⟩
    walk_at "rd"
    refine Rd.isi (k := true) (.base (.int _)) (by decide +kernel) ?_
    refine Rd.isT rfl ?_
    walk_at "rd"
    refine Rd.isi (k := false) (.base (.int _)) (by decide +kernel) ?_
    refine ⟨_, rfl, ?_⟩
    refine Rd.isT rfl ?_
    walk_at "rd"
    refine Rd.ifB (fun h => ?_) (fun h => ?_)
    · walk_at "rd"
      rw [h, Bool.true_and] at q
      exact q
    · rw [h, Bool.false_and] at q
      exact q
theorem scIsName : FnScope ["value"] ["value"] (defScope sIsName) := ⟨rfl, rfl, rfl, by decide +kernel, rfl, by decide +kernel, by decide +kernel⟩
theorem ok_isName (F : FnP K "is_name" sIsName f fd) (R : Gs K w mg) (gIs : mg "isinstance" = none) (gStr : mg "str" = none) (gLen : mg "len" = none) : FnOk P w K mg base CX0 1 f fd ["value"] spIsName := by
  obtain ⟨r, gR, ⟨es, en, D⟩, hR⟩ := R.rs
  obtain ⟨tl, gL⟩ := R.ln
  refine F.ok scIsName (fun vs H Q E h => ?_) (fun cdv A outer s H vs Q E hr h => ?_)
  · obtain ⟨x, rfl, _⟩ := h
    rfl
  · obtain ⟨x, rfl, hx, q⟩ := h
    obtain ⟨m1, m2, m3, m4, m5, _⟩ := hx
    refine ⟨_, PSs.nox (pss_cons (ps_if (PW.pt (pw_or (pt_not (pt_val (pe_callB call_isi rfl gIs (by decide +kernel) (pa_cons (pv 0) (pa_cons (pe_bltn rfl gStr (by decide +kernel) (v := .ty "str") rfl) pa_nil)))))
        (pw_or (pt_cmpR op_gt (pe_callB call_len_str rfl gLen (by decide +kernel) (pa_cons (pv 0) pa_nil)) (pe_glob rfl gL (v := .int 8) ⟨_, rfl⟩) (nomark _)) (pw_or1 (pt_cmpR (op_in_kd D) (pv 0) (pe_glob rfl gR (v := .ref r) rfl) rfl)))))
        (pss_one (ps_ret pe_bl)) pss_nil)
      (pss_one (ps_ret (pe_and (pe_m0 PySem.F.slot_str_isalpha PySem.F.type_str_isalpha mt_isalpha (pv 0)) (pe_and (pe_m0 PySem.F.slot_str_islower PySem.F.type_str_islower mt_islower (pv 0)) (pe_one (pe_m0 PySem.F.slot_str_isascii PySem.F.type_str_isascii mt_isascii (pv 0)))))))), ?_⟩
    walk_at "rd"
    refine Rd.isi (k := true) (.base (.str _)) (by decide +kernel) ?_
    walk_at "rd"
    refine iteF ?_
    walk_at "rd"
    refine ⟨x, rfl, Nat.le_trans m1 (by decide), ?_⟩
    walk_at "rd"
    refine Rd.ifB (fun z => ?_) (fun _ => ?_)
    · have := of_decide_eq_true z
      omega
    walk_at "rd"
    refine ⟨x, _, rfl, rfl, hR x m2, ?_⟩
    refine ⟨_, rfl, ?_⟩
    refine iteF ?_
    walk_at "rd"
    refine ⟨⟨_, rfl⟩, x, rfl, rfl, trivial, ?_⟩
    refine Rd.isT m4 ?_
    walk_at "rd"
    refine ⟨⟨_, rfl⟩, x, rfl, rfl, trivial, ?_⟩
    refine Rd.isT m5 ?_
    walk_at "rd"
    refine ⟨⟨_, rfl⟩, x, rfl, rfl, trivial, ?_⟩
    rw [m3]
    exact q
end
/-! ### references -/
def spRef (K : PySem.W.Frag) (c : Cs) : Sp := fun args H Q _ => ∃ (x dx : Addr) (w : Nat) (col : Str), args = [.ref x, .str (refName w), .str (refWhere w), .str col] ∧ H x = some (.ins (c.ref w) dx []) ∧ Nam col ∧
  ∀ H', But x H H' → FmAt K c H' (.ref w col) (.ref x) [.ref x] → SqNon H' (.ref x) → Q .non H'
def spRefW (K : PySem.W.Frag) (c : Cs) (w : Nat) : Sp := fun args H Q _ => ∃ (x dx : Addr) (col : Str), args = [.ref x, .str col] ∧ H x = some (.ins (c.ref w) dx []) ∧ Nam col ∧ ∀ H', But x H H' → FmAt K c H' (.ref w col) (.ref x) [.ref x] → SqNon H' (.ref x) → Q .non H'
abbrev sInitR : Stmt := sMeth iReference 0
section
variable {P : Program} {w : World} {K : PySem.W.Frag} {mg : Str → Option Value} {base : Heap} {c : Cs} {D C f fB fI cc : Addr} {fd fdB fdI : FuncData}
theorem scRef : FnScope ["self", "name", "where", "column"] ["self", "name", "where", "column"] (defScope sInitR) := ⟨rfl, rfl, rfl, by decide +kernel, rfl, by decide +kernel, by decide +kernel⟩
theorem ok_ref (F : FunD K "__init__" "Reference.__init__" (defArgs sInitR) (defBody sInitR) (defScope sInitR) [] [] f fd) (T : Cl K c)
    (FI : FunD K "__init__" "Formula.__init__" (defArgs sInitF) (defBody sInitF) (defScope sInitF) [] [] fI fdI) {CS : Addr} (gS : mg "Formula" = some (.ref CS)) (cS : CFn K CS "__init__" fI) (GI : FnOk P w K mg base CX0 1 fI fdI ["self", "name", "given", "parts"] (spInitF K))
    (FB : FnP K "is_name" sIsName fB fdB) (GB : FnOk P w K mg base CX0 1 fB fdB ["value"] spIsName) (gB : mg "is_name" = some (.ref fB)) : FnOk P w K mg base CX0 2 f fd ["self", "name", "where", "column"] (spRef K c) := by
  have bI : Binds K fdI ["self", "name", "given", "parts"] [] := FI.bindsN fun _ _ _ _ _ _ us hl => match us, hl with | [_, _, _, _], _ => rfl
  have bB : Binds K fdB ["value"] [] := FB.bindsN fun _ _ _ _ _ _ us hl => match us, hl with | [_], _ => rfl
  refine F.ok scRef (fun vs H Q E h => ?_) (fun cdv A outer s H vs Q E hr h => ?_)
  · obtain ⟨x, dx, w, n, rfl, _⟩ := h
    rfl
  · obtain ⟨x, dx, wh, n, rfl, hx, hn, q⟩ := h
    have fc := T.ref wh
    refine ⟨_, PSs.nox (pss_cons (ps_if (pt_not (pt_val (pe_call GB hr rfl gB FB.kp bB .nil pass0 (pa_cons (pv 3) pa_nil)))) (pss_one ps_never) pss_nil)
      (pss_cons (ps_expr (pe_cfn (pe_glob rfl gS (v := .ref CS) rfl) cS GI hr FI.kp bI pass0 (pa_cons (pv 0) (pa_cons (pv 1) (pa_cons (pe_tup (pa_cons (pv 3) pa_nil)) (pa_cons (pe_tup pa_nil) pa_nil))))))
      (pss_cons (ps_fld (pv 0) (pv 2) rfl) (pss_one (ps_fld (pv 0) (pv 3) rfl))))), ?_⟩
    walk_at "rd"
    refine ⟨n, rfl, hn, ?_⟩
    walk_at "rd"
    refine iteF ?_
    walk_at "rd"
    refine Rd.cfn ?_
    walk_at "rd"
    refine ⟨Rd.small (by show 1 ≤ 100000; decide), fun g n1 => ?_⟩
    have s1 := same_new (o := HO.tup ([V.str n])) n1
    have t1 := upd_same (H := H) (a := g) (o := HO.tup ([V.str n]))
    generalize upd H g (HO.tup ([V.str n])) = H1 at s1 t1 ⊢
    walk_at "rd"
    refine ⟨Rd.small (by show 0 ≤ 100000; decide), fun p n2 => ?_⟩
    have s2 := same_new (o := HO.tup ([])) n2
    have t2 := upd_same (H := H1) (a := p) (o := HO.tup ([]))
    generalize upd H1 p (HO.tup ([])) = H2 at s2 t2 ⊢
    walk_at "rd"
    have x2 := s2 _ _ (s1 _ _ hx)
    refine ⟨x, _, dx, g, p, _, _, [], rfl, x2, fc, SqT.of t2, ⟨rfl, fun i v h => by simp at h⟩, by decide, by decide, fun H3 b3 x3 => ?_⟩
    have eF : fmN [] = 1 ∧ fmD [] = 0 := ⟨rfl, rfl⟩
    rw [eF.1, eF.2] at x3
    walk_at "rd"
    refine ⟨x, _, dx, _, rfl, x3, fc.cl, fc.no "where", (by show 6 < 1000; decide), ?_⟩
    have x4 := upd_same (H := H3) (a := x) (o := HO.ins (c.ref wh) dx (putF "where" (.str (refWhere wh)) (baseFs (refName wh) g p 1 0)))
    have b4 := But.set (p := x) (H := H3) (o := HO.ins (c.ref wh) dx (putF "where" (.str (refWhere wh)) (baseFs (refName wh) g p 1 0)))
    generalize upd H3 x (HO.ins (c.ref wh) dx (putF "where" (.str (refWhere wh)) (baseFs (refName wh) g p 1 0))) = H4 at x4 b4 ⊢
    walk_at "rd"
    refine ⟨x, _, dx, _, rfl, x4, fc.cl, fc.no "column", (by show 7 < 1000; decide), ?_⟩
    have x5 := upd_same (H := H4) (a := x) (o := HO.ins (c.ref wh) dx (putF "column" (.str n) (putF "where" (.str (refWhere wh)) (baseFs (refName wh) g p 1 0))))
    have b5 := But.set (p := x) (H := H4) (o := HO.ins (c.ref wh) dx (putF "column" (.str n) (putF "where" (.str (refWhere wh)) (baseFs (refName wh) g p 1 0))))
    generalize upd H4 x (HO.ins (c.ref wh) dx (putF "column" (.str n) (putF "where" (.str (refWhere wh)) (baseFs (refName wh) g p 1 0)))) = H5 at x5 b5 ⊢
    walk_at "rd"
    have b := b3.trans (b4.trans b5)
    have ne : ∀ {o : HO} {b : Addr}, H2 b = some o → (∀ C dx fs, o ≠ .ins C dx fs) → b ≠ x := fun e n z => by
      rw [z, x2] at e
      cases e
      exact n _ _ _ rfl
    have g2 := s2 _ _ t1
    have g5 := b _ _ (ne g2 fun _ _ _ z => by cases z) g2
    have p5 := b _ _ (ne t2 fun _ _ _ z => by cases z) t2
    exact q H5 (fun d o hb e => b d o hb (s2 _ _ (s1 _ _ e))) ⟨rfl, x, dx, _, g, p, rfl, x5, ⟨rfl, rfl, rfl, rfl, rfl, ⟨_, rfl, .inl rfl⟩, (by show 8 < 900; decide), rfl⟩, SqT.of g5, SqT.of p5, rfl, rfl⟩ ⟨_, _, _, _, rfl, x5, rfl⟩
abbrev sInitHere : Stmt := sMeth iHere 0
theorem scHere : FnScope ["self", "column"] ["self", "column"] (defScope sInitHere) := ⟨rfl, rfl, rfl, by decide +kernel, rfl, by decide +kernel, by decide +kernel⟩
theorem ok_here (F : FunD K "__init__" "Here.__init__" (defArgs sInitHere) (defBody sInitHere) (defScope sInitHere) [] [] f fd)
    (FI : FunD K "__init__" "Reference.__init__" (defArgs sInitR) (defBody sInitR) (defScope sInitR) [] [] fI fdI) {CS : Addr} (gS : mg "Reference" = some (.ref CS)) (cS : CFn K CS "__init__" fI) (GI : FnOk P w K mg base CX0 2 fI fdI ["self", "name", "where", "column"] (spRef K c)) : FnOk P w K mg base CX0 3 f fd ["self", "column"] (spRefW K c 0) := by
  have bI : Binds K fdI ["self", "name", "where", "column"] [] := FI.bindsN fun _ _ _ _ _ _ us hl => match us, hl with | [_, _, _, _], _ => rfl
  refine F.ok scHere (fun vs H Q E h => ?_) (fun cdv A outer s H vs Q E hr h => ?_)
  · obtain ⟨x, dx, n, rfl, _⟩ := h
    rfl
  · obtain ⟨x, dx, n, rfl, hx, hn, q⟩ := h
    refine ⟨_, PSs.nox (pss_cons (ps_expr (pe_cfn (pe_glob rfl gS (v := .ref CS) rfl) cS GI hr FI.kp bI pass0 (pa_cons (pv 0) (pa_cons pe_str (pa_cons pe_str (pa_cons (pv 1) pa_nil)))))) pss_nil), ?_⟩
    refine Rd.cfn ?_
    walk_at "rd"
    refine ⟨x, dx, 0, n, rfl, hx, hn, fun H1 b1 h1 => ?_⟩
    walk_at "rd"
    exact q H1 b1 h1
abbrev sInitUp : Stmt := sMeth iUp 0
theorem scUp : FnScope ["self", "column"] ["self", "column"] (defScope sInitUp) := ⟨rfl, rfl, rfl, by decide +kernel, rfl, by decide +kernel, by decide +kernel⟩
theorem ok_up (F : FunD K "__init__" "Up.__init__" (defArgs sInitUp) (defBody sInitUp) (defScope sInitUp) [] [] f fd)
    (FI : FunD K "__init__" "Reference.__init__" (defArgs sInitR) (defBody sInitR) (defScope sInitR) [] [] fI fdI) {CS : Addr} (gS : mg "Reference" = some (.ref CS)) (cS : CFn K CS "__init__" fI) (GI : FnOk P w K mg base CX0 2 fI fdI ["self", "name", "where", "column"] (spRef K c)) : FnOk P w K mg base CX0 3 f fd ["self", "column"] (spRefW K c 1) := by
  have bI : Binds K fdI ["self", "name", "where", "column"] [] := FI.bindsN fun _ _ _ _ _ _ us hl => match us, hl with | [_, _, _, _], _ => rfl
  refine F.ok scUp (fun vs H Q E h => ?_) (fun cdv A outer s H vs Q E hr h => ?_)
  · obtain ⟨x, dx, n, rfl, _⟩ := h
    rfl
  · obtain ⟨x, dx, n, rfl, hx, hn, q⟩ := h
    refine ⟨_, PSs.nox (pss_cons (ps_expr (pe_cfn (pe_glob rfl gS (v := .ref CS) rfl) cS GI hr FI.kp bI pass0 (pa_cons (pv 0) (pa_cons pe_str (pa_cons pe_str (pa_cons (pv 1) pa_nil)))))) pss_nil), ?_⟩
    refine Rd.cfn ?_
    walk_at "rd"
    refine ⟨x, dx, 1, n, rfl, hx, hn, fun H1 b1 h1 => ?_⟩
    walk_at "rd"
    exact q H1 b1 h1
abbrev sInitDown : Stmt := sMeth iDown 0
theorem scDown : FnScope ["self", "column"] ["self", "column"] (defScope sInitDown) := ⟨rfl, rfl, rfl, by decide +kernel, rfl, by decide +kernel, by decide +kernel⟩
theorem ok_down (F : FunD K "__init__" "Down.__init__" (defArgs sInitDown) (defBody sInitDown) (defScope sInitDown) [] [] f fd)
    (FI : FunD K "__init__" "Reference.__init__" (defArgs sInitR) (defBody sInitR) (defScope sInitR) [] [] fI fdI) {CS : Addr} (gS : mg "Reference" = some (.ref CS)) (cS : CFn K CS "__init__" fI) (GI : FnOk P w K mg base CX0 2 fI fdI ["self", "name", "where", "column"] (spRef K c)) : FnOk P w K mg base CX0 3 f fd ["self", "column"] (spRefW K c 2) := by
  have bI : Binds K fdI ["self", "name", "where", "column"] [] := FI.bindsN fun _ _ _ _ _ _ us hl => match us, hl with | [_, _, _, _], _ => rfl
  refine F.ok scDown (fun vs H Q E h => ?_) (fun cdv A outer s H vs Q E hr h => ?_)
  · obtain ⟨x, dx, n, rfl, _⟩ := h
    rfl
  · obtain ⟨x, dx, n, rfl, hx, hn, q⟩ := h
    refine ⟨_, PSs.nox (pss_cons (ps_expr (pe_cfn (pe_glob rfl gS (v := .ref CS) rfl) cS GI hr FI.kp bI pass0 (pa_cons (pv 0) (pa_cons pe_str (pa_cons pe_str (pa_cons (pv 1) pa_nil)))))) pss_nil), ?_⟩
    refine Rd.cfn ?_
    walk_at "rd"
    refine ⟨x, dx, 2, n, rfl, hx, hn, fun H1 b1 h1 => ?_⟩
    walk_at "rd"
    exact q H1 b1 h1
end
end K17

namespace K17
open PySem PySem.Spec PyProof.Rows L2
local macro_rules | `(tactic| walk_at "rd1") => `(tactic| first
  | (with_reducible refine Rd.seq ?_) | (with_reducible refine Rd.asg ?_) | (with_reducible refine Rd.ret ?_) | (with_reducible refine Rd.nxt ?_) | (with_reducible refine Rd.ifS ?_)
  | (with_reducible refine Rd.op ?_) | (with_reducible refine Rd.un ?_) | (with_reducible refine Rd.cb ?_) | (with_reducible refine Rd.cons ?_) | (with_reducible refine Rd.nil ?_) | (with_reducible refine Rd.ifx ?_)
  | (with_reducible refine Rd.test ?_) | (with_reducible refine Rd.testB ?_) | (with_reducible refine Rd.notT ?_) | (with_reducible refine Rd.isB ?_) | (with_reducible refine Rd.lst ?_) | (with_reducible refine Rd.tup ?_)
  | (with_reducible refine Rd.andV ?_) | (with_reducible refine Rd.orV ?_) | (with_reducible refine Rd.notV ?_) | (with_reducible refine Rd.andT ?_) | (with_reducible refine Rd.orT ?_) | (with_reducible refine Rd.chain ?_)
  | (with_reducible refine Rd.m0 ?_) | (with_reducible refine Rd.m1 ?_) | (with_reducible refine Rd.bm0 ?_) | (with_reducible refine Rd.bm ?_) | (with_reducible refine Rd.sl ?_) | (with_reducible refine Rd.part ?_) | (with_reducible refine Rd.part0 ?_) | (with_reducible refine Rd.isI ?_)
  | (with_reducible refine Rd.fmt ?_) | (with_reducible refine Rd.fmtRD ?_) | (with_reducible refine Rd.meth ?_) | (with_reducible refine Rd.make ?_) | (with_reducible refine Rd.prop ?_) | (with_reducible refine Rd.js ?_) | (with_reducible refine Rd.js0 ?_) | (with_reducible refine Rd.par ?_) | (with_reducible refine Rd.star ?_) | (with_reducible refine lcR1 ?_) | (with_reducible refine lcR2 ?_) | (with_reducible refine Rd.fld ?_) | (with_reducible refine Rd.sfld ?_) | (with_reducible refine Rd.expr ?_) | (with_reducible refine L2.isNR ?_) | (with_reducible refine L2.methI ?_) | (with_reducible refine Rd.forZ ?_)
  | (with_reducible refine Rd.forEA ?_) | (with_reducible refine Rd.forR1 ?_) | (with_reducible refine Rd.forR2 ?_) | (with_reducible refine Rd.forL ?_) | (with_reducible refine Rd.forT ?_)
  | (with_reducible refine Rd.call ?_) | (with_reducible refine Rd.asgG ?_) | (with_reducible refine Rd.gNm ?_) | (with_reducible refine Rd.gSb ?_) | (with_reducible refine Rd.gC ?_) | (with_reducible refine Rd.gN ?_)
  | ((with_reducible refine' Rd.var ?hv ?_); (case hv => exact rfl)) | (with_reducible refine Rd.c ?_) | (with_reducible refine Rd.i0 ?_) | (with_reducible refine Rd.neg ?_)
  | ((with_reducible refine' Rd.iC ?hc ?_); (case hc => first | (show (0 : Int) < _; decide) | exact ⟨by decide, by decide⟩ | exact ⟨by decide, by decide, by decide⟩ | exact .inl ⟨by decide, by decide⟩ | exact .inr ⟨by decide, by decide⟩ | exact .inl ⟨by omega, by omega⟩ | (show (0 : Int) < _; omega) | exact ⟨by omega, by omega⟩))
  | ((with_reducible refine' Rd.eqS ?hc ?_); (case hc => rfl)) | ((with_reducible refine' Rd.neS ?hc ?_); (case hc => rfl)))
local macro_rules | `(tactic| walk_at "rd") => `(tactic| repeat walk_at "rd1")
/-! ### is it a formula? -/
structure Fb (K : PySem.W.Frag) (mg : Str → Option Value) (c : Cs) (CF : Addr) : Prop where
  gF : mg "Formula" = some (.ref CF)
  hgt : PySem.W.specialIn K (.builtin "object.__class__") "__get__" = some (some (.builtin "getset_descriptor.__get__"))
  htk : PySem.W.takesIn K (.builtin "object.__class__") = some true
  hcl : ∀ f : Fm, PySem.W.findIn K (.ref (clsOf c f)) "__class__" = some (some (.builtin "object.__class__"))
  hmo : ∀ f : Fm, PySem.W.mroIn K (clsOf c f) (.type "object") = some true
  kit : ∀ f : Fm, PySem.W.kitOne K (.ref (clsOf c f)) (.ref CF) = some true
def spCheckF (K : PySem.W.Frag) (c : Cs) : Sp := fun vs H Q _ => ∃ (f : Fm) (v : V) (l : List V), vs = [v] ∧ FmAt K c H f v l ∧ Q .non H
abbrev sCheckF : Stmt := topA i_check_formula
abbrev sInitP : Stmt := sMeth iPair 0
def spPairI (K : PySem.W.Frag) (c : Cs) : Sp := fun args H Q _ => ∃ (x dx : Addr) (o : Nat) (f1 f2 : Fm) (v1 v2 : V) (l1 l2 : List V), args = [.ref x, .str (pairName o), v1, v2] ∧ H x = some (.ins (c.pair o) dx []) ∧ FmAt K c H f1 v1 l1 ∧ FmAt K c H f2 v2 l2 ∧
  (Fm.pair o f1 f2).q.1 ≤ 40 ∧ (Fm.pair o f1 f2).q.2 ≤ 8 ∧ ∀ H', But x H H' → FmAt K c H' (.pair o f1 f2) (.ref x) (.ref x :: (l1 ++ l2)) → SqNon H' (.ref x) → Q .non H'
def spPair (K : PySem.W.Frag) (c : Cs) (o : Nat) : Sp := fun args H Q _ => ∃ (x dx : Addr) (f1 f2 : Fm) (v1 v2 : V) (l1 l2 : List V), args = [.ref x, v1, v2] ∧ H x = some (.ins (c.pair o) dx []) ∧ FmAt K c H f1 v1 l1 ∧ FmAt K c H f2 v2 l2 ∧
  (Fm.pair o f1 f2).q.1 ≤ 40 ∧ (Fm.pair o f1 f2).q.2 ≤ 8 ∧ ∀ H', But x H H' → FmAt K c H' (.pair o f1 f2) (.ref x) (.ref x :: (l1 ++ l2)) → SqNon H' (.ref x) → Q .non H'
section
variable {P : Program} {w : World} {K : PySem.W.Frag} {mg : Str → Option Value} {base : Heap} {c : Cs} {CF D C f fB fI cc : Addr} {fd fdB fdI : FuncData}
theorem scCheckF : FnScope ["value"] ["value"] (defScope sCheckF) := ⟨rfl, rfl, rfl, by decide +kernel, rfl, by decide +kernel, by decide +kernel⟩
theorem ok_checkF (F : FnP K "_check_formula" sCheckF f fd) (T : Cl K c) (B : Fb K mg c CF) (gIs : mg "isinstance" = none) : FnOk P w K mg base CX0 1 f fd ["value"] (spCheckF K c) := by
  refine F.ok scCheckF (fun vs H Q E h => ?_) (fun cdv A outer s H vs Q E hr h => ?_)
  · obtain ⟨f1, v, l, rfl, _⟩ := h
    rfl
  · obtain ⟨f1, v, l, rfl, hf, q⟩ := h
    obtain ⟨a, dx, fs, g, p, r, rfl, rfl, ha, _⟩ := hf.obj
    refine ⟨_, PSs.nox (pss_one (ps_if (pt_not (pt_val (pe_callB call_isi rfl gIs (by decide +kernel) (pa_cons (pv 0) (pa_cons (pe_glob rfl B.gF (v := .ref CF) rfl) pa_nil))))) (pss_one ps_never) pss_nil)), ?_⟩
    walk_at "rd"
    refine ⟨.ref a, .ref CF, .ref (clsOf c f1), .ref CF, true, rfl, .own CF, .base (.ins ha (T.at_ f1).cl (B.hcl f1) B.hgt B.htk (B.hmo f1)), B.kit f1, ?_⟩
    refine ⟨_, rfl, ?_⟩
    refine iteF ?_
    walk_at "rd"
    exact q
/-! ### pairs -/
theorem scPair : FnScope ["self", "name", "left", "right"] ["self", "name", "left", "right"] (defScope sInitP) := ⟨rfl, rfl, rfl, by decide +kernel, rfl, by decide +kernel, by decide +kernel⟩
theorem ok_pair (F : FunD K "__init__" "Pair.__init__" (defArgs sInitP) (defBody sInitP) (defScope sInitP) [] [] f fd) (T : Cl K c)
    (FI : FunD K "__init__" "Formula.__init__" (defArgs sInitF) (defBody sInitF) (defScope sInitF) [] [] fI fdI) {CS : Addr} (gS : mg "Formula" = some (.ref CS)) (cS : CFn K CS "__init__" fI) (GI : FnOk P w K mg base CX0 1 fI fdI ["self", "name", "given", "parts"] (spInitF K))
    (FB : FnP K "_check_formula" sCheckF fB fdB) (GB : FnOk P w K mg base CX0 1 fB fdB ["value"] (spCheckF K c)) (gB : mg "_check_formula" = some (.ref fB)) : FnOk P w K mg base CX0 2 f fd ["self", "name", "left", "right"] (spPairI K c) := by
  have bI : Binds K fdI ["self", "name", "given", "parts"] [] := FI.bindsN fun _ _ _ _ _ _ us hl => match us, hl with | [_, _, _, _], _ => rfl
  have bB : Binds K fdB ["value"] [] := FB.bindsN fun _ _ _ _ _ _ us hl => match us, hl with | [_], _ => rfl
  refine F.ok scPair (fun vs H Q E h => ?_) (fun cdv A outer s H vs Q E hr h => ?_)
  · obtain ⟨x, dx, o, f1, f2, v1, v2, l1, l2, rfl, _⟩ := h
    rfl
  · obtain ⟨x, dx, o, f1, f2, v1, v2, l1, l2, rfl, hx, h1, h2, le1, le2, q⟩ := h
    have fc := T.pair o
    refine ⟨_, PSs.nox (pss_cons (ps_expr (pe_call GB hr rfl gB FB.kp bB .nil pass0 (pa_cons (pv 2) pa_nil))) (pss_cons (ps_expr (pe_call GB hr rfl gB FB.kp bB .nil pass0 (pa_cons (pv 3) pa_nil)))
      (pss_cons (ps_expr (pe_cfn (pe_glob rfl gS (v := .ref CS) rfl) cS GI hr FI.kp bI pass0 (pa_cons (pv 0) (pa_cons (pv 1) (pa_cons (pe_tup (pa_cons (pv 2) (pa_cons (pv 3) pa_nil))) (pa_cons (pe_tup (pa_cons (pv 2) (pa_cons (pv 3) pa_nil))) pa_nil))))))
      (pss_cons (ps_fld (pv 0) (pv 2) rfl) (pss_one (ps_fld (pv 0) (pv 3) rfl)))))), ?_⟩
    walk_at "rd"
    refine ⟨f1, v1, l1, rfl, h1, ?_⟩
    walk_at "rd"
    refine ⟨f2, v2, l2, rfl, h2, ?_⟩
    walk_at "rd"
    refine Rd.cfn ?_
    walk_at "rd"
    refine ⟨Rd.small (by show 2 ≤ 100000; decide), fun g n1 => ?_⟩
    have s1 := same_new (o := HO.tup ([v1, v2])) n1
    have t1 := upd_same (H := H) (a := g) (o := HO.tup ([v1, v2]))
    generalize upd H g (HO.tup ([v1, v2])) = H1 at s1 t1 ⊢
    walk_at "rd"
    refine ⟨Rd.small (by show 2 ≤ 100000; decide), fun p n2 => ?_⟩
    have s2 := same_new (o := HO.tup ([v1, v2])) n2
    have t2 := upd_same (H := H1) (a := p) (o := HO.tup ([v1, v2]))
    generalize upd H1 p (HO.tup ([v1, v2])) = H2 at s2 t2 ⊢
    walk_at "rd"
    have x2 := s2 _ _ (s1 _ _ hx)
    have p1 := (h1.kp (kp_same (s1.trans s2))).part T
    have p2 := (h2.kp (kp_same (s1.trans s2))).part T
    refine ⟨x, _, dx, g, p, _, _, [f1.q, f2.q], rfl, x2, fc, SqT.of t2, ⟨rfl, fun i v h => ?_⟩, le1, le2, fun H3 b3 x3 => ?_⟩
    · match i, h with
      | 0, h => cases h; exact ⟨_, rfl, p1⟩
      | 1, h => cases h; exact ⟨_, rfl, p2⟩
    walk_at "rd"
    refine ⟨x, _, dx, _, rfl, x3, fc.cl, fc.no "left", (by show 6 < 1000; decide), ?_⟩
    have x4 := upd_same (H := H3) (a := x) (o := HO.ins (c.pair o) dx (putF "left" v1 (baseFs (pairName o) g p (fmN [f1.q, f2.q]) (fmD [f1.q, f2.q]))))
    have b4 := But.set (p := x) (H := H3) (o := HO.ins (c.pair o) dx (putF "left" v1 (baseFs (pairName o) g p (fmN [f1.q, f2.q]) (fmD [f1.q, f2.q]))))
    generalize upd H3 x (HO.ins (c.pair o) dx (putF "left" v1 (baseFs (pairName o) g p (fmN [f1.q, f2.q]) (fmD [f1.q, f2.q])))) = H4 at x4 b4 ⊢
    walk_at "rd"
    refine ⟨x, _, dx, _, rfl, x4, fc.cl, fc.no "right", (by show 7 < 1000; decide), ?_⟩
    have x5 := upd_same (H := H4) (a := x) (o := HO.ins (c.pair o) dx (putF "right" v2 (putF "left" v1 (baseFs (pairName o) g p (fmN [f1.q, f2.q]) (fmD [f1.q, f2.q])))))
    have b5 := But.set (p := x) (H := H4) (o := HO.ins (c.pair o) dx (putF "right" v2 (putF "left" v1 (baseFs (pairName o) g p (fmN [f1.q, f2.q]) (fmD [f1.q, f2.q])))))
    generalize upd H4 x (HO.ins (c.pair o) dx (putF "right" v2 (putF "left" v1 (baseFs (pairName o) g p (fmN [f1.q, f2.q]) (fmD [f1.q, f2.q]))))) = H5 at x5 b5 ⊢
    walk_at "rd"
    have b := b3.trans (b4.trans b5)
    have bb : But x H H5 := fun d o hb e => b d o hb (s2 _ _ (s1 _ _ e))
    have ne : ∀ {o : HO} {b : Addr}, H2 b = some o → (∀ C dx fs, o ≠ .ins C dx fs) → b ≠ x := fun e n z => by
      rw [z, x2] at e
      cases e
      exact n _ _ _ rfl
    have g2 := s2 _ _ t1
    have g5 := b _ _ (ne g2 fun _ _ _ z => by cases z) g2
    have p5 := b _ _ (ne t2 fun _ _ _ z => by cases z) t2
    have k5 := kp_new hx bb
    exact q H5 bb ⟨v1, l1, v2, l2, rfl, h1.kp k5, h2.kp k5, x, dx, _, g, p, rfl, x5, ⟨rfl, rfl, rfl, rfl, rfl, ⟨_, rfl, .inl rfl⟩, (by show 8 < 900; decide), rfl⟩, SqT.of g5, SqT.of p5, rfl, rfl⟩ ⟨_, _, _, _, rfl, x5, rfl⟩
abbrev sInitPlus : Stmt := sMeth iPlus 0
theorem scPlus : FnScope ["self", "left", "right"] ["self", "left", "right"] (defScope sInitPlus) := ⟨rfl, rfl, rfl, by decide +kernel, rfl, by decide +kernel, by decide +kernel⟩
theorem ok_plus (F : FunD K "__init__" "Plus.__init__" (defArgs sInitPlus) (defBody sInitPlus) (defScope sInitPlus) [] [] f fd)
    (FI : FunD K "__init__" "Pair.__init__" (defArgs sInitP) (defBody sInitP) (defScope sInitP) [] [] fI fdI) {CS : Addr} (gS : mg "Pair" = some (.ref CS)) (cS : CFn K CS "__init__" fI) (GI : FnOk P w K mg base CX0 2 fI fdI ["self", "name", "left", "right"] (spPairI K c)) : FnOk P w K mg base CX0 3 f fd ["self", "left", "right"] (spPair K c 0) := by
  have bI : Binds K fdI ["self", "name", "left", "right"] [] := FI.bindsN fun _ _ _ _ _ _ us hl => match us, hl with | [_, _, _, _], _ => rfl
  refine F.ok scPlus (fun vs H Q E h => ?_) (fun cdv A outer s H vs Q E hr h => ?_)
  · obtain ⟨x, dx, f1, f2, v1, v2, l1, l2, rfl, _⟩ := h
    rfl
  · obtain ⟨x, dx, f1, f2, v1, v2, l1, l2, rfl, hx, h1, h2, le1, le2, q⟩ := h
    refine ⟨_, PSs.nox (pss_cons (ps_expr (pe_cfn (pe_glob rfl gS (v := .ref CS) rfl) cS GI hr FI.kp bI pass0 (pa_cons (pv 0) (pa_cons pe_str (pa_cons (pv 1) (pa_cons (pv 2) pa_nil)))))) pss_nil), ?_⟩
    refine Rd.cfn ?_
    walk_at "rd"
    refine ⟨x, dx, 0, f1, f2, v1, v2, l1, l2, rfl, hx, h1, h2, le1, le2, fun H1 b1 e1 z1 => ?_⟩
    walk_at "rd"
    exact q H1 b1 e1 z1
abbrev sInitLeast : Stmt := sMeth iLeast 0
theorem scLeast : FnScope ["self", "left", "right"] ["self", "left", "right"] (defScope sInitLeast) := ⟨rfl, rfl, rfl, by decide +kernel, rfl, by decide +kernel, by decide +kernel⟩
theorem ok_least (F : FunD K "__init__" "Least.__init__" (defArgs sInitLeast) (defBody sInitLeast) (defScope sInitLeast) [] [] f fd)
    (FI : FunD K "__init__" "Pair.__init__" (defArgs sInitP) (defBody sInitP) (defScope sInitP) [] [] fI fdI) {CS : Addr} (gS : mg "Pair" = some (.ref CS)) (cS : CFn K CS "__init__" fI) (GI : FnOk P w K mg base CX0 2 fI fdI ["self", "name", "left", "right"] (spPairI K c)) : FnOk P w K mg base CX0 3 f fd ["self", "left", "right"] (spPair K c 1) := by
  have bI : Binds K fdI ["self", "name", "left", "right"] [] := FI.bindsN fun _ _ _ _ _ _ us hl => match us, hl with | [_, _, _, _], _ => rfl
  refine F.ok scLeast (fun vs H Q E h => ?_) (fun cdv A outer s H vs Q E hr h => ?_)
  · obtain ⟨x, dx, f1, f2, v1, v2, l1, l2, rfl, _⟩ := h
    rfl
  · obtain ⟨x, dx, f1, f2, v1, v2, l1, l2, rfl, hx, h1, h2, le1, le2, q⟩ := h
    refine ⟨_, PSs.nox (pss_cons (ps_expr (pe_cfn (pe_glob rfl gS (v := .ref CS) rfl) cS GI hr FI.kp bI pass0 (pa_cons (pv 0) (pa_cons pe_str (pa_cons (pv 1) (pa_cons (pv 2) pa_nil)))))) pss_nil), ?_⟩
    refine Rd.cfn ?_
    walk_at "rd"
    refine ⟨x, dx, 1, f1, f2, v1, v2, l1, l2, rfl, hx, h1, h2, le1, le2, fun H1 b1 e1 z1 => ?_⟩
    walk_at "rd"
    exact q H1 b1 e1 z1
abbrev sInitMost : Stmt := sMeth iMost 0
theorem scMost : FnScope ["self", "left", "right"] ["self", "left", "right"] (defScope sInitMost) := ⟨rfl, rfl, rfl, by decide +kernel, rfl, by decide +kernel, by decide +kernel⟩
theorem ok_most (F : FunD K "__init__" "Most.__init__" (defArgs sInitMost) (defBody sInitMost) (defScope sInitMost) [] [] f fd)
    (FI : FunD K "__init__" "Pair.__init__" (defArgs sInitP) (defBody sInitP) (defScope sInitP) [] [] fI fdI) {CS : Addr} (gS : mg "Pair" = some (.ref CS)) (cS : CFn K CS "__init__" fI) (GI : FnOk P w K mg base CX0 2 fI fdI ["self", "name", "left", "right"] (spPairI K c)) : FnOk P w K mg base CX0 3 f fd ["self", "left", "right"] (spPair K c 2) := by
  have bI : Binds K fdI ["self", "name", "left", "right"] [] := FI.bindsN fun _ _ _ _ _ _ us hl => match us, hl with | [_, _, _, _], _ => rfl
  refine F.ok scMost (fun vs H Q E h => ?_) (fun cdv A outer s H vs Q E hr h => ?_)
  · obtain ⟨x, dx, f1, f2, v1, v2, l1, l2, rfl, _⟩ := h
    rfl
  · obtain ⟨x, dx, f1, f2, v1, v2, l1, l2, rfl, hx, h1, h2, le1, le2, q⟩ := h
    refine ⟨_, PSs.nox (pss_cons (ps_expr (pe_cfn (pe_glob rfl gS (v := .ref CS) rfl) cS GI hr FI.kp bI pass0 (pa_cons (pv 0) (pa_cons pe_str (pa_cons (pv 1) (pa_cons (pv 2) pa_nil)))))) pss_nil), ?_⟩
    refine Rd.cfn ?_
    walk_at "rd"
    refine ⟨x, dx, 2, f1, f2, v1, v2, l1, l2, rfl, hx, h1, h2, le1, le2, fun H1 b1 e1 z1 => ?_⟩
    walk_at "rd"
    exact q H1 b1 e1 z1
abbrev sInitSame : Stmt := sMeth iSame 0
theorem scSame : FnScope ["self", "left", "right"] ["self", "left", "right"] (defScope sInitSame) := ⟨rfl, rfl, rfl, by decide +kernel, rfl, by decide +kernel, by decide +kernel⟩
theorem ok_same (F : FunD K "__init__" "Same.__init__" (defArgs sInitSame) (defBody sInitSame) (defScope sInitSame) [] [] f fd)
    (FI : FunD K "__init__" "Pair.__init__" (defArgs sInitP) (defBody sInitP) (defScope sInitP) [] [] fI fdI) {CS : Addr} (gS : mg "Pair" = some (.ref CS)) (cS : CFn K CS "__init__" fI) (GI : FnOk P w K mg base CX0 2 fI fdI ["self", "name", "left", "right"] (spPairI K c)) : FnOk P w K mg base CX0 3 f fd ["self", "left", "right"] (spPair K c 3) := by
  have bI : Binds K fdI ["self", "name", "left", "right"] [] := FI.bindsN fun _ _ _ _ _ _ us hl => match us, hl with | [_, _, _, _], _ => rfl
  refine F.ok scSame (fun vs H Q E h => ?_) (fun cdv A outer s H vs Q E hr h => ?_)
  · obtain ⟨x, dx, f1, f2, v1, v2, l1, l2, rfl, _⟩ := h
    rfl
  · obtain ⟨x, dx, f1, f2, v1, v2, l1, l2, rfl, hx, h1, h2, le1, le2, q⟩ := h
    refine ⟨_, PSs.nox (pss_cons (ps_expr (pe_cfn (pe_glob rfl gS (v := .ref CS) rfl) cS GI hr FI.kp bI pass0 (pa_cons (pv 0) (pa_cons pe_str (pa_cons (pv 1) (pa_cons (pv 2) pa_nil)))))) pss_nil), ?_⟩
    refine Rd.cfn ?_
    walk_at "rd"
    refine ⟨x, dx, 3, f1, f2, v1, v2, l1, l2, rfl, hx, h1, h2, le1, le2, fun H1 b1 e1 z1 => ?_⟩
    walk_at "rd"
    exact q H1 b1 e1 z1
end
end K17

namespace K17
open PySem PySem.Spec PyProof.Rows L2
local macro_rules | `(tactic| walk_at "rd1") => `(tactic| first
  | (with_reducible refine Rd.seq ?_) | (with_reducible refine Rd.asg ?_) | (with_reducible refine Rd.ret ?_) | (with_reducible refine Rd.nxt ?_) | (with_reducible refine Rd.ifS ?_)
  | (with_reducible refine Rd.op ?_) | (with_reducible refine Rd.un ?_) | (with_reducible refine Rd.cb ?_) | (with_reducible refine Rd.cons ?_) | (with_reducible refine Rd.nil ?_) | (with_reducible refine Rd.ifx ?_)
  | (with_reducible refine Rd.test ?_) | (with_reducible refine Rd.testB ?_) | (with_reducible refine Rd.notT ?_) | (with_reducible refine Rd.isB ?_) | (with_reducible refine Rd.lst ?_) | (with_reducible refine Rd.tup ?_)
  | (with_reducible refine Rd.andV ?_) | (with_reducible refine Rd.orV ?_) | (with_reducible refine Rd.notV ?_) | (with_reducible refine Rd.andT ?_) | (with_reducible refine Rd.orT ?_) | (with_reducible refine Rd.chain ?_)
  | (with_reducible refine Rd.m0 ?_) | (with_reducible refine Rd.m1 ?_) | (with_reducible refine Rd.bm0 ?_) | (with_reducible refine Rd.bm ?_) | (with_reducible refine Rd.sl ?_) | (with_reducible refine Rd.part ?_) | (with_reducible refine Rd.part0 ?_) | (with_reducible refine Rd.isI ?_)
  | (with_reducible refine Rd.fmt ?_) | (with_reducible refine Rd.fmtRD ?_) | (with_reducible refine Rd.meth ?_) | (with_reducible refine Rd.make ?_) | (with_reducible refine Rd.prop ?_) | (with_reducible refine Rd.js ?_) | (with_reducible refine Rd.js0 ?_) | (with_reducible refine Rd.par ?_) | (with_reducible refine Rd.star ?_) | (with_reducible refine lcR1 ?_) | (with_reducible refine lcR2 ?_) | (with_reducible refine Rd.fld ?_) | (with_reducible refine Rd.sfld ?_) | (with_reducible refine Rd.expr ?_) | (with_reducible refine L2.isNR ?_) | (with_reducible refine L2.methI ?_) | (with_reducible refine Rd.forZ ?_)
  | (with_reducible refine Rd.forEA ?_) | (with_reducible refine Rd.forR1 ?_) | (with_reducible refine Rd.forR2 ?_) | (with_reducible refine Rd.forL ?_) | (with_reducible refine Rd.forT ?_)
  | (with_reducible refine Rd.call ?_) | (with_reducible refine Rd.asgG ?_) | (with_reducible refine Rd.gNm ?_) | (with_reducible refine Rd.gSb ?_) | (with_reducible refine Rd.gC ?_) | (with_reducible refine Rd.gN ?_)
  | ((with_reducible refine' Rd.var ?hv ?_); (case hv => exact rfl)) | (with_reducible refine Rd.c ?_) | (with_reducible refine Rd.i0 ?_) | (with_reducible refine Rd.neg ?_)
  | ((with_reducible refine' Rd.iC ?hc ?_); (case hc => first | (show (0 : Int) < _; decide) | exact ⟨by decide, by decide⟩ | exact ⟨by decide, by decide, by decide⟩ | exact .inl ⟨by decide, by decide⟩ | exact .inr ⟨by decide, by decide⟩ | exact .inl ⟨by omega, by omega⟩ | (show (0 : Int) < _; omega) | exact ⟨by omega, by omega⟩))
  | ((with_reducible refine' Rd.eqS ?hc ?_); (case hc => rfl)) | ((with_reducible refine' Rd.neS ?hc ?_); (case hc => rfl)))
local macro_rules | `(tactic| walk_at "rd") => `(tactic| repeat walk_at "rd1")
/-! ### listed numbers -/
theorem seq_ty {K : PySem.W.Frag} {H : Hp} {a : Addr} {xs : List V} (h : SqT K H a xs) : TyX K H (.ref a) (.type "tuple") := by
  rcases h with h | ⟨o, its, n, h, hc, hd, _⟩
  · rcases h with h | ⟨o, h⟩
    · exact .base (.tup h)
    · exact .fTuple h
  · exact .kTuple h hc
theorem seqL_ty {K : PySem.W.Frag} {H : Hp} {a : Addr} {xs : List V} (h : SqL K H a xs) : TyX K H (.ref a) (.type "list") := by
  rcases h with h | ⟨o, its, n, h, hc, hd, _⟩
  · rcases h with h | ⟨o, h⟩
    · exact .base (.lst h)
    · exact .base (.frz h)
  · exact .kList h hc
/-- a list or a tuple -/
def Sv (K : PySem.W.Frag) (H : Hp) (a : Addr) (l : List V) : Prop := SqL K H a l ∨ SqT K H a l
theorem Sv.same {K : PySem.W.Frag} {H H' : Hp} {a : Addr} {l : List V} (h : Sv K H a l) (s : Same H H') : Sv K H' a l := h.imp (fun z => z.ext s) (fun z => z.ext s)
def spIsList (K : PySem.W.Frag) : Sp := fun vs H Q _ => ∃ (a : Addr) (l : List V), vs = [.ref a] ∧ Sv K H a l ∧ ∀ H', Same H H' → Q (.bl true) H'
def leastAt (s : List Nat) : Nat → Nat
  | 0 => 0
  | i + 1 => s.getD i 0 + 1
/-- they rise, none is above 8 -/
structure Asc (s : List Nat) : Prop where
  at_ : ∀ (i n : Nat), s[i]? = some n → leastAt s i ≤ n ∧ n ≤ 8
  few : s.length ≤ 9
def spChosen (K : PySem.W.Frag) : Sp := fun vs H Q _ => ∃ (a : Addr) (s : List Nat), vs = [.ref a] ∧ Sv K H a (s.map natV) ∧ Asc s ∧ ∀ H', Same H H' → Q (.bl true) H'
abbrev sIsList : Stmt := topA iis_list
abbrev sChosen : Stmt := topA iis_chosen
abbrev sInitC : Stmt := sMeth iChoice 0
def spCho (K : PySem.W.Frag) (c : Cs) : Sp := fun args H Q _ => ∃ (x dx a : Addr) (s : List Nat) (f1 f2 f3 : Fm) (v1 v2 v3 : V) (l1 l2 l3 : List V), args = [.ref x, v1, .ref a, v2, v3] ∧ H x = some (.ins c.cho dx []) ∧ FmAt K c H f1 v1 l1 ∧ FmAt K c H f2 v2 l2 ∧ FmAt K c H f3 v3 l3 ∧ Sv K H a (s.map natV) ∧ Asc s ∧
  (Fm.cho f1 s f2 f3).q.1 ≤ 40 ∧ (Fm.cho f1 s f2 f3).q.2 ≤ 8 ∧ ∀ H', But x H H' → FmAt K c H' (.cho f1 s f2 f3) (.ref x) (.ref x :: (l1 ++ (l2 ++ l3))) → SqNon H' (.ref x) → Q .non H'
theorem at_nat {s : List Nat} {i : Nat} {v : V} (h : (s.map natV)[i]? = some v) : ∃ n, s[i]? = some n ∧ v = .int (n : Nat) := by
  rw [List.getElem?_map] at h
  cases e : s[i]? with
  | none => rw [e] at h; cases h
  | some x => rw [e] at h; cases h; exact ⟨x, rfl, rfl⟩
theorem least_next {s : List Nat} {i n : Nat} (h : s[i]? = some n) : leastAt s (i + 1) = n + 1 := by
  show s.getD i 0 + 1 = n + 1
  rw [List.getD_eq_getElem?_getD, h]
  rfl
/-- tuple(x) of a list or a tuple -/
def rTupV (K : PySem.W.Frag) : List V → Hp → VK → Prop := fun xs H Q => ∃ (a : Addr) (l : List V), xs = [.ref a] ∧ Sv K H a l ∧ ∀ (p : Addr) (H' : Hp), Same H H' → SqT K H' p l → Q (.ref p) H'
theorem call_tupV {X : Cx} : CallR X (.type "tuple") (rTupV X.K) := by
  intro pins s σ H xs us Q I r h
  obtain ⟨a, l, rfl, h, q⟩ := h
  refine call_tuple_of pins s σ H [.ref a] us Q I r ⟨a, l, rfl, ?_⟩
  rcases h with h | h
  · exact .inl ⟨h, fun p hp => q p _ (same_new hp) (SqT.of upd_same)⟩
  · exact .inr ⟨h, q a H (Same.refl _) h⟩
section
variable {P : Program} {w : World} {K : PySem.W.Frag} {mg : Str → Option Value} {base : Heap} {c : Cs} {f fB fL fI fG cc : Addr} {fd fdB fdL fdI fdG : FuncData}
theorem scIsList : FnScope ["value"] ["value"] (defScope sIsList) := ⟨rfl, rfl, rfl, by decide +kernel, rfl, by decide +kernel, by decide +kernel⟩
theorem ok_isList (F : FnP K "is_list" sIsList f fd) (gIs : mg "isinstance" = none) (gL : mg "list" = none) (gT : mg "tuple" = none) : FnOk P w K mg base CX0 1 f fd ["value"] (spIsList K) := by
  refine F.ok scIsList (fun vs H Q E h => ?_) (fun cdv A outer s H vs Q E hr h => ?_)
  · obtain ⟨a, l, rfl, _⟩ := h
    rfl
  · obtain ⟨a, l, rfl, hS, q⟩ := h
    refine ⟨_, PSs.nox (pss_one (ps_ret (pe_callB call_isiT rfl gIs (by decide +kernel) (pa_cons (pv 0) (pa_cons (pe_tup (pa_cons (pe_bltn rfl gL (by decide +kernel) (v := .ty "list") rfl) (pa_cons (pe_bltn rfl gT (by decide +kernel) (v := .ty "tuple") rfl) pa_nil))) pa_nil))))), ?_⟩
    walk_at "rd"
    refine ⟨Rd.small (by show 2 ≤ 100000; decide), fun p hp => ?_⟩
    walk_at "rd"
    have sm := same_new (o := HO.tup [V.ty "list", V.ty "tuple"]) hp
    rcases hS with hS | hS
    · exact ⟨_, p, [V.ty "list", V.ty "tuple"], .type "list", [.type "list", .type "tuple"], true, rfl, upd_same, .cons (.ty _) (.cons (.ty _) .nil), seqL_ty (hS.ext sm), kitAny_cons (b := true) (kit_ty (by decide +kernel)) (fun z => nomatch z) (fun _ => rfl), q _ sm⟩
    · exact ⟨_, p, [V.ty "list", V.ty "tuple"], .type "tuple", [.type "list", .type "tuple"], true, rfl, upd_same, .cons (.ty _) (.cons (.ty _) .nil), seq_ty (hS.ext sm), kitAny_cons (b := false) (kit_ty (by decide +kernel)) (fun _ => kitAny_cons (b := true) (kit_ty (by decide +kernel)) (fun z => nomatch z) (fun _ => rfl)) (fun z => nomatch z), q _ sm⟩
theorem scChosen : FnScope ["value", "least", "number"] ["value"] (defScope sChosen) := ⟨rfl, rfl, rfl, by decide +kernel, rfl, by decide +kernel, by decide +kernel⟩
theorem ok_chosen (F : FnP K "is_chosen" sChosen f fd) (FL : FnP K "is_list" sIsList fL fdL) (FB : FnP K "is_between" sBetween fB fdB) (GL : FnOk P w K mg base CX0 1 fL fdL ["value"] (spIsList K)) (GB : FnOk P w K mg base CX0 1 fB fdB ["value", "low", "high"] spBetween)
    (gL : mg "is_list" = some (.ref fL)) (gB : mg "is_between" = some (.ref fB)) (T : Gf mg) : FnOk P w K mg base CX0 2 f fd ["value"] (spChosen K) := by
  have bL : Binds K fdL ["value"] [] := FL.bindsN fun _ _ _ _ _ _ us hl => match us, hl with | [_], _ => rfl
  have bB : Binds K fdB ["value", "low", "high"] [] := FB.bindsN fun _ _ _ _ _ _ us hl => match us, hl with | [_, _, _], _ => rfl
  obtain ⟨t3, gG⟩ := T.gn
  refine F.ok scChosen (fun vs H Q E h => ?_) (fun cdv A outer s H vs Q E hr h => ?_)
  · obtain ⟨a, l, rfl, _⟩ := h
    rfl
  · obtain ⟨a, sv, rfl, hS, asc, q⟩ := h
    rcases hS with hS | hS
    · refine ⟨_, PSs.nox (pss_cons (ps_if (pt_not (pt_val (pe_call GL (hr.mono (by decide)) rfl gL FL.kp bL .nil pass0 (pa_cons (pv 0) pa_nil)))) (pss_one (ps_ret pe_bl)) pss_nil) (pss_cons (ps_set (i := 1) scChosen.nd rfl (Or.inl rfl) pe_int)
        (pss_cons (ps_for PassesOwn.never rfl (pi_list (pv 0)) (pg_name (i := 2) scChosen.nd rfl (Or.inl rfl))
          (pss_cons (ps_if (pt_not (pt_val (pe_call GB hr rfl gB FB.kp bB .nil pass0 (pa_cons (pv 2) (pa_cons (pv 1) (pa_cons (pe_glob rfl gG (v := .int 8) ⟨_, rfl⟩) pa_nil)))))) (pss_one (ps_ret pe_bl)) pss_nil)
          (pss_one (ps_set (i := 1) scChosen.nd rfl (Or.inl rfl) (pe_op op_add (pv 2) pe_int)))))
        (pss_one (ps_ret pe_bl))))), ?_⟩
      walk_at "rd"
      refine ⟨a, _, rfl, .inl hS, fun H1 s1 => ?_⟩
      walk_at "rd"
      refine iteF ?_
      walk_at "rd"
      have h1 := hS.ext s1
      refine ⟨a, rfl, ⟨_, h1⟩, ?_⟩
      refine for_it walk_list (fun i σ H' => (∃ b, σ = [some (.ref a), some (.int (leastAt sv i : Nat)), b]) ∧ H' = H1) ⟨⟨_, rfl⟩, rfl⟩ (fun i σ H' _ z => by rw [z.2]; exact h1) (fun i v σ H2 H3 hi hy z => ?_) (fun σ H' z => ?_)
      · obtain ⟨⟨b, rfl⟩, rfl⟩ := hy
        obtain ⟨rfl, ev⟩ := z
        obtain ⟨n, en, rfl⟩ := at_nat ev
        obtain ⟨lo, hi⟩ := asc.at_ i n en
        walk_at "rd"
        refine ⟨_, _, _, rfl, ?_⟩
        rw [decide_eq_true (show ((leastAt sv i : Nat) : Int) ≤ (n : Nat) by omega), decide_eq_true (show ((n : Nat) : Int) ≤ 8 by omega)]
        walk_at "rd"
        refine iteF ?_
        walk_at "rd"
        refine ⟨⟨some (.int (n : Nat)), ?_⟩, rfl⟩
        rw [least_next en, Int.natCast_add]
        rfl
      · obtain ⟨⟨b, rfl⟩, rfl⟩ := z
        walk_at "rd"
        exact q _ s1
    · refine ⟨_, PSs.nox (pss_cons (ps_if (pt_not (pt_val (pe_call GL (hr.mono (by decide)) rfl gL FL.kp bL .nil pass0 (pa_cons (pv 0) pa_nil)))) (pss_one (ps_ret pe_bl)) pss_nil) (pss_cons (ps_set (i := 1) scChosen.nd rfl (Or.inl rfl) pe_int)
        (pss_cons (ps_for PassesOwn.never rfl (pi_tup (pv 0)) (pg_name (i := 2) scChosen.nd rfl (Or.inl rfl))
          (pss_cons (ps_if (pt_not (pt_val (pe_call GB hr rfl gB FB.kp bB .nil pass0 (pa_cons (pv 2) (pa_cons (pv 1) (pa_cons (pe_glob rfl gG (v := .int 8) ⟨_, rfl⟩) pa_nil)))))) (pss_one (ps_ret pe_bl)) pss_nil)
          (pss_one (ps_set (i := 1) scChosen.nd rfl (Or.inl rfl) (pe_op op_add (pv 2) pe_int)))))
        (pss_one (ps_ret pe_bl))))), ?_⟩
      walk_at "rd"
      refine ⟨a, _, rfl, .inr hS, fun H1 s1 => ?_⟩
      walk_at "rd"
      refine iteF ?_
      walk_at "rd"
      have h1 := hS.ext s1
      refine ⟨a, rfl, ⟨_, h1⟩, ?_⟩
      refine for_it walk_tup (fun i σ H' => (∃ b, σ = [some (.ref a), some (.int (leastAt sv i : Nat)), b]) ∧ H' = H1) ⟨⟨_, rfl⟩, rfl⟩ (fun i σ H' _ z => by rw [z.2]; exact h1) (fun i v σ H2 H3 hi hy z => ?_) (fun σ H' z => ?_)
      · obtain ⟨⟨b, rfl⟩, rfl⟩ := hy
        obtain ⟨rfl, ev⟩ := z
        obtain ⟨n, en, rfl⟩ := at_nat ev
        obtain ⟨lo, hi⟩ := asc.at_ i n en
        walk_at "rd"
        refine ⟨_, _, _, rfl, ?_⟩
        rw [decide_eq_true (show ((leastAt sv i : Nat) : Int) ≤ (n : Nat) by omega), decide_eq_true (show ((n : Nat) : Int) ≤ 8 by omega)]
        walk_at "rd"
        refine iteF ?_
        walk_at "rd"
        refine ⟨⟨some (.int (n : Nat)), ?_⟩, rfl⟩
        rw [least_next en, Int.natCast_add]
        rfl
      · obtain ⟨⟨b, rfl⟩, rfl⟩ := z
        walk_at "rd"
        exact q _ s1
/-! ### choices -/
theorem scCho : FnScope ["self", "test", "chosen", "then", "other", "listed"] ["self", "test", "chosen", "then", "other"] (defScope sInitC) := ⟨rfl, rfl, rfl, by decide +kernel, rfl, by decide +kernel, by decide +kernel⟩
theorem ok_cho (F : FunD K "__init__" "Choice.__init__" (defArgs sInitC) (defBody sInitC) (defScope sInitC) [] [] f fd) (T : Cl K c)
    (FI : FunD K "__init__" "Formula.__init__" (defArgs sInitF) (defBody sInitF) (defScope sInitF) [] [] fI fdI) {CS : Addr} (gS : mg "Formula" = some (.ref CS)) (cS : CFn K CS "__init__" fI) (GI : FnOk P w K mg base CX0 1 fI fdI ["self", "name", "given", "parts"] (spInitF K))
    (FB : FnP K "_check_formula" sCheckF fB fdB) (GB : FnOk P w K mg base CX0 1 fB fdB ["value"] (spCheckF K c)) (gB : mg "_check_formula" = some (.ref fB))
    (FG : FnP K "is_chosen" sChosen fG fdG) (GG : FnOk P w K mg base CX0 2 fG fdG ["value"] (spChosen K)) (gG : mg "is_chosen" = some (.ref fG)) (gTup : mg "tuple" = none) : FnOk P w K mg base CX0 3 f fd ["self", "test", "chosen", "then", "other"] (spCho K c) := by
  have bI : Binds K fdI ["self", "name", "given", "parts"] [] := FI.bindsN fun _ _ _ _ _ _ us hl => match us, hl with | [_, _, _, _], _ => rfl
  have bB : Binds K fdB ["value"] [] := FB.bindsN fun _ _ _ _ _ _ us hl => match us, hl with | [_], _ => rfl
  have bG : Binds K fdG ["value"] [] := FG.bindsN fun _ _ _ _ _ _ us hl => match us, hl with | [_], _ => rfl
  refine F.ok scCho (fun vs H Q E h => ?_) (fun cdv A outer s H vs Q E hr h => ?_)
  · obtain ⟨x, dx, a, sv, f1, f2, f3, v1, v2, v3, l1, l2, l3, rfl, _⟩ := h
    rfl
  · obtain ⟨x, dx, a, sv, f1, f2, f3, v1, v2, v3, l1, l2, l3, rfl, hx, h1, h2, h3, hS, asc, le1, le2, q⟩ := h
    have fc := T.cho
    have hr1 := hr.mono (show 1 ≤ 2 by decide)
    refine ⟨_, PSs.nox (pss_cons (ps_expr (pe_call GB hr1 rfl gB FB.kp bB .nil pass0 (pa_cons (pv 1) pa_nil))) (pss_cons (ps_if (pt_not (pt_val (pe_call GG hr rfl gG FG.kp bG .nil pass0 (pa_cons (pv 2) pa_nil)))) (pss_one ps_never) pss_nil)
      (pss_cons (ps_expr (pe_call GB hr1 rfl gB FB.kp bB .nil pass0 (pa_cons (pv 3) pa_nil))) (pss_cons (ps_expr (pe_call GB hr1 rfl gB FB.kp bB .nil pass0 (pa_cons (pv 4) pa_nil)))
      (pss_cons (ps_set (i := 5) scCho.nd rfl (Or.inl rfl) (pe_callTy call_tupV rfl gTup (by decide +kernel) (pa_cons (pv 2) pa_nil)))
      (pss_cons (ps_expr (pe_cfn (pe_glob rfl gS (v := .ref CS) rfl) cS GI hr1 FI.kp bI pass0 (pa_cons (pv 0) (pa_cons pe_str (pa_cons (pe_tup (pa_cons (pv 1) (pa_cons (pv 5) (pa_cons (pv 3) (pa_cons (pv 4) pa_nil))))) (pa_cons (pe_tup (pa_cons (pv 1) (pa_cons (pv 3) (pa_cons (pv 4) pa_nil)))) pa_nil))))))
      (pss_cons (ps_fld (pv 0) (pv 1) rfl) (pss_cons (ps_fld (pv 0) (pv 5) rfl) (pss_cons (ps_fld (pv 0) (pv 3) rfl) (pss_one (ps_fld (pv 0) (pv 4) rfl))))))))))), ?_⟩
    walk_at "rd"
    refine ⟨f1, v1, l1, rfl, h1, ?_⟩
    walk_at "rd"
    refine ⟨a, sv, rfl, hS, asc, fun Ha sa => ?_⟩
    walk_at "rd"
    refine iteF ?_
    walk_at "rd"
    refine ⟨f2, v2, l2, rfl, h2.kp (kp_same sa), ?_⟩
    walk_at "rd"
    refine ⟨f3, v3, l3, rfl, h3.kp (kp_same sa), ?_⟩
    walk_at "rd"
    refine ⟨a, _, rfl, hS.same sa, fun t H0 s0 ht => ?_⟩
    walk_at "rd"
    have sa0 := sa.trans s0
    have x0 := sa0 _ _ hx
    refine Rd.cfn ?_
    walk_at "rd"
    refine ⟨Rd.small (by show 4 ≤ 100000; decide), fun g n1 => ?_⟩
    have s1 := same_new (o := HO.tup ([v1, .ref t, v2, v3])) n1
    have t1 := upd_same (H := H0) (a := g) (o := HO.tup ([v1, .ref t, v2, v3]))
    generalize upd H0 g (HO.tup ([v1, .ref t, v2, v3])) = H1 at s1 t1 ⊢
    walk_at "rd"
    refine ⟨Rd.small (by show 3 ≤ 100000; decide), fun p n2 => ?_⟩
    have s2 := same_new (o := HO.tup ([v1, v2, v3])) n2
    have t2 := upd_same (H := H1) (a := p) (o := HO.tup ([v1, v2, v3]))
    generalize upd H1 p (HO.tup ([v1, v2, v3])) = H2 at s2 t2 ⊢
    walk_at "rd"
    have x2 := s2 _ _ (s1 _ _ x0)
    have sA := sa0.trans (s1.trans s2)
    have p1 := (h1.kp (kp_same sA)).part T
    have p2 := (h2.kp (kp_same sA)).part T
    have p3 := (h3.kp (kp_same sA)).part T
    refine ⟨x, _, dx, g, p, _, _, [f1.q, f2.q, f3.q], rfl, x2, fc, SqT.of t2, ⟨rfl, fun i v h => ?_⟩, le1, le2, fun H3 b3 x3 => ?_⟩
    · match i, h with
      | 0, h => cases h; exact ⟨_, rfl, p1⟩
      | 1, h => cases h; exact ⟨_, rfl, p2⟩
      | 2, h => cases h; exact ⟨_, rfl, p3⟩
    walk_at "rd"
    refine ⟨x, _, dx, _, rfl, x3, fc.cl, fc.no "test", (by show 6 < 1000; decide), ?_⟩
    have x4 := upd_same (H := H3) (a := x) (o := HO.ins c.cho dx (putF "test" v1 (baseFs "Choice" g p (fmN [f1.q, f2.q, f3.q]) (fmD [f1.q, f2.q, f3.q]))))
    have b4 := But.set (p := x) (H := H3) (o := HO.ins c.cho dx (putF "test" v1 (baseFs "Choice" g p (fmN [f1.q, f2.q, f3.q]) (fmD [f1.q, f2.q, f3.q]))))
    generalize upd H3 x (HO.ins c.cho dx (putF "test" v1 (baseFs "Choice" g p (fmN [f1.q, f2.q, f3.q]) (fmD [f1.q, f2.q, f3.q])))) = H4 at x4 b4 ⊢
    walk_at "rd"
    refine ⟨x, _, dx, _, rfl, x4, fc.cl, fc.no "chosen", (by show 7 < 1000; decide), ?_⟩
    have x5 := upd_same (H := H4) (a := x) (o := HO.ins c.cho dx (putF "chosen" (.ref t) (putF "test" v1 (baseFs "Choice" g p (fmN [f1.q, f2.q, f3.q]) (fmD [f1.q, f2.q, f3.q])))))
    have b5 := But.set (p := x) (H := H4) (o := HO.ins c.cho dx (putF "chosen" (.ref t) (putF "test" v1 (baseFs "Choice" g p (fmN [f1.q, f2.q, f3.q]) (fmD [f1.q, f2.q, f3.q])))))
    generalize upd H4 x (HO.ins c.cho dx (putF "chosen" (.ref t) (putF "test" v1 (baseFs "Choice" g p (fmN [f1.q, f2.q, f3.q]) (fmD [f1.q, f2.q, f3.q]))))) = H5 at x5 b5 ⊢
    walk_at "rd"
    refine ⟨x, _, dx, _, rfl, x5, fc.cl, fc.no "then", (by show 8 < 1000; decide), ?_⟩
    have x6 := upd_same (H := H5) (a := x) (o := HO.ins c.cho dx (putF "then" v2 (putF "chosen" (.ref t) (putF "test" v1 (baseFs "Choice" g p (fmN [f1.q, f2.q, f3.q]) (fmD [f1.q, f2.q, f3.q]))))))
    have b6 := But.set (p := x) (H := H5) (o := HO.ins c.cho dx (putF "then" v2 (putF "chosen" (.ref t) (putF "test" v1 (baseFs "Choice" g p (fmN [f1.q, f2.q, f3.q]) (fmD [f1.q, f2.q, f3.q]))))))
    generalize upd H5 x (HO.ins c.cho dx (putF "then" v2 (putF "chosen" (.ref t) (putF "test" v1 (baseFs "Choice" g p (fmN [f1.q, f2.q, f3.q]) (fmD [f1.q, f2.q, f3.q])))))) = H6 at x6 b6 ⊢
    walk_at "rd"
    refine ⟨x, _, dx, _, rfl, x6, fc.cl, fc.no "other", (by show 9 < 1000; decide), ?_⟩
    have x7 := upd_same (H := H6) (a := x) (o := HO.ins c.cho dx (putF "other" v3 (putF "then" v2 (putF "chosen" (.ref t) (putF "test" v1 (baseFs "Choice" g p (fmN [f1.q, f2.q, f3.q]) (fmD [f1.q, f2.q, f3.q])))))))
    have b7 := But.set (p := x) (H := H6) (o := HO.ins c.cho dx (putF "other" v3 (putF "then" v2 (putF "chosen" (.ref t) (putF "test" v1 (baseFs "Choice" g p (fmN [f1.q, f2.q, f3.q]) (fmD [f1.q, f2.q, f3.q])))))))
    generalize upd H6 x (HO.ins c.cho dx (putF "other" v3 (putF "then" v2 (putF "chosen" (.ref t) (putF "test" v1 (baseFs "Choice" g p (fmN [f1.q, f2.q, f3.q]) (fmD [f1.q, f2.q, f3.q]))))))) = H7 at x7 b7 ⊢
    walk_at "rd"
    have b := b3.trans (b4.trans (b5.trans (b6.trans b7)))
    have bb : But x H H7 := fun d o hb e => b d o hb (sA _ _ e)
    have k2 := kp_new x2 b
    have ne : ∀ {o : HO} {b : Addr}, H2 b = some o → (∀ C dx fs, o ≠ .ins C dx fs) → b ≠ x := fun e n z => by
      rw [z, x2] at e
      cases e
      exact n _ _ _ rfl
    have g2 := s2 _ _ t1
    have g7 := b _ _ (ne g2 fun _ _ _ z => by cases z) g2
    have p7 := b _ _ (ne t2 fun _ _ _ z => by cases z) t2
    have k7 := kp_new hx bb
    have t7 := sqt_kp k2 (ht.ext (s1.trans s2))
    exact q H7 bb ⟨v1, l1, v2, l2, v3, l3, rfl, h1.kp k7, h2.kp k7, h3.kp k7, x, dx, _, g, p, t, rfl, x7, ⟨rfl, rfl, rfl, rfl, rfl, ⟨_, rfl, .inl rfl⟩, (by show 10 < 900; decide), rfl⟩, SqT.of g7, SqT.of p7, t7, rfl, rfl, rfl, rfl⟩ ⟨_, _, _, _, rfl, x7, rfl⟩
end
end K17

namespace K17
open PySem PySem.Spec PyProof.Rows L2
/-! ### a new formula -/
def MakeG (C : Addr) (sp : Sp) (dvs : List V) (E : XK) (vs : List V) (H1 : Hp) (Q : VK) : Prop := ∀ x dx, H1 x = none → H1 dx = none → dx ≠ x → sp (.ref x :: (vs ++ dvs)) (upd (upd H1 dx (.own x)) x (.ins C dx [])) (fun v H2 => v = .non ∧ Q (.ref x) H2) E
theorem makeG {C : Addr} {sp : Sp} {dvs : List V} {E : XK} {σ : L2.St} {H : Hp} {t : TA} {Q : VK} (h : t σ H fun vs H1 => MakeG C sp dvs E vs H1 Q) : tMake C sp dvs E t σ H Q := h
local macro_rules | `(tactic| walk_at "rd1") => `(tactic| first
  | (with_reducible refine Rd.seq ?_) | (with_reducible refine Rd.asg ?_) | (with_reducible refine Rd.ret ?_) | (with_reducible refine Rd.nxt ?_) | (with_reducible refine Rd.ifS ?_)
  | (with_reducible refine Rd.op ?_) | (with_reducible refine Rd.un ?_) | (with_reducible refine Rd.cb ?_) | (with_reducible refine Rd.cons ?_) | (with_reducible refine Rd.nil ?_) | (with_reducible refine Rd.ifx ?_)
  | (with_reducible refine Rd.test ?_) | (with_reducible refine Rd.testB ?_) | (with_reducible refine Rd.notT ?_) | (with_reducible refine Rd.isB ?_) | (with_reducible refine Rd.lst ?_) | (with_reducible refine Rd.tup ?_)
  | (with_reducible refine Rd.andV ?_) | (with_reducible refine Rd.orV ?_) | (with_reducible refine Rd.notV ?_) | (with_reducible refine Rd.andT ?_) | (with_reducible refine Rd.orT ?_) | (with_reducible refine Rd.chain ?_)
  | (with_reducible refine Rd.m0 ?_) | (with_reducible refine Rd.m1 ?_) | (with_reducible refine Rd.bm0 ?_) | (with_reducible refine Rd.bm ?_) | (with_reducible refine Rd.sl ?_) | (with_reducible refine Rd.part ?_) | (with_reducible refine Rd.part0 ?_) | (with_reducible refine Rd.isI ?_)
  | (with_reducible refine Rd.fmt ?_) | (with_reducible refine Rd.fmtRD ?_) | (with_reducible refine Rd.meth ?_) | (with_reducible refine makeG ?_) | (with_reducible refine Rd.prop ?_) | (with_reducible refine Rd.js ?_) | (with_reducible refine Rd.js0 ?_) | (with_reducible refine Rd.par ?_) | (with_reducible refine Rd.star ?_) | (with_reducible refine lcR1 ?_) | (with_reducible refine lcR2 ?_) | (with_reducible refine Rd.fld ?_) | (with_reducible refine Rd.sfld ?_) | (with_reducible refine Rd.expr ?_) | (with_reducible refine L2.isNR ?_) | (with_reducible refine L2.methI ?_) | (with_reducible refine Rd.forZ ?_)
  | (with_reducible refine Rd.forEA ?_) | (with_reducible refine Rd.forR1 ?_) | (with_reducible refine Rd.forR2 ?_) | (with_reducible refine Rd.forL ?_) | (with_reducible refine Rd.forT ?_)
  | (with_reducible refine Rd.call ?_) | (with_reducible refine Rd.asgG ?_) | (with_reducible refine Rd.gNm ?_) | (with_reducible refine Rd.gSb ?_) | (with_reducible refine Rd.gC ?_) | (with_reducible refine Rd.gN ?_)
  | ((with_reducible refine' Rd.var ?hv ?_); (case hv => exact rfl)) | (with_reducible refine Rd.c ?_) | (with_reducible refine Rd.i0 ?_) | (with_reducible refine Rd.neg ?_)
  | ((with_reducible refine' Rd.iC ?hc ?_); (case hc => first | (show (0 : Int) < _; decide) | exact ⟨by decide, by decide⟩ | exact ⟨by decide, by decide, by decide⟩ | exact .inl ⟨by decide, by decide⟩ | exact .inr ⟨by decide, by decide⟩ | exact .inl ⟨by omega, by omega⟩ | (show (0 : Int) < _; omega) | exact ⟨by omega, by omega⟩))
  | ((with_reducible refine' Rd.eqS ?hc ?_); (case hc => rfl)) | ((with_reducible refine' Rd.neS ?hc ?_); (case hc => rfl)))
local macro_rules | `(tactic| walk_at "rd") => `(tactic| repeat walk_at "rd1")
theorem same_make {H : Hp} {x dx C : Addr} (nx : H x = none) (nd : H dx = none) (ne : dx ≠ x) : Same H (upd (upd H dx (.own x)) x (.ins C dx [])) :=
  (same_new nd).trans (same_new (by rw [upd_ne ne.symm]; exact nx))
theorem same_but {H H0 H' : Hp} {x : Addr} (s : Same H H0) (nx : H x = none) (b : But x H0 H') : Same H H' := fun c o e => b c o (ne_of_none e nx) (s c o e)
/-- a formula that is new -/
structure New (K : PySem.W.Frag) (c : Cs) (H H' : Hp) (f : Fm) (v : V) (l : List V) : Prop where
  same : Same H H'
  at_ : FmAt K c H' f v l
  new : ∃ x, v = .ref x ∧ H x = none
  sq : SqNon H' v
theorem mkNum {K : PySem.W.Frag} {c : Cs} {H : Hp} {Q : VK} {E : XK} {n : Nat} (hn : n ≤ 8) (q : ∀ v H' l, New K c H H' (.num n) v l → Q v H') : MakeG c.num (spNum K c.num) [] E [.int (n : Nat)] H Q := fun x dx nx nd ne =>
  ⟨x, dx, n, rfl, upd_same, hn, fun H' g p b hx hg hp => ⟨rfl, q (.ref x) H' [.ref x] ⟨same_but (same_make nx nd ne) nx b, ⟨rfl, hn, x, dx, _, g, p, rfl, hx, ⟨rfl, rfl, rfl, rfl, rfl, ⟨_, rfl, .inl rfl⟩, (by show 7 < 900; decide), rfl⟩, hg, hp, rfl⟩, (⟨x, rfl, nx⟩ : ∃ y, V.ref x = .ref y ∧ H y = none), ⟨x, _, _, _, rfl, hx, rfl⟩⟩⟩⟩
theorem mkRef {K : PySem.W.Frag} {c : Cs} {H : Hp} {Q : VK} {E : XK} {w : Nat} {y : Str} (hn : Nam y) (q : ∀ v H' l, New K c H H' (.ref w y) v l → Q v H') : MakeG (c.ref w) (spRefW K c w) [] E [.str y] H Q := fun x dx nx nd ne =>
  ⟨x, dx, y, rfl, upd_same, hn, fun H' b h z => ⟨rfl, q (.ref x) H' [.ref x] ⟨same_but (same_make nx nd ne) nx b, h, ⟨x, rfl, nx⟩, z⟩⟩⟩
theorem mkPair {K : PySem.W.Frag} {c : Cs} {H : Hp} {Q : VK} {E : XK} {o : Nat} {f1 f2 : Fm} {v1 v2 : V} {l1 l2 : List V} (h1 : FmAt K c H f1 v1 l1) (h2 : FmAt K c H f2 v2 l2) (le1 : (Fm.pair o f1 f2).q.1 ≤ 40) (le2 : (Fm.pair o f1 f2).q.2 ≤ 8)
    (q : ∀ v H', New K c H H' (.pair o f1 f2) v (v :: (l1 ++ l2)) → Q v H') : MakeG (c.pair o) (spPair K c o) [] E [v1, v2] H Q := fun x dx nx nd ne =>
  ⟨x, dx, f1, f2, v1, v2, l1, l2, rfl, upd_same, h1.kp (kp_same (same_make nx nd ne)), h2.kp (kp_same (same_make nx nd ne)), le1, le2, fun H' b h z => ⟨rfl, q (.ref x) H' ⟨same_but (same_make nx nd ne) nx b, h, ⟨x, rfl, nx⟩, z⟩⟩⟩
theorem mkCho {K : PySem.W.Frag} {c : Cs} {H : Hp} {Q : VK} {E : XK} {a : Addr} {s : List Nat} {f1 f2 f3 : Fm} {v1 v2 v3 : V} {l1 l2 l3 : List V} (h1 : FmAt K c H f1 v1 l1) (h2 : FmAt K c H f2 v2 l2) (h3 : FmAt K c H f3 v3 l3) (hS : Sv K H a (s.map natV)) (asc : Asc s) (le1 : (Fm.cho f1 s f2 f3).q.1 ≤ 40) (le2 : (Fm.cho f1 s f2 f3).q.2 ≤ 8)
    (q : ∀ v H', New K c H H' (.cho f1 s f2 f3) v (v :: (l1 ++ (l2 ++ l3))) → Q v H') : MakeG c.cho (spCho K c) [] E [v1, .ref a, v2, v3] H Q := fun x dx nx nd ne =>
  ⟨x, dx, a, s, f1, f2, f3, v1, v2, v3, l1, l2, l3, rfl, upd_same, h1.kp (kp_same (same_make nx nd ne)), h2.kp (kp_same (same_make nx nd ne)), h3.kp (kp_same (same_make nx nd ne)), hS.same (same_make nx nd ne), asc, le1, le2,
    fun H' b h z => ⟨rfl, q (.ref x) H' ⟨same_but (same_make nx nd ne) nx b, h, ⟨x, rfl, nx⟩, z⟩⟩⟩
/-- one class that can be called -/
structure Ctor (P : Program) (w : World) (K : PySem.W.Frag) (mg : Str → Option Value) (base : Heap) (x : Str) (C f : Addr) (fd : FuncData) (ps : List Str) (sp : Sp) : Prop where
  g : mg x = some (.ref C)
  mkr : Mk K C f
  ok : FnOk P w K mg base CX0 3 f fd ps sp
  b : Binds K fd ps []
structure Mks (P : Program) (w : World) (K : PySem.W.Frag) (mg : Str → Option Value) (base : Heap) (c : Cs) : Prop where
  num : ∃ f fd, Ctor P w K mg base "Number" c.num f fd ["self", "value"] (spNum K c.num)
  ref : ∀ i, i < 3 → ∃ f fd, Ctor P w K mg base (refName i) (c.ref i) f fd ["self", "column"] (spRefW K c i)
  pair : ∀ i, i < 4 → ∃ f fd, Ctor P w K mg base (pairName i) (c.pair i) f fd ["self", "left", "right"] (spPair K c i)
  cho : ∃ f fd, Ctor P w K mg base "Choice" c.cho f fd ["self", "test", "chosen", "then", "other"] (spCho K c)
/-! ### the law's own formulas: tuples -/
def pairWord : Nat → Str
  | 0 => "plus"
  | 1 => "least"
  | 2 => "most"
  | _ => "same"
def TpAt (K : PySem.W.Frag) (H : Hp) : Fm → V → Prop
  | .num n, v => ∃ a, v = .ref a ∧ SqT K H a [.str "number", .int (n : Nat)]
  | .ref w x, v => ∃ a, v = .ref a ∧ SqT K H a [.str (refWhere w), .str x]
  | .pair o f1 f2, v => ∃ a v1 v2, v = .ref a ∧ SqT K H a [.str (pairWord o), v1, v2] ∧ TpAt K H f1 v1 ∧ TpAt K H f2 v2
  | .cho f1 s f2 f3, v => ∃ a v1 t v2 v3, v = .ref a ∧ SqT K H a [.str "choice", v1, .ref t, v2, v3] ∧ TpAt K H f1 v1 ∧ SqT K H t (s.map natV) ∧ TpAt K H f2 v2 ∧ TpAt K H f3 v3
theorem TpAt.kp {K : PySem.W.Frag} {H H' : Hp} (k : Kp H H') : ∀ {f : Fm} {v : V}, TpAt K H f v → TpAt K H' f v
  | .num n, v, ⟨a, e, h⟩ => ⟨a, e, sqt_kp k h⟩
  | .ref w x, v, ⟨a, e, h⟩ => ⟨a, e, sqt_kp k h⟩
  | .pair o f1 f2, v, ⟨a, v1, v2, e, h, h1, h2⟩ => ⟨a, v1, v2, e, sqt_kp k h, TpAt.kp k h1, TpAt.kp k h2⟩
  | .cho f1 s f2 f3, v, ⟨a, v1, t, v2, v3, e, h, h1, h2, h3, h4⟩ => ⟨a, v1, t, v2, v3, e, sqt_kp k h, TpAt.kp k h1, sqt_kp k h2, TpAt.kp k h3, TpAt.kp k h4⟩
def Okf : Fm → Prop
  | .num n => n ≤ 8
  | .ref w x => w < 3 ∧ Nam x
  | .pair o l r => o < 4 ∧ Okf l ∧ Okf r
  | .cho t s a b => Asc s ∧ Okf t ∧ Okf a ∧ Okf b
def Fm.ht : Fm → Nat
  | .num _ => 1
  | .ref _ _ => 1
  | .pair _ l r => max l.ht r.ht + 1
  | .cho t _ a b => max t.ht (max a.ht b.ht) + 1
def Fits (f : Fm) : Prop := f.q.1 ≤ 40 ∧ f.q.2 ≤ 8
theorem Fits.pair {o : Nat} {l r : Fm} (h : Fits (.pair o l r)) : Fits l ∧ Fits r := by
  unfold Fits Fm.q fmN fmD at h
  simp only [List.foldl] at h
  unfold Fits
  split at h <;> refine ⟨⟨?_, ?_⟩, ?_, ?_⟩ <;> split at h <;> omega
theorem Fits.cho {s : List Nat} {t a b : Fm} (h : Fits (.cho t s a b)) : Fits t ∧ Fits a ∧ Fits b := by
  unfold Fits Fm.q fmN fmD at h
  simp only [List.foldl] at h
  unfold Fits
  split at h <;> refine ⟨⟨?_, ?_⟩, ⟨?_, ?_⟩, ?_, ?_⟩ <;> split at h <;> split at h <;> omega
theorem ifD {p A B : Prop} [Decidable p] (hp : p) (h : A) : if decide p = true then A else B := by rw [if_pos (decide_eq_true hp)]; exact h
theorem ifN {p A B : Prop} [Decidable p] (hp : ¬ p) (h : B) : if decide p = true then A else B := by rw [if_neg (by rw [decide_eq_false hp]; decide)]; exact h
def spLF (K : PySem.W.Frag) (c : Cs) (n : Nat) : Sp := fun vs H Q _ => ∃ (f : Fm) (v : V), vs = [v] ∧ TpAt K H f v ∧ Okf f ∧ f.ht ≤ n ∧ Fits f ∧ ∀ v' H' l, New K c H H' f v' l → Q v' H'
abbrev sLF : Stmt := topA i_law_formula
section
variable {P : Program} {w : World} {K : PySem.W.Frag} {mg : Str → Option Value} {base : Heap} {c : Cs} {f : Addr} {fd : FuncData}
theorem scLF : FnScope ["_law_part_here", "_law_left", "_law_right_here"] ["_law_part_here"] (defScope sLF) := ⟨rfl, rfl, rfl, by decide +kernel, rfl, by decide +kernel, by decide +kernel⟩
theorem ok_lf (F : FnP K "_law_formula" sLF f fd) (M : Mks P w K mg base c) (gF : mg "_law_formula" = some (.ref f)) : ∀ n, FnOk P w K mg base CX0 (n + 5) f fd ["_law_part_here"] (spLF K c n) := by
  have bF : Binds K fd ["_law_part_here"] [] := F.bindsN fun _ _ _ _ _ _ us hl => match us, hl with | [_], _ => rfl
  obtain ⟨fN, fdN, cN⟩ := M.num
  obtain ⟨f0, fd0, c0⟩ := M.ref 0 (by decide)
  obtain ⟨f1, fd1, c1⟩ := M.ref 1 (by decide)
  obtain ⟨f2, fd2, c2⟩ := M.ref 2 (by decide)
  obtain ⟨fp, fdp, cp⟩ := M.pair 0 (by decide)
  obtain ⟨fl, fdl, cl⟩ := M.pair 1 (by decide)
  obtain ⟨fm, fdm, cm⟩ := M.pair 2 (by decide)
  obtain ⟨fs, fds, cs⟩ := M.pair 3 (by decide)
  obtain ⟨fC, fdC, cC⟩ := M.cho
  intro n
  induction n with
  | zero =>
    refine F.ok scLF (fun vs H Q E h => ?_) (fun cdv A outer s H vs Q E hr h => ?_)
    · obtain ⟨g, v, rfl, _⟩ := h
      rfl
    · obtain ⟨g, v, rfl, _, _, ht, _⟩ := h
      cases g <;> simp [Fm.ht] at ht
  | succ n ih =>
    refine F.ok scLF (fun vs H Q E h => ?_) (fun cdv A outer s H vs Q E hr h => ?_)
    · obtain ⟨g, v, rfl, _⟩ := h
      rfl
    · obtain ⟨g, v, rfl, tp, og, ht, fit, q⟩ := h
      have r4 := hr.mono (show 4 ≤ n + 5 by omega)
      refine ⟨_, PSs.nox (pss_cons (ps_if (pt_cmpR op_eq (pe_ix ix_tup (pv 0) pe_int (fun _ _ => rfl)) pe_str (nomark _)) (pss_one (ps_ret (pe_make cN.mkr cN.ok r4 rfl cN.g cN.b .nil pass0 (pa_cons (pe_ix ix_tup (pv 0) pe_int (fun _ _ => rfl)) pa_nil)))) pss_nil)
        (pss_cons (ps_if (pt_cmpR op_in_seq (pe_ix ix_tup (pv 0) pe_int (fun _ _ => rfl)) (pe_tup (pa_cons pe_str (pa_cons pe_str (pa_cons pe_str pa_nil)))) rfl)
          (pss_one (ps_ret (pe_ifExp (pt_cmpR op_eq (pe_ix ix_tup (pv 0) pe_int (fun _ _ => rfl)) pe_str (nomark _)) (pe_make c0.mkr c0.ok r4 rfl c0.g c0.b .nil pass0 (pa_cons (pe_ix ix_tup (pv 0) pe_int (fun _ _ => rfl)) pa_nil))
            (pe_ifExp (pt_cmpR op_eq (pe_ix ix_tup (pv 0) pe_int (fun _ _ => rfl)) pe_str (nomark _)) (pe_make c1.mkr c1.ok r4 rfl c1.g c1.b .nil pass0 (pa_cons (pe_ix ix_tup (pv 0) pe_int (fun _ _ => rfl)) pa_nil)) (pe_make c2.mkr c2.ok r4 rfl c2.g c2.b .nil pass0 (pa_cons (pe_ix ix_tup (pv 0) pe_int (fun _ _ => rfl)) pa_nil)))))) pss_nil)
        (pss_cons (ps_if (pt_cmpR op_eq (pe_ix ix_tup (pv 0) pe_int (fun _ _ => rfl)) pe_str (nomark _)) (pss_one (ps_ret (pe_make cC.mkr cC.ok r4 rfl cC.g cC.b .nil pass0
            (pa_cons (pe_call ih hr rfl gF F.kp bF .nil pass0 (pa_cons (pe_ix ix_tup (pv 0) pe_int (fun _ _ => rfl)) pa_nil)) (pa_cons (pe_ix ix_tup (pv 0) pe_int (fun _ _ => rfl)) (pa_cons (pe_call ih hr rfl gF F.kp bF .nil pass0 (pa_cons (pe_ix ix_tup (pv 0) pe_int (fun _ _ => rfl)) pa_nil)) (pa_cons (pe_call ih hr rfl gF F.kp bF .nil pass0 (pa_cons (pe_ix ix_tup (pv 0) pe_int (fun _ _ => rfl)) pa_nil)) pa_nil))))))) pss_nil)
        (pss_cons (ps_par (i := 1) (j := 2) (by rfl) scLF.nd rfl rfl (by decide) rfl rfl (pa_cons (pe_call ih hr rfl gF F.kp bF .nil pass0 (pa_cons (pe_ix ix_tup (pv 0) pe_int (fun _ _ => rfl)) pa_nil)) (pa_cons (pe_call ih hr rfl gF F.kp bF .nil pass0 (pa_cons (pe_ix ix_tup (pv 0) pe_int (fun _ _ => rfl)) pa_nil)) pa_nil)) (by rfl))
        (pss_cons (ps_if (pt_cmpR op_eq (pe_ix ix_tup (pv 0) pe_int (fun _ _ => rfl)) pe_str (nomark _)) (pss_one (ps_ret (pe_make cp.mkr cp.ok r4 rfl cp.g cp.b .nil pass0 (pa_cons (pv 1) (pa_cons (pv 2) pa_nil))))) pss_nil)
        (pss_cons (ps_if (pt_cmpR op_eq (pe_ix ix_tup (pv 0) pe_int (fun _ _ => rfl)) pe_str (nomark _)) (pss_one (ps_ret (pe_make cl.mkr cl.ok r4 rfl cl.g cl.b .nil pass0 (pa_cons (pv 1) (pa_cons (pv 2) pa_nil))))) pss_nil)
        (pss_one (ps_ret (pe_ifExp (pt_cmpR op_eq (pe_ix ix_tup (pv 0) pe_int (fun _ _ => rfl)) pe_str (nomark _)) (pe_make cm.mkr cm.ok r4 rfl cm.g cm.b .nil pass0 (pa_cons (pv 1) (pa_cons (pv 2) pa_nil))) (pe_make cs.mkr cs.ok r4 rfl cs.g cs.b .nil pass0 (pa_cons (pv 1) (pa_cons (pv 2) pa_nil)))))))))))), ?_⟩
      cases g with
      | num k =>
        obtain ⟨a, rfl, hs⟩ := tp
        walk_at "rd"
        refine Rd.ixT hs rfl ?_
        walk_at "rd"
        refine ifD rfl ?_
        walk_at "rd"
        refine Rd.ixT hs rfl ?_
        walk_at "rd"
        exact mkNum og q
      | ref wh x =>
        obtain ⟨a, rfl, hs⟩ := tp
        obtain ⟨hw, nx⟩ := og
        have hw : wh = 0 ∨ wh = 1 ∨ wh = 2 := by omega
        rcases hw with rfl | rfl | rfl
        · walk_at "rd"
          refine Rd.ixT hs rfl ?_
          walk_at "rd"
          refine ifN (by decide) ?_
          walk_at "rd"
          refine Rd.ixT hs rfl ?_
          walk_at "rd"
          refine ⟨Rd.small (by show 3 ≤ 100000; decide), fun p3 n3 => ?_⟩
          have s3 := same_new (o := HO.tup ([V.str "here", V.str "up", V.str "down"])) n3
          have t3 := upd_same (H := H) (a := p3) (o := HO.tup ([V.str "here", V.str "up", V.str "down"]))
          generalize upd H p3 (HO.tup ([V.str "here", V.str "up", V.str "down"])) = H1 at s3 t3 ⊢
          walk_at "rd"
          refine ⟨p3, _, rfl, .inr (SqT.of t3), rfl, rfl, ?_⟩
          rw [if_neg (by decide)]
          refine ⟨_, rfl, ?_⟩
          rw [show inV (V.str (refWhere 0)) [V.str "here", V.str "up", V.str "down"] = true from by decide +kernel]
          refine iteT ?_
          walk_at "rd"
          have hs := hs.ext s3
          refine Rd.ixT hs rfl ?_
          walk_at "rd"
          refine ifD rfl ?_
          walk_at "rd"
          refine Rd.ixT hs rfl ?_
          walk_at "rd"
          exact mkRef nx fun v H' l z => q v H' l ⟨s3.trans z.same, z.at_, z.new.imp fun y e => ⟨e.1, s3.free e.2⟩, z.sq⟩
        · walk_at "rd"
          refine Rd.ixT hs rfl ?_
          walk_at "rd"
          refine ifN (by decide) ?_
          walk_at "rd"
          refine Rd.ixT hs rfl ?_
          walk_at "rd"
          refine ⟨Rd.small (by show 3 ≤ 100000; decide), fun p3 n3 => ?_⟩
          have s3 := same_new (o := HO.tup ([V.str "here", V.str "up", V.str "down"])) n3
          have t3 := upd_same (H := H) (a := p3) (o := HO.tup ([V.str "here", V.str "up", V.str "down"]))
          generalize upd H p3 (HO.tup ([V.str "here", V.str "up", V.str "down"])) = H1 at s3 t3 ⊢
          walk_at "rd"
          refine ⟨p3, _, rfl, .inr (SqT.of t3), rfl, rfl, ?_⟩
          rw [if_neg (by decide)]
          refine ⟨_, rfl, ?_⟩
          rw [show inV (V.str (refWhere 1)) [V.str "here", V.str "up", V.str "down"] = true from by decide +kernel]
          refine iteT ?_
          walk_at "rd"
          have hs := hs.ext s3
          refine Rd.ixT hs rfl ?_
          walk_at "rd"
          refine ifN (by decide) ?_
          walk_at "rd"
          refine Rd.ixT hs rfl ?_
          walk_at "rd"
          refine ifD rfl ?_
          walk_at "rd"
          refine Rd.ixT hs rfl ?_
          walk_at "rd"
          exact mkRef nx fun v H' l z => q v H' l ⟨s3.trans z.same, z.at_, z.new.imp fun y e => ⟨e.1, s3.free e.2⟩, z.sq⟩
        · walk_at "rd"
          refine Rd.ixT hs rfl ?_
          walk_at "rd"
          refine ifN (by decide) ?_
          walk_at "rd"
          refine Rd.ixT hs rfl ?_
          walk_at "rd"
          refine ⟨Rd.small (by show 3 ≤ 100000; decide), fun p3 n3 => ?_⟩
          have s3 := same_new (o := HO.tup ([V.str "here", V.str "up", V.str "down"])) n3
          have t3 := upd_same (H := H) (a := p3) (o := HO.tup ([V.str "here", V.str "up", V.str "down"]))
          generalize upd H p3 (HO.tup ([V.str "here", V.str "up", V.str "down"])) = H1 at s3 t3 ⊢
          walk_at "rd"
          refine ⟨p3, _, rfl, .inr (SqT.of t3), rfl, rfl, ?_⟩
          rw [if_neg (by decide)]
          refine ⟨_, rfl, ?_⟩
          rw [show inV (V.str (refWhere 2)) [V.str "here", V.str "up", V.str "down"] = true from by decide +kernel]
          refine iteT ?_
          walk_at "rd"
          have hs := hs.ext s3
          refine Rd.ixT hs rfl ?_
          walk_at "rd"
          refine ifN (by decide) ?_
          walk_at "rd"
          refine Rd.ixT hs rfl ?_
          walk_at "rd"
          refine ifN (by decide) ?_
          walk_at "rd"
          refine Rd.ixT hs rfl ?_
          walk_at "rd"
          exact mkRef nx fun v H' l z => q v H' l ⟨s3.trans z.same, z.at_, z.new.imp fun y e => ⟨e.1, s3.free e.2⟩, z.sq⟩
      | pair o g1 g2 =>
        obtain ⟨a, v1, v2, rfl, hs, t1, t2⟩ := tp
        obtain ⟨ho, o1, o2⟩ := og
        obtain ⟨fit1, fit2⟩ := fit.pair
        have ht : max g1.ht g2.ht + 1 ≤ n + 1 := ht
        have ho : o = 0 ∨ o = 1 ∨ o = 2 ∨ o = 3 := by omega
        rcases ho with rfl | rfl | rfl | rfl
        · walk_at "rd"
          refine Rd.ixT hs rfl ?_
          walk_at "rd"
          refine ifN (by decide) ?_
          walk_at "rd"
          refine Rd.ixT hs rfl ?_
          walk_at "rd"
          refine ⟨Rd.small (by show 3 ≤ 100000; decide), fun p3 n3 => ?_⟩
          have s3 := same_new (o := HO.tup ([V.str "here", V.str "up", V.str "down"])) n3
          have t3 := upd_same (H := H) (a := p3) (o := HO.tup ([V.str "here", V.str "up", V.str "down"]))
          generalize upd H p3 (HO.tup ([V.str "here", V.str "up", V.str "down"])) = H1 at s3 t3 ⊢
          walk_at "rd"
          refine ⟨p3, _, rfl, .inr (SqT.of t3), rfl, rfl, ?_⟩
          rw [if_neg (by decide)]
          refine ⟨_, rfl, ?_⟩
          rw [show inV (V.str (pairWord 0)) [V.str "here", V.str "up", V.str "down"] = false from by decide +kernel]
          refine iteF ?_
          walk_at "rd"
          have hs := hs.ext s3
          refine Rd.ixT hs rfl ?_
          walk_at "rd"
          refine ifN (by decide) ?_
          walk_at "rd"
          refine Rd.ixT hs rfl ?_
          walk_at "rd"
          refine ⟨g1, _, rfl, t1.kp (kp_same s3), o1, by omega, fit1, fun w1 X1 m1 z1 => ?_⟩
          walk_at "rd"
          have hs := hs.ext z1.same
          refine Rd.ixT hs rfl ?_
          walk_at "rd"
          refine ⟨g2, _, rfl, t2.kp (kp_same (s3.trans z1.same)), o2, by omega, fit2, fun w2 X2 m2 z2 => ?_⟩
          walk_at "rd"
          have hs := hs.ext z2.same
          refine ⟨w1, w2, rfl, ?_⟩
          walk_at "rd"
          refine Rd.ixT hs rfl ?_
          walk_at "rd"
          refine ifD rfl ?_
          walk_at "rd"
          have sA := s3.trans (z1.same.trans z2.same)
          exact mkPair (z1.at_.kp (kp_same z2.same)) z2.at_ fit.1 fit.2 fun v H' z => q v H' _ ⟨sA.trans z.same, z.at_, z.new.imp fun y e => ⟨e.1, sA.free e.2⟩, z.sq⟩
        · walk_at "rd"
          refine Rd.ixT hs rfl ?_
          walk_at "rd"
          refine ifN (by decide) ?_
          walk_at "rd"
          refine Rd.ixT hs rfl ?_
          walk_at "rd"
          refine ⟨Rd.small (by show 3 ≤ 100000; decide), fun p3 n3 => ?_⟩
          have s3 := same_new (o := HO.tup ([V.str "here", V.str "up", V.str "down"])) n3
          have t3 := upd_same (H := H) (a := p3) (o := HO.tup ([V.str "here", V.str "up", V.str "down"]))
          generalize upd H p3 (HO.tup ([V.str "here", V.str "up", V.str "down"])) = H1 at s3 t3 ⊢
          walk_at "rd"
          refine ⟨p3, _, rfl, .inr (SqT.of t3), rfl, rfl, ?_⟩
          rw [if_neg (by decide)]
          refine ⟨_, rfl, ?_⟩
          rw [show inV (V.str (pairWord 1)) [V.str "here", V.str "up", V.str "down"] = false from by decide +kernel]
          refine iteF ?_
          walk_at "rd"
          have hs := hs.ext s3
          refine Rd.ixT hs rfl ?_
          walk_at "rd"
          refine ifN (by decide) ?_
          walk_at "rd"
          refine Rd.ixT hs rfl ?_
          walk_at "rd"
          refine ⟨g1, _, rfl, t1.kp (kp_same s3), o1, by omega, fit1, fun w1 X1 m1 z1 => ?_⟩
          walk_at "rd"
          have hs := hs.ext z1.same
          refine Rd.ixT hs rfl ?_
          walk_at "rd"
          refine ⟨g2, _, rfl, t2.kp (kp_same (s3.trans z1.same)), o2, by omega, fit2, fun w2 X2 m2 z2 => ?_⟩
          walk_at "rd"
          have hs := hs.ext z2.same
          refine ⟨w1, w2, rfl, ?_⟩
          walk_at "rd"
          refine Rd.ixT hs rfl ?_
          walk_at "rd"
          refine ifN (by decide) ?_
          walk_at "rd"
          refine Rd.ixT hs rfl ?_
          walk_at "rd"
          refine ifD rfl ?_
          walk_at "rd"
          have sA := s3.trans (z1.same.trans z2.same)
          exact mkPair (z1.at_.kp (kp_same z2.same)) z2.at_ fit.1 fit.2 fun v H' z => q v H' _ ⟨sA.trans z.same, z.at_, z.new.imp fun y e => ⟨e.1, sA.free e.2⟩, z.sq⟩
        · walk_at "rd"
          refine Rd.ixT hs rfl ?_
          walk_at "rd"
          refine ifN (by decide) ?_
          walk_at "rd"
          refine Rd.ixT hs rfl ?_
          walk_at "rd"
          refine ⟨Rd.small (by show 3 ≤ 100000; decide), fun p3 n3 => ?_⟩
          have s3 := same_new (o := HO.tup ([V.str "here", V.str "up", V.str "down"])) n3
          have t3 := upd_same (H := H) (a := p3) (o := HO.tup ([V.str "here", V.str "up", V.str "down"]))
          generalize upd H p3 (HO.tup ([V.str "here", V.str "up", V.str "down"])) = H1 at s3 t3 ⊢
          walk_at "rd"
          refine ⟨p3, _, rfl, .inr (SqT.of t3), rfl, rfl, ?_⟩
          rw [if_neg (by decide)]
          refine ⟨_, rfl, ?_⟩
          rw [show inV (V.str (pairWord 2)) [V.str "here", V.str "up", V.str "down"] = false from by decide +kernel]
          refine iteF ?_
          walk_at "rd"
          have hs := hs.ext s3
          refine Rd.ixT hs rfl ?_
          walk_at "rd"
          refine ifN (by decide) ?_
          walk_at "rd"
          refine Rd.ixT hs rfl ?_
          walk_at "rd"
          refine ⟨g1, _, rfl, t1.kp (kp_same s3), o1, by omega, fit1, fun w1 X1 m1 z1 => ?_⟩
          walk_at "rd"
          have hs := hs.ext z1.same
          refine Rd.ixT hs rfl ?_
          walk_at "rd"
          refine ⟨g2, _, rfl, t2.kp (kp_same (s3.trans z1.same)), o2, by omega, fit2, fun w2 X2 m2 z2 => ?_⟩
          walk_at "rd"
          have hs := hs.ext z2.same
          refine ⟨w1, w2, rfl, ?_⟩
          walk_at "rd"
          refine Rd.ixT hs rfl ?_
          walk_at "rd"
          refine ifN (by decide) ?_
          walk_at "rd"
          refine Rd.ixT hs rfl ?_
          walk_at "rd"
          refine ifN (by decide) ?_
          walk_at "rd"
          refine Rd.ixT hs rfl ?_
          walk_at "rd"
          refine ifD rfl ?_
          walk_at "rd"
          have sA := s3.trans (z1.same.trans z2.same)
          exact mkPair (z1.at_.kp (kp_same z2.same)) z2.at_ fit.1 fit.2 fun v H' z => q v H' _ ⟨sA.trans z.same, z.at_, z.new.imp fun y e => ⟨e.1, sA.free e.2⟩, z.sq⟩
        · walk_at "rd"
          refine Rd.ixT hs rfl ?_
          walk_at "rd"
          refine ifN (by decide) ?_
          walk_at "rd"
          refine Rd.ixT hs rfl ?_
          walk_at "rd"
          refine ⟨Rd.small (by show 3 ≤ 100000; decide), fun p3 n3 => ?_⟩
          have s3 := same_new (o := HO.tup ([V.str "here", V.str "up", V.str "down"])) n3
          have t3 := upd_same (H := H) (a := p3) (o := HO.tup ([V.str "here", V.str "up", V.str "down"]))
          generalize upd H p3 (HO.tup ([V.str "here", V.str "up", V.str "down"])) = H1 at s3 t3 ⊢
          walk_at "rd"
          refine ⟨p3, _, rfl, .inr (SqT.of t3), rfl, rfl, ?_⟩
          rw [if_neg (by decide)]
          refine ⟨_, rfl, ?_⟩
          rw [show inV (V.str (pairWord 3)) [V.str "here", V.str "up", V.str "down"] = false from by decide +kernel]
          refine iteF ?_
          walk_at "rd"
          have hs := hs.ext s3
          refine Rd.ixT hs rfl ?_
          walk_at "rd"
          refine ifN (by decide) ?_
          walk_at "rd"
          refine Rd.ixT hs rfl ?_
          walk_at "rd"
          refine ⟨g1, _, rfl, t1.kp (kp_same s3), o1, by omega, fit1, fun w1 X1 m1 z1 => ?_⟩
          walk_at "rd"
          have hs := hs.ext z1.same
          refine Rd.ixT hs rfl ?_
          walk_at "rd"
          refine ⟨g2, _, rfl, t2.kp (kp_same (s3.trans z1.same)), o2, by omega, fit2, fun w2 X2 m2 z2 => ?_⟩
          walk_at "rd"
          have hs := hs.ext z2.same
          refine ⟨w1, w2, rfl, ?_⟩
          walk_at "rd"
          refine Rd.ixT hs rfl ?_
          walk_at "rd"
          refine ifN (by decide) ?_
          walk_at "rd"
          refine Rd.ixT hs rfl ?_
          walk_at "rd"
          refine ifN (by decide) ?_
          walk_at "rd"
          refine Rd.ixT hs rfl ?_
          walk_at "rd"
          refine ifN (by decide) ?_
          walk_at "rd"
          have sA := s3.trans (z1.same.trans z2.same)
          exact mkPair (z1.at_.kp (kp_same z2.same)) z2.at_ fit.1 fit.2 fun v H' z => q v H' _ ⟨sA.trans z.same, z.at_, z.new.imp fun y e => ⟨e.1, sA.free e.2⟩, z.sq⟩
      | cho g1 s g2 g3 =>
        obtain ⟨a, v1, t, v2, v3, rfl, hs, t1, ts, t2, t3'⟩ := tp
        obtain ⟨asc, o1, o2, o3⟩ := og
        obtain ⟨fit1, fit2, fit3⟩ := fit.cho
        have ht : max g1.ht (max g2.ht g3.ht) + 1 ≤ n + 1 := ht
        walk_at "rd"
        refine Rd.ixT hs rfl ?_
        walk_at "rd"
        refine ifN (by decide) ?_
        walk_at "rd"
        refine Rd.ixT hs rfl ?_
        walk_at "rd"
        refine ⟨Rd.small (by show 3 ≤ 100000; decide), fun p3 n3 => ?_⟩
        have s3 := same_new (o := HO.tup ([V.str "here", V.str "up", V.str "down"])) n3
        have t3 := upd_same (H := H) (a := p3) (o := HO.tup ([V.str "here", V.str "up", V.str "down"]))
        generalize upd H p3 (HO.tup ([V.str "here", V.str "up", V.str "down"])) = H1 at s3 t3 ⊢
        walk_at "rd"
        refine ⟨p3, _, rfl, .inr (SqT.of t3), rfl, rfl, ?_⟩
        rw [if_neg (by decide)]
        refine ⟨_, rfl, ?_⟩
        rw [show inV (V.str "choice") [V.str "here", V.str "up", V.str "down"] = false from by decide +kernel]
        refine iteF ?_
        walk_at "rd"
        have hs := hs.ext s3
        refine Rd.ixT hs rfl ?_
        walk_at "rd"
        refine ifD rfl ?_
        walk_at "rd"
        refine Rd.ixT hs rfl ?_
        walk_at "rd"
        refine ⟨g1, _, rfl, t1.kp (kp_same s3), o1, by omega, fit1, fun w1 X1 m1 z1 => ?_⟩
        walk_at "rd"
        have hs := hs.ext z1.same
        refine Rd.ixT hs rfl ?_
        walk_at "rd"
        refine Rd.ixT hs rfl ?_
        walk_at "rd"
        refine ⟨g2, _, rfl, t2.kp (kp_same (s3.trans z1.same)), o2, by omega, fit2, fun w2 X2 m2 z2 => ?_⟩
        walk_at "rd"
        have hs := hs.ext z2.same
        refine Rd.ixT hs rfl ?_
        walk_at "rd"
        refine ⟨g3, _, rfl, t3'.kp (kp_same (s3.trans (z1.same.trans z2.same))), o3, by omega, fit3, fun w3 X3 m3 z3 => ?_⟩
        walk_at "rd"
        have sA := s3.trans (z1.same.trans (z2.same.trans z3.same))
        exact mkCho (z1.at_.kp (kp_same (z2.same.trans z3.same))) (z2.at_.kp (kp_same z3.same)) z3.at_ (.inr (ts.ext sA)) asc fit.1 fit.2 fun v H' z => q v H' _ ⟨sA.trans z.same, z.at_, z.new.imp fun y e => ⟨e.1, sA.free e.2⟩, z.sq⟩
end
end K17

namespace K17
open PySem PySem.Spec PyProof.Rows L2
/-- what a comprehension with a test asks -/
def LcF (J : It) (i : Nat) (ii : List Nat) (tt : TT) (te : TE) (σ : L2.St) (H1 : Hp) (Q : VK) : Prop :=
  ∀ D, H1 D = none → ∃ W : Nat → Nat → Hp → Prop, (∃ m, W 0 m (upd H1 D (.lst []))) ∧ ∀ k m H, W k m H →
      (J.stop k H ∧ Q (.ref D) H) ∨ (J.go k H ∧ ∃ Nx : Hp → Prop, (∀ H', Nx H' → ∃ m', m' < m ∧ W (k + 1) m' H') ∧ ∀ x H', J.yld k H x H' → gName i x (wipe σ ii) H' fun σ2 H2 => wipe σ2 ii = wipe σ ii ∧ tt σ2 H2 fun b H3 =>
        if b = true then te σ2 H3 (fun y H4 => ∃ acc, H4 D = some (.lst acc) ∧ acc.length < sizeLine ∧ Nx (upd H4 D (.lst (acc ++ [y])))) else Nx H3)
theorem lcF1 {ta : TA} {tt : TT} {te : TE} {i : Nat} {ii : List Nat} {σ : L2.St} {H : Hp} {Q : VK} (h : ta σ H fun vs H1 => ∃ j, vs = [.int j] ∧ -2 ^ 62 ≤ j ∧ j < 2 ^ 62 ∧ LcF (Itr 0 j.toNat) i ii tt te σ H1 Q) : tLc (iRng1 ta) (gName i) tt te ii σ H Q := h
theorem lcGenF {lo : Int} {n i : Nat} {ii : List Nat} {tt : TT} {te : TE} {σ : L2.St} {H1 : Hp} {Q : VK} (J Jm : Nat → List V → Hp → Prop) (hi : ii = [i]) (hl : n ≤ 100000) (j0 : J 0 [] H1)
    (st : ∀ k acc (H : Hp) D o, H1 D = none → J k acc H → J k acc (upd H D o))
    (ht : ∀ k acc (H2 : Hp) (QB : Bool → Hp → Prop), k < n → J k acc H2 → (∀ b (H3 : Hp), (∀ b o, H1 b = none → H2 b = some o → H3 b = some o) → (b = false → J (k + 1) acc H3) → (b = true → Jm k acc H3) → QB b H3) → tt ((wipe σ [i]).set i (some (.int (lo + (k : Int))))) H2 QB)
    (he : ∀ k acc (H2 : Hp) (Q' : VK), k < n → Jm k acc H2 → (∀ v (H3 : Hp), (∀ b o, H1 b = none → H2 b = some o → H3 b = some o) → J (k + 1) (acc ++ [v]) H3 → Q' v H3) → te ((wipe σ [i]).set i (some (.int (lo + (k : Int))))) H2 Q')
    (q : ∀ D acc (H2 : Hp), H1 D = none → J n acc H2 → H2 D = some (.lst acc) → Q (.ref D) H2) : LcF (Itr lo n) i ii tt te σ H1 Q := by
  subst hi
  intro D hD
  refine lc_it walk_range (fun k H2 => ∃ acc : List V, acc.length ≤ k ∧ J k acc H2 ∧ H2 D = some (.lst acc)) ⟨[], Nat.le_refl _, st 0 [] H1 D _ hD j0, upd_same⟩ (fun _ _ _ _ => trivial) (fun k x H H' hk p hy => ?_) fun H2 p => ?_
  · obtain ⟨rfl, rfl⟩ := hy
    obtain ⟨acc, al, j, c⟩ := p
    refine ⟨by show List.set (List.set (List.set σ i none) i _) i none = List.set σ i none; rw [List.set_set, List.set_set], ?_⟩
    refine ht k acc H' _ hk j fun b H3 kp f t => ?_
    cases b with
    | false => exact iteF ⟨acc, Nat.le_succ_of_le al, f rfl, kp D _ hD c⟩
    | true =>
      refine iteT ?_
      refine he k acc H3 _ hk (t rfl) fun v H4 kp2 j4 => ⟨acc, kp2 D _ hD (kp D _ hD c), ?_, acc ++ [v], by rw [List.length_append]; simp; omega, st _ _ _ D _ hD j4, upd_same⟩
      exact Nat.lt_of_le_of_lt al (Nat.lt_of_lt_of_le (show k < 100001 by omega) (by decide))
  · obtain ⟨acc, al, j, c⟩ := p
    exact q D acc H2 hD j c
local macro_rules | `(tactic| walk_at "rd1") => `(tactic| first
  | (with_reducible refine Rd.seq ?_) | (with_reducible refine Rd.asg ?_) | (with_reducible refine Rd.ret ?_) | (with_reducible refine Rd.nxt ?_) | (with_reducible refine Rd.ifS ?_)
  | (with_reducible refine Rd.op ?_) | (with_reducible refine Rd.un ?_) | (with_reducible refine Rd.cb ?_) | (with_reducible refine Rd.cons ?_) | (with_reducible refine Rd.nil ?_) | (with_reducible refine Rd.ifx ?_)
  | (with_reducible refine Rd.test ?_) | (with_reducible refine Rd.testB ?_) | (with_reducible refine Rd.notT ?_) | (with_reducible refine Rd.isB ?_) | (with_reducible refine Rd.lst ?_) | (with_reducible refine Rd.tup ?_)
  | (with_reducible refine Rd.andV ?_) | (with_reducible refine Rd.orV ?_) | (with_reducible refine Rd.notV ?_) | (with_reducible refine Rd.andT ?_) | (with_reducible refine Rd.orT ?_) | (with_reducible refine Rd.chain ?_)
  | (with_reducible refine Rd.m0 ?_) | (with_reducible refine Rd.m1 ?_) | (with_reducible refine Rd.bm0 ?_) | (with_reducible refine Rd.bm ?_) | (with_reducible refine Rd.sl ?_) | (with_reducible refine Rd.part ?_) | (with_reducible refine Rd.part0 ?_) | (with_reducible refine Rd.isI ?_)
  | (with_reducible refine Rd.fmt ?_) | (with_reducible refine Rd.fmtRD ?_) | (with_reducible refine Rd.meth ?_) | (with_reducible refine makeG ?_) | (with_reducible refine Rd.prop ?_) | (with_reducible refine Rd.js ?_) | (with_reducible refine Rd.js0 ?_) | (with_reducible refine Rd.par ?_) | (with_reducible refine Rd.star ?_) | (with_reducible refine lcR1 ?_) | (with_reducible refine lcR2 ?_) | (with_reducible refine Rd.fld ?_) | (with_reducible refine Rd.sfld ?_) | (with_reducible refine Rd.expr ?_) | (with_reducible refine L2.isNR ?_) | (with_reducible refine L2.methI ?_) | (with_reducible refine Rd.forZ ?_)
  | (with_reducible refine Rd.forEA ?_) | (with_reducible refine Rd.forR1 ?_) | (with_reducible refine Rd.forR2 ?_) | (with_reducible refine Rd.forL ?_) | (with_reducible refine Rd.forT ?_)
  | (with_reducible refine Rd.call ?_) | (with_reducible refine Rd.asgG ?_) | (with_reducible refine Rd.gNm ?_) | (with_reducible refine Rd.gSb ?_) | (with_reducible refine Rd.gC ?_) | (with_reducible refine Rd.gN ?_)
  | ((with_reducible refine' Rd.var ?hv ?_); (case hv => exact rfl)) | (with_reducible refine Rd.c ?_) | (with_reducible refine Rd.i0 ?_) | (with_reducible refine Rd.neg ?_)
  | ((with_reducible refine' Rd.iC ?hc ?_); (case hc => first | (show (0 : Int) < _; decide) | exact ⟨by decide, by decide⟩ | exact ⟨by decide, by decide, by decide⟩ | exact .inl ⟨by decide, by decide⟩ | exact .inr ⟨by decide, by decide⟩ | exact .inl ⟨by omega, by omega⟩ | (show (0 : Int) < _; omega) | exact ⟨by omega, by omega⟩))
  | ((with_reducible refine' Rd.eqS ?hc ?_); (case hc => rfl)) | ((with_reducible refine' Rd.neS ?hc ?_); (case hc => rfl)))
local macro_rules | `(tactic| walk_at "rd") => `(tactic| repeat walk_at "rd1")
theorem pot_same {p : Addr} {H H' : Hp} (h : PotAt H p) (s : Same H H') : PotAt H' p := by
  obtain ⟨x, y, h, z⟩ := h
  exact ⟨x, y, s _ _ h, z⟩
theorem butS' {p : Addr} {H H' : Hp} (s : Same H H') : But p H H' := fun b o _ e => s b o e
/-! ### drawn leaves -/
structure Spots (H : Hp) (p : Addr) (a : Addr) (x : List Str) : Prop where
  at_ : H a = some (.lst (x.map V.str))
  ne : a ≠ p
  nam : ∀ y ∈ x, Nam y ∧ Nam (y ++ "z")
  few : x.length < 1000
theorem Spots.but {H H' : Hp} {p a : Addr} {x : List Str} (h : Spots H p a x) (b : But p H H') : Spots H' p a x := ⟨b _ _ h.ne h.at_, h.ne, h.nam, h.few⟩
structure Spot3 (K : PySem.W.Frag) (H : Hp) (p s a0 a1 a2 : Addr) (x0 x1 x2 : List Str) : Prop where
  at_ : SqT K H s [.ref a0, .ref a1, .ref a2]
  s0 : Spots H p a0 x0
  s1 : Spots H p a1 x1
  s2 : Spots H p a2 x2
theorem Spot3.but {K : PySem.W.Frag} {H H' : Hp} {p s a0 a1 a2 : Addr} {x0 x1 x2 : List Str} (h : Spot3 K H p s a0 a1 a2 x0 x1 x2) (pt : PotAt H p) (b : But p H H') : Spot3 K H' p s a0 a1 a2 x0 x1 x2 :=
  ⟨sqt_kp (kp_pot pt b) h.at_, h.s0.but b, h.s1.but b, h.s2.but b⟩
/-- the names may be one letter longer -/
def Nz : Fm → Prop
  | .num _ => True
  | .ref _ x => Nam (x ++ "z")
  | .pair _ l r => Nz l ∧ Nz r
  | .cho t _ a b => Nz t ∧ Nz a ∧ Nz b
/-- a drawn tuple -/
structure Drn (K : PySem.W.Frag) (H H' : Hp) (p : Addr) (f : Fm) (v : V) : Prop where
  pot : PotAt H' p
  but : But p H H'
  at_ : TpAt K H' f v
  ok : Okf f
  nz : Nz f
def spLeaf (K : PySem.W.Frag) : Sp := fun vs H Q _ => ∃ (p s a0 a1 a2 : Addr) (m : Nat) (x0 x1 x2 : List Str), vs = [.ref p, .int (m : Nat), .ref s] ∧ PotAt H p ∧ 0 < m ∧ m ≤ 9 ∧ Spot3 K H p s a0 a1 a2 x0 x1 x2 ∧ ∀ f v H', Drn K H H' p f v → f.q.1 ≤ 1 → Q v H'
abbrev sLeaf : Stmt := topA i_law_leaf
section
variable {P : Program} {w : World} {K : PySem.W.Frag} {mg : Str → Option Value} {base : Heap} {f fD fP : Addr} {fd fdD fdP : FuncData}
theorem scLeaf : FnScope ["_law_pot_here", "_law_modulus", "_law_spots", "_law_way"] ["_law_pot_here", "_law_modulus", "_law_spots"] (defScope sLeaf) := ⟨rfl, rfl, rfl, by decide +kernel, rfl, by decide +kernel, by decide +kernel⟩
theorem ok_leaf (F : FnP K "_law_leaf" sLeaf f fd) (FD : FnP K "_law_draw" sDraw fD fdD) (GD : FnOk P w K mg base CX0 1 fD fdD ["_law_pot_here", "_law_many"] spDraw) (gD : mg "_law_draw" = some (.ref fD)) (FP : FnP K "_law_pick" sPick fP fdP) (GP : FnOk P w K mg base CX0 2 fP fdP ["_law_pot_here", "_law_some"] (spPick K)) (gP : mg "_law_pick" = some (.ref fP)) :
    FnOk P w K mg base CX0 3 f fd ["_law_pot_here", "_law_modulus", "_law_spots"] (spLeaf K) := by
  have bD : Binds K fdD ["_law_pot_here", "_law_many"] [] := FD.bindsN fun _ _ _ _ _ _ us hl => match us, hl with | [_, _], _ => rfl
  have bP : Binds K fdP ["_law_pot_here", "_law_some"] [] := FP.bindsN fun _ _ _ _ _ _ us hl => match us, hl with | [_, _], _ => rfl
  refine F.ok scLeaf (fun vs H Q E h => ?_) (fun cdv A outer s H vs Q E hr h => ?_)
  · obtain ⟨p, s, a0, a1, a2, m, x0, x1, x2, rfl, _⟩ := h
    rfl
  · obtain ⟨p, s, a0, a1, a2, m, x0, x1, x2, rfl, pt, m0, m9, sp, q⟩ := h
    have r1 := hr.mono (show 1 ≤ 2 by decide)
    refine ⟨_, PSs.nox (pss_cons (ps_set (i := 3) scLeaf.nd rfl (Or.inl rfl) (pe_call GD r1 rfl gD FD.kp bD .nil pass0 (pa_cons (pv 0) (pa_cons pe_int pa_nil))))
      (pss_cons (ps_if (PW.pt (pw_and (pt_cmpR op_in_seq (pv 3) (pe_tup (pa_cons pe_int (pa_cons pe_int pa_nil))) rfl) (pw_and1 (pt_cmpR (op_neD hr.units) (pe_ix ix_tup (pv 2) pe_int (fun _ _ => rfl)) (pe_lst pa_nil) (nomark _)))))
        (pss_one (ps_ret (pe_tup (pa_cons pe_str (pa_cons (pe_call GP hr rfl gP FP.kp bP .nil pass0 (pa_cons (pv 0) (pa_cons (pe_ix ix_tup (pv 2) pe_int (fun _ _ => rfl)) pa_nil))) pa_nil))))) pss_nil)
      (pss_cons (ps_if (PW.pt (pw_and (pt_cmpR op_in_seq (pv 3) (pe_tup (pa_cons pe_int (pa_cons pe_int pa_nil))) rfl) (pw_and1 (pt_cmpR (op_neD hr.units) (pe_ix ix_tup (pv 2) pe_int (fun _ _ => rfl)) (pe_lst pa_nil) (nomark _)))))
        (pss_one (ps_ret (pe_tup (pa_cons pe_str (pa_cons (pe_call GP hr rfl gP FP.kp bP .nil pass0 (pa_cons (pv 0) (pa_cons (pe_ix ix_tup (pv 2) pe_int (fun _ _ => rfl)) pa_nil))) pa_nil))))) pss_nil)
      (pss_cons (ps_if (PW.pt (pw_and (pt_cmpR op_in_seq (pv 3) (pe_tup (pa_cons pe_int (pa_cons pe_int pa_nil))) rfl) (pw_and1 (pt_cmpR (op_neD hr.units) (pe_ix ix_tup (pv 2) pe_int (fun _ _ => rfl)) (pe_lst pa_nil) (nomark _)))))
        (pss_one (ps_ret (pe_tup (pa_cons pe_str (pa_cons (pe_call GP hr rfl gP FP.kp bP .nil pass0 (pa_cons (pv 0) (pa_cons (pe_ix ix_tup (pv 2) pe_int (fun _ _ => rfl)) pa_nil))) pa_nil))))) pss_nil)
      (pss_one (ps_ret (pe_tup (pa_cons pe_str (pa_cons (pe_call GD r1 rfl gD FD.kp bD .nil pass0 (pa_cons (pv 0) (pa_cons (pv 1) pa_nil))) pa_nil))))))))), ?_⟩
    walk_at "rd"
    refine ⟨p, _, rfl, pt, by decide, by decide, fun d H1 d0 dl p1 b1 => ?_⟩
    have sp1 := sp.but pt b1
    walk_at "rd"
    refine ⟨Rd.small (by show 2 ≤ 100000; decide), fun ta0 na0 => ?_⟩
    have sa0 := same_new (o := HO.tup ([V.int 1, V.int 2])) na0
    have ua0 := upd_same (H := H1) (a := ta0) (o := HO.tup ([V.int 1, V.int 2]))
    generalize upd H1 ta0 (HO.tup ([V.int 1, V.int 2])) = Ha0 at sa0 ua0 ⊢
    walk_at "rd"
    refine ⟨_, _, rfl, .inr (SqT.of ua0), rfl, rfl, ?_⟩
    rw [if_neg (by decide)]
    refine ⟨_, rfl, ?_⟩
    have pa0 := pot_same p1 sa0
    have ba0 := b1.trans (butS' (p := p) sa0)
    have xa0 := sp1.but p1 (butS' sa0)
    refine Rd.ifB (fun z => ?_) (fun z => ?_)
    · walk_at "rd"
      refine Rd.ixT xa0.at_ rfl ?_
      walk_at "rd"
      refine ⟨Rd.small (by show 0 ≤ 100000; decide), fun tb0 nb0 => ?_⟩
      have sb0 := same_new (o := HO.lst ([])) nb0
      have ub0 := upd_same (H := Ha0) (a := tb0) (o := HO.lst ([]))
      generalize upd Ha0 tb0 (HO.lst ([])) = Hb0 at sb0 ub0 ⊢
      walk_at "rd"
      have pb0 := pot_same pa0 sb0
      have bb0 := ba0.trans (butS' (p := p) sb0)
      have xb0 := xa0.but pa0 (butS' sb0)
      refine ⟨_, _, .lst (SqL.of xb0.s0.at_) (dpa_strs _), .lst (SqL.of ub0) (dpa_strs []), shaped_lst (fun y hy => (xb0.s0.nam y hy).1.sok), shaped_lst (fun _ h => absurd h List.not_mem_nil), ?_⟩
      rw [eqv_lists]
      walk_at "rd"
      by_cases ne : x0 = []
      · rw [decide_eq_true ne]
        refine iteF ?_
        walk_at "rd"
        refine ⟨Rd.small (by show 2 ≤ 100000; decide), fun ta1 na1 => ?_⟩
        have sa1 := same_new (o := HO.tup ([V.int 3, V.int 4])) na1
        have ua1 := upd_same (H := Hb0) (a := ta1) (o := HO.tup ([V.int 3, V.int 4]))
        generalize upd Hb0 ta1 (HO.tup ([V.int 3, V.int 4])) = Ha1 at sa1 ua1 ⊢
        walk_at "rd"
        refine ⟨_, _, rfl, .inr (SqT.of ua1), rfl, rfl, ?_⟩
        rw [if_neg (by decide)]
        refine ⟨_, rfl, ?_⟩
        have pa1 := pot_same pb0 sa1
        have ba1 := bb0.trans (butS' (p := p) sa1)
        have xa1 := xb0.but pb0 (butS' sa1)
        refine Rd.ifB (fun z => ?_) (fun z => ?_)
        · walk_at "rd"
          refine Rd.ixT xa1.at_ rfl ?_
          walk_at "rd"
          refine ⟨Rd.small (by show 0 ≤ 100000; decide), fun tb1 nb1 => ?_⟩
          have sb1 := same_new (o := HO.lst ([])) nb1
          have ub1 := upd_same (H := Ha1) (a := tb1) (o := HO.lst ([]))
          generalize upd Ha1 tb1 (HO.lst ([])) = Hb1 at sb1 ub1 ⊢
          walk_at "rd"
          have pb1 := pot_same pa1 sb1
          have bb1 := ba1.trans (butS' (p := p) sb1)
          have xb1 := xa1.but pa1 (butS' sb1)
          refine ⟨_, _, .lst (SqL.of xb1.s1.at_) (dpa_strs _), .lst (SqL.of ub1) (dpa_strs []), shaped_lst (fun y hy => (xb1.s1.nam y hy).1.sok), shaped_lst (fun _ h => absurd h List.not_mem_nil), ?_⟩
          rw [eqv_lists]
          walk_at "rd"
          by_cases ne : x1 = []
          · rw [decide_eq_true ne]
            refine iteF ?_
            walk_at "rd"
            refine ⟨Rd.small (by show 2 ≤ 100000; decide), fun ta2 na2 => ?_⟩
            have sa2 := same_new (o := HO.tup ([V.int 5, V.int 6])) na2
            have ua2 := upd_same (H := Hb1) (a := ta2) (o := HO.tup ([V.int 5, V.int 6]))
            generalize upd Hb1 ta2 (HO.tup ([V.int 5, V.int 6])) = Ha2 at sa2 ua2 ⊢
            walk_at "rd"
            refine ⟨_, _, rfl, .inr (SqT.of ua2), rfl, rfl, ?_⟩
            rw [if_neg (by decide)]
            refine ⟨_, rfl, ?_⟩
            have pa2 := pot_same pb1 sa2
            have ba2 := bb1.trans (butS' (p := p) sa2)
            have xa2 := xb1.but pb1 (butS' sa2)
            refine Rd.ifB (fun z => ?_) (fun z => ?_)
            · walk_at "rd"
              refine Rd.ixT xa2.at_ rfl ?_
              walk_at "rd"
              refine ⟨Rd.small (by show 0 ≤ 100000; decide), fun tb2 nb2 => ?_⟩
              have sb2 := same_new (o := HO.lst ([])) nb2
              have ub2 := upd_same (H := Ha2) (a := tb2) (o := HO.lst ([]))
              generalize upd Ha2 tb2 (HO.lst ([])) = Hb2 at sb2 ub2 ⊢
              walk_at "rd"
              have pb2 := pot_same pa2 sb2
              have bb2 := ba2.trans (butS' (p := p) sb2)
              have xb2 := xa2.but pa2 (butS' sb2)
              refine ⟨_, _, .lst (SqL.of xb2.s2.at_) (dpa_strs _), .lst (SqL.of ub2) (dpa_strs []), shaped_lst (fun y hy => (xb2.s2.nam y hy).1.sok), shaped_lst (fun _ h => absurd h List.not_mem_nil), ?_⟩
              rw [eqv_lists]
              walk_at "rd"
              by_cases ne : x2 = []
              · rw [decide_eq_true ne]
                refine iteF ?_
                walk_at "rd"
                -- the number
                refine ⟨p, _, rfl, pb2, by omega, Int.lt_trans (show (m : Int) < 10 by omega) (by decide +kernel), fun d H2 d0 dl p2 b2 => ?_⟩
                obtain ⟨k, rfl⟩ := Int.eq_ofNat_of_zero_le d0
                walk_at "rd"
                refine ⟨Rd.small (by show 2 ≤ 100000; decide), fun r nr => ?_⟩
                have s9 := same_new (o := HO.tup [V.str "number", V.int (k : Nat)]) nr
                exact q (.num k) (.ref r) _ ⟨pot_same p2 s9, (bb2.trans b2).trans (butS' s9), ⟨r, rfl, SqT.of upd_same⟩, (by show k ≤ 8; omega), trivial⟩ (Nat.le_refl 1)
              · rw [decide_eq_false ne]
                refine iteT ?_
                walk_at "rd"
                refine Rd.ixT xb2.at_ rfl ?_
                walk_at "rd"
                refine ⟨p, a2, x2.map V.str, rfl, pb2, xb2.s2.at_, xb2.s2.ne, (by simpa using ne), (by rw [List.length_map]; exact Nat.lt_trans xb2.s2.few (by decide)), fun v H2 mv p2 b2 => ?_⟩
                obtain ⟨y, my, rfl⟩ := List.mem_map.mp mv
                walk_at "rd"
                refine ⟨Rd.small (by show 2 ≤ 100000; decide), fun r nr => ?_⟩
                have s9 := same_new (o := HO.tup [V.str "down", V.str y]) nr
                exact q (.ref 2 y) (.ref r) _ ⟨pot_same p2 s9, (bb2.trans b2).trans (butS' s9), ⟨r, rfl, SqT.of upd_same⟩, ⟨by decide, (xb2.s2.nam y my).1⟩, (xb2.s2.nam y my).2⟩ (Nat.le_refl 1)
            · refine iteF ?_
              walk_at "rd"
              -- the number
              refine ⟨p, _, rfl, pa2, by omega, Int.lt_trans (show (m : Int) < 10 by omega) (by decide +kernel), fun d H2 d0 dl p2 b2 => ?_⟩
              obtain ⟨k, rfl⟩ := Int.eq_ofNat_of_zero_le d0
              walk_at "rd"
              refine ⟨Rd.small (by show 2 ≤ 100000; decide), fun r nr => ?_⟩
              have s9 := same_new (o := HO.tup [V.str "number", V.int (k : Nat)]) nr
              exact q (.num k) (.ref r) _ ⟨pot_same p2 s9, (ba2.trans b2).trans (butS' s9), ⟨r, rfl, SqT.of upd_same⟩, (by show k ≤ 8; omega), trivial⟩ (Nat.le_refl 1)
          · rw [decide_eq_false ne]
            refine iteT ?_
            walk_at "rd"
            refine Rd.ixT xb1.at_ rfl ?_
            walk_at "rd"
            refine ⟨p, a1, x1.map V.str, rfl, pb1, xb1.s1.at_, xb1.s1.ne, (by simpa using ne), (by rw [List.length_map]; exact Nat.lt_trans xb1.s1.few (by decide)), fun v H2 mv p2 b2 => ?_⟩
            obtain ⟨y, my, rfl⟩ := List.mem_map.mp mv
            walk_at "rd"
            refine ⟨Rd.small (by show 2 ≤ 100000; decide), fun r nr => ?_⟩
            have s9 := same_new (o := HO.tup [V.str "up", V.str y]) nr
            exact q (.ref 1 y) (.ref r) _ ⟨pot_same p2 s9, (bb1.trans b2).trans (butS' s9), ⟨r, rfl, SqT.of upd_same⟩, ⟨by decide, (xb1.s1.nam y my).1⟩, (xb1.s1.nam y my).2⟩ (Nat.le_refl 1)
        · refine iteF ?_
          walk_at "rd"
          refine ⟨Rd.small (by show 2 ≤ 100000; decide), fun ta2 na2 => ?_⟩
          have sa2 := same_new (o := HO.tup ([V.int 5, V.int 6])) na2
          have ua2 := upd_same (H := Ha1) (a := ta2) (o := HO.tup ([V.int 5, V.int 6]))
          generalize upd Ha1 ta2 (HO.tup ([V.int 5, V.int 6])) = Ha2 at sa2 ua2 ⊢
          walk_at "rd"
          refine ⟨_, _, rfl, .inr (SqT.of ua2), rfl, rfl, ?_⟩
          rw [if_neg (by decide)]
          refine ⟨_, rfl, ?_⟩
          have pa2 := pot_same pa1 sa2
          have ba2 := ba1.trans (butS' (p := p) sa2)
          have xa2 := xa1.but pa1 (butS' sa2)
          refine Rd.ifB (fun z => ?_) (fun z => ?_)
          · walk_at "rd"
            refine Rd.ixT xa2.at_ rfl ?_
            walk_at "rd"
            refine ⟨Rd.small (by show 0 ≤ 100000; decide), fun tb2 nb2 => ?_⟩
            have sb2 := same_new (o := HO.lst ([])) nb2
            have ub2 := upd_same (H := Ha2) (a := tb2) (o := HO.lst ([]))
            generalize upd Ha2 tb2 (HO.lst ([])) = Hb2 at sb2 ub2 ⊢
            walk_at "rd"
            have pb2 := pot_same pa2 sb2
            have bb2 := ba2.trans (butS' (p := p) sb2)
            have xb2 := xa2.but pa2 (butS' sb2)
            refine ⟨_, _, .lst (SqL.of xb2.s2.at_) (dpa_strs _), .lst (SqL.of ub2) (dpa_strs []), shaped_lst (fun y hy => (xb2.s2.nam y hy).1.sok), shaped_lst (fun _ h => absurd h List.not_mem_nil), ?_⟩
            rw [eqv_lists]
            walk_at "rd"
            by_cases ne : x2 = []
            · rw [decide_eq_true ne]
              refine iteF ?_
              walk_at "rd"
              -- the number
              refine ⟨p, _, rfl, pb2, by omega, Int.lt_trans (show (m : Int) < 10 by omega) (by decide +kernel), fun d H2 d0 dl p2 b2 => ?_⟩
              obtain ⟨k, rfl⟩ := Int.eq_ofNat_of_zero_le d0
              walk_at "rd"
              refine ⟨Rd.small (by show 2 ≤ 100000; decide), fun r nr => ?_⟩
              have s9 := same_new (o := HO.tup [V.str "number", V.int (k : Nat)]) nr
              exact q (.num k) (.ref r) _ ⟨pot_same p2 s9, (bb2.trans b2).trans (butS' s9), ⟨r, rfl, SqT.of upd_same⟩, (by show k ≤ 8; omega), trivial⟩ (Nat.le_refl 1)
            · rw [decide_eq_false ne]
              refine iteT ?_
              walk_at "rd"
              refine Rd.ixT xb2.at_ rfl ?_
              walk_at "rd"
              refine ⟨p, a2, x2.map V.str, rfl, pb2, xb2.s2.at_, xb2.s2.ne, (by simpa using ne), (by rw [List.length_map]; exact Nat.lt_trans xb2.s2.few (by decide)), fun v H2 mv p2 b2 => ?_⟩
              obtain ⟨y, my, rfl⟩ := List.mem_map.mp mv
              walk_at "rd"
              refine ⟨Rd.small (by show 2 ≤ 100000; decide), fun r nr => ?_⟩
              have s9 := same_new (o := HO.tup [V.str "down", V.str y]) nr
              exact q (.ref 2 y) (.ref r) _ ⟨pot_same p2 s9, (bb2.trans b2).trans (butS' s9), ⟨r, rfl, SqT.of upd_same⟩, ⟨by decide, (xb2.s2.nam y my).1⟩, (xb2.s2.nam y my).2⟩ (Nat.le_refl 1)
          · refine iteF ?_
            walk_at "rd"
            -- the number
            refine ⟨p, _, rfl, pa2, by omega, Int.lt_trans (show (m : Int) < 10 by omega) (by decide +kernel), fun d H2 d0 dl p2 b2 => ?_⟩
            obtain ⟨k, rfl⟩ := Int.eq_ofNat_of_zero_le d0
            walk_at "rd"
            refine ⟨Rd.small (by show 2 ≤ 100000; decide), fun r nr => ?_⟩
            have s9 := same_new (o := HO.tup [V.str "number", V.int (k : Nat)]) nr
            exact q (.num k) (.ref r) _ ⟨pot_same p2 s9, (ba2.trans b2).trans (butS' s9), ⟨r, rfl, SqT.of upd_same⟩, (by show k ≤ 8; omega), trivial⟩ (Nat.le_refl 1)
      · rw [decide_eq_false ne]
        refine iteT ?_
        walk_at "rd"
        refine Rd.ixT xb0.at_ rfl ?_
        walk_at "rd"
        refine ⟨p, a0, x0.map V.str, rfl, pb0, xb0.s0.at_, xb0.s0.ne, (by simpa using ne), (by rw [List.length_map]; exact Nat.lt_trans xb0.s0.few (by decide)), fun v H2 mv p2 b2 => ?_⟩
        obtain ⟨y, my, rfl⟩ := List.mem_map.mp mv
        walk_at "rd"
        refine ⟨Rd.small (by show 2 ≤ 100000; decide), fun r nr => ?_⟩
        have s9 := same_new (o := HO.tup [V.str "here", V.str y]) nr
        exact q (.ref 0 y) (.ref r) _ ⟨pot_same p2 s9, (bb0.trans b2).trans (butS' s9), ⟨r, rfl, SqT.of upd_same⟩, ⟨by decide, (xb0.s0.nam y my).1⟩, (xb0.s0.nam y my).2⟩ (Nat.le_refl 1)
    · refine iteF ?_
      walk_at "rd"
      refine ⟨Rd.small (by show 2 ≤ 100000; decide), fun ta1 na1 => ?_⟩
      have sa1 := same_new (o := HO.tup ([V.int 3, V.int 4])) na1
      have ua1 := upd_same (H := Ha0) (a := ta1) (o := HO.tup ([V.int 3, V.int 4]))
      generalize upd Ha0 ta1 (HO.tup ([V.int 3, V.int 4])) = Ha1 at sa1 ua1 ⊢
      walk_at "rd"
      refine ⟨_, _, rfl, .inr (SqT.of ua1), rfl, rfl, ?_⟩
      rw [if_neg (by decide)]
      refine ⟨_, rfl, ?_⟩
      have pa1 := pot_same pa0 sa1
      have ba1 := ba0.trans (butS' (p := p) sa1)
      have xa1 := xa0.but pa0 (butS' sa1)
      refine Rd.ifB (fun z => ?_) (fun z => ?_)
      · walk_at "rd"
        refine Rd.ixT xa1.at_ rfl ?_
        walk_at "rd"
        refine ⟨Rd.small (by show 0 ≤ 100000; decide), fun tb1 nb1 => ?_⟩
        have sb1 := same_new (o := HO.lst ([])) nb1
        have ub1 := upd_same (H := Ha1) (a := tb1) (o := HO.lst ([]))
        generalize upd Ha1 tb1 (HO.lst ([])) = Hb1 at sb1 ub1 ⊢
        walk_at "rd"
        have pb1 := pot_same pa1 sb1
        have bb1 := ba1.trans (butS' (p := p) sb1)
        have xb1 := xa1.but pa1 (butS' sb1)
        refine ⟨_, _, .lst (SqL.of xb1.s1.at_) (dpa_strs _), .lst (SqL.of ub1) (dpa_strs []), shaped_lst (fun y hy => (xb1.s1.nam y hy).1.sok), shaped_lst (fun _ h => absurd h List.not_mem_nil), ?_⟩
        rw [eqv_lists]
        walk_at "rd"
        by_cases ne : x1 = []
        · rw [decide_eq_true ne]
          refine iteF ?_
          walk_at "rd"
          refine ⟨Rd.small (by show 2 ≤ 100000; decide), fun ta2 na2 => ?_⟩
          have sa2 := same_new (o := HO.tup ([V.int 5, V.int 6])) na2
          have ua2 := upd_same (H := Hb1) (a := ta2) (o := HO.tup ([V.int 5, V.int 6]))
          generalize upd Hb1 ta2 (HO.tup ([V.int 5, V.int 6])) = Ha2 at sa2 ua2 ⊢
          walk_at "rd"
          refine ⟨_, _, rfl, .inr (SqT.of ua2), rfl, rfl, ?_⟩
          rw [if_neg (by decide)]
          refine ⟨_, rfl, ?_⟩
          have pa2 := pot_same pb1 sa2
          have ba2 := bb1.trans (butS' (p := p) sa2)
          have xa2 := xb1.but pb1 (butS' sa2)
          refine Rd.ifB (fun z => ?_) (fun z => ?_)
          · walk_at "rd"
            refine Rd.ixT xa2.at_ rfl ?_
            walk_at "rd"
            refine ⟨Rd.small (by show 0 ≤ 100000; decide), fun tb2 nb2 => ?_⟩
            have sb2 := same_new (o := HO.lst ([])) nb2
            have ub2 := upd_same (H := Ha2) (a := tb2) (o := HO.lst ([]))
            generalize upd Ha2 tb2 (HO.lst ([])) = Hb2 at sb2 ub2 ⊢
            walk_at "rd"
            have pb2 := pot_same pa2 sb2
            have bb2 := ba2.trans (butS' (p := p) sb2)
            have xb2 := xa2.but pa2 (butS' sb2)
            refine ⟨_, _, .lst (SqL.of xb2.s2.at_) (dpa_strs _), .lst (SqL.of ub2) (dpa_strs []), shaped_lst (fun y hy => (xb2.s2.nam y hy).1.sok), shaped_lst (fun _ h => absurd h List.not_mem_nil), ?_⟩
            rw [eqv_lists]
            walk_at "rd"
            by_cases ne : x2 = []
            · rw [decide_eq_true ne]
              refine iteF ?_
              walk_at "rd"
              -- the number
              refine ⟨p, _, rfl, pb2, by omega, Int.lt_trans (show (m : Int) < 10 by omega) (by decide +kernel), fun d H2 d0 dl p2 b2 => ?_⟩
              obtain ⟨k, rfl⟩ := Int.eq_ofNat_of_zero_le d0
              walk_at "rd"
              refine ⟨Rd.small (by show 2 ≤ 100000; decide), fun r nr => ?_⟩
              have s9 := same_new (o := HO.tup [V.str "number", V.int (k : Nat)]) nr
              exact q (.num k) (.ref r) _ ⟨pot_same p2 s9, (bb2.trans b2).trans (butS' s9), ⟨r, rfl, SqT.of upd_same⟩, (by show k ≤ 8; omega), trivial⟩ (Nat.le_refl 1)
            · rw [decide_eq_false ne]
              refine iteT ?_
              walk_at "rd"
              refine Rd.ixT xb2.at_ rfl ?_
              walk_at "rd"
              refine ⟨p, a2, x2.map V.str, rfl, pb2, xb2.s2.at_, xb2.s2.ne, (by simpa using ne), (by rw [List.length_map]; exact Nat.lt_trans xb2.s2.few (by decide)), fun v H2 mv p2 b2 => ?_⟩
              obtain ⟨y, my, rfl⟩ := List.mem_map.mp mv
              walk_at "rd"
              refine ⟨Rd.small (by show 2 ≤ 100000; decide), fun r nr => ?_⟩
              have s9 := same_new (o := HO.tup [V.str "down", V.str y]) nr
              exact q (.ref 2 y) (.ref r) _ ⟨pot_same p2 s9, (bb2.trans b2).trans (butS' s9), ⟨r, rfl, SqT.of upd_same⟩, ⟨by decide, (xb2.s2.nam y my).1⟩, (xb2.s2.nam y my).2⟩ (Nat.le_refl 1)
          · refine iteF ?_
            walk_at "rd"
            -- the number
            refine ⟨p, _, rfl, pa2, by omega, Int.lt_trans (show (m : Int) < 10 by omega) (by decide +kernel), fun d H2 d0 dl p2 b2 => ?_⟩
            obtain ⟨k, rfl⟩ := Int.eq_ofNat_of_zero_le d0
            walk_at "rd"
            refine ⟨Rd.small (by show 2 ≤ 100000; decide), fun r nr => ?_⟩
            have s9 := same_new (o := HO.tup [V.str "number", V.int (k : Nat)]) nr
            exact q (.num k) (.ref r) _ ⟨pot_same p2 s9, (ba2.trans b2).trans (butS' s9), ⟨r, rfl, SqT.of upd_same⟩, (by show k ≤ 8; omega), trivial⟩ (Nat.le_refl 1)
        · rw [decide_eq_false ne]
          refine iteT ?_
          walk_at "rd"
          refine Rd.ixT xb1.at_ rfl ?_
          walk_at "rd"
          refine ⟨p, a1, x1.map V.str, rfl, pb1, xb1.s1.at_, xb1.s1.ne, (by simpa using ne), (by rw [List.length_map]; exact Nat.lt_trans xb1.s1.few (by decide)), fun v H2 mv p2 b2 => ?_⟩
          obtain ⟨y, my, rfl⟩ := List.mem_map.mp mv
          walk_at "rd"
          refine ⟨Rd.small (by show 2 ≤ 100000; decide), fun r nr => ?_⟩
          have s9 := same_new (o := HO.tup [V.str "up", V.str y]) nr
          exact q (.ref 1 y) (.ref r) _ ⟨pot_same p2 s9, (bb1.trans b2).trans (butS' s9), ⟨r, rfl, SqT.of upd_same⟩, ⟨by decide, (xb1.s1.nam y my).1⟩, (xb1.s1.nam y my).2⟩ (Nat.le_refl 1)
      · refine iteF ?_
        walk_at "rd"
        refine ⟨Rd.small (by show 2 ≤ 100000; decide), fun ta2 na2 => ?_⟩
        have sa2 := same_new (o := HO.tup ([V.int 5, V.int 6])) na2
        have ua2 := upd_same (H := Ha1) (a := ta2) (o := HO.tup ([V.int 5, V.int 6]))
        generalize upd Ha1 ta2 (HO.tup ([V.int 5, V.int 6])) = Ha2 at sa2 ua2 ⊢
        walk_at "rd"
        refine ⟨_, _, rfl, .inr (SqT.of ua2), rfl, rfl, ?_⟩
        rw [if_neg (by decide)]
        refine ⟨_, rfl, ?_⟩
        have pa2 := pot_same pa1 sa2
        have ba2 := ba1.trans (butS' (p := p) sa2)
        have xa2 := xa1.but pa1 (butS' sa2)
        refine Rd.ifB (fun z => ?_) (fun z => ?_)
        · walk_at "rd"
          refine Rd.ixT xa2.at_ rfl ?_
          walk_at "rd"
          refine ⟨Rd.small (by show 0 ≤ 100000; decide), fun tb2 nb2 => ?_⟩
          have sb2 := same_new (o := HO.lst ([])) nb2
          have ub2 := upd_same (H := Ha2) (a := tb2) (o := HO.lst ([]))
          generalize upd Ha2 tb2 (HO.lst ([])) = Hb2 at sb2 ub2 ⊢
          walk_at "rd"
          have pb2 := pot_same pa2 sb2
          have bb2 := ba2.trans (butS' (p := p) sb2)
          have xb2 := xa2.but pa2 (butS' sb2)
          refine ⟨_, _, .lst (SqL.of xb2.s2.at_) (dpa_strs _), .lst (SqL.of ub2) (dpa_strs []), shaped_lst (fun y hy => (xb2.s2.nam y hy).1.sok), shaped_lst (fun _ h => absurd h List.not_mem_nil), ?_⟩
          rw [eqv_lists]
          walk_at "rd"
          by_cases ne : x2 = []
          · rw [decide_eq_true ne]
            refine iteF ?_
            walk_at "rd"
            -- the number
            refine ⟨p, _, rfl, pb2, by omega, Int.lt_trans (show (m : Int) < 10 by omega) (by decide +kernel), fun d H2 d0 dl p2 b2 => ?_⟩
            obtain ⟨k, rfl⟩ := Int.eq_ofNat_of_zero_le d0
            walk_at "rd"
            refine ⟨Rd.small (by show 2 ≤ 100000; decide), fun r nr => ?_⟩
            have s9 := same_new (o := HO.tup [V.str "number", V.int (k : Nat)]) nr
            exact q (.num k) (.ref r) _ ⟨pot_same p2 s9, (bb2.trans b2).trans (butS' s9), ⟨r, rfl, SqT.of upd_same⟩, (by show k ≤ 8; omega), trivial⟩ (Nat.le_refl 1)
          · rw [decide_eq_false ne]
            refine iteT ?_
            walk_at "rd"
            refine Rd.ixT xb2.at_ rfl ?_
            walk_at "rd"
            refine ⟨p, a2, x2.map V.str, rfl, pb2, xb2.s2.at_, xb2.s2.ne, (by simpa using ne), (by rw [List.length_map]; exact Nat.lt_trans xb2.s2.few (by decide)), fun v H2 mv p2 b2 => ?_⟩
            obtain ⟨y, my, rfl⟩ := List.mem_map.mp mv
            walk_at "rd"
            refine ⟨Rd.small (by show 2 ≤ 100000; decide), fun r nr => ?_⟩
            have s9 := same_new (o := HO.tup [V.str "down", V.str y]) nr
            exact q (.ref 2 y) (.ref r) _ ⟨pot_same p2 s9, (bb2.trans b2).trans (butS' s9), ⟨r, rfl, SqT.of upd_same⟩, ⟨by decide, (xb2.s2.nam y my).1⟩, (xb2.s2.nam y my).2⟩ (Nat.le_refl 1)
        · refine iteF ?_
          walk_at "rd"
          -- the number
          refine ⟨p, _, rfl, pa2, by omega, Int.lt_trans (show (m : Int) < 10 by omega) (by decide +kernel), fun d H2 d0 dl p2 b2 => ?_⟩
          obtain ⟨k, rfl⟩ := Int.eq_ofNat_of_zero_le d0
          walk_at "rd"
          refine ⟨Rd.small (by show 2 ≤ 100000; decide), fun r nr => ?_⟩
          have s9 := same_new (o := HO.tup [V.str "number", V.int (k : Nat)]) nr
          exact q (.num k) (.ref r) _ ⟨pot_same p2 s9, (ba2.trans b2).trans (butS' s9), ⟨r, rfl, SqT.of upd_same⟩, (by show k ≤ 8; omega), trivial⟩ (Nat.le_refl 1)
end
end K17

namespace K17
open PySem PySem.Spec PyProof.Rows L2
local macro_rules | `(tactic| walk_at "rd1") => `(tactic| first
  | (with_reducible refine Rd.seq ?_) | (with_reducible refine Rd.asg ?_) | (with_reducible refine Rd.ret ?_) | (with_reducible refine Rd.nxt ?_) | (with_reducible refine Rd.ifS ?_)
  | (with_reducible refine Rd.op ?_) | (with_reducible refine Rd.un ?_) | (with_reducible refine Rd.cb ?_) | (with_reducible refine Rd.cons ?_) | (with_reducible refine Rd.nil ?_) | (with_reducible refine Rd.ifx ?_)
  | (with_reducible refine Rd.test ?_) | (with_reducible refine Rd.testB ?_) | (with_reducible refine Rd.notT ?_) | (with_reducible refine Rd.isB ?_) | (with_reducible refine Rd.lst ?_) | (with_reducible refine Rd.tup ?_)
  | (with_reducible refine Rd.andV ?_) | (with_reducible refine Rd.orV ?_) | (with_reducible refine Rd.notV ?_) | (with_reducible refine Rd.andT ?_) | (with_reducible refine Rd.orT ?_) | (with_reducible refine Rd.chain ?_)
  | (with_reducible refine Rd.m0 ?_) | (with_reducible refine Rd.m1 ?_) | (with_reducible refine Rd.bm0 ?_) | (with_reducible refine Rd.bm ?_) | (with_reducible refine Rd.sl ?_) | (with_reducible refine Rd.part ?_) | (with_reducible refine Rd.part0 ?_) | (with_reducible refine Rd.isI ?_)
  | (with_reducible refine Rd.fmt ?_) | (with_reducible refine Rd.fmtRD ?_) | (with_reducible refine Rd.meth ?_) | (with_reducible refine makeG ?_) | (with_reducible refine Rd.prop ?_) | (with_reducible refine Rd.js ?_) | (with_reducible refine Rd.js0 ?_) | (with_reducible refine Rd.par ?_) | (with_reducible refine Rd.star ?_) | (with_reducible refine lcR1 ?_) | (with_reducible refine lcR2 ?_) | (with_reducible refine Rd.fld ?_) | (with_reducible refine Rd.sfld ?_) | (with_reducible refine Rd.expr ?_) | (with_reducible refine L2.isNR ?_) | (with_reducible refine L2.methI ?_) | (with_reducible refine Rd.forZ ?_)
  | (with_reducible refine Rd.forEA ?_) | (with_reducible refine Rd.forR1 ?_) | (with_reducible refine Rd.forR2 ?_) | (with_reducible refine Rd.forL ?_) | (with_reducible refine Rd.forT ?_)
  | (with_reducible refine Rd.call ?_) | (with_reducible refine Rd.asgG ?_) | (with_reducible refine Rd.gNm ?_) | (with_reducible refine Rd.gSb ?_) | (with_reducible refine Rd.gC ?_) | (with_reducible refine Rd.gN ?_)
  | ((with_reducible refine' Rd.var ?hv ?_); (case hv => exact rfl)) | (with_reducible refine Rd.c ?_) | (with_reducible refine Rd.i0 ?_) | (with_reducible refine Rd.neg ?_)
  | ((with_reducible refine' Rd.iC ?hc ?_); (case hc => first | (show (0 : Int) < _; decide) | exact ⟨by decide, by decide⟩ | exact ⟨by decide, by decide, by decide⟩ | exact .inl ⟨by decide, by decide⟩ | exact .inr ⟨by decide, by decide⟩ | exact .inl ⟨by omega, by omega⟩ | (show (0 : Int) < _; omega) | exact ⟨by omega, by omega⟩))
  | ((with_reducible refine' Rd.eqS ?hc ?_); (case hc => rfl)) | ((with_reducible refine' Rd.neS ?hc ?_); (case hc => rfl)))
local macro_rules | `(tactic| walk_at "rd") => `(tactic| repeat walk_at "rd1")
/-! ### numbers listed one after the other -/
structure Up (s : List Nat) (k : Nat) : Prop where
  at_ : ∀ (i n : Nat), s[i]? = some n → leastAt s i ≤ n ∧ n < k
  few : s.length ≤ k
theorem up_nil : Up [] 0 := ⟨fun i n h => by simp at h, Nat.le_refl _⟩
theorem Up.skip {s : List Nat} {k : Nat} (h : Up s k) : Up s (k + 1) := ⟨fun i n e => ⟨(h.at_ i n e).1, Nat.lt_succ_of_lt (h.at_ i n e).2⟩, Nat.le_succ_of_le h.few⟩
theorem Up.add {s : List Nat} {k : Nat} (h : Up s k) : Up (s ++ [k]) (k + 1) := by
  refine ⟨fun i n e => ?_, by rw [List.length_append]; have := h.few; simp; omega⟩
  by_cases hi : i < s.length
  · rw [List.getElem?_append_left hi] at e
    obtain ⟨a, b⟩ := h.at_ i n e
    refine ⟨?_, by omega⟩
    cases i with
    | zero => exact Nat.zero_le _
    | succ j =>
      show (s ++ [k]).getD j 0 + 1 ≤ n
      rw [List.getD_eq_getElem?_getD, List.getElem?_append_left (by omega), ← List.getD_eq_getElem?_getD]
      exact a
  · rw [List.getElem?_append_right (by omega)] at e
    have hz : i - s.length = 0 := by
      cases q : i - s.length with
      | zero => rfl
      | succ j => rw [q] at e; simp at e
    rw [hz] at e
    simp at e
    subst e
    refine ⟨?_, by omega⟩
    have hi2 : i = s.length := by omega
    subst hi2
    cases hs : s.length with
    | zero => exact Nat.zero_le _
    | succ j =>
      show (s ++ [k]).getD j 0 + 1 ≤ k
      rw [List.getD_eq_getElem?_getD, List.getElem?_append_left (by omega)]
      have hj : j < s.length := by omega
      rw [List.getElem?_eq_getElem hj]
      have := (h.at_ j _ (List.getElem?_eq_getElem hj)).2
      show s[j] + 1 ≤ k
      omega
theorem Up.asc {s : List Nat} {k : Nat} (h : Up s k) (hk : k ≤ 9) : Asc s := ⟨fun i n e => ⟨(h.at_ i n e).1, by have := (h.at_ i n e).2; omega⟩, Nat.le_trans h.few hk⟩
/-! ### drawn formulas -/
def spPart (K : PySem.W.Frag) (n : Nat) : Sp := fun vs H Q _ => ∃ (p s a0 a1 a2 : Addr) (m nodes : Nat) (x0 x1 x2 : List Str), vs = [.ref p, .int (m : Nat), .ref s, .int (nodes : Nat)] ∧ PotAt H p ∧ 0 < m ∧ m ≤ 9 ∧ Spot3 K H p s a0 a1 a2 x0 x1 x2 ∧ 1 ≤ nodes ∧ nodes ≤ n ∧ nodes ≤ 40 ∧
  ∀ f v H', Drn K H H' p f v → f.q.1 ≤ nodes → Q v H'
abbrev sPart : Stmt := topA i_law_part
abbrev nmsP : List Str := ["_law_pot_here", "_law_modulus", "_law_spots", "_law_nodes", "_law_way", "_law_first", "_law_second", "_law_chosen", "_law_test", "_law_then", "_law_left", "_law_word", "_law_value"]
theorem q_pair {o : Nat} {l r : Fm} : (Fm.pair o l r).q.1 = 1 + l.q.1 + r.q.1 := rfl
theorem q_cho {s : List Nat} {t a b : Fm} : (Fm.cho t s a b).q.1 = 1 + t.q.1 + a.q.1 + b.q.1 := rfl
section
variable {P : Program} {w : World} {K : PySem.W.Frag} {mg : Str → Option Value} {base : Heap} {f fD fP fL : Addr} {fd fdD fdP fdL : FuncData}
theorem scPart : FnScope nmsP ["_law_pot_here", "_law_modulus", "_law_spots", "_law_nodes"] (defScope sPart) := ⟨rfl, rfl, rfl, by decide +kernel, rfl, by decide +kernel, by decide +kernel⟩
theorem ok_part (F : FnP K "_law_part" sPart f fd) (gF : mg "_law_part" = some (.ref f)) (FD : FnP K "_law_draw" sDraw fD fdD) (GD : FnOk P w K mg base CX0 1 fD fdD ["_law_pot_here", "_law_many"] spDraw) (gD : mg "_law_draw" = some (.ref fD)) (FP : FnP K "_law_pick" sPick fP fdP) (GP : FnOk P w K mg base CX0 2 fP fdP ["_law_pot_here", "_law_some"] (spPick K)) (gP : mg "_law_pick" = some (.ref fP))
    (FL : FnP K "_law_leaf" sLeaf fL fdL) (GL : FnOk P w K mg base CX0 3 fL fdL ["_law_pot_here", "_law_modulus", "_law_spots"] (spLeaf K)) (gL : mg "_law_leaf" = some (.ref fL)) (gTup : mg "tuple" = none) (gRange : mg "range" = none) : ∀ n, FnOk P w K mg base CX0 (n + 4) f fd ["_law_pot_here", "_law_modulus", "_law_spots", "_law_nodes"] (spPart K n) := by
  have bD : Binds K fdD ["_law_pot_here", "_law_many"] [] := FD.bindsN fun _ _ _ _ _ _ us hl => match us, hl with | [_, _], _ => rfl
  have bP : Binds K fdP ["_law_pot_here", "_law_some"] [] := FP.bindsN fun _ _ _ _ _ _ us hl => match us, hl with | [_, _], _ => rfl
  have bL : Binds K fdL ["_law_pot_here", "_law_modulus", "_law_spots"] [] := FL.bindsN fun _ _ _ _ _ _ us hl => match us, hl with | [_, _, _], _ => rfl
  have bF : Binds K fd ["_law_pot_here", "_law_modulus", "_law_spots", "_law_nodes"] [] := F.bindsN fun _ _ _ _ _ _ us hl => match us, hl with | [_, _, _, _], _ => rfl
  have nd := scPart.nd
  intro n
  induction n with
  | zero =>
    refine F.ok scPart (fun vs H Q E h => ?_) (fun cdv A outer s H vs Q E hr h => ?_)
    · obtain ⟨p, s, a0, a1, a2, m, nodes, x0, x1, x2, rfl, _⟩ := h
      rfl
    · obtain ⟨p, s, a0, a1, a2, m, nodes, x0, x1, x2, rfl, _, _, _, _, z1, z2, _⟩ := h
      omega
  | succ n ih =>
    refine F.ok scPart (fun vs H Q E h => ?_) (fun cdv A outer s H vs Q E hr h => ?_)
    · obtain ⟨p, s, a0, a1, a2, m, nodes, x0, x1, x2, rfl, _⟩ := h
      rfl
    · obtain ⟨p, s, a0, a1, a2, m, nodes, x0, x1, x2, rfl, pt, m0, m9, sp, n1, nn, n40, q⟩ := h
      have r1 := hr.mono (show 1 ≤ n + 4 by omega)
      have r2 := hr.mono (show 2 ≤ n + 4 by omega)
      have r3 := hr.mono (show 3 ≤ n + 4 by omega)
      refine ⟨_, PSs.nox (pss_cons (ps_set (i := 4) nd rfl (Or.inl rfl) (pe_call GD r1 rfl gD FD.kp bD .nil pass0 (pa_cons (pv 0) (pa_cons pe_int pa_nil))))
        (pss_cons (ps_if (PW.pt (pw_and (pt_cmpR op_lt (pv 4) pe_int (nomark _)) (pw_and1 (pt_cmpR op_gt (pv 3) pe_int (nomark _)))))
          (pss_cons (ps_set (i := 5) nd rfl (Or.inl rfl) (pe_op op_add pe_int (pe_call GD r1 rfl gD FD.kp bD .nil pass0 (pa_cons (pv 0) (pa_cons (pe_op op_sub (pv 3) pe_int) pa_nil)))))
          (pss_cons (ps_set (i := 6) nd rfl (Or.inl rfl) (pe_op op_add pe_int (pe_call GD r1 rfl gD FD.kp bD .nil pass0 (pa_cons (pv 0) (pa_cons (pe_op op_sub (pe_op op_sub (pv 3) pe_int) (pv 5)) pa_nil)))))
          (pss_cons (ps_set (i := 7) nd rfl (Or.inl rfl) (pe_callTy call_tupV rfl gTup (by decide +kernel) (pa_cons
            (pe_lc (own := [("_law_value", 12)]) (g := gName 12) (tt := tTest (tOp rEq (tCall spDraw [] E0 (tCons (tVar 0) (tCons (tC (.int 2)) tNil))) (tC (.int 0)))) (te := tVar 12) rfl nd (pi_range1 rfl gRange (pa_cons (pv 1) pa_nil)) (blkOk_by (N := nmsP) (sc := defScope sPart) (by decide +kernel)) (fun _ _ _ _ _ => by exact pg_name (i := 12) nd rfl (Or.inl rfl))
              (fun _ _ _ _ _ => by exact pts_one (pt_cmpR op_eq (pe_call GD r1 rfl gD FD.kp bD .nil pass0 (pa_cons (pv 0) (pa_cons pe_int pa_nil))) pe_int (nomark _))) (fun _ _ _ _ _ => by exact pv 12)) pa_nil)))
          (pss_cons (ps_par (i := 8) (j := 9) (by rfl) nd rfl rfl (by decide) rfl rfl (pa_cons (pe_call ih hr rfl gF F.kp bF .nil pass0 (pa_cons (pv 0) (pa_cons (pv 1) (pa_cons (pv 2) (pa_cons (pv 5) pa_nil))))) (pa_cons (pe_call ih hr rfl gF F.kp bF .nil pass0 (pa_cons (pv 0) (pa_cons (pv 1) (pa_cons (pv 2) (pa_cons (pv 6) pa_nil))))) pa_nil)) (by rfl))
          (pss_one (ps_ret (pe_tup (pa_cons pe_str (pa_cons (pv 8) (pa_cons (pv 7) (pa_cons (pv 9) (pa_cons (pe_call ih hr rfl gF F.kp bF .nil pass0 (pa_cons (pv 0) (pa_cons (pv 1) (pa_cons (pv 2) (pa_cons (pe_op op_sub (pe_op op_sub (pe_op op_sub (pv 3) pe_int) (pv 5)) (pv 6)) pa_nil))))) pa_nil)))))))))))) pss_nil)
        (pss_cons (ps_if (PW.pt (pw_and (pt_cmpR op_lt (pv 4) pe_int (nomark _)) (pw_and1 (pt_cmpR op_gt (pv 3) pe_int (nomark _)))))
          (pss_cons (ps_set (i := 5) nd rfl (Or.inl rfl) (pe_op op_add pe_int (pe_call GD r1 rfl gD FD.kp bD .nil pass0 (pa_cons (pv 0) (pa_cons (pe_op op_sub (pv 3) pe_int) pa_nil)))))
          (pss_cons (ps_set (i := 10) nd rfl (Or.inl rfl) (pe_call ih hr rfl gF F.kp bF .nil pass0 (pa_cons (pv 0) (pa_cons (pv 1) (pa_cons (pv 2) (pa_cons (pv 5) pa_nil))))))
          (pss_cons (ps_set (i := 11) nd rfl (Or.inl rfl) (pe_call GP r2 rfl gP FP.kp bP .nil pass0 (pa_cons (pv 0) (pa_cons (pe_lst (pa_cons pe_str (pa_cons pe_str (pa_cons pe_str (pa_cons pe_str (pa_cons pe_str pa_nil)))))) pa_nil))))
          (pss_one (ps_ret (pe_tup (pa_cons (pv 11) (pa_cons (pv 10) (pa_cons (pe_call ih hr rfl gF F.kp bF .nil pass0 (pa_cons (pv 0) (pa_cons (pv 1) (pa_cons (pv 2) (pa_cons (pe_op op_sub (pe_op op_sub (pv 3) pe_int) (pv 5)) pa_nil))))) pa_nil))))))))) pss_nil)
        (pss_one (ps_ret (pe_call GL r3 rfl gL FL.kp bL .nil pass0 (pa_cons (pv 0) (pa_cons (pv 1) (pa_cons (pv 2) pa_nil))))))))), ?_⟩
      walk_at "rd"
      refine ⟨p, _, rfl, pt, by decide, by decide, fun d H1 d0 dl p1 b1 => ?_⟩
      have sp1 := sp.but pt b1
      walk_at "rd"
      refine Rd.ifB (fun z => ?_) (fun z => ?_)
      · walk_at "rd"
        refine Rd.ifB (fun z2 => ?_) (fun z2 => ?_)
        · walk_at "rd"
          have g3 : 3 < nodes := by have := of_decide_eq_true z2; omega
          refine ⟨p, _, rfl, p1, by omega, Int.lt_trans (show (nodes : Int) - 3 < 41 by omega) (by decide +kernel), fun d1 H2 d10 d1l p2 b2 => ?_⟩
          obtain ⟨e1, rfl⟩ := Int.eq_ofNat_of_zero_le d10
          walk_at "rd"
          refine ⟨p, _, rfl, p2, by omega, Int.lt_trans (show (nodes : Int) - 2 - (1 + (e1 : Nat)) < 41 by omega) (by decide +kernel), fun d2 H3 d20 d2l p3 b3 => ?_⟩
          obtain ⟨e2, rfl⟩ := Int.eq_ofNat_of_zero_le d20
          have c1 : (1 : Int) + (e1 : Nat) = ((1 + e1 : Nat) : Int) := by omega
          have c2 : (1 : Int) + (e2 : Nat) = ((1 + e2 : Nat) : Int) := by omega
          have c3 : (nodes : Int) - 1 - ((1 + e1 : Nat) : Int) - ((1 + e2 : Nat) : Int) = ((nodes - 1 - (1 + e1) - (1 + e2) : Nat) : Int) := by omega
          walk_at "rd"
          rw [c1, c2]
          refine lcF1 ?_
          walk_at "rd"
          refine ⟨_, rfl, by omega, by omega, ?_⟩
          rw [Int.toNat_natCast]
          refine lcGenF (fun k acc H => PotAt H p ∧ But p H3 H ∧ ∃ s : List Nat, acc = s.map natV ∧ Up s k) (fun k acc H => PotAt H p ∧ But p H3 H ∧ ∃ s : List Nat, acc = s.map natV ∧ Up s k) rfl (by omega) ⟨p3, But.refl, [], rfl, up_nil⟩ (fun k acc H D o hD j => ?_) (fun k acc H QB hk j qb => ?_) (fun k acc H Q' hk j q' => ?_) (fun D acc H4 hD j hd => ?_)
          · obtain ⟨⟨x, y, jp, jr⟩, jb, js⟩ := j
            obtain ⟨x3, y3, jp3, _⟩ := p3
            have np : p ≠ D := ne_of_none jp3 hD
            exact ⟨⟨x, y, by rw [upd_ne np]; exact jp, jr⟩, fun b o hb e => by rw [upd_ne (ne_of_none e hD)]; exact jb b o hb e, js⟩
          · obtain ⟨jp, jb, sl, es, up⟩ := j
            walk_at "rd"
            refine ⟨p, _, rfl, jp, by decide, by decide, fun d H5 d0 dl p5 b5 => ?_⟩
            walk_at "rd"
            refine qb _ H5 (fun b o hb e => b5 b o (fun ep => ?_) e) (fun _ => ⟨p5, jb.trans b5, sl, es, up.skip⟩) (fun _ => ⟨p5, jb.trans b5, sl, es, up⟩)
            obtain ⟨x3, y3, jp3, _⟩ := p3
            rw [ep, jp3] at hb
            cases hb
          · obtain ⟨jp, jb, sl, es, up⟩ := j
            walk_at "rd"
            refine q' _ H (fun _ _ _ e => e) ⟨jp, jb, sl ++ [k], ?_, up.add⟩
            rw [List.map_append, es, Int.zero_add]
            rfl
          obtain ⟨p4, b4, sl, es, up⟩ := j
          subst es
          refine ⟨D, _, rfl, .inl (SqL.of hd), fun t H5 s5 ht => ?_⟩
          have p5 := pot_same p4 s5
          have b15 := (b2.trans b3).trans (b4.trans (butS' (p := p) s5))
          walk_at "rd"
          refine ⟨p, s, a0, a1, a2, m, 1 + e1, x0, x1, x2, rfl, p5, m0, m9, sp1.but p1 b15, by omega, by omega, by omega, fun g1 v1 H6 r1' l1 => ?_⟩
          have b16 := b15.trans r1'.but
          walk_at "rd"
          refine ⟨p, s, a0, a1, a2, m, 1 + e2, x0, x1, x2, rfl, r1'.pot, m0, m9, sp1.but p1 b16, by omega, by omega, by omega, fun g2 v2 H7 r2' l2 => ?_⟩
          have b17 := b16.trans r2'.but
          walk_at "rd"
          refine ⟨v1, v2, rfl, ?_⟩
          walk_at "rd"
          rw [c3]
          refine ⟨p, s, a0, a1, a2, m, _, x0, x1, x2, rfl, r2'.pot, m0, m9, sp1.but p1 b17, by omega, by omega, by omega, fun g3' v3 H8 r3' l3 => ?_⟩
          walk_at "rd"
          refine ⟨Rd.small (by show 5 ≤ 100000; decide), fun r n9 => ?_⟩
          have s9 := same_new (o := HO.tup ([V.str "choice", v1, V.ref t, v2, v3])) n9
          have t9 := upd_same (H := H8) (a := r) (o := HO.tup ([V.str "choice", v1, V.ref t, v2, v3]))
          generalize upd H8 r (HO.tup ([V.str "choice", v1, V.ref t, v2, v3])) = H9 at s9 t9 ⊢
          have k58 := (kp_pot p5 r1'.but).trans ((kp_pot r1'.pot r2'.but).trans (kp_pot r2'.pot r3'.but))
          have k9 := kp_same s9
          refine q (.cho g1 sl g2 g3') (.ref r) H9 ⟨pot_same r3'.pot s9, (b1.trans b17).trans (r3'.but.trans (butS' s9)), ⟨r, v1, t, v2, v3, rfl, SqT.of t9, r1'.at_.kp (((kp_pot r1'.pot r2'.but).trans (kp_pot r2'.pot r3'.but)).trans k9), sqt_kp (k58.trans k9) ht, r2'.at_.kp ((kp_pot r2'.pot r3'.but).trans k9), r3'.at_.kp k9⟩, ⟨up.asc m9, r1'.ok, r2'.ok, r3'.ok⟩, r1'.nz, r2'.nz, r3'.nz⟩ ?_
          rw [q_cho]
          omega
        · walk_at "rd"
          refine Rd.ifB (fun y => ?_) (fun y => ?_)
          · walk_at "rd"
            refine Rd.ifB (fun z2 => ?_) (fun z2 => ?_)
            · walk_at "rd"
              have g2 : 2 < nodes := by have := of_decide_eq_true z2; omega
              refine ⟨p, _, rfl, p1, by omega, Int.lt_trans (show (nodes : Int) - 2 < 41 by omega) (by decide +kernel), fun d1 H2 d10 d1l p2 b2 => ?_⟩
              obtain ⟨e1, rfl⟩ := Int.eq_ofNat_of_zero_le d10
              have c1 : (1 : Int) + (e1 : Nat) = ((1 + e1 : Nat) : Int) := by omega
              have c3 : (nodes : Int) - 1 - ((1 + e1 : Nat) : Int) = ((nodes - 1 - (1 + e1) : Nat) : Int) := by omega
              walk_at "rd"
              rw [c1]
              refine ⟨p, s, a0, a1, a2, m, 1 + e1, x0, x1, x2, rfl, p2, m0, m9, sp1.but p1 b2, by omega, by omega, by omega, fun g1 v1 H6 r1' l1 => ?_⟩
              have b16 := b2.trans r1'.but
              walk_at "rd"
              refine ⟨Rd.small (by show 5 ≤ 100000; decide), fun wl n7 => ?_⟩
              have s7 := same_new (o := HO.lst ([V.str "plus", V.str "plus", V.str "least", V.str "most", V.str "same"])) n7
              have t7 := upd_same (H := H6) (a := wl) (o := HO.lst ([V.str "plus", V.str "plus", V.str "least", V.str "most", V.str "same"]))
              generalize upd H6 wl (HO.lst ([V.str "plus", V.str "plus", V.str "least", V.str "most", V.str "same"])) = H7 at s7 t7 ⊢
              walk_at "rd"
              have p7 := pot_same r1'.pot s7
              have np : wl ≠ p := fun e => by
                obtain ⟨x, y, jp, _⟩ := r1'.pot
                rw [e, jp] at n7
                cases n7
              refine ⟨p, wl, _, rfl, p7, t7, np, (by decide), (by show 5 < 1000000; decide), fun wv H8 mw p8 b8 => ?_⟩
              have wo : ∃ o, o < 4 ∧ wv = .str (pairWord o) := by
                simp only [List.mem_cons, List.not_mem_nil, or_false] at mw
                rcases mw with e | e | e | e | e
                · exact ⟨0, by decide, e⟩
                · exact ⟨0, by decide, e⟩
                · exact ⟨1, by decide, e⟩
                · exact ⟨2, by decide, e⟩
                · exact ⟨3, by decide, e⟩
              obtain ⟨o, ho, rfl⟩ := wo
              have b18 := b16.trans ((butS' (p := p) s7).trans b8)
              walk_at "rd"
              rw [c3]
              refine ⟨p, s, a0, a1, a2, m, _, x0, x1, x2, rfl, p8, m0, m9, sp1.but p1 b18, by omega, by omega, by omega, fun g2' v2 H9 r2' l2 => ?_⟩
              walk_at "rd"
              refine ⟨Rd.small (by show 3 ≤ 100000; decide), fun r n9 => ?_⟩
              have s9 := same_new (o := HO.tup ([V.str (pairWord o), v1, v2])) n9
              have t9 := upd_same (H := H9) (a := r) (o := HO.tup ([V.str (pairWord o), v1, v2]))
              generalize upd H9 r (HO.tup ([V.str (pairWord o), v1, v2])) = Hz at s9 t9 ⊢
              have k9 := kp_same s9
              refine q (.pair o g1 g2') (.ref r) Hz ⟨pot_same r2'.pot s9, (b1.trans b18).trans (r2'.but.trans (butS' s9)), ⟨r, v1, v2, rfl, SqT.of t9, r1'.at_.kp ((kp_same s7).trans ((kp_pot p7 b8).trans ((kp_pot p8 r2'.but).trans k9))), r2'.at_.kp k9⟩, ⟨ho, r1'.ok, r2'.ok⟩, r1'.nz, r2'.nz⟩ ?_
              rw [q_pair]
              omega
            · walk_at "rd"
              exact ⟨p, s, a0, a1, a2, m, x0, x1, x2, rfl, p1, m0, m9, sp1, fun g v H2 dr le => q g v H2 ⟨dr.pot, b1.trans dr.but, dr.at_, dr.ok, dr.nz⟩ (Nat.le_trans le n1)⟩
          · refine iteF ?_
            walk_at "rd"
            exact ⟨p, s, a0, a1, a2, m, x0, x1, x2, rfl, p1, m0, m9, sp1, fun g v H2 dr le => q g v H2 ⟨dr.pot, b1.trans dr.but, dr.at_, dr.ok, dr.nz⟩ (Nat.le_trans le n1)⟩
      · refine iteF ?_
        walk_at "rd"
        refine Rd.ifB (fun y => ?_) (fun y => ?_)
        · walk_at "rd"
          refine Rd.ifB (fun z2 => ?_) (fun z2 => ?_)
          · walk_at "rd"
            have g2 : 2 < nodes := by have := of_decide_eq_true z2; omega
            refine ⟨p, _, rfl, p1, by omega, Int.lt_trans (show (nodes : Int) - 2 < 41 by omega) (by decide +kernel), fun d1 H2 d10 d1l p2 b2 => ?_⟩
            obtain ⟨e1, rfl⟩ := Int.eq_ofNat_of_zero_le d10
            have c1 : (1 : Int) + (e1 : Nat) = ((1 + e1 : Nat) : Int) := by omega
            have c3 : (nodes : Int) - 1 - ((1 + e1 : Nat) : Int) = ((nodes - 1 - (1 + e1) : Nat) : Int) := by omega
            walk_at "rd"
            rw [c1]
            refine ⟨p, s, a0, a1, a2, m, 1 + e1, x0, x1, x2, rfl, p2, m0, m9, sp1.but p1 b2, by omega, by omega, by omega, fun g1 v1 H6 r1' l1 => ?_⟩
            have b16 := b2.trans r1'.but
            walk_at "rd"
            refine ⟨Rd.small (by show 5 ≤ 100000; decide), fun wl n7 => ?_⟩
            have s7 := same_new (o := HO.lst ([V.str "plus", V.str "plus", V.str "least", V.str "most", V.str "same"])) n7
            have t7 := upd_same (H := H6) (a := wl) (o := HO.lst ([V.str "plus", V.str "plus", V.str "least", V.str "most", V.str "same"]))
            generalize upd H6 wl (HO.lst ([V.str "plus", V.str "plus", V.str "least", V.str "most", V.str "same"])) = H7 at s7 t7 ⊢
            walk_at "rd"
            have p7 := pot_same r1'.pot s7
            have np : wl ≠ p := fun e => by
              obtain ⟨x, y, jp, _⟩ := r1'.pot
              rw [e, jp] at n7
              cases n7
            refine ⟨p, wl, _, rfl, p7, t7, np, (by decide), (by show 5 < 1000000; decide), fun wv H8 mw p8 b8 => ?_⟩
            have wo : ∃ o, o < 4 ∧ wv = .str (pairWord o) := by
              simp only [List.mem_cons, List.not_mem_nil, or_false] at mw
              rcases mw with e | e | e | e | e
              · exact ⟨0, by decide, e⟩
              · exact ⟨0, by decide, e⟩
              · exact ⟨1, by decide, e⟩
              · exact ⟨2, by decide, e⟩
              · exact ⟨3, by decide, e⟩
            obtain ⟨o, ho, rfl⟩ := wo
            have b18 := b16.trans ((butS' (p := p) s7).trans b8)
            walk_at "rd"
            rw [c3]
            refine ⟨p, s, a0, a1, a2, m, _, x0, x1, x2, rfl, p8, m0, m9, sp1.but p1 b18, by omega, by omega, by omega, fun g2' v2 H9 r2' l2 => ?_⟩
            walk_at "rd"
            refine ⟨Rd.small (by show 3 ≤ 100000; decide), fun r n9 => ?_⟩
            have s9 := same_new (o := HO.tup ([V.str (pairWord o), v1, v2])) n9
            have t9 := upd_same (H := H9) (a := r) (o := HO.tup ([V.str (pairWord o), v1, v2]))
            generalize upd H9 r (HO.tup ([V.str (pairWord o), v1, v2])) = Hz at s9 t9 ⊢
            have k9 := kp_same s9
            refine q (.pair o g1 g2') (.ref r) Hz ⟨pot_same r2'.pot s9, (b1.trans b18).trans (r2'.but.trans (butS' s9)), ⟨r, v1, v2, rfl, SqT.of t9, r1'.at_.kp ((kp_same s7).trans ((kp_pot p7 b8).trans ((kp_pot p8 r2'.but).trans k9))), r2'.at_.kp k9⟩, ⟨ho, r1'.ok, r2'.ok⟩, r1'.nz, r2'.nz⟩ ?_
            rw [q_pair]
            omega
          · walk_at "rd"
            exact ⟨p, s, a0, a1, a2, m, x0, x1, x2, rfl, p1, m0, m9, sp1, fun g v H2 dr le => q g v H2 ⟨dr.pot, b1.trans dr.but, dr.at_, dr.ok, dr.nz⟩ (Nat.le_trans le n1)⟩
        · refine iteF ?_
          walk_at "rd"
          exact ⟨p, s, a0, a1, a2, m, x0, x1, x2, rfl, p1, m0, m9, sp1, fun g v H2 dr le => q g v H2 ⟨dr.pot, b1.trans dr.but, dr.at_, dr.ok, dr.nz⟩ (Nat.le_trans le n1)⟩
end
end K17

namespace L2
open PySem PySem.Spec PyProof.Rows
theorem call_repr_str {X : Cx} : CallR X (.builtin "repr") (fun xs H Q => ∃ y : Str, xs = [.str y] ∧ (reprText y).length ≤ sizeLine ∧ Q (.str (reprText y)) H) := by
  intro pins s σ H xs us Q I r h
  obtain ⟨y, rfl, hz, q⟩ := h
  obtain ⟨u, rfl, t, rfl⟩ := vals1 r
  exact PySem.P.repr_of_str (hsz := hz) ⟨.str _, H, I.tok _, ⟨_, rfl⟩, q⟩
/-- a comprehension over a tuple -/
theorem lcT {K : PySem.W.Frag} {tl te : TE} {i : Nat} {ii : List Nat} {σ : L2.St} {H : Hp} {Q : VK} (h : tl σ H fun x H1 => ∃ a, x = .ref a ∧ (∃ xs, SqT K H1 a xs) ∧ LcJ (Itt K a) i ii te σ H1 Q) : tLc (iTup K tl) (gName i) tYes te ii σ H Q := h
/-- .. whose elements only make objects -/
theorem lcTS {K : PySem.W.Frag} {a : Addr} {i : Nat} {ii : List Nat} {te : TE} {σ : L2.St} {H1 : Hp} {Q : VK} {xs : List V} {ys : Nat → V} (hi : ii = [i]) (hl : xs.length ≤ 100000) (hx : SqT K H1 a xs)
    (ht : ∀ k x, xs[k]? = some x → ∀ (H2 : Hp) (Q' : VK), Same H1 H2 → (∀ H3, Same H2 H3 → Q' (ys k) H3) → te ((wipe σ [i]).set i (some x)) H2 Q')
    (q : ∀ D (H2 : Hp), Same H1 H2 → H2 D = some (.lst ((List.range xs.length).map ys)) → Q (.ref D) H2) : LcJ (Itt K a) i ii te σ H1 Q := by
  subst hi
  intro D hD
  have st : ∀ {H2 : Hp} {o : HO}, Same H1 H2 → Same H1 (upd H2 D o) := fun s b u e => by rw [upd_ne (ne_of_none e hD)]; exact s b u e
  refine lc_it walk_tup (fun k H2 => Same H1 H2 ∧ H2 D = some (.lst ((List.range k).map ys))) ⟨st (Same.refl _), upd_same⟩ (fun _ _ _ p => hx.ext p.1) (fun k x H H' hk p hy => ?_) fun H2 p => q D H2 p.1 p.2
  obtain ⟨rfl, ex⟩ := hy
  obtain ⟨s2, c⟩ := p
  refine ⟨by show List.set (List.set (List.set σ i none) i _) i none = List.set σ i none; rw [List.set_set, List.set_set], iteT (B := Same H1 H' ∧ H' D = some (.lst ((List.range (k + 1)).map ys))) ?_⟩
  refine ht k x ex H' _ s2 fun H3 s3 => ⟨(List.range k).map ys, s3 _ _ c, ?_, st (s2.trans s3), ?_⟩
  · rw [List.length_map, List.length_range]
    exact Nat.lt_of_lt_of_le (show k < 100001 by omega) (by decide)
  · rw [upd_same, List.range_succ, List.map_append]
    rfl
end L2
namespace K17
open PySem PySem.Spec PyProof.Rows L2
local macro_rules | `(tactic| walk_at "rd1") => `(tactic| first
  | (with_reducible refine Rd.seq ?_) | (with_reducible refine Rd.asg ?_) | (with_reducible refine Rd.ret ?_) | (with_reducible refine Rd.nxt ?_) | (with_reducible refine Rd.ifS ?_)
  | (with_reducible refine Rd.op ?_) | (with_reducible refine Rd.un ?_) | (with_reducible refine Rd.cb ?_) | (with_reducible refine Rd.cons ?_) | (with_reducible refine Rd.nil ?_) | (with_reducible refine Rd.ifx ?_)
  | (with_reducible refine Rd.test ?_) | (with_reducible refine Rd.testB ?_) | (with_reducible refine Rd.notT ?_) | (with_reducible refine Rd.isB ?_) | (with_reducible refine Rd.lst ?_) | (with_reducible refine Rd.tup ?_)
  | (with_reducible refine Rd.andV ?_) | (with_reducible refine Rd.orV ?_) | (with_reducible refine Rd.notV ?_) | (with_reducible refine Rd.andT ?_) | (with_reducible refine Rd.orT ?_) | (with_reducible refine Rd.chain ?_)
  | (with_reducible refine Rd.m0 ?_) | (with_reducible refine Rd.m1 ?_) | (with_reducible refine Rd.bm0 ?_) | (with_reducible refine Rd.bm ?_) | (with_reducible refine Rd.sl ?_) | (with_reducible refine Rd.part ?_) | (with_reducible refine Rd.part0 ?_) | (with_reducible refine Rd.isI ?_)
  | (with_reducible refine Rd.fmt ?_) | (with_reducible refine Rd.fmtRD ?_) | (with_reducible refine Rd.meth ?_) | (with_reducible refine makeG ?_) | (with_reducible refine Rd.prop ?_) | (with_reducible refine Rd.js ?_) | (with_reducible refine Rd.js0 ?_) | (with_reducible refine Rd.par ?_) | (with_reducible refine Rd.star ?_) | (with_reducible refine lcR1 ?_) | (with_reducible refine lcR2 ?_) | (with_reducible refine Rd.fld ?_) | (with_reducible refine Rd.sfld ?_) | (with_reducible refine Rd.expr ?_) | (with_reducible refine L2.isNR ?_) | (with_reducible refine L2.methI ?_) | (with_reducible refine Rd.forZ ?_)
  | (with_reducible refine Rd.forEA ?_) | (with_reducible refine Rd.forR1 ?_) | (with_reducible refine Rd.forR2 ?_) | (with_reducible refine Rd.forL ?_) | (with_reducible refine Rd.forT ?_)
  | (with_reducible refine Rd.call ?_) | (with_reducible refine Rd.asgG ?_) | (with_reducible refine Rd.gNm ?_) | (with_reducible refine Rd.gSb ?_) | (with_reducible refine Rd.gC ?_) | (with_reducible refine Rd.gN ?_)
  | ((with_reducible refine' Rd.var ?hv ?_); (case hv => exact rfl)) | (with_reducible refine Rd.c ?_) | (with_reducible refine Rd.i0 ?_) | (with_reducible refine Rd.neg ?_)
  | ((with_reducible refine' Rd.iC ?hc ?_); (case hc => first | (show (0 : Int) < _; decide) | exact ⟨by decide, by decide⟩ | exact ⟨by decide, by decide, by decide⟩ | exact .inl ⟨by decide, by decide⟩ | exact .inr ⟨by decide, by decide⟩ | exact .inl ⟨by omega, by omega⟩ | (show (0 : Int) < _; omega) | exact ⟨by omega, by omega⟩))
  | ((with_reducible refine' Rd.eqS ?hc ?_); (case hc => rfl)) | ((with_reducible refine' Rd.neS ?hc ?_); (case hc => rfl)))
local macro_rules | `(tactic| walk_at "rd") => `(tactic| repeat walk_at "rd1")
theorem jn_cons (s x y : Str) (r : List Str) : Str.join s (x :: y :: r) = x ++ s ++ Str.join s (y :: r) := by
  rfl
theorem jn_len (s : Str) : ∀ L : List Str, (Str.join s L).length ≤ (L.map (·.length)).sum + L.length * s.length
  | [] => Nat.zero_le _
  | [a] => by
    show a.length ≤ _
    simp
  | a :: b :: L => by
    have ih := jn_len s (b :: L)
    rw [jn_cons, Str.length_append, Str.length_append]
    rw [List.map_cons, List.sum_cons, List.length_cons, Nat.succ_mul]
    omega
theorem sum_le {α : Type} {f : α → Nat} {B : Nat} : ∀ l : List α, (∀ x ∈ l, f x ≤ B) → (l.map f).sum ≤ l.length * B
  | [], _ => by simp
  | x :: l, h => by
    rw [List.map_cons, List.sum_cons, List.length_cons, Nat.succ_mul]
    have := h x List.mem_cons_self
    have := sum_le l fun y hy => h y (List.mem_cons_of_mem _ hy)
    omega

/-! ### repr of formulas -/
def wrap (x : Str) (l : List Str) : Str := (((Str.empty ++ x) ++ "(") ++ Str.join ", " l) ++ ")"
def numsD (s : List Nat) : PyData := .tuple (s.map fun n => .int (n : Nat))
def reprOf : Fm → Str
  | .num n => wrap "Number" [(PyData.int (n : Nat)).shown]
  | .ref w x => wrap (refName w) [(PyData.str x).shown]
  | .pair o l r => wrap (pairName o) [reprOf l, reprOf r]
  | .cho t s a b => wrap "Choice" [reprOf t, (numsD s).shown, reprOf a, reprOf b]
theorem num_len : ∀ n, n < 9 → (PyData.int (n : Nat)).shown.length = 1 := by decide +kernel
theorem shownAll_nums : ∀ s : List Nat, PyData.shownAll (s.map fun n => PyData.int (n : Nat)) = s.map fun n => (PyData.int (n : Nat)).shown
  | [] => by simp only [List.map_nil, PyData.shownAll]
  | n :: s => by simp only [List.map_cons, PyData.shownAll, shownAll_nums s]
theorem Asc.le8 {s : List Nat} (h : Asc s) : ∀ n ∈ s, n < 9 := fun n hn => by
  obtain ⟨i, hi⟩ := List.mem_iff_getElem?.mp hn
  have := (h.at_ i n hi).2
  omega
theorem Asc.shown {s : List Nat} (h : Asc s) : (numsD s).shown.length ≤ 60 := by
  unfold numsD
  rw [PyData.shown_tuple, Str.length_append, Str.length_append, shownAll_nums]
  have a := jn_len ", " (s.map fun n => (PyData.int (n : Nat)).shown)
  have b : ((s.map fun n => (PyData.int (n : Nat)).shown).map (·.length)).sum ≤ 9 := by
    have z := sum_le (f := fun x : Str => x.length) (B := 1) (s.map fun n => (PyData.int (n : Nat)).shown) fun x hx => by
      obtain ⟨y, hy, rfl⟩ := List.mem_map.mp hx
      exact Nat.le_of_eq (num_len y (h.le8 y hy))
    rw [List.length_map] at z
    have := h.few
    omega
  have c := h.few
  have d : (", " : Str).length = 2 := by decide +kernel
  have e : ("(" : Str).length = 1 := by decide +kernel
  have f : ∀ k : Bool, (((if k = true then ",)" else ")" : String)) : Str).length ≤ 2 := by decide +kernel
  have g := f ((s.map fun n => PyData.int (n : Nat)).length == 1)
  rw [List.length_map, d] at a
  rw [e]
  omega
theorem wrap_len {x : Str} {l : List Str} {B : Nat} (hx : x.length ≤ 6) (h : (l.map (·.length)).sum + l.length * 2 ≤ B) : (wrap x l).length ≤ B + 8 := by
  unfold wrap
  have a := jn_len ", " l
  have d : (", " : Str).length = 2 := by decide +kernel
  have e : ("(" : Str).length = 1 := by decide +kernel
  have f : (")" : Str).length = 1 := by decide +kernel
  rw [d] at a
  rw [Str.length_append, Str.length_append, Str.length_append, Str.empty_append, e, f]
  omega
end K17

namespace K17
open PySem PySem.Spec PyProof.Rows L2
local macro_rules | `(tactic| walk_at "rd1") => `(tactic| first
  | (with_reducible refine Rd.seq ?_) | (with_reducible refine Rd.asg ?_) | (with_reducible refine Rd.ret ?_) | (with_reducible refine Rd.nxt ?_) | (with_reducible refine Rd.ifS ?_)
  | (with_reducible refine Rd.op ?_) | (with_reducible refine Rd.un ?_) | (with_reducible refine Rd.cb ?_) | (with_reducible refine Rd.cons ?_) | (with_reducible refine Rd.nil ?_) | (with_reducible refine Rd.ifx ?_)
  | (with_reducible refine Rd.test ?_) | (with_reducible refine Rd.testB ?_) | (with_reducible refine Rd.notT ?_) | (with_reducible refine Rd.isB ?_) | (with_reducible refine Rd.lst ?_) | (with_reducible refine Rd.tup ?_)
  | (with_reducible refine Rd.andV ?_) | (with_reducible refine Rd.orV ?_) | (with_reducible refine Rd.notV ?_) | (with_reducible refine Rd.andT ?_) | (with_reducible refine Rd.orT ?_) | (with_reducible refine Rd.chain ?_)
  | (with_reducible refine Rd.m0 ?_) | (with_reducible refine Rd.m1 ?_) | (with_reducible refine Rd.bm0 ?_) | (with_reducible refine Rd.bm ?_) | (with_reducible refine Rd.sl ?_) | (with_reducible refine Rd.part ?_) | (with_reducible refine Rd.part0 ?_) | (with_reducible refine Rd.isI ?_)
  | (with_reducible refine Rd.fmt ?_) | (with_reducible refine Rd.fmtRD ?_) | (with_reducible refine Rd.meth ?_) | (with_reducible refine makeG ?_) | (with_reducible refine Rd.prop ?_) | (with_reducible refine Rd.js ?_) | (with_reducible refine Rd.js0 ?_) | (with_reducible refine Rd.par ?_) | (with_reducible refine Rd.star ?_) | (with_reducible refine lcR1 ?_) | (with_reducible refine lcR2 ?_) | (with_reducible refine Rd.fld ?_) | (with_reducible refine Rd.sfld ?_) | (with_reducible refine Rd.expr ?_) | (with_reducible refine L2.isNR ?_) | (with_reducible refine L2.methI ?_) | (with_reducible refine Rd.forZ ?_)
  | (with_reducible refine Rd.forEA ?_) | (with_reducible refine Rd.forR1 ?_) | (with_reducible refine Rd.forR2 ?_) | (with_reducible refine Rd.forL ?_) | (with_reducible refine Rd.forT ?_)
  | (with_reducible refine Rd.call ?_) | (with_reducible refine Rd.asgG ?_) | (with_reducible refine Rd.gNm ?_) | (with_reducible refine Rd.gSb ?_) | (with_reducible refine Rd.gC ?_) | (with_reducible refine Rd.gN ?_)
  | ((with_reducible refine' Rd.var ?hv ?_); (case hv => exact rfl)) | (with_reducible refine Rd.c ?_) | (with_reducible refine Rd.i0 ?_) | (with_reducible refine Rd.neg ?_)
  | ((with_reducible refine' Rd.iC ?hc ?_); (case hc => first | (show (0 : Int) < _; decide) | exact ⟨by decide, by decide⟩ | exact ⟨by decide, by decide, by decide⟩ | exact .inl ⟨by decide, by decide⟩ | exact .inr ⟨by decide, by decide⟩ | exact .inl ⟨by omega, by omega⟩ | (show (0 : Int) < _; omega) | exact ⟨by omega, by omega⟩))
  | ((with_reducible refine' Rd.eqS ?hc ?_); (case hc => rfl)) | ((with_reducible refine' Rd.neS ?hc ?_); (case hc => rfl)))
local macro_rules | `(tactic| walk_at "rd") => `(tactic| repeat walk_at "rd1")
def fmDec : (x y : Fm) → Decidable (x = y)
  | .num n, .num m => if h : n = m then Decidable.isTrue (by rw [h]) else isFalse (fun e => h (Fm.num.inj e))
  | .ref w c, .ref v d => if h : w = v ∧ c = d then Decidable.isTrue (by rw [h.1, h.2]) else isFalse (fun e => h (Fm.ref.inj e))
  | .pair o l r, .pair p m s =>
    match decEq o p, fmDec l m, fmDec r s with
    | Decidable.isTrue h1, Decidable.isTrue h2, Decidable.isTrue h3 => Decidable.isTrue (by rw [h1, h2, h3])
    | isFalse h, _, _ => isFalse (fun e => h (Fm.pair.inj e).1)
    | _, isFalse h, _ => isFalse (fun e => h (Fm.pair.inj e).2.1)
    | _, _, isFalse h => isFalse (fun e => h (Fm.pair.inj e).2.2)
  | .cho t s a b, .cho u v c d =>
    match fmDec t u, decEq s v, fmDec a c, fmDec b d with
    | Decidable.isTrue h1, Decidable.isTrue h2, Decidable.isTrue h3, Decidable.isTrue h4 => Decidable.isTrue (by rw [h1, h2, h3, h4])
    | isFalse h, _, _, _ => isFalse (fun e => h (Fm.cho.inj e).1)
    | _, isFalse h, _, _ => isFalse (fun e => h (Fm.cho.inj e).2.1)
    | _, _, isFalse h, _ => isFalse (fun e => h (Fm.cho.inj e).2.2.1)
    | _, _, _, isFalse h => isFalse (fun e => h (Fm.cho.inj e).2.2.2)
  | .num _, .ref _ _ => isFalse (fun e => by cases e)
  | .num _, .pair _ _ _ => isFalse (fun e => by cases e)
  | .num _, .cho _ _ _ _ => isFalse (fun e => by cases e)
  | .ref _ _, .num _ => isFalse (fun e => by cases e)
  | .ref _ _, .pair _ _ _ => isFalse (fun e => by cases e)
  | .ref _ _, .cho _ _ _ _ => isFalse (fun e => by cases e)
  | .pair _ _ _, .num _ => isFalse (fun e => by cases e)
  | .pair _ _ _, .ref _ _ => isFalse (fun e => by cases e)
  | .pair _ _ _, .cho _ _ _ _ => isFalse (fun e => by cases e)
  | .cho _ _ _ _, .num _ => isFalse (fun e => by cases e)
  | .cho _ _ _ _, .ref _ _ => isFalse (fun e => by cases e)
  | .cho _ _ _ _, .pair _ _ _ => isFalse (fun e => by cases e)
instance : DecidableEq Fm := fmDec
/-! ### one object is one formula -/
def rank : Fm → Nat
  | .num _ => 0
  | .ref w _ => 1 + w
  | .pair o _ _ => 4 + o
  | .cho .. => 8
def rankN : Nat → Str
  | 0 => "Number"
  | 1 => "Here"
  | 2 => "Up"
  | 3 => "Down"
  | 4 => "Plus"
  | 5 => "Least"
  | 6 => "Most"
  | 7 => "Same"
  | _ => "Choice"
theorem rank_lt {f : Fm} (h : Okf f) : rank f < 9 ∧ nameOf f = rankN (rank f) := by
  cases f with
  | num n => exact ⟨by show 0 < 9; decide, rfl⟩
  | ref w x =>
    obtain ⟨hw, _⟩ := h
    have hw : w = 0 ∨ w = 1 ∨ w = 2 := by omega
    rcases hw with rfl | rfl | rfl <;> exact ⟨by show 1 + _ < 9; omega, rfl⟩
  | pair o l r =>
    obtain ⟨hw, _⟩ := h
    have hw : o = 0 ∨ o = 1 ∨ o = 2 ∨ o = 3 := by omega
    rcases hw with rfl | rfl | rfl | rfl <;> exact ⟨by show 4 + _ < 9; omega, rfl⟩
  | cho t s a b => exact ⟨by show 8 < 9; decide, rfl⟩
theorem rankN_inj : ∀ i, i < 9 → ∀ j, j < 9 → rankN i = rankN j → i = j := by decide +kernel
theorem rank_of {f g : Fm} (hf : Okf f) (hg : Okf g) (h : nameOf f = nameOf g) : rank f = rank g := by
  obtain ⟨a, b⟩ := rank_lt hf
  obtain ⟨a', b'⟩ := rank_lt hg
  exact rankN_inj _ a _ a' (by rw [← b, ← b', h])
theorem sqt_inj {K : PySem.W.Frag} {H : Hp} {a : Addr} {l m : List V} (h1 : H a = some (.tup l)) (h2 : H a = some (.tup m)) : l = m := by
  rw [h1] at h2
  cases h2
  rfl
theorem nat_inj : ∀ {s t : List Nat}, s.map natV = t.map natV → s = t
  | [], [], _ => rfl
  | [], _ :: _, h => by simp at h
  | _ :: _, [], h => by simp at h
  | a :: s, b :: t, h => by
    simp only [List.map_cons, List.cons.injEq] at h
    obtain ⟨e, h⟩ := h
    injection e with e
    rw [Int.ofNat.inj e, nat_inj h]
theorem FmAt.one {K : PySem.W.Frag} {c : Cs} {H : Hp} {f g : Fm} {v : V} {l l' : List V} (hf : Okf f) (hg : Okf g) (h1 : FmAt K c H f v l) (h2 : FmAt K c H g v l') : rank f = rank g := by
  obtain ⟨a, dx, fs, g1, p, r, rfl, _, e1, b1⟩ := h1.obj
  obtain ⟨a', dx', fs', g', p', r', ea, _, e2, b2⟩ := h2.obj
  injection ea with ea
  subst ea
  have e := Option.some.inj (e1.symm.trans e2)
  injection e with _ _ e
  subst e
  have e := Option.some.inj (b1.nm.symm.trans b2.nm)
  injection e with e
  exact rank_of hf hg e
theorem ins_inj {H : Hp} {a C C' dx dx' : Addr} {fs fs' : List (Str × V)} (h1 : H a = some (.ins C dx fs)) (h2 : H a = some (.ins C' dx' fs')) : fs = fs' := by
  have e := Option.some.inj (h1.symm.trans h2)
  injection e
theorem FmAt.det {K : PySem.W.Frag} {c : Cs} {H : Hp} (inj : ∀ (a : Addr) (xs ys : List V), SqT K H a xs → SqT K H a ys → xs = ys) : ∀ {f g : Fm} {v : V} {l l' : List V}, Okf f → Okf g → FmAt K c H f v l → FmAt K c H g v l' → f = g ∧ l = l'
  | .num n, g, v, l, l', hf, hg, h1, h2 => by
    have e := FmAt.one hf hg h1 h2
    cases g with
    | num m =>
      obtain ⟨rfl, _, a, dx, fs, g1, p, rfl, e1, _, _, _, x1⟩ := h1
      obtain ⟨rfl, _, a', dx', fs', g1', p', ea, e2, _, _, _, x2⟩ := h2
      injection ea with ea
      subst ea
      obtain rfl := ins_inj e1 e2
      have e := Option.some.inj (x1.symm.trans x2)
      injection e with e
      exact ⟨by rw [Int.ofNat.inj e], rfl⟩
    | ref w x => (simp [rank] at e) <;> omega
    | pair o a b => (simp [rank] at e) <;> omega
    | cho t s a b => simp [rank] at e
  | .ref w y, g, v, l, l', hf, hg, h1, h2 => by
    have e := FmAt.one hf hg h1 h2
    have hw : w < 3 := hf.1
    cases g with
    | num m => (simp [rank] at e) <;> omega
    | ref w' x =>
      obtain ⟨rfl, a, dx, fs, g1, p, rfl, e1, _, _, _, _, x1⟩ := h1
      obtain ⟨rfl, a', dx', fs', g1', p', ea, e2, _, _, _, _, x2⟩ := h2
      injection ea with ea
      subst ea
      obtain rfl := ins_inj e1 e2
      have ex := Option.some.inj (x1.symm.trans x2)
      injection ex with ex
      have ew : w = w' := by simp [rank] at e; omega
      exact ⟨by rw [ex, ew], rfl⟩
    | pair o a b => (simp [rank] at e) <;> omega
    | cho t s a b => (simp [rank] at e) <;> omega
  | .pair o f1 f2, g, v, l, l', hf, hg, h1, h2 => by
    have e := FmAt.one hf hg h1 h2
    obtain ⟨ho, hf1, hf2⟩ := hf
    cases g with
    | num m => (simp [rank] at e) <;> omega
    | ref w' x =>
      have := hg.1
      (simp [rank] at e) <;> omega
    | pair o' g1 g2 =>
      obtain ⟨ho', hg1, hg2⟩ := hg
      obtain ⟨v1, l1, v2, l2, rfl, t1, t2, a, dx, fs, _, p, rfl, e1, _, _, _, x1, y1⟩ := h1
      obtain ⟨v1', l1', v2', l2', rfl, t1', t2', a', dx', fs', _, p', ea, e2, _, _, _, x2, y2⟩ := h2
      injection ea with ea
      subst ea
      obtain rfl := ins_inj e1 e2
      obtain rfl := Option.some.inj (x1.symm.trans x2)
      obtain rfl := Option.some.inj (y1.symm.trans y2)
      obtain ⟨rfl, rfl⟩ := FmAt.det inj hf1 hg1 t1 t1'
      obtain ⟨rfl, rfl⟩ := FmAt.det inj hf2 hg2 t2 t2'
      have ew : o = o' := by simp [rank] at e; omega
      exact ⟨by rw [ew], rfl⟩
    | cho t s a b => (simp [rank] at e) <;> omega
  | .cho f1 s f2 f3, g, v, l, l', hf, hg, h1, h2 => by
    have e := FmAt.one hf hg h1 h2
    obtain ⟨_, hf1, hf2, hf3⟩ := hf
    cases g with
    | num m => simp [rank] at e
    | ref w' x =>
      have := hg.1
      (simp [rank] at e) <;> omega
    | pair o' g1 g2 =>
      have := hg.1
      (simp [rank] at e) <;> omega
    | cho g1 s' g2 g3 =>
      obtain ⟨_, hg1, hg2, hg3⟩ := hg
      obtain ⟨v1, l1, v2, l2, v3, l3, rfl, t1, t2, t3, a, dx, fs, _, p, t, rfl, e1, _, _, _, s1, x1, y1, z1, w1⟩ := h1
      obtain ⟨v1', l1', v2', l2', v3', l3', rfl, t1', t2', t3', a', dx', fs', _, p', t', ea, e2, _, _, _, s2, x2, y2, z2, w2⟩ := h2
      injection ea with ea
      subst ea
      obtain rfl := ins_inj e1 e2
      obtain rfl := Option.some.inj (x1.symm.trans x2)
      have et := Option.some.inj (y1.symm.trans y2)
      injection et with et
      subst et
      obtain rfl := Option.some.inj (z1.symm.trans z2)
      obtain rfl := Option.some.inj (w1.symm.trans w2)
      obtain ⟨rfl, rfl⟩ := FmAt.det inj hf1 hg1 t1 t1'
      obtain ⟨rfl, rfl⟩ := FmAt.det inj hf2 hg2 t2 t2'
      obtain ⟨rfl, rfl⟩ := FmAt.det inj hf3 hg3 t3 t3'
      have es : s.map natV = s'.map natV := inj _ _ _ s1 s2
      have es : s = s' := nat_inj es
      exact ⟨by rw [es], rfl⟩
end K17

namespace K17
open PySem PySem.Spec PyProof.Rows L2
local macro_rules | `(tactic| walk_at "rd1") => `(tactic| first
  | (with_reducible refine Rd.seq ?_) | (with_reducible refine Rd.asg ?_) | (with_reducible refine Rd.ret ?_) | (with_reducible refine Rd.nxt ?_) | (with_reducible refine Rd.ifS ?_)
  | (with_reducible refine Rd.op ?_) | (with_reducible refine Rd.un ?_) | (with_reducible refine Rd.cb ?_) | (with_reducible refine Rd.cons ?_) | (with_reducible refine Rd.nil ?_) | (with_reducible refine Rd.ifx ?_)
  | (with_reducible refine Rd.test ?_) | (with_reducible refine Rd.testB ?_) | (with_reducible refine Rd.notT ?_) | (with_reducible refine Rd.isB ?_) | (with_reducible refine Rd.lst ?_) | (with_reducible refine Rd.tup ?_)
  | (with_reducible refine Rd.andV ?_) | (with_reducible refine Rd.orV ?_) | (with_reducible refine Rd.notV ?_) | (with_reducible refine Rd.andT ?_) | (with_reducible refine Rd.orT ?_) | (with_reducible refine Rd.chain ?_)
  | (with_reducible refine Rd.m0 ?_) | (with_reducible refine Rd.m1 ?_) | (with_reducible refine Rd.bm0 ?_) | (with_reducible refine Rd.bm ?_) | (with_reducible refine Rd.sl ?_) | (with_reducible refine Rd.part ?_) | (with_reducible refine Rd.part0 ?_) | (with_reducible refine Rd.isI ?_)
  | (with_reducible refine Rd.fmt ?_) | (with_reducible refine Rd.fmtRD ?_) | (with_reducible refine Rd.meth ?_) | (with_reducible refine makeG ?_) | (with_reducible refine Rd.prop ?_) | (with_reducible refine Rd.js ?_) | (with_reducible refine Rd.js0 ?_) | (with_reducible refine Rd.par ?_) | (with_reducible refine Rd.star ?_) | (with_reducible refine lcR1 ?_) | (with_reducible refine lcR2 ?_) | (with_reducible refine Rd.fld ?_) | (with_reducible refine Rd.sfld ?_) | (with_reducible refine Rd.expr ?_) | (with_reducible refine L2.isNR ?_) | (with_reducible refine L2.methI ?_) | (with_reducible refine Rd.forZ ?_)
  | (with_reducible refine Rd.forEA ?_) | (with_reducible refine Rd.forR1 ?_) | (with_reducible refine Rd.forR2 ?_) | (with_reducible refine Rd.forL ?_) | (with_reducible refine Rd.forT ?_)
  | (with_reducible refine Rd.call ?_) | (with_reducible refine Rd.asgG ?_) | (with_reducible refine Rd.gNm ?_) | (with_reducible refine Rd.gSb ?_) | (with_reducible refine Rd.gC ?_) | (with_reducible refine Rd.gN ?_)
  | ((with_reducible refine' Rd.var ?hv ?_); (case hv => exact rfl)) | (with_reducible refine Rd.c ?_) | (with_reducible refine Rd.i0 ?_) | (with_reducible refine Rd.neg ?_)
  | ((with_reducible refine' Rd.iC ?hc ?_); (case hc => first | (show (0 : Int) < _; decide) | exact ⟨by decide, by decide⟩ | exact ⟨by decide, by decide, by decide⟩ | exact .inl ⟨by decide, by decide⟩ | exact .inr ⟨by decide, by decide⟩ | exact .inl ⟨by omega, by omega⟩ | (show (0 : Int) < _; omega) | exact ⟨by omega, by omega⟩))
  | ((with_reducible refine' Rd.eqS ?hc ?_); (case hc => rfl)) | ((with_reducible refine' Rd.neS ?hc ?_); (case hc => rfl)))
local macro_rules | `(tactic| walk_at "rd") => `(tactic| repeat walk_at "rd1")
abbrev sEqF : Stmt := sMeth iFormula 12
def spEqF (K : PySem.W.Frag) (c : Cs) (CF : Addr) (n : Nat) : Sp := fun vs H Q _ => ∃ (f1 : Fm) (v1 y : V) (l1 : List V), vs = [v1, y] ∧ FmAt K c H f1 v1 l1 ∧ Okf f1 ∧ f1.ht ≤ n ∧
  ((∃ (f2 : Fm) (l2 : List V), FmAt K c H f2 y l2 ∧ Okf f2 ∧ ∀ H', Ext H H' → Q (.bl (decide (f1 = f2))) H') ∨ (∃ t, TyX K H y t ∧ PySem.W.kitOne K t (.ref CF) = some false ∧ Q (.bl false) H))
/-- == of formulas is the class Formula's -/
structure Eqc (K : PySem.W.Frag) (c : Cs) (f : Addr) : Prop where
  eq : ∀ g, OwnM K (clsOf c g) "__eq__" f
  nf : ∀ g g', Okf g → Okf g' → PySem.W.notFirst K (clsOf c g) (.ref (clsOf c g')) = true
def DFm (K : PySem.W.Frag) (c : Cs) (n : Nat) : Eqw := fun x y k H => ∃ (f1 f2 : Fm) (l1 l2 : List V), FmAt K c H f1 x l1 ∧ FmAt K c H f2 y l2 ∧ Okf f1 ∧ Okf f2 ∧ f1.ht ≤ n ∧ k = decide (f1 = f2)
theorem ext_kp {H H' : Hp} (e : Ext H H') : Kp H H' := fun b o h _ => e b o h
theorem monw_fm {K : PySem.W.Frag} {c : Cs} {n : Nat} : Monw (DFm K c n) := fun x y k H H' e d => by
  obtain ⟨f1, f2, l1, l2, h1, h2, o1, o2, ht, hk⟩ := d
  exact ⟨f1, f2, l1, l2, h1.kp (ext_kp e), h2.kp (ext_kp e), o1, o2, ht, hk⟩
theorem fm_ty {K : PySem.W.Frag} {mg : Str → Option Value} {c : Cs} {CF : Addr} {H : Hp} {f : Fm} {v : V} {l : List V} (T : Cl K c) (B : Fb K mg c CF) (h : FmAt K c H f v l) : TyX K H v (.ref (clsOf c f)) := by
  obtain ⟨a, dx, fs, g, p, r, rfl, rfl, ha, _⟩ := h.obj
  exact .base (.ins ha (T.at_ f).cl (B.hcl f) B.hgt B.htk (B.hmo f))
section
variable {X : Cx} {c : Cs} {CF f : Addr} {fd : FuncData} {n m : Nat}
theorem rcW_fm (T : Cl X.K c) (B : Fb X.K X.mg c CF) (q : Eqc X.K c f) (F : FnG X.prog X.w X.K X.mg X.base CX0 m f fd ["self", "other"] (spEqF X.K c CF n)) (hb : Binds X.K fd ["self", "other"] []) : RcW X m (DFm X.K c n) := by
  intro A pins s σ H x y k u v g sb I rx ry d
  obtain ⟨f1, f2, l1, l2, h1, h2, o1, o2, ht, rfl⟩ := d
  have ty := fm_ty T B h2
  obtain ⟨a, dx, fs, g1, p, r, rfl, _, ha, _⟩ := id h1.obj
  exact rcW_ins (E := E0) F hb pass0 A pins s σ H _ y _ u v g sb I rx ry ⟨a, _, dx, fs, _, rfl, ha, q.eq f1, ty, q.nf f1 f2 o1 o2, fun Q E z => ⟨f1, _, y, l1, rfl, h1, o1, ht, .inl ⟨f2, l2, h2, o2, z⟩⟩⟩
theorem eqW_fm (T : Cl X.K c) (B : Fb X.K X.mg c CF) (q : Eqc X.K c f) (F : FnG X.prog X.w X.K X.mg X.base CX0 m f fd ["self", "other"] (spEqF X.K c CF n)) (hb : Binds X.K fd ["self", "other"] []) : EqW X m (DFm X.K c n) :=
  (rcW_fm T B q F hb).eqW fun pins s σ x y k H I d => by
    obtain ⟨f1, f2, l1, l2, h1, h2, o1, o2, ht, rfl⟩ := d
    obtain ⟨a, _, _, _, _, _, rfl, _⟩ := id h1.obj
    obtain ⟨b, _, _, _, _, _, rfl, _⟩ := id h2.obj
    refine ⟨a, b, rfl, rfl, fun e => ?_⟩
    subst e
    exact decide_eq_true (FmAt.det (fun a xs ys => I.tuple_inj) o1 o2 h1 h2).1
/-- what stands among the given values -/
def DGv (K : PySem.W.Frag) (c : Cs) (n : Nat) : Eqw := fun x y k H => DFlatW x y k H ∨ (DTupW K DFlatW x y k H ∨ DFm K c n x y k H)
theorem monw_gv {K : PySem.W.Frag} : Monw (DGv K c n) := monw_flat.or ((monw_tup monw_flat).or monw_fm)
theorem eqV_same {x : V} (h : flatV x = true) : eqV x x = true := by
  cases x <;> first | rfl | (exact nomatch (show (false = true) from h)) | (simp [eqV]; done)
theorem eqW_gv (T : Cl X.K c) (B : Fb X.K X.mg c CF) (q : Eqc X.K c f) (F : FnG X.prog X.w X.K X.mg X.base CX0 m f fd ["self", "other"] (spEqF X.K c CF n)) (hb : Binds X.K fd ["self", "other"] []) (hm : 1 ≤ m) : EqW X m (DGv X.K c n) := by
  refine (eqW_flat.mono (Nat.zero_le m)).or (EqW.or (EqW.mono (RcW.eqW (rcW_tup monw_flat eqW_flat) fun pins s σ x y k H I d => ?_) hm) (eqW_fm T B q F hb))
  obtain ⟨a, b, xs, ys, rfl, rfl, ha, hb, ks, lk, rfl, at_⟩ := d
  refine ⟨a, b, rfl, rfl, fun e => ?_⟩
  subst e
  obtain rfl := I.tuple_inj ha hb
  rw [decide_eq_true rfl, Bool.and_true, List.all_eq_true]
  intro z hz
  obtain ⟨i, hi⟩ := List.mem_iff_getElem?.mp hz
  have hl : i < xs.length := by
    have := (List.getElem?_eq_some_iff.mp hi).1
    omega
  obtain ⟨f1, f2, e⟩ := at_ i _ _ _ (List.getElem?_eq_getElem hl) (List.getElem?_eq_getElem hl) hi
  rw [eqV_same f1] at e
  rw [← e]
  rfl
theorem prw1 {D : Eqw} {x y : V} {k : Bool} {H : Hp} (h : D x y k H) : Prw D [x] [y] k H := ⟨[k], rfl, by simp, fun i a b c h1 h2 h3 => by
  match i, h1, h2, h3 with
  | 0, h1, h2, h3 => cases h1; cases h2; cases h3; exact h⟩
theorem prw2 {D : Eqw} {x y x2 y2 : V} {k k2 : Bool} {H : Hp} (h : D x y k H) (h' : D x2 y2 k2 H) : Prw D [x, x2] [y, y2] (k && k2) H := ⟨[k, k2], rfl, by simp, fun i a b c h1 h2 h3 => by
  match i, h1, h2, h3 with
  | 0, h1, h2, h3 => cases h1; cases h2; cases h3; exact h
  | 1, h1, h2, h3 => cases h1; cases h2; cases h3; exact h'⟩
theorem prw4 {D : Eqw} {x y x2 y2 x3 y3 x4 y4 : V} {k k2 k3 k4 : Bool} {H : Hp} (h : D x y k H) (h' : D x2 y2 k2 H) (h3 : D x3 y3 k3 H) (h4 : D x4 y4 k4 H) : Prw D [x, x2, x3, x4] [y, y2, y3, y4] (k && (k2 && (k3 && k4))) H := ⟨[k, k2, k3, k4], rfl, by simp, fun i a b c g1 g2 g3 => by
  match i, g1, g2, g3 with
  | 0, g1, g2, g3 => cases g1; cases g2; cases g3; exact h
  | 1, g1, g2, g3 => cases g1; cases g2; cases g3; exact h'
  | 2, g1, g2, g3 => cases g1; cases g2; cases g3; exact h3
  | 3, g1, g2, g3 => cases g1; cases g2; cases g3; exact h4⟩
end
theorem prwN {K : PySem.W.Frag} {H : Hp} {t t' : Addr} : ∀ {s s' : List Nat}, Prw DFlatW (s.map natV) (s'.map natV) (decide (s = s')) H := fun {s s'} => by
  refine ⟨List.zipWith (fun a b => decide (a = b)) s s', by simp, ?_, fun i x y k h1 h2 h3 => ?_⟩
  · rw [List.length_map, List.length_map]
    induction s generalizing s' with
    | nil => cases s' <;> simp
    | cons a s ih =>
      cases s' with
      | nil => simp
      | cons b s' =>
        have e := ih (s' := s')
        simp only [List.zipWith_cons_cons, List.all_cons, id, List.length_cons, List.cons.injEq, Nat.add_right_cancel_iff, Bool.decide_and, Bool.and_assoc]
        rw [e]
  · rw [List.getElem?_map] at h1 h2
    rw [List.getElem?_zipWith] at h3
    cases e1 : s[i]? with
    | none => rw [e1] at h1; cases h1
    | some a =>
      cases e2 : s'[i]? with
      | none => rw [e2] at h2; cases h2
      | some b =>
        rw [e1] at h1 h3
        rw [e2] at h2 h3
        cases h1
        cases h2
        cases h3
        refine ⟨rfl, rfl, ?_⟩
        show ((a : Int) == (b : Int)) = decide (a = b)
        by_cases e : a = b
        · subst e; simp
        · rw [decide_eq_false e]; exact beq_eq_false_iff_ne.mpr fun z => e (Int.ofNat.inj z)
theorem gv_eq {K : PySem.W.Frag} {c : Cs} {n : Nat} {H : Hp} {f f' : Fm} {a a' g g' C C' dx dx' : Addr} {fs fs' : List (Str × V)} {l l' : List V} (hf : FmAt K c H f (.ref a) l) (hf' : FmAt K c H f' (.ref a') l') (og : Okf f) (og' : Okf f') (nm : nameOf f = nameOf f') (ht : f.ht ≤ n + 1)
    (ha : H a = some (.ins C dx fs)) (ha' : H a' = some (.ins C' dx' fs')) (gv : fs.lookup ("_given" : Str) = some (.ref g)) (gv' : fs'.lookup ("_given" : Str) = some (.ref g')) : DTupW K (DGv K c n) (.ref g) (.ref g') (decide (f = f')) H := by
  have rk := rank_of og og' nm
  cases f with
  | num m =>
    cases f' with
    | num m' =>
      obtain ⟨_, _, b, _, fs1, g1, p, eb, e1, b1, s1, _⟩ := hf
      obtain ⟨_, _, b', _, fs1', g1', p', eb', e1', b1', s1', _⟩ := hf'
      injection eb with eb
      injection eb' with eb'
      subst eb eb'
      obtain rfl := ins_inj ha e1
      obtain rfl := ins_inj ha' e1'
      have x := Option.some.inj (gv.symm.trans b1.gv)
      have x' := Option.some.inj (gv'.symm.trans b1'.gv)
      injection x with x
      injection x' with x'
      subst x x'
      refine ⟨g, g', _, _, rfl, rfl, s1, s1', prw1 (.inl ⟨rfl, rfl, ?_⟩)⟩
      show ((m : Int) == (m' : Int)) = decide (Fm.num m = Fm.num m')
      by_cases e : m = m'
      · subst e; simp
      · rw [decide_eq_false (fun z => e (by injection z))]; exact beq_eq_false_iff_ne.mpr fun z => e (Int.ofNat.inj z)
    | ref w x => (simp [rank] at rk) <;> omega
    | pair o a b => (simp [rank] at rk) <;> omega
    | cho t s a b => (simp [rank] at rk) <;> omega
  | ref w x =>
    cases f' with
    | ref w' x' =>
      have ew : w = w' := by simp [rank] at rk; omega
      subst ew
      obtain ⟨_, b, _, fs1, g1, p, eb, e1, b1, s1, _⟩ := hf
      obtain ⟨_, b', _, fs1', g1', p', eb', e1', b1', s1', _⟩ := hf'
      injection eb with eb
      injection eb' with eb'
      subst eb eb'
      obtain rfl := ins_inj ha e1
      obtain rfl := ins_inj ha' e1'
      have z := Option.some.inj (gv.symm.trans b1.gv)
      have z' := Option.some.inj (gv'.symm.trans b1'.gv)
      injection z with z
      injection z' with z'
      subst z z'
      refine ⟨g, g', _, _, rfl, rfl, s1, s1', prw1 (.inl ⟨rfl, rfl, ?_⟩)⟩
      show (x == x') = decide (Fm.ref w x = Fm.ref w x')
      by_cases e : x = x'
      · subst e; simp
      · rw [decide_eq_false (fun z => e (by injection z))]; simpa using e
    | num m => (simp [rank] at rk) <;> omega
    | pair o a b => have := og.1; (simp [rank] at rk) <;> omega
    | cho t s a b => have := og.1; (simp [rank] at rk) <;> omega
  | pair o f1 f2 =>
    cases f' with
    | pair o' f1' f2' =>
      have ew : o = o' := by simp [rank] at rk; omega
      subst ew
      have hm : max f1.ht f2.ht + 1 ≤ n + 1 := ht
      obtain ⟨v1, l1, v2, l2, _, t1, t2, b, _, fs1, g1, p, eb, e1, b1, s1, _⟩ := hf
      obtain ⟨v1', l1', v2', l2', _, t1', t2', b', _, fs1', g1', p', eb', e1', b1', s1', _⟩ := hf'
      injection eb with eb
      injection eb' with eb'
      subst eb eb'
      obtain rfl := ins_inj ha e1
      obtain rfl := ins_inj ha' e1'
      have z := Option.some.inj (gv.symm.trans b1.gv)
      have z' := Option.some.inj (gv'.symm.trans b1'.gv)
      injection z with z
      injection z' with z'
      subst z z'
      have pk := prw2 (D := DGv K c n) (H := H) (.inr (.inr ⟨f1, f1', l1, l1', t1, t1', og.2.1, og'.2.1, by omega, rfl⟩)) (.inr (.inr ⟨f2, f2', l2, l2', t2, t2', og.2.2, og'.2.2, by omega, rfl⟩))
      have e : decide (Fm.pair o f1 f2 = Fm.pair o f1' f2') = (decide (f1 = f1') && decide (f2 = f2')) := by rw [← Bool.decide_and]; simp
      rw [e]
      exact ⟨g, g', _, _, rfl, rfl, s1, s1', pk⟩
    | num m => (simp [rank] at rk) <;> omega
    | ref w x => have := og'.1; (simp [rank] at rk) <;> omega
    | cho t s a b => have := og.1; (simp [rank] at rk) <;> omega
  | cho f1 s f2 f3 =>
    cases f' with
    | cho f1' s' f2' f3' =>
      have hm : max f1.ht (max f2.ht f3.ht) + 1 ≤ n + 1 := ht
      obtain ⟨v1, l1, v2, l2, v3, l3, _, t1, t2, t3, b, _, fs1, g1, p, t, eb, e1, b1, s1, _, st, _⟩ := hf
      obtain ⟨v1', l1', v2', l2', v3', l3', _, t1', t2', t3', b', _, fs1', g1', p', t', eb', e1', b1', s1', _, st', _⟩ := hf'
      injection eb with eb
      injection eb' with eb'
      subst eb eb'
      obtain rfl := ins_inj ha e1
      obtain rfl := ins_inj ha' e1'
      have z := Option.some.inj (gv.symm.trans b1.gv)
      have z' := Option.some.inj (gv'.symm.trans b1'.gv)
      injection z with z
      injection z' with z'
      subst z z'
      have pk := prw4 (D := DGv K c n) (H := H) (.inr (.inr ⟨f1, f1', l1, l1', t1, t1', og.2.1, og'.2.1, by omega, rfl⟩)) (.inr (.inl ⟨t, t', _, _, rfl, rfl, st, st', prwN (K := K) (t := t) (t' := t')⟩)) (.inr (.inr ⟨f2, f2', l2, l2', t2, t2', og.2.2.1, og'.2.2.1, by omega, rfl⟩)) (.inr (.inr ⟨f3, f3', l3, l3', t3, t3', og.2.2.2, og'.2.2.2, by omega, rfl⟩))
      have e : decide (Fm.cho f1 s f2 f3 = Fm.cho f1' s' f2' f3') = (decide (f1 = f1') && (decide (s = s') && (decide (f2 = f2') && decide (f3 = f3')))) := by
        rw [← Bool.decide_and, ← Bool.decide_and, ← Bool.decide_and]; simp
      rw [e]
      exact ⟨g, g', _, _, rfl, rfl, s1, s1', pk⟩
    | num m => (simp [rank] at rk) <;> omega
    | ref w x => have := og'.1; (simp [rank] at rk) <;> omega
    | pair o a b => have := og'.1; (simp [rank] at rk) <;> omega
section
variable {P : Program} {w : World} {K : PySem.W.Frag} {mg : Str → Option Value} {base : Heap} {c : Cs} {CF f : Addr} {fd : FuncData}
theorem scEqF : FnScope ["self", "other"] ["self", "other"] (defScope sEqF) := ⟨rfl, rfl, rfl, by decide +kernel, rfl, by decide +kernel, by decide +kernel⟩
theorem ok_eqF (F : FunD K "__eq__" "Formula.__eq__" (defArgs sEqF) (defBody sEqF) (defScope sEqF) [] [] f fd) (T : Cl K c) (B : Fb K mg c CF) (q0 : Eqc K c f) (gIs : mg "isinstance" = none) : ∀ n, FnG P w K mg base CX0 (n * 3 + 3) f fd ["self", "other"] (spEqF K c CF n) := by
  have bE : Binds K fd ["self", "other"] [] := F.bindsN fun _ _ _ _ _ _ us hl => match us, hl with | [_, _], _ => rfl
  intro n
  induction n with
  | zero =>
    refine F.okG scEqF (fun vs H Q E h => ?_) (fun cdv A outer s H vs Q E hgu hr h => ?_)
    · obtain ⟨g, v, y, l, rfl, _⟩ := h
      rfl
    · obtain ⟨g, v, y, l, rfl, _, _, ht, _⟩ := h
      cases g <;> simp [Fm.ht] at ht
  | succ n ih =>
    have e3 : (n + 1) * 3 + 3 = (n * 3 + 5) + 1 := by omega
    rw [e3]
    refine F.okG scEqF (fun vs H Q E h => ?_) (fun cdv A outer s H vs Q E hgu hr h => ?_)
    · obtain ⟨g, v, y, l, rfl, _⟩ := h
      rfl
    · obtain ⟨g, v, y, l, rfl, hf, og, ht, q⟩ := h
      refine ⟨_, PSs.nox (pss_one (ps_ret (pe_and (pe_callB call_isi rfl gIs (by decide +kernel) (pa_cons (pv 1) (pa_cons (pe_glob rfl B.gF (v := .ref CF) rfl) pa_nil)))
        (pe_and (pe_cmpR op_eq (pe_fld (pv 0) rfl) (pe_fld (pv 1) rfl) (nomark _)) (pe_one (pe_cmpR (op_eqW (rcW_tup monw_gv (eqW_gv T B q0 ih bE (show 1 ≤ n * 3 + 3 by omega))) (hr.mono (show n * 3 + 3 + 1 ≤ n * 3 + 5 by omega)) hgu) (pe_fld (pv 0) rfl) (pe_fld (pv 1) rfl) (nomark _))))))), ?_⟩
      obtain ⟨a, dx, fs, g1, p, r, rfl, _, ha, b1⟩ := id hf.obj
      rcases q with ⟨g', l', hf', og', q⟩ | ⟨t, ty, k0, q⟩
      · obtain ⟨a', dx', fs', g1', p', r', rfl, _, ha', b1'⟩ := id hf'.obj
        walk_at "rd"
        refine ⟨.ref a', .ref CF, .ref (clsOf c g'), .ref CF, true, rfl, .own CF, fm_ty T B hf', B.kit g', ?_⟩
        refine Rd.isT rfl ?_
        walk_at "rd"
        refine ⟨a, _, dx, fs, _, rfl, ha, (T.at_ g).cl, (T.at_ g).no "_called", b1.nm, ?_⟩
        walk_at "rd"
        refine ⟨a', _, dx', fs', _, rfl, ha', (T.at_ g').cl, (T.at_ g').no "_called", b1'.nm, ?_⟩
        walk_at "rd"
        refine Rd.ifB (fun z => ?_) (fun z => ?_)
        · have nm : nameOf g = nameOf g' := by
            have e := of_decide_eq_true z
            injection e
          walk_at "rd"
          refine ⟨a, _, dx, fs, _, rfl, ha, (T.at_ g).cl, (T.at_ g).no "_given", b1.gv, ?_⟩
          walk_at "rd"
          refine ⟨a', _, dx', fs', _, rfl, ha', (T.at_ g').cl, (T.at_ g').no "_given", b1'.gv, ?_⟩
          walk_at "rd"
          refine ⟨_, gv_eq (n := n) hf hf' og og' nm ht ha ha' b1.gv b1'.gv, fun H' e => ?_⟩
          exact q H' e
        · have nm : ¬ g = g' := fun e => by
            have e2 := of_decide_eq_false z
            exact e2 (by rw [e])
          rw [decide_eq_false nm] at q
          exact q _ Ext.rfl'
      · walk_at "rd"
        refine ⟨y, .ref CF, t, .ref CF, false, rfl, .own CF, ty, k0, ?_⟩
        refine Rd.isF rfl ?_
        exact q
end
end K17

namespace K17
open PySem PySem.Spec PyProof.Rows L2
local macro_rules | `(tactic| walk_at "rd1") => `(tactic| first
  | (with_reducible refine Rd.seq ?_) | (with_reducible refine Rd.asg ?_) | (with_reducible refine Rd.ret ?_) | (with_reducible refine Rd.nxt ?_) | (with_reducible refine Rd.ifS ?_)
  | (with_reducible refine Rd.op ?_) | (with_reducible refine Rd.un ?_) | (with_reducible refine Rd.cb ?_) | (with_reducible refine Rd.cons ?_) | (with_reducible refine Rd.nil ?_) | (with_reducible refine Rd.ifx ?_)
  | (with_reducible refine Rd.test ?_) | (with_reducible refine Rd.testB ?_) | (with_reducible refine Rd.notT ?_) | (with_reducible refine Rd.isB ?_) | (with_reducible refine Rd.lst ?_) | (with_reducible refine Rd.tup ?_)
  | (with_reducible refine Rd.andV ?_) | (with_reducible refine Rd.orV ?_) | (with_reducible refine Rd.notV ?_) | (with_reducible refine Rd.andT ?_) | (with_reducible refine Rd.orT ?_) | (with_reducible refine Rd.chain ?_)
  | (with_reducible refine Rd.m0 ?_) | (with_reducible refine Rd.m1 ?_) | (with_reducible refine Rd.bm0 ?_) | (with_reducible refine Rd.bm ?_) | (with_reducible refine Rd.sl ?_) | (with_reducible refine Rd.part ?_) | (with_reducible refine Rd.part0 ?_) | (with_reducible refine Rd.isI ?_)
  | (with_reducible refine Rd.fmt ?_) | (with_reducible refine Rd.fmtRD ?_) | (with_reducible refine Rd.meth ?_) | (with_reducible refine makeG ?_) | (with_reducible refine Rd.prop ?_) | (with_reducible refine Rd.js ?_) | (with_reducible refine Rd.js0 ?_) | (with_reducible refine Rd.par ?_) | (with_reducible refine Rd.star ?_) | (with_reducible refine lcR1 ?_) | (with_reducible refine lcR2 ?_) | (with_reducible refine Rd.fld ?_) | (with_reducible refine Rd.sfld ?_) | (with_reducible refine Rd.expr ?_) | (with_reducible refine L2.isNR ?_) | (with_reducible refine L2.methI ?_) | (with_reducible refine Rd.forZ ?_)
  | (with_reducible refine Rd.forEA ?_) | (with_reducible refine Rd.forR1 ?_) | (with_reducible refine Rd.forR2 ?_) | (with_reducible refine Rd.forL ?_) | (with_reducible refine Rd.forT ?_)
  | (with_reducible refine Rd.call ?_) | (with_reducible refine Rd.asgG ?_) | (with_reducible refine Rd.gNm ?_) | (with_reducible refine Rd.gSb ?_) | (with_reducible refine Rd.gC ?_) | (with_reducible refine Rd.gN ?_)
  | ((with_reducible refine' Rd.var ?hv ?_); (case hv => exact rfl)) | (with_reducible refine Rd.c ?_) | (with_reducible refine Rd.i0 ?_) | (with_reducible refine Rd.neg ?_)
  | ((with_reducible refine' Rd.iC ?hc ?_); (case hc => first | (show (0 : Int) < _; decide) | exact ⟨by decide, by decide⟩ | exact ⟨by decide, by decide, by decide⟩ | exact .inl ⟨by decide, by decide⟩ | exact .inr ⟨by decide, by decide⟩ | exact .inl ⟨by omega, by omega⟩ | (show (0 : Int) < _; omega) | exact ⟨by omega, by omega⟩))
  | ((with_reducible refine' Rd.eqS ?hc ?_); (case hc => rfl)) | ((with_reducible refine' Rd.neS ?hc ?_); (case hc => rfl)))
local macro_rules | `(tactic| walk_at "rd") => `(tactic| repeat walk_at "rd1")
theorem name_len {f : Fm} (h : Okf f) : (nameOf f).length ≤ 6 := by
  obtain ⟨a, b⟩ := rank_lt h
  rw [b]
  exact (show ∀ i, i < 9 → (rankN i).length ≤ 6 by decide +kernel) _ a
theorem sum1 (x : Str) : (([x] : List Str).map (·.length)).sum + ([x] : List Str).length * 2 = x.length + 2 := by simp
theorem sum2 (x y : Str) : (([x, y] : List Str).map (·.length)).sum + ([x, y] : List Str).length * 2 = x.length + y.length + 4 := by simp <;> omega
theorem sum4 (x y z u : Str) : (([x, y, z, u] : List Str).map (·.length)).sum + ([x, y, z, u] : List Str).length * 2 = x.length + y.length + z.length + u.length + 8 := by simp <;> omega
theorem repr_len : ∀ {f : Fm}, Okf f → (reprOf f).length ≤ 90 * f.q.1
  | .num n, h => by
    have a := wrap_len (x := "Number") (l := [(PyData.int (n : Nat)).shown]) (B := 10) (name_len (f := .num n) h) (by
      have hn : n ≤ 8 := h
      have e := num_len n (by omega)
      rw [sum1]
      omega)
    exact Nat.le_trans a (show 18 ≤ 90 * 1 by omega)
  | .ref w x, h => by
    have a := wrap_len (x := refName w) (l := [(PyData.str x).shown]) (B := 30) (name_len (f := .ref w x) h) (by
      have := h.2.rep
      rw [sum1]; omega)
    exact Nat.le_trans a (show 38 ≤ 90 * 1 by omega)
  | .pair o l r, h => by
    have h1 := repr_len h.2.1
    have h2 := repr_len h.2.2
    have a := wrap_len (x := pairName o) (l := [reprOf l, reprOf r]) (B := 90 * l.q.1 + 90 * r.q.1 + 4) (name_len (f := .pair o l r) h) (by rw [sum2]; omega)
    rw [q_pair]
    exact Nat.le_trans a (by omega)
  | .cho t s p b, h => by
    have h1 := repr_len h.2.1
    have h2 := repr_len h.2.2.1
    have h3 := repr_len h.2.2.2
    have h4 := h.1.shown
    have a := wrap_len (x := "Choice") (l := [reprOf t, (numsD s).shown, reprOf p, reprOf b]) (B := 90 * t.q.1 + 60 + 90 * p.q.1 + 90 * b.q.1 + 8) (name_len (f := .cho t s p b) h) (by rw [sum4]; omega)
    rw [q_cho]
    exact Nat.le_trans a (by omega)
abbrev sReprF : Stmt := sMeth iFormula 14
def spReprF (K : PySem.W.Frag) (c : Cs) (n : Nat) : Sp := fun vs H Q _ => ∃ (f : Fm) (v : V) (l : List V), vs = [v] ∧ FmAt K c H f v l ∧ Okf f ∧ f.ht ≤ n ∧ Fits f ∧ ∀ H', Same H H' → Q (.str (reprOf f)) H'
/-- what repr says of a value among the given ones -/
def Told (K : PySem.W.Frag) (c : Cs) (n : Nat) (H : Hp) (x : V) (y : Str) : Prop :=
  (∃ m : Nat, m < 9 ∧ x = .int (m : Nat) ∧ y = (PyData.int (m : Nat)).shown) ∨ (∃ z, x = .str z ∧ Nam z ∧ y = (PyData.str z).shown) ∨ (∃ a s, x = .ref a ∧ SqT K H a (s.map natV) ∧ Asc s ∧ y = (numsD s).shown) ∨
    ∃ f l, FmAt K c H f x l ∧ Okf f ∧ f.ht ≤ n ∧ Fits f ∧ y = reprOf f
def rTold (K : PySem.W.Frag) (c : Cs) (n : Nat) : List V → Hp → VK → Prop := fun xs H Q => ∃ x y, xs = [x] ∧ Told K c n H x y ∧ ∀ H', Same H H' → Q (.str y) H'
theorem dds_nums {K : PySem.W.Frag} {H : Hp} : ∀ s : List Nat, Dds K H (s.map natV) (s.map fun n => PyData.int (n : Nat))
  | [] => .nil
  | n :: s => .cons (.int _) (dds_nums s)
theorem depth_nums : ∀ s : List Nat, PyData.depthAll (s.map fun n => PyData.int (n : Nat)) = 0
  | [] => by simp only [List.map_nil, PyData.depthAll]
  | n :: s => by simp only [List.map_cons, PyData.depthAll, PyData.depth, depth_nums s, Nat.max_self]
theorem small_log : ∀ n, n < 9 → ((n : Nat) : Int).natAbs.log2 < 1920 := by decide +kernel
theorem showable_nums : ∀ s : List Nat, (∀ n ∈ s, n < 9) → PyData.showableAll (s.map fun n => PyData.int (n : Nat)) = true
  | [], _ => by simp only [List.map_nil, PyData.showableAll]
  | n :: s, h => by
    simp only [List.map_cons, PyData.showableAll, PyData.showable, showable_nums s fun m hm => h m (List.mem_cons_of_mem _ hm), Bool.and_true]
    exact decide_eq_true (small_log n (h n List.mem_cons_self))
theorem call_told {X : Cx} {c : Cs} {f : Addr} {fd : FuncData} {n m : Nat} (hgu : X.A.guards = some []) (hu : X.A.units + 64 < cLine) (sm : smOk X.K = true) (F : FnG X.prog X.w X.K X.mg X.base CX0 m f fd ["self"] (spReprF X.K c n)) (own : ∀ g, OwnM X.K (clsOf c g) "__repr__" f) (hb : Binds X.K fd ["self"] []) (hr : Room (m + 1) X.A) :
    CallR X (.builtin "repr") (rTold X.K c n) := by
  intro pins s σ H xs us Q I r h
  obtain ⟨x, y, rfl, t, q⟩ := h
  rcases t with ⟨k, hk, rfl, rfl⟩ | ⟨z, rfl, nz, rfl⟩ | ⟨a, sl, rfl, ha, asc, rfl⟩ | ⟨g, l, hg, og, ht, fit, rfl⟩
  · exact SkE.call_repr_int pins s σ H _ us Q I r ⟨_, rfl, small_log k hk, q H (Same.refl _)⟩
  · exact call_repr_str pins s σ H _ us Q I r ⟨z, rfl, Rd.small (by have := nz.rep; exact Nat.le_trans this (by decide)), q H (Same.refl _)⟩
  · refine call_reprD hgu hu sm pins s σ H _ us Q I r ⟨a, numsD sl, rfl, .tup ha (dds_nums sl), ?_, ?_, Rd.small (by have := asc.shown; omega), q H (Same.refl _)⟩
    · unfold numsD
      rw [PyData.showable, showable_nums sl asc.le8]
    · unfold numsD
      rw [PyData.depth, depth_nums]
      decide
  · obtain ⟨a, dx, fs, g1, p, r1, rfl, _, ha, _⟩ := id hg.obj
    exact call_reprI (E := E0) F (own g) hb pass0 hgu hr pins s σ H _ us Q I r ⟨a, dx, fs, rfl, ha, g, _, l, rfl, hg, og, ht, fit, fun H' e => ⟨_, rfl, q H' e⟩⟩
theorem Told.same {K : PySem.W.Frag} {c : Cs} {n : Nat} {H H' : Hp} {x : V} {y : Str} (h : Told K c n H x y) (s : Same H H') : Told K c n H' x y := by
  rcases h with h | h | ⟨a, sl, e, ha, asc, z⟩ | ⟨f, l, hf, o, ht, fit, z⟩
  · exact .inl h
  · exact .inr (.inl h)
  · exact .inr (.inr (.inl ⟨a, sl, e, ha.ext s, asc, z⟩))
  · exact .inr (.inr (.inr ⟨f, l, hf.kp (kp_same s), o, ht, fit, z⟩))
/-- the given values and what repr says of them -/
structure Gt (K : PySem.W.Frag) (c : Cs) (n : Nat) (H : Hp) (g : Addr) (f : Fm) (xs : List V) (T : List Str) : Prop where
  at_ : SqT K H g xs
  len : xs.length = T.length
  few : T.length ≤ 4
  small : ∀ y ∈ T, y.length ≤ 3600
  told : ∀ k x, xs[k]? = some x → Told K c n H x (T.getD k Str.empty)
  repr : reprOf f = wrap (nameOf f) T
theorem gv_told {K : PySem.W.Frag} {c : Cs} {n : Nat} {H : Hp} {f : Fm} {a g C dx : Addr} {fs : List (Str × V)} {l : List V} (hf : FmAt K c H f (.ref a) l) (og : Okf f) (ht : f.ht ≤ n + 1) (fit : Fits f)
    (ha : H a = some (.ins C dx fs)) (gv : fs.lookup ("_given" : Str) = some (.ref g)) : ∃ xs T, Gt K c n H g f xs T := by
  cases f with
  | num m =>
    obtain ⟨_, hm, b, _, fs1, g1, p, eb, e1, b1, s1, _⟩ := hf
    injection eb with eb
    subst eb
    obtain rfl := ins_inj ha e1
    have x := Option.some.inj (gv.symm.trans b1.gv)
    injection x with x
    subst x
    exact ⟨_, [(PyData.int (m : Nat)).shown], s1, rfl, (by show 1 ≤ 4; decide), (fun y hy => by rw [List.mem_singleton.mp hy, num_len m (by omega)]; decide), fun k x e => by
      match k, e with
      | 0, e => cases e; exact .inl ⟨m, by omega, rfl, rfl⟩, rfl⟩
  | ref w x =>
    obtain ⟨_, b, _, fs1, g1, p, eb, e1, b1, s1, _⟩ := hf
    injection eb with eb
    subst eb
    obtain rfl := ins_inj ha e1
    have z := Option.some.inj (gv.symm.trans b1.gv)
    injection z with z
    subst z
    exact ⟨_, [(PyData.str x).shown], s1, rfl, (by show 1 ≤ 4; decide), (fun y hy => by rw [List.mem_singleton.mp hy]; have := og.2.rep; omega), fun k y e => by
      match k, e with
      | 0, e => cases e; exact .inr (.inl ⟨x, rfl, og.2, rfl⟩), rfl⟩
  | pair o f1 f2 =>
    have hm : max f1.ht f2.ht + 1 ≤ n + 1 := ht
    obtain ⟨ft1, ft2⟩ := fit.pair
    obtain ⟨v1, l1, v2, l2, _, t1, t2, b, _, fs1, g1, p, eb, e1, b1, s1, _⟩ := hf
    injection eb with eb
    subst eb
    obtain rfl := ins_inj ha e1
    have z := Option.some.inj (gv.symm.trans b1.gv)
    injection z with z
    subst z
    exact ⟨_, [reprOf f1, reprOf f2], s1, rfl, (by show 2 ≤ 4; decide), (fun y hy => by
      simp only [List.mem_cons, List.not_mem_nil, or_false] at hy
      have a1 := repr_len og.2.1
      have a2 := repr_len og.2.2
      have b1 := ft1.1
      have b2 := ft2.1
      rcases hy with rfl | rfl <;> omega), fun k y e => by
      match k, e with
      | 0, e => cases e; exact .inr (.inr (.inr ⟨f1, l1, t1, og.2.1, by omega, ft1, rfl⟩))
      | 1, e => cases e; exact .inr (.inr (.inr ⟨f2, l2, t2, og.2.2, by omega, ft2, rfl⟩)), rfl⟩
  | cho f1 s f2 f3 =>
    have hm : max f1.ht (max f2.ht f3.ht) + 1 ≤ n + 1 := ht
    obtain ⟨ft1, ft2, ft3⟩ := fit.cho
    obtain ⟨v1, l1, v2, l2, v3, l3, _, t1, t2, t3, b, _, fs1, g1, p, t, eb, e1, b1, s1, _, st, _⟩ := hf
    injection eb with eb
    subst eb
    obtain rfl := ins_inj ha e1
    have z := Option.some.inj (gv.symm.trans b1.gv)
    injection z with z
    subst z
    exact ⟨_, [reprOf f1, (numsD s).shown, reprOf f2, reprOf f3], s1, rfl, (by show 4 ≤ 4; decide), (fun y hy => by
      simp only [List.mem_cons, List.not_mem_nil, or_false] at hy
      have a1 := repr_len og.2.1
      have a2 := repr_len og.2.2.1
      have a3 := repr_len og.2.2.2
      have a4 := og.1.shown
      have b1 := ft1.1
      have b2 := ft2.1
      have b3 := ft3.1
      rcases hy with rfl | rfl | rfl | rfl <;> omega), fun k y e => by
      match k, e with
      | 0, e => cases e; exact .inr (.inr (.inr ⟨f1, l1, t1, og.2.1, by omega, ft1, rfl⟩))
      | 1, e => cases e; exact .inr (.inr (.inl ⟨t, s, rfl, st, og.1, rfl⟩))
      | 2, e => cases e; exact .inr (.inr (.inr ⟨f2, l2, t2, og.2.2.1, by omega, ft2, rfl⟩))
      | 3, e => cases e; exact .inr (.inr (.inr ⟨f3, l3, t3, og.2.2.2, by omega, ft3, rfl⟩)), rfl⟩
section
variable {P : Program} {w : World} {K : PySem.W.Frag} {mg : Str → Option Value} {base : Heap} {c : Cs} {f : Addr} {fd : FuncData}
theorem scReprF : FnScope ["self", "told", "part"] ["self"] (defScope sReprF) := ⟨rfl, rfl, rfl, by decide +kernel, rfl, by decide +kernel, by decide +kernel⟩
theorem ok_reprF (F : FunD K "__repr__" "Formula.__repr__" (defArgs sReprF) (defBody sReprF) (defScope sReprF) [] [] f fd) (T : Cl K c) (own : ∀ g, OwnM K (clsOf c g) "__repr__" f) (gRepr : mg "repr" = none) (sm : smOk K = true) : ∀ n, FnG P w K mg base CX0 (n * 2 + 2) f fd ["self"] (spReprF K c n) := by
  have bR : Binds K fd ["self"] [] := F.bindsN fun _ _ _ _ _ _ us hl => match us, hl with | [_], _ => rfl
  intro n
  induction n with
  | zero =>
    refine F.okG scReprF (fun vs H Q E h => ?_) (fun cdv A outer s H vs Q E hgu hr h => ?_)
    · obtain ⟨g, v, l, rfl, _⟩ := h
      rfl
    · obtain ⟨g, v, l, rfl, _, _, ht, _⟩ := h
      cases g <;> simp [Fm.ht] at ht
  | succ n ih =>
    have e3 : (n + 1) * 2 + 2 = (n * 2 + 3) + 1 := by omega
    rw [e3]
    refine F.okG scReprF (fun vs H Q E h => ?_) (fun cdv A outer s H vs Q E hgu hr h => ?_)
    · obtain ⟨g, v, l, rfl, _⟩ := h
      rfl
    · obtain ⟨g, v, l, rfl, hf, og, ht, fit, q⟩ := h
      obtain ⟨a, dx, fs, g1, p, r, rfl, _, ha, b1⟩ := id hf.obj
      obtain ⟨xs, TL, gt⟩ := gv_told hf og ht fit ha b1.gv
      refine ⟨_, PSs.nox (pss_cons (ps_setLc (i := 1) (own := [("part", 2)]) (g := gName 2) (tt := tYes) (te := tCB (rTold K c n) (tCons (tVar 2) tNil)) rfl scReprF.nd rfl rfl (sw_true rfl rfl rfl (by decide +kernel)) (pi_tup (pe_fld (pv 0) rfl)) (blkOk_by (N := ["self", "told", "part"]) (sc := defScope sReprF) (by decide +kernel)) (fun _ _ _ _ _ => by exact pg_name (i := 2) scReprF.nd rfl (Or.inl rfl)) (fun _ _ _ _ _ => by exact pts_nil)
          (fun _ _ _ _ _ => by exact pe_callB (call_told hgu hr.units sm ih own bR hr) rfl gRepr (by decide +kernel) (pa_cons (pv 2) pa_nil)))
        (pss_one (ps_ret (pe_joined (.cons (pe_fmt (pe_fld (pv 0) rfl)) (.cons pe_str (.cons (pe_fmt (pe_join pe_str (pv 1))) (.cons pe_str .nil)))))))), ?_⟩
      walk_at "rd"
      refine lcT ?_
      walk_at "rd"
      refine ⟨a, _, dx, fs, _, rfl, ha, (T.at_ g).cl, (T.at_ g).no "_given", b1.gv, g1, rfl, ⟨_, gt.at_⟩, ?_⟩
      refine lcTS (ys := fun k => V.str (TL.getD k Str.empty)) rfl (by have := gt.few; have := gt.len; omega) gt.at_ (fun k x ex H2 Q' s2 z => ?_) (fun D H2 s2 hD => ?_)
      · walk_at "rd"
        exact ⟨x, _, rfl, (gt.told k x ex).same s2, fun H3 s3 => z H3 s3⟩
      · have eT : (List.range xs.length).map (fun k => V.str (TL.getD k Str.empty)) = TL.map V.str := by
          rw [gt.len]
          apply List.ext_getElem?
          intro i
          rw [List.getElem?_map, List.getElem?_map]
          by_cases hi : i < TL.length
          · rw [List.getElem?_range hi, List.getElem?_eq_getElem hi]
            simp [List.getD_eq_getElem?_getD, List.getElem?_eq_getElem hi]
          · rw [List.getElem?_eq_none (by simpa using hi), List.getElem?_eq_none (by omega)]
            rfl
        rw [eT] at hD
        walk_at "rd"
        have tj : ∀ (x : Str) l, Txt.join x l = Str.join x l := StrLaws.glued_eq_join
        have d2 : (", " : Str).length = 2 := by decide +kernel
        have e1 : ("(" : Str).length = 1 := by decide +kernel
        have e2 : (")" : Str).length = 1 := by decide +kernel
        have nl := name_len og
        have sm2 := sum_le (f := fun x : Str => x.length) (B := 3600) TL gt.small
        have fw := gt.few
        have jl := jn_len ", " TL
        rw [d2] at jl
        refine ⟨a, _, dx, fs, _, rfl, s2 _ _ ha, (T.at_ g).cl, (T.at_ g).no "_called", b1.nm, ?_⟩
        refine .inl ⟨_, rfl, Rd.small (by omega), ?_⟩
        have f1 : (Str.empty ++ nameOf g : Str).length ≤ 6 := by rw [Str.empty_append]; exact nl
        refine ⟨_, rfl, Rd.small (by omega), ?_⟩
        walk_at "rd"
        have f2 : ((Str.empty ++ nameOf g) ++ "(" : Str).length ≤ 7 := by rw [Str.length_append, e1]; omega
        refine ⟨_, rfl, Rd.small (by omega), ?_⟩
        walk_at "rd"
        refine ⟨⟨_, rfl⟩, ?_⟩
        walk_at "rd"
        refine ⟨", ", D, TL, rfl, rfl, .inl (SqL.of hD), by rw [d2]; omega, ?_⟩
        rw [tj]
        refine .inl ⟨_, rfl, Rd.small (by omega), ?_⟩
        have f3 : (((Str.empty ++ nameOf g) ++ "(") ++ Str.join ", " TL : Str).length ≤ 20000 := by rw [Str.length_append]; omega
        refine ⟨_, rfl, Rd.small (by omega), ?_⟩
        walk_at "rd"
        refine ⟨_, rfl, Rd.small (by rw [Str.length_append, e2]; omega), ?_⟩
        walk_at "rd"
        have z := q H2 s2
        rw [gt.repr] at z
        exact z
end
end K17

namespace K17
open PySem PySem.Spec PyProof.Rows L2
local macro_rules | `(tactic| walk_at "rd1") => `(tactic| first
  | (with_reducible refine Rd.seq ?_) | (with_reducible refine Rd.asg ?_) | (with_reducible refine Rd.ret ?_) | (with_reducible refine Rd.nxt ?_) | (with_reducible refine Rd.ifS ?_)
  | (with_reducible refine Rd.op ?_) | (with_reducible refine Rd.un ?_) | (with_reducible refine Rd.cb ?_) | (with_reducible refine Rd.cons ?_) | (with_reducible refine Rd.nil ?_) | (with_reducible refine Rd.ifx ?_)
  | (with_reducible refine Rd.test ?_) | (with_reducible refine Rd.testB ?_) | (with_reducible refine Rd.notT ?_) | (with_reducible refine Rd.isB ?_) | (with_reducible refine Rd.lst ?_) | (with_reducible refine Rd.tup ?_)
  | (with_reducible refine Rd.andV ?_) | (with_reducible refine Rd.orV ?_) | (with_reducible refine Rd.notV ?_) | (with_reducible refine Rd.andT ?_) | (with_reducible refine Rd.orT ?_) | (with_reducible refine Rd.chain ?_)
  | (with_reducible refine Rd.m0 ?_) | (with_reducible refine Rd.m1 ?_) | (with_reducible refine Rd.bm0 ?_) | (with_reducible refine Rd.bm ?_) | (with_reducible refine Rd.sl ?_) | (with_reducible refine Rd.part ?_) | (with_reducible refine Rd.part0 ?_) | (with_reducible refine Rd.isI ?_)
  | (with_reducible refine Rd.fmt ?_) | (with_reducible refine Rd.fmtRD ?_) | (with_reducible refine Rd.meth ?_) | (with_reducible refine makeG ?_) | (with_reducible refine Rd.prop ?_) | (with_reducible refine Rd.js ?_) | (with_reducible refine Rd.js0 ?_) | (with_reducible refine Rd.par ?_) | (with_reducible refine Rd.star ?_) | (with_reducible refine lcR1 ?_) | (with_reducible refine lcR2 ?_) | (with_reducible refine Rd.fld ?_) | (with_reducible refine Rd.sfld ?_) | (with_reducible refine Rd.expr ?_) | (with_reducible refine L2.isNR ?_) | (with_reducible refine L2.methI ?_) | (with_reducible refine Rd.forZ ?_)
  | (with_reducible refine Rd.forEA ?_) | (with_reducible refine Rd.forR1 ?_) | (with_reducible refine Rd.forR2 ?_) | (with_reducible refine Rd.forL ?_) | (with_reducible refine Rd.forT ?_)
  | (with_reducible refine Rd.call ?_) | (with_reducible refine Rd.asgG ?_) | (with_reducible refine Rd.gNm ?_) | (with_reducible refine Rd.gSb ?_) | (with_reducible refine Rd.gC ?_) | (with_reducible refine Rd.gN ?_)
  | ((with_reducible refine' Rd.var ?hv ?_); (case hv => exact rfl)) | (with_reducible refine Rd.c ?_) | (with_reducible refine Rd.i0 ?_) | (with_reducible refine Rd.neg ?_)
  | ((with_reducible refine' Rd.iC ?hc ?_); (case hc => first | (show (0 : Int) < _; decide) | exact ⟨by decide, by decide⟩ | exact ⟨by decide, by decide, by decide⟩ | exact .inl ⟨by decide, by decide⟩ | exact .inr ⟨by decide, by decide⟩ | exact .inl ⟨by omega, by omega⟩ | (show (0 : Int) < _; omega) | exact ⟨by omega, by omega⟩))
  | ((with_reducible refine' Rd.eqS ?hc ?_); (case hc => rfl)) | ((with_reducible refine' Rd.neS ?hc ?_); (case hc => rfl)))
local macro_rules | `(tactic| walk_at "rd") => `(tactic| repeat walk_at "rd1")
abbrev sIsInt : Stmt := topA iis_integer
abbrev sAddF : Stmt := sMeth iFormula 11
/-- a formula's class is not int's -/
structure Ni (K : PySem.W.Frag) (c : Cs) : Prop where
  no : ∀ f, PySem.W.kitOne K (.ref (clsOf c f)) (.type "int") = some false
def spIsInt (K : PySem.W.Frag) (c : Cs) : Sp := fun vs H Q _ => ∃ y, vs = [y] ∧ ((∃ i : Int, y = .int i ∧ Q (.bl true) H) ∨ (∃ f l, FmAt K c H f y l ∧ Q (.bl false) H))
def spAddF (K : PySem.W.Frag) (c : Cs) : Sp := fun vs H Q _ => ∃ (f1 : Fm) (v1 y : V) (l1 : List V), vs = [v1, y] ∧ FmAt K c H f1 v1 l1 ∧
  ((∃ f2 l2, FmAt K c H f2 y l2 ∧ Fits (.pair 0 f1 f2) ∧ ∀ v H' l, New K c H H' (.pair 0 f1 f2) v l → Q v H') ∨ (∃ n : Nat, n ≤ 8 ∧ y = .int (n : Nat) ∧ Fits (.pair 0 f1 (.num n)) ∧ ∀ v H' l, New K c H H' (.pair 0 f1 (.num n)) v l → Q v H'))
section
variable {P : Program} {w : World} {K : PySem.W.Frag} {mg : Str → Option Value} {base : Heap} {c : Cs} {CF f fI : Addr} {fd fdI : FuncData}
theorem scIsInt : FnScope ["value"] ["value"] (defScope sIsInt) := ⟨rfl, rfl, rfl, by decide +kernel, rfl, by decide +kernel, by decide +kernel⟩
theorem ok_isInt (F : FnP K "is_integer" sIsInt f fd) (T : Cl K c) (B : Fb K mg c CF) (N : Ni K c) (gIs : mg "isinstance" = none) (gInt : mg "int" = none) (gBool : mg "bool" = none) : FnOk P w K mg base CX0 1 f fd ["value"] (spIsInt K c) := by
  refine F.ok scIsInt (fun vs H Q E h => ?_) (fun cdv A outer s H vs Q E hr h => ?_)
  · obtain ⟨y, rfl, _⟩ := h
    rfl
  · obtain ⟨y, rfl, q⟩ := h
    refine ⟨_, PSs.nox (pss_one (ps_ret (pe_and (pe_callB call_isi rfl gIs (by decide +kernel) (pa_cons (pv 0) (pa_cons (pe_bltn rfl gInt (by decide +kernel) (v := .ty "int") rfl) pa_nil)))
      (pe_one (pe_not (pe_callB call_isi rfl gIs (by decide +kernel) (pa_cons (pv 0) (pa_cons (pe_bltn rfl gBool (by decide +kernel) (v := .ty "bool") rfl) pa_nil)))))))), ?_⟩
    rcases q with ⟨i, rfl, q⟩ | ⟨g, l, hg, q⟩
    · walk_at "rd"
      refine Rd.isi (k := true) (.base (.int _)) (by decide +kernel) ?_
      refine Rd.isT rfl ?_
      walk_at "rd"
      refine Rd.isi (k := false) (.base (.int _)) (by decide +kernel) ?_
      exact ⟨_, rfl, q⟩
    · walk_at "rd"
      refine ⟨y, .ty "int", _, .type "int", false, rfl, .ty "int", fm_ty T B hg, N.no g, ?_⟩
      refine Rd.isF rfl ?_
      exact q
theorem scAddF : FnScope ["self", "other"] ["self", "other"] (defScope sAddF) := ⟨rfl, rfl, rfl, by decide +kernel, rfl, by decide +kernel, by decide +kernel⟩
theorem ok_addF (F : FunD K "__add__" "Formula.__add__" (defArgs sAddF) (defBody sAddF) (defScope sAddF) [] [] f fd) (M : Mks P w K mg base c) (FI : FnP K "is_integer" sIsInt fI fdI) (GI : FnOk P w K mg base CX0 1 fI fdI ["value"] (spIsInt K c)) (gI : mg "is_integer" = some (.ref fI)) : FnOk P w K mg base CX0 5 f fd ["self", "other"] (spAddF K c) := by
  have bI : Binds K fdI ["value"] [] := FI.bindsN fun _ _ _ _ _ _ us hl => match us, hl with | [_], _ => rfl
  obtain ⟨fN, fdN, cN⟩ := M.num
  obtain ⟨fp, fdp, cp⟩ := M.pair 0 (by decide)
  refine F.ok scAddF (fun vs H Q E h => ?_) (fun cdv A outer s H vs Q E hr h => ?_)
  · obtain ⟨f1, v1, y, l1, rfl, _⟩ := h
    rfl
  · obtain ⟨f1, v1, y, l1, rfl, h1, q⟩ := h
    refine ⟨_, PSs.nox (pss_cons (ps_if (pt_val (pe_call GI (hr.mono (by decide)) rfl gI FI.kp bI .nil pass0 (pa_cons (pv 1) pa_nil)))
        (pss_one (ps_ret (pe_make cp.mkr cp.ok hr rfl cp.g cp.b .nil pass0 (pa_cons (pv 0) (pa_cons (pe_make cN.mkr cN.ok hr rfl cN.g cN.b .nil pass0 (pa_cons (pv 1) pa_nil)) pa_nil))))) pss_nil)
      (pss_one (ps_ret (pe_make cp.mkr cp.ok hr rfl cp.g cp.b .nil pass0 (pa_cons (pv 0) (pa_cons (pv 1) pa_nil)))))), ?_⟩
    rcases q with ⟨f2, l2, h2, fit, q⟩ | ⟨n, hn, rfl, fit, q⟩
    · walk_at "rd"
      refine ⟨y, rfl, .inr ⟨f2, l2, h2, ?_⟩⟩
      walk_at "rd"
      refine iteF ?_
      walk_at "rd"
      exact mkPair h1 h2 fit.1 fit.2 fun v H' z => q v H' _ z
    · walk_at "rd"
      refine ⟨_, rfl, .inl ⟨_, rfl, ?_⟩⟩
      walk_at "rd"
      refine iteT ?_
      walk_at "rd"
      refine mkNum hn fun v2 H2 l2 z2 => ?_
      walk_at "rd"
      exact mkPair (h1.kp (kp_same z2.same)) z2.at_ fit.1 fit.2 fun v H' z => q v H' _ ⟨z2.same.trans z.same, z.at_, z.new.imp fun x e => ⟨e.1, z2.same.free e.2⟩, z.sq⟩
end
end K17

namespace K17
open PySem PySem.Spec PyProof.Rows L2
local macro_rules | `(tactic| walk_at "rd1") => `(tactic| first
  | (with_reducible refine Rd.seq ?_) | (with_reducible refine Rd.asg ?_) | (with_reducible refine Rd.ret ?_) | (with_reducible refine Rd.nxt ?_) | (with_reducible refine Rd.ifS ?_)
  | (with_reducible refine Rd.op ?_) | (with_reducible refine Rd.un ?_) | (with_reducible refine Rd.cb ?_) | (with_reducible refine Rd.cons ?_) | (with_reducible refine Rd.nil ?_) | (with_reducible refine Rd.ifx ?_)
  | (with_reducible refine Rd.test ?_) | (with_reducible refine Rd.testB ?_) | (with_reducible refine Rd.notT ?_) | (with_reducible refine Rd.isB ?_) | (with_reducible refine Rd.lst ?_) | (with_reducible refine Rd.tup ?_)
  | (with_reducible refine Rd.andV ?_) | (with_reducible refine Rd.orV ?_) | (with_reducible refine Rd.notV ?_) | (with_reducible refine Rd.andT ?_) | (with_reducible refine Rd.orT ?_) | (with_reducible refine Rd.chain ?_)
  | (with_reducible refine Rd.m0 ?_) | (with_reducible refine Rd.m1 ?_) | (with_reducible refine Rd.bm0 ?_) | (with_reducible refine Rd.bm ?_) | (with_reducible refine Rd.sl ?_) | (with_reducible refine Rd.part ?_) | (with_reducible refine Rd.part0 ?_) | (with_reducible refine Rd.isI ?_)
  | (with_reducible refine Rd.fmt ?_) | (with_reducible refine Rd.fmtRD ?_) | (with_reducible refine Rd.meth ?_) | (with_reducible refine makeG ?_) | (with_reducible refine Rd.prop ?_) | (with_reducible refine Rd.js ?_) | (with_reducible refine Rd.js0 ?_) | (with_reducible refine Rd.par ?_) | (with_reducible refine Rd.star ?_) | (with_reducible refine lcR1 ?_) | (with_reducible refine lcR2 ?_) | (with_reducible refine Rd.fld ?_) | (with_reducible refine Rd.sfld ?_) | (with_reducible refine Rd.expr ?_) | (with_reducible refine L2.isNR ?_) | (with_reducible refine L2.methI ?_) | (with_reducible refine Rd.forZ ?_)
  | (with_reducible refine Rd.forEA ?_) | (with_reducible refine Rd.forR1 ?_) | (with_reducible refine Rd.forR2 ?_) | (with_reducible refine Rd.forL ?_) | (with_reducible refine Rd.forT ?_)
  | (with_reducible refine Rd.call ?_) | (with_reducible refine Rd.asgG ?_) | (with_reducible refine Rd.gNm ?_) | (with_reducible refine Rd.gSb ?_) | (with_reducible refine Rd.gC ?_) | (with_reducible refine Rd.gN ?_)
  | ((with_reducible refine' Rd.var ?hv ?_); (case hv => exact rfl)) | (with_reducible refine Rd.c ?_) | (with_reducible refine Rd.i0 ?_) | (with_reducible refine Rd.neg ?_)
  | ((with_reducible refine' Rd.iC ?hc ?_); (case hc => first | (show (0 : Int) < _; decide) | exact ⟨by decide, by decide⟩ | exact ⟨by decide, by decide, by decide⟩ | exact .inl ⟨by decide, by decide⟩ | exact .inr ⟨by decide, by decide⟩ | exact .inl ⟨by omega, by omega⟩ | (show (0 : Int) < _; omega) | exact ⟨by omega, by omega⟩))
  | ((with_reducible refine' Rd.eqS ?hc ?_); (case hc => rfl)) | ((with_reducible refine' Rd.neS ?hc ?_); (case hc => rfl)))
local macro_rules | `(tactic| walk_at "rd") => `(tactic| repeat walk_at "rd1")
/-! ### the nodes in their sequence, kept once asked -/
/-- formulas of which the nodes are kept from now on, else all as before -/
def SeqC (K : PySem.W.Frag) (c : Cs) (l : List V) (N : Addr → Prop) (H H' : Hp) : Prop := ∀ b o, H b = some o → H' b = some o ∨ (V.ref b ∈ l ∧ ∃ C dx fs q lb g, o = .ins C dx fs ∧ N q ∧ fs.lookup ("_sequence" : Str) = some .non ∧ FmAt K c H g (.ref b) lb ∧ Okf g ∧ H' b = some (.ins C dx (putF "_sequence" (.ref q) fs)) ∧ H' q = some (.lst lb))
theorem SeqC.refl {K : PySem.W.Frag} {c : Cs} {l : List V} {N : Addr → Prop} {H : Hp} : SeqC K c l N H H := fun _ _ e => .inl e
theorem seq_same {K : PySem.W.Frag} {c : Cs} {l : List V} {N : Addr → Prop} {H H' : Hp} (s : Same H H') : SeqC K c l N H H' := fun b o e => .inl (s b o e)
theorem SeqC.oth {K : PySem.W.Frag} {c : Cs} {l : List V} {N : Addr → Prop} {H H' : Hp} (k : SeqC K c l N H H') {b : Addr} {o : HO} (e : H b = some o) (n : ∀ C dx fs, o ≠ .ins C dx fs) : H' b = some o := by
  rcases k b o e with h | ⟨_, C, dx, fs, _, _, _, rfl, _⟩
  · exact h
  · exact absurd rfl (n C dx fs)
theorem SeqC.free {K : PySem.W.Frag} {c : Cs} {l : List V} {N : Addr → Prop} {H H' : Hp} (k : SeqC K c l N H H') {b : Addr} (e : H' b = none) : H b = none := by
  cases h : H b with
  | none => rfl
  | some o =>
    rcases k b o h with z | ⟨_, C, dx, fs, _, _, _, _, _, _, _, _, z, _⟩ <;> (rw [e] at z; cases z)
theorem sqt_seq {K : PySem.W.Frag} {c : Cs} {l : List V} {N : Addr → Prop} {H H' : Hp} {a : Addr} {xs : List V} (k : SeqC K c l N H H') (h : SqT K H a xs) : SqT K H' a xs := by
  rcases h with (h | ⟨o, h⟩) | h
  · exact .inl (.inl (k.oth h fun _ _ _ z => by cases z))
  · exact .inl (.inr ⟨o, k.oth h fun _ _ _ z => by cases z⟩)
  · exact .inr h
theorem len_putF {f : Str} {v : V} : ∀ fs : List (Str × V), (putF f v fs).length ≤ fs.length + 1
  | [] => Nat.le_refl _
  | (g, x) :: r => by
    unfold putF
    split
    · exact Nat.le_succ _
    · exact Nat.succ_le_succ (len_putF r)
theorem len_putF' {f : Str} {v x : V} : ∀ {fs : List (Str × V)}, fs.lookup f = some x → (putF f v fs).length = fs.length
  | [], h => by cases h
  | (g, y) :: r, h => by
    unfold putF
    split
    · rfl
    · rename_i ne
      have e : (f == g) = false := beq_eq_false_iff_ne.mpr fun e => ne e.symm
      have h : (match f == g with | true => some y | false => r.lookup f) = some x := h
      rw [e] at h
      exact congrArg Nat.succ (len_putF' h)
theorem all_putF {f : Str} {v : V} {p : Str → Bool} (hf : p f = true) : ∀ {fs : List (Str × V)}, (fs.all fun q => p q.1) = true → ((putF f v fs).all fun q => p q.1) = true
  | [], _ => by
    show (List.all [(f, v)] fun q => p q.1) = true
    rw [List.all_cons, hf]
    rfl
  | (g, x) :: r, h => by
    rw [List.all_cons, Bool.and_eq_true] at h
    unfold putF
    split
    · rw [List.all_cons, h.2, Bool.and_true]
      exact h.1
    · rw [List.all_cons, all_putF hf h.2, Bool.and_true]
      exact h.1
/-- what is known of one object, behind the change -/
theorem Bs.seq {K : PySem.W.Frag} {c : Cs} {l : List V} {N : Addr → Prop} {H H' : Hp} (inj : InjT K H) (k : SeqC K c l N H H') {f : Fm} {a C dx g p : Addr} {fs : List (Str × V)} {name : Str} {q : Nat × Nat} {m : List V} (of : Okf f) (hf : FmAt K c H f (.ref a) m) (ha : H a = some (.ins C dx fs)) (b : Bs H fs name g p q m) :
    ∃ fs', H' a = some (.ins C dx fs') ∧ Bs H' fs' name g p q m ∧ ∀ x : Str, x ≠ "_sequence" → fs'.lookup x = fs.lookup x := by
  rcases k a _ ha with h | ⟨_, C', dx', fs', q', lb, g', e, _, ns, fg, og, h, hq⟩
  · refine ⟨fs, h, ⟨b.nm, b.gv, b.pt, b.mn, b.dp, ?_, b.few, b.ks⟩, fun _ _ => rfl⟩
    obtain ⟨z, e, w⟩ := b.sq
    exact ⟨z, e, w.imp id fun ⟨d, e, w⟩ => ⟨d, e, k.oth w fun _ _ _ z => by cases z⟩⟩
  · cases e
    obtain ⟨rfl, rfl⟩ := FmAt.det inj of og hf fg
    have ne : ∀ x : Str, x ≠ "_sequence" → (putF "_sequence" (.ref q') fs).lookup x = fs.lookup x := fun x hx => by rw [lookup_putF, if_neg hx]
    refine ⟨_, h, ⟨(ne _ (by decide +kernel)).trans b.nm, (ne _ (by decide +kernel)).trans b.gv, (ne _ (by decide +kernel)).trans b.pt, (ne _ (by decide +kernel)).trans b.mn, (ne _ (by decide +kernel)).trans b.dp, ⟨.ref q', by rw [lookup_putF, if_pos rfl], .inr ⟨q', rfl, hq⟩⟩, ?_, all_putF (p := fun x => fldNames.contains x) (by decide +kernel) b.ks⟩, ne⟩
    rw [len_putF' ns]
    exact b.few
theorem FmAt.seq {K : PySem.W.Frag} {c : Cs} {l : List V} {N : Addr → Prop} {H H' : Hp} (inj : InjT K H) (k : SeqC K c l N H H') : ∀ {f : Fm} {v : V} {m : List V}, Okf f → FmAt K c H f v m → FmAt K c H' f v m
  | .num n, v, m, o, h => by
    obtain ⟨rfl, hn, a, dx, fs, g, p, rfl, h1, h2, h3, h4, h5⟩ := id h
    obtain ⟨fs', e, b, ne⟩ := Bs.seq inj k o h h1 h2
    exact ⟨rfl, hn, a, dx, fs', g, p, rfl, e, b, sqt_seq k h3, sqt_seq k h4, (ne _ (by decide +kernel)).trans h5⟩
  | .ref w x, v, m, o, h => by
    obtain ⟨rfl, a, dx, fs, g, p, rfl, h1, h2, h3, h4, h5, h6⟩ := id h
    obtain ⟨fs', e, b, ne⟩ := Bs.seq inj k o h h1 h2
    exact ⟨rfl, a, dx, fs', g, p, rfl, e, b, sqt_seq k h3, sqt_seq k h4, (ne _ (by decide +kernel)).trans h5, (ne _ (by decide +kernel)).trans h6⟩
  | .pair w f1 f2, v, m, o, h => by
    obtain ⟨v1, l1, v2, l2, rfl, t1, t2, a, dx, fs, g, p, rfl, h1, h2, h3, h4, h5, h6⟩ := id h
    obtain ⟨fs', e, b, ne⟩ := Bs.seq inj k o h h1 h2
    exact ⟨v1, l1, v2, l2, rfl, FmAt.seq inj k o.2.1 t1, FmAt.seq inj k o.2.2 t2, a, dx, fs', g, p, rfl, e, b, sqt_seq k h3, sqt_seq k h4, (ne _ (by decide +kernel)).trans h5, (ne _ (by decide +kernel)).trans h6⟩
  | .cho f1 s f2 f3, v, m, o, h => by
    obtain ⟨v1, l1, v2, l2, v3, l3, rfl, t1, t2, t3, a, dx, fs, g, p, t, rfl, h1, h2, h3, h4, h5, h6, h7, h8, h9⟩ := id h
    obtain ⟨fs', e, b, ne⟩ := Bs.seq inj k o h h1 h2
    exact ⟨v1, l1, v2, l2, v3, l3, rfl, FmAt.seq inj k o.2.1 t1, FmAt.seq inj k o.2.2.1 t2, FmAt.seq inj k o.2.2.2 t3, a, dx, fs', g, p, t, rfl, e, b, sqt_seq k h3, sqt_seq k h4, sqt_seq k h5, (ne _ (by decide +kernel)).trans h6, (ne _ (by decide +kernel)).trans h7, (ne _ (by decide +kernel)).trans h8, (ne _ (by decide +kernel)).trans h9⟩
/-- each node is a formula -/
theorem FmAt.node {K : PySem.W.Frag} {c : Cs} {H : Hp} : ∀ {f : Fm} {v : V} {l : List V}, Okf f → FmAt K c H f v l → ∀ u ∈ l, ∃ g m, FmAt K c H g u m ∧ Okf g
  | .num n, v, l, o, h, u, hu => by
    obtain ⟨rfl, _⟩ := id h
    rw [List.mem_singleton.mp hu]
    exact ⟨_, _, h, o⟩
  | .ref w x, v, l, o, h, u, hu => by
    obtain ⟨rfl, _⟩ := id h
    rw [List.mem_singleton.mp hu]
    exact ⟨_, _, h, o⟩
  | .pair w f1 f2, v, l, o, h, u, hu => by
    obtain ⟨v1, l1, v2, l2, rfl, t1, t2, _⟩ := id h
    rw [List.mem_cons, List.mem_append] at hu
    rcases hu with rfl | hu | hu
    · exact ⟨_, _, h, o⟩
    · exact FmAt.node o.2.1 t1 u hu
    · exact FmAt.node o.2.2 t2 u hu
  | .cho f1 s f2 f3, v, l, o, h, u, hu => by
    obtain ⟨v1, l1, v2, l2, v3, l3, rfl, t1, t2, t3, _⟩ := id h
    rw [List.mem_cons, List.mem_append, List.mem_append] at hu
    rcases hu with rfl | hu | hu | hu
    · exact ⟨_, _, h, o⟩
    · exact FmAt.node o.2.1 t1 u hu
    · exact FmAt.node o.2.2.1 t2 u hu
    · exact FmAt.node o.2.2.2 t3 u hu
/-- all that changes are nodes of l, told at the first heap -/
theorem SeqC.trans {K : PySem.W.Frag} {c : Cs} {l l' : List V} {N N' : Addr → Prop} {H H1 H2 : Hp} (imp : ∀ q, N' q → N q) (inj : InjT K H) (inj1 : InjT K H1) (nodes : ∀ u ∈ l, ∃ g m, FmAt K c H g u m ∧ Okf g) (sub : ∀ u ∈ l', u ∈ l) (k : SeqC K c l N H H1) (k' : SeqC K c l' N' H1 H2) : SeqC K c l N H H2 := by
  intro b o e
  rcases k b o e with h | ⟨hb, C, dx, fs, q, lb, g, rfl, nq, ns, fg, og, h, hq⟩
  · rcases k' b o h with z | ⟨hb, C, dx, fs, q, lb, g, rfl, nq, ns, fg, og, h', hq⟩
    · exact .inl z
    · obtain ⟨g', m, fg', og'⟩ := nodes _ (sub _ hb)
      obtain ⟨rfl, rfl⟩ := FmAt.det inj1 og og' fg (fg'.seq inj k og')
      exact .inr ⟨sub _ hb, C, dx, fs, q, lb, g, rfl, imp _ nq, ns, fg', og', h', hq⟩
  · rcases k' b _ h with z | ⟨_, C', dx', fs', q', _, _, e', _, ns', _⟩
    · exact .inr ⟨hb, C, dx, fs, q, lb, g, rfl, nq, ns, fg, og, z, k'.oth hq fun _ _ _ z => by cases z⟩
    · cases e'
      rw [lookup_putF, if_pos rfl] at ns'
      cases ns'
/-- an object that was not there may change -/
theorem SeqC.set {K : PySem.W.Frag} {c : Cs} {l : List V} {N : Addr → Prop} {H H1 : Hp} (k : SeqC K c l N H H1) {D : Addr} {o : HO} (hD : H D = none) (nD : ∀ q, N q → q ≠ D) : SeqC K c l N H (upd H1 D o) := by
  intro b u e
  have ne : b ≠ D := ne_of_none e hD
  rw [upd_ne ne]
  rcases k b u e with h | ⟨hb, C, dx, fs, q, lb, g, rfl, nq, ns, fg, og, h, hq⟩
  · exact .inl h
  · exact .inr ⟨hb, C, dx, fs, q, lb, g, rfl, nq, ns, fg, og, h, by rw [upd_ne (nD q nq)]; exact hq⟩
theorem putF_putF {f : Str} {v w : V} : ∀ fs : List (Str × V), putF f v (putF f w fs) = putF f v fs
  | [] => by
    show putF f v [(f, w)] = [(f, v)]
    unfold putF
    rw [if_pos rfl]
  | (g, x) :: r => by
    by_cases h : g = f
    · have e : putF f w ((g, x) :: r) = (g, w) :: r := by unfold putF; rw [if_pos h]
      rw [e]
      unfold putF
      rw [if_pos h, if_pos h]
    · have e : putF f w ((g, x) :: r) = (g, x) :: putF f w r := by conv => lhs; unfold putF; rw [if_neg h]
      rw [e]
      have e1 : putF f v ((g, x) :: putF f w r) = (g, x) :: putF f v (putF f w r) := by conv => lhs; unfold putF; rw [if_neg h]
      have e2 : putF f v ((g, x) :: r) = (g, x) :: putF f v r := by conv => lhs; unfold putF; rw [if_neg h]
      rw [e1, e2, putF_putF r]
/-- the parts of a formula -/
structure Pt where
  f : Fm
  v : V
  l : List V
def partsOf : Fm → List Fm
  | .pair _ l r => [l, r]
  | .cho t _ a b => [t, a, b]
  | _ => []
structure PtsAt (K : PySem.W.Frag) (c : Cs) (H : Hp) (f : Fm) (v : V) (l : List V) (p : Addr) (ps : List Pt) : Prop where
  at_ : SqT K H p (ps.map (·.v))
  nodes : l = v :: (ps.map (·.l)).flatten
  all : ∀ x ∈ ps, FmAt K c H x.f x.v x.l ∧ Okf x.f ∧ x.f.ht + 1 ≤ f.ht
  few : ps.length ≤ 3
  many : f.q.1 = fmN (ps.map (·.f.q))
  shape : ps.map (·.f) = partsOf f
theorem FmAt.parts {K : PySem.W.Frag} {c : Cs} {H : Hp} {f : Fm} {a C dx p : Addr} {fs : List (Str × V)} {l : List V} (o : Okf f) (h : FmAt K c H f (.ref a) l) (ha : H a = some (.ins C dx fs)) (hp : fs.lookup ("_parts" : Str) = some (.ref p)) : ∃ ps, PtsAt K c H f (.ref a) l p ps := by
  cases f with
  | num n =>
    obtain ⟨rfl, _, b, _, fs1, g1, p1, eb, e1, b1, _, s1, _⟩ := id h
    injection eb with eb
    subst eb
    obtain rfl := ins_inj ha e1
    have x := Option.some.inj (hp.symm.trans b1.pt)
    injection x with x
    subst x
    exact ⟨[], s1, rfl, fun x hx => absurd hx List.not_mem_nil, by decide, rfl, rfl⟩
  | ref w y =>
    obtain ⟨rfl, b, _, fs1, g1, p1, eb, e1, b1, _, s1, _⟩ := id h
    injection eb with eb
    subst eb
    obtain rfl := ins_inj ha e1
    have x := Option.some.inj (hp.symm.trans b1.pt)
    injection x with x
    subst x
    exact ⟨[], s1, rfl, fun x hx => absurd hx List.not_mem_nil, by decide, rfl, rfl⟩
  | pair w f1 f2 =>
    obtain ⟨v1, l1, v2, l2, rfl, t1, t2, b, _, fs1, g1, p1, eb, e1, b1, _, s1, _⟩ := id h
    injection eb with eb
    subst eb
    obtain rfl := ins_inj ha e1
    have x := Option.some.inj (hp.symm.trans b1.pt)
    injection x with x
    subst x
    have ht : max f1.ht f2.ht + 1 ≤ max f1.ht f2.ht + 1 := Nat.le_refl _
    refine ⟨[⟨f1, v1, l1⟩, ⟨f2, v2, l2⟩], s1, by simp, fun x hx => ?_, by show 2 ≤ 3; decide, rfl, rfl⟩
    rw [List.mem_cons, List.mem_singleton] at hx
    rcases hx with rfl | rfl
    · exact ⟨t1, o.2.1, by show f1.ht + 1 ≤ max f1.ht f2.ht + 1; omega⟩
    · exact ⟨t2, o.2.2, by show f2.ht + 1 ≤ max f1.ht f2.ht + 1; omega⟩
  | cho f1 s f2 f3 =>
    obtain ⟨v1, l1, v2, l2, v3, l3, rfl, t1, t2, t3, b, _, fs1, g1, p1, t, eb, e1, b1, _, s1, _⟩ := id h
    injection eb with eb
    subst eb
    obtain rfl := ins_inj ha e1
    have x := Option.some.inj (hp.symm.trans b1.pt)
    injection x with x
    subst x
    refine ⟨[⟨f1, v1, l1⟩, ⟨f2, v2, l2⟩, ⟨f3, v3, l3⟩], s1, by simp, fun x hx => ?_, by show 3 ≤ 3; decide, rfl, rfl⟩
    rw [List.mem_cons, List.mem_cons, List.mem_singleton] at hx
    rcases hx with rfl | rfl | rfl
    · exact ⟨t1, o.2.1, by show f1.ht + 1 ≤ max f1.ht (max f2.ht f3.ht) + 1; omega⟩
    · exact ⟨t2, o.2.2.1, by show f2.ht + 1 ≤ max f1.ht (max f2.ht f3.ht) + 1; omega⟩
    · exact ⟨t3, o.2.2.2, by show f3.ht + 1 ≤ max f1.ht (max f2.ht f3.ht) + 1; omega⟩
theorem nodes_len {K : PySem.W.Frag} {c : Cs} {H : Hp} : ∀ {f : Fm} {v : V} {l : List V}, FmAt K c H f v l → l.length = f.q.1
  | .num n, v, l, h => by
    obtain ⟨rfl, _⟩ := id h
    rfl
  | .ref w x, v, l, h => by
    obtain ⟨rfl, _⟩ := id h
    rfl
  | .pair w f1 f2, v, l, h => by
    obtain ⟨v1, l1, v2, l2, rfl, t1, t2, _⟩ := id h
    have e1 := nodes_len t1
    have e2 := nodes_len t2
    rw [q_pair]
    simp only [List.length_cons, List.length_append]
    omega
  | .cho f1 s f2 f3, v, l, h => by
    obtain ⟨v1, l1, v2, l2, v3, l3, rfl, t1, t2, t3, _⟩ := id h
    have e1 := nodes_len t1
    have e2 := nodes_len t2
    have e3 := nodes_len t3
    rw [q_cho]
    simp only [List.length_cons, List.length_append]
    omega
abbrev sEvery : Stmt := sMeth iFormula 15
def spEvery (K : PySem.W.Frag) (c : Cs) (n : Nat) : Sp := fun vs H Q _ => ∃ (f : Fm) (v : V) (l : List V), vs = [v] ∧ FmAt K c H f v l ∧ Okf f ∧ f.ht ≤ n ∧ f.q.1 ≤ 1000 ∧ ∀ H' q, SeqC K c l (fun q => H q = none) H H' → H' q = some (.lst l) → Q (.ref q) H'
section
variable {P : Program} {w : World} {K : PySem.W.Frag} {mg : Str → Option Value} {base : Heap} {c : Cs} {f : Addr} {fd : FuncData}
theorem scEvery : FnScope ["self", "found", "part"] ["self"] (defScope sEvery) := ⟨rfl, rfl, rfl, by decide +kernel, rfl, by decide +kernel, by decide +kernel⟩
theorem ok_every (F : FunD K "_every" "Formula._every" (defArgs sEvery) (defBody sEvery) (defScope sEvery) [] [] f fd) (T : Cl K c) (m : ∀ g, Meth K (clsOf c g) "_every" f) : ∀ n, FnOk P w K mg base CX0 (n + 1) f fd ["self"] (spEvery K c n) := by
  have bF : Binds K fd ["self"] [] := F.bindsN fun _ _ _ _ _ _ us hl => match us, hl with | [_], _ => rfl
  have nd := scEvery.nd
  intro n
  induction n with
  | zero =>
    refine F.ok scEvery (fun vs H Q E h => ?_) (fun cdv A outer s H vs Q E hr h => ?_)
    · obtain ⟨g, v, l, rfl, _⟩ := h
      rfl
    · obtain ⟨g, v, l, rfl, _, _, ht, _⟩ := h
      cases g <;> simp [Fm.ht] at ht
  | succ n ih =>
    refine F.ok scEvery (fun vs H Q E h => ?_) (fun cdv A outer s H vs Q E hr h => ?_)
    · obtain ⟨g, v, l, rfl, _⟩ := h
      rfl
    · obtain ⟨g, v, l, rfl, hf, og, ht, few, q⟩ := h
      refine ⟨_, PSs.nox (pss_inj (pss_cons (ps_if (pt_cmp (pc_isN (pe_fld (pv 0) rfl))) (pss_cons (ps_set (i := 1) nd rfl (Or.inl rfl) (pe_lst (pa_cons (pv 0) pa_nil)))
          (pss_cons (ps_for PassesOwn.never rfl (pi_tup (pe_fld (pv 0) rfl)) (pg_name (i := 2) nd rfl (Or.inl rfl))
            (pss_inj (pss_one (ps_expr (pe_bm PySem.F.plainAttrs_list PySem.F.slot_list_extend PySem.F.type_list_extend mt_extend (pv 1) (pa_cons (pe_methI0 (ι := Fm) (C := clsOf c) (f := fun _ => f) (fd := fun _ => fd) (sp := fun _ => spEvery K c n) (pv 2) (fun i => (T.at_ i).cl) m (fun _ => ih) hr (fun _ => bF) .nil pass0) pa_nil))))))
          (pss_one (ps_fld (pv 0) (pv 1) rfl)))) pss_nil)
        (pss_one (ps_ret (pe_fld (pv 0) rfl))))), ?_⟩
      intro inj
      obtain ⟨a, dx, fs, g1, p, r, rfl, el, ha, b1⟩ := id hf.obj
      obtain ⟨z, ez, hz⟩ := b1.sq
      walk_at "rd"
      refine ⟨a, _, dx, fs, _, rfl, ha, (T.at_ g).cl, (T.at_ g).no "_sequence", ez, ?_⟩
      obtain ⟨ps, pts⟩ := hf.parts og ha b1.pt
      rcases hz with rfl | ⟨b, rfl, hb⟩
      · refine Rd.isT rfl ?_
        walk_at "rd"
        refine ⟨Rd.small (by show 1 ≤ 100000; decide), fun D nD => ?_⟩
        have sD := same_new (o := HO.lst ([V.ref a])) nD
        have tD := upd_same (H := H) (a := D) (o := HO.lst ([V.ref a]))
        generalize upd H D (HO.lst ([V.ref a])) = H1 at sD tD ⊢
        walk_at "rd"
        refine ⟨a, _, dx, fs, _, rfl, sD _ _ ha, (T.at_ g).cl, (T.at_ g).no "_parts", b1.pt, p, rfl, ⟨_, pts.at_.ext sD⟩, ?_⟩
        have noN : ∀ x ∈ l, ∃ g m, FmAt K c H g x m ∧ Okf g := hf.node og
        refine for_it walk_tup (fun i σ H' => (∃ b, σ = [some (.ref a), some (.ref D), b]) ∧ SeqC K c l (fun q => H q = none ∧ q ≠ D) H H' ∧ H' D = some (.lst (.ref a :: ((ps.take i).map (·.l)).flatten))) ⟨⟨_, rfl⟩, seq_same sD, by simpa using tD⟩ (fun i σ H' _ z => sqt_seq z.2.1 pts.at_) (fun i v σ H2 H3 hi hy z => ?_) (fun σ H' z => ?_)
        · obtain ⟨⟨b, rfl⟩, k2, d2⟩ := hy
          obtain ⟨rfl, ev⟩ := z
          rw [List.getElem?_map] at ev
          cases ep : ps[i]? with
          | none => rw [ep] at ev; cases ev
          | some x =>
          rw [ep] at ev
          have ev : x.v = v := Option.some.inj ev
          subst ev
          have mx : x ∈ ps := List.mem_of_getElem? ep
          obtain ⟨hx, ox, hx2⟩ := pts.all x mx
          have subx : ∀ u ∈ x.l, u ∈ l := fun u hu => by
            rw [pts.nodes]
            exact List.mem_cons_of_mem _ (List.mem_flatten.mpr ⟨x.l, List.mem_map.mpr ⟨x, mx, rfl⟩, hu⟩)
          have hx3 := hx.seq inj k2 ox
          obtain ⟨a', dx', fs', g1', p', r', ev', _, ha', b1'⟩ := id hx3.obj
          walk_at "rd"
          intro inj1
          walk_at "rd"
          refine ⟨.inl ⟨rfl, _, SqL.of d2⟩, ?_⟩
          walk_at "rd"
          refine ⟨x.f, a', dx', fs', ev', ha', b1'.meth "_every", ?_⟩
          walk_at "rd"
          have lx := nodes_len hx
          have ll := nodes_len hf
          have le : x.l.length + 1 ≤ l.length := by
            rw [pts.nodes, List.length_cons]
            have := List.Sublist.length_le (List.sublist_flatten_of_mem (List.mem_map.mpr ⟨x, mx, rfl⟩ : x.l ∈ ps.map (·.l)))
            omega
          refine ⟨x.f, x.v, x.l, rfl, hx3, ox, by omega, by omega, fun H4 q4 k4 hq4 => ?_⟩
          have d4 := k4.oth d2 fun _ _ _ z => by cases z
          have lt : ((ps.take i).map (·.l)).flatten.length ≤ l.length := by
            rw [pts.nodes, List.length_cons]
            have e : (ps.map (·.l)).flatten = ((ps.take i).map (·.l)).flatten ++ ((ps.drop i).map (·.l)).flatten := by rw [← List.flatten_append, ← List.map_append, List.take_append_drop]
            rw [e, List.length_append]
            omega
          refine ⟨D, q4, _, _, rfl, rfl, d4, hq4, Rd.small (by rw [List.length_cons]; omega), ?_⟩
          have ke : SeqC K c l (fun q => H q = none ∧ q ≠ D) H H4 := SeqC.trans (fun q hq => ⟨k2.free hq, fun e => by rw [e, d2] at hq; cases hq⟩) inj inj1 noN subx k2 k4
          refine ⟨⟨_, rfl⟩, ke.set nD fun q h => h.2, ?_⟩
          rw [upd_same, List.take_add_one, ep, Option.toList_some, List.map_append, List.flatten_append]
          simp
        · obtain ⟨⟨b, rfl⟩, k2, d2⟩ := z
          rw [List.length_map, List.take_length, ← pts.nodes] at d2
          walk_at "rd"
          have ha2 : ∃ fs', H' a = some (.ins (clsOf c g) dx fs') ∧ (∀ x, putF "_sequence" x fs' = putF "_sequence" x fs) ∧ fs'.length < 1000 := by
            rcases k2 a _ ha with h | ⟨_, C', dx', fs', q', lb, g', e, _, ns, fg, og', h, hq⟩
            · exact ⟨fs, h, fun _ => rfl, by have := b1.few; omega⟩
            · cases e
              exact ⟨_, h, fun x => putF_putF fs, by rw [len_putF' ns]; have := b1.few; omega⟩
          obtain ⟨fs', ha2, ef, fw⟩ := ha2
          refine ⟨a, _, dx, fs', rfl, ha2, (T.at_ g).cl, (T.at_ g).no "_sequence", fw, ?_⟩
          rw [ef]
          walk_at "rd"
          refine ⟨a, _, dx, _, _, rfl, upd_same, (T.at_ g).cl, (T.at_ g).no "_sequence", by rw [lookup_putF, if_pos rfl], ?_⟩
          have nDa : D ≠ a := fun e => by rw [e, ha] at nD; cases nD
          refine q _ D (fun b o e => ?_) (by rw [upd_ne nDa]; exact d2)
          by_cases hb : b = a
          · subst hb
            rw [ha] at e
            cases e
            exact .inr ⟨by rw [el]; exact List.mem_cons_self, _, _, fs, D, l, g, rfl, nD, ez, hf, og, upd_same, by rw [upd_ne nDa]; exact d2⟩
          · rw [upd_ne hb]
            rcases k2 b o e with h | ⟨hb2, C', dx', fs', q', lb, g', e, nq, ns, fg, og', h, hq⟩
            · exact .inl h
            · exact .inr ⟨hb2, C', dx', fs', q', lb, g', e, nq.1, ns, fg, og', h, by rw [upd_ne (fun e => by have := nq.1; rw [e, ha] at this; cases this)]; exact hq⟩
      · refine Rd.isF rfl ?_
        walk_at "rd"
        exact ⟨a, _, dx, fs, _, rfl, ha, (T.at_ g).cl, (T.at_ g).no "_sequence", ez, q H b SeqC.refl hb⟩
end
end K17

namespace K17
open PySem PySem.Spec PyProof.Rows L2
local macro_rules | `(tactic| walk_at "rd1") => `(tactic| first
  | (with_reducible refine Rd.seq ?_) | (with_reducible refine Rd.asg ?_) | (with_reducible refine Rd.ret ?_) | (with_reducible refine Rd.nxt ?_) | (with_reducible refine Rd.ifS ?_)
  | (with_reducible refine Rd.op ?_) | (with_reducible refine Rd.un ?_) | (with_reducible refine Rd.cb ?_) | (with_reducible refine Rd.cons ?_) | (with_reducible refine Rd.nil ?_) | (with_reducible refine Rd.ifx ?_)
  | (with_reducible refine Rd.test ?_) | (with_reducible refine Rd.testB ?_) | (with_reducible refine Rd.notT ?_) | (with_reducible refine Rd.isB ?_) | (with_reducible refine Rd.lst ?_) | (with_reducible refine Rd.tup ?_)
  | (with_reducible refine Rd.andV ?_) | (with_reducible refine Rd.orV ?_) | (with_reducible refine Rd.notV ?_) | (with_reducible refine Rd.andT ?_) | (with_reducible refine Rd.orT ?_) | (with_reducible refine Rd.chain ?_)
  | (with_reducible refine Rd.m0 ?_) | (with_reducible refine Rd.m1 ?_) | (with_reducible refine Rd.bm0 ?_) | (with_reducible refine Rd.bm ?_) | (with_reducible refine Rd.sl ?_) | (with_reducible refine Rd.part ?_) | (with_reducible refine Rd.part0 ?_) | (with_reducible refine Rd.isI ?_)
  | (with_reducible refine Rd.fmt ?_) | (with_reducible refine Rd.fmtRD ?_) | (with_reducible refine Rd.meth ?_) | (with_reducible refine makeG ?_) | (with_reducible refine Rd.prop ?_) | (with_reducible refine Rd.js ?_) | (with_reducible refine Rd.js0 ?_) | (with_reducible refine Rd.par ?_) | (with_reducible refine Rd.star ?_) | (with_reducible refine lcR1 ?_) | (with_reducible refine lcR2 ?_) | (with_reducible refine Rd.fld ?_) | (with_reducible refine Rd.sfld ?_) | (with_reducible refine Rd.expr ?_) | (with_reducible refine L2.isNR ?_) | (with_reducible refine L2.methI ?_) | (with_reducible refine Rd.forZ ?_)
  | (with_reducible refine Rd.forEA ?_) | (with_reducible refine Rd.forR1 ?_) | (with_reducible refine Rd.forR2 ?_) | (with_reducible refine Rd.forL ?_) | (with_reducible refine Rd.forT ?_)
  | (with_reducible refine Rd.call ?_) | (with_reducible refine Rd.asgG ?_) | (with_reducible refine Rd.gNm ?_) | (with_reducible refine Rd.gSb ?_) | (with_reducible refine Rd.gC ?_) | (with_reducible refine Rd.gN ?_)
  | ((with_reducible refine' Rd.var ?hv ?_); (case hv => exact rfl)) | (with_reducible refine Rd.c ?_) | (with_reducible refine Rd.i0 ?_) | (with_reducible refine Rd.neg ?_)
  | ((with_reducible refine' Rd.iC ?hc ?_); (case hc => first | (show (0 : Int) < _; decide) | exact ⟨by decide, by decide⟩ | exact ⟨by decide, by decide, by decide⟩ | exact .inl ⟨by decide, by decide⟩ | exact .inr ⟨by decide, by decide⟩ | exact .inl ⟨by omega, by omega⟩ | (show (0 : Int) < _; omega) | exact ⟨by omega, by omega⟩))
  | ((with_reducible refine' Rd.eqS ?hc ?_); (case hc => rfl)) | ((with_reducible refine' Rd.neS ?hc ?_); (case hc => rfl)))
local macro_rules | `(tactic| walk_at "rd") => `(tactic| repeat walk_at "rd1")
/-! ### another formula in the place of a node -/
def Fm.put : Fm → Nat → Fm → Fm
  | _, 0, g => g
  | .num n, _ + 1, _ => .num n
  | .ref w x, _ + 1, _ => .ref w x
  | .pair o l r, k + 1, g => if k < l.q.1 then .pair o (l.put k g) r else .pair o l (r.put (k - l.q.1) g)
  | .cho t s a b, k + 1, g => if k < t.q.1 then .cho (t.put k g) s a b else if k - t.q.1 < a.q.1 then .cho t s (a.put (k - t.q.1) g) b else .cho t s a (b.put (k - t.q.1 - a.q.1) g)
def Fm.at : Fm → Nat → Fm
  | f, 0 => f
  | .num n, _ + 1 => .num n
  | .ref w x, _ + 1 => .ref w x
  | .pair o l r, k + 1 => if k < l.q.1 then l.at k else r.at (k - l.q.1)
  | .cho t s a b, k + 1 => if k < t.q.1 then t.at k else if k - t.q.1 < a.q.1 then a.at (k - t.q.1) else b.at (k - t.q.1 - a.q.1)
theorem q_pos : ∀ f : Fm, 1 ≤ f.q.1
  | .num _ => Nat.le_refl 1
  | .ref _ _ => Nat.le_refl 1
  | .pair o l r => by rw [q_pair]; omega
  | .cho t s a b => by rw [q_cho]; omega
theorem put_q : ∀ (f : Fm) (k : Nat) (g : Fm), k < f.q.1 → (f.put k g).q.1 + (f.at k).q.1 = f.q.1 + g.q.1
  | f, 0, g, _ => by
    have e1 : f.put 0 g = g := by cases f <;> rfl
    have e2 : f.at 0 = f := by cases f <;> rfl
    rw [e1, e2]
    omega
  | .num n, k + 1, g, h => by
    have h : k + 1 < 1 := h
    omega
  | .ref w x, k + 1, g, h => by
    have h : k + 1 < 1 := h
    omega
  | .pair o l r, k + 1, g, h => by
    rw [q_pair] at h
    unfold Fm.put Fm.at
    by_cases c : k < l.q.1
    · rw [if_pos c, if_pos c, q_pair, q_pair]
      have := put_q l k g c
      omega
    · rw [if_neg c, if_neg c, q_pair, q_pair]
      have := put_q r (k - l.q.1) g (by omega)
      omega
  | .cho t s a b, k + 1, g, h => by
    rw [q_cho] at h
    unfold Fm.put Fm.at
    by_cases c : k < t.q.1
    · rw [if_pos c, if_pos c, q_cho, q_cho]
      have := put_q t k g c
      omega
    · rw [if_neg c, if_neg c]
      by_cases c2 : k - t.q.1 < a.q.1
      · rw [if_pos c2, if_pos c2, q_cho, q_cho]
        have := put_q a (k - t.q.1) g c2
        omega
      · rw [if_neg c2, if_neg c2, q_cho, q_cho]
        have := put_q b (k - t.q.1 - a.q.1) g (by omega)
        omega
theorem put_ok : ∀ (f : Fm) (k : Nat) (g : Fm), Okf f → Okf g → Okf (f.put k g)
  | f, 0, g, _, h => by
    have e1 : f.put 0 g = g := by cases f <;> rfl
    rw [e1]
    exact h
  | .num n, k + 1, g, h, _ => h
  | .ref w x, k + 1, g, h, _ => h
  | .pair o l r, k + 1, g, h, hg => by
    unfold Fm.put
    split
    · exact ⟨h.1, put_ok l _ g h.2.1 hg, h.2.2⟩
    · exact ⟨h.1, h.2.1, put_ok r _ g h.2.2 hg⟩
  | .cho t s a b, k + 1, g, h, hg => by
    unfold Fm.put
    split
    · exact ⟨h.1, put_ok t _ g h.2.1 hg, h.2.2.1, h.2.2.2⟩
    · split
      · exact ⟨h.1, h.2.1, put_ok a _ g h.2.2.1 hg, h.2.2.2⟩
      · exact ⟨h.1, h.2.1, h.2.2.1, put_ok b _ g h.2.2.2 hg⟩
/-- the node with this number -/
theorem FmAt.at_ {K : PySem.W.Frag} {c : Cs} {H : Hp} : ∀ {f : Fm} {v : V} {l : List V} {k : Nat}, FmAt K c H f v l → k < f.q.1 → ∃ u m, l[k]? = some u ∧ FmAt K c H (f.at k) u m
  | f, v, l, 0, h, _ => by
    obtain ⟨a, dx, fs, g, p, r, rfl, rfl, _⟩ := id h.obj
    have e : f.at 0 = f := by cases f <;> rfl
    rw [e]
    exact ⟨_, _, rfl, h⟩
  | .num n, v, l, k + 1, h, hk => by
    have hk : k + 1 < 1 := hk
    omega
  | .ref w x, v, l, k + 1, h, hk => by
    have hk : k + 1 < 1 := hk
    omega
  | .pair o f1 f2, v, l, k + 1, h, hk => by
    obtain ⟨v1, l1, v2, l2, rfl, t1, t2, _⟩ := id h
    have e1 := nodes_len t1
    have e2 := nodes_len t2
    rw [q_pair] at hk
    unfold Fm.at
    by_cases c : k < f1.q.1
    · obtain ⟨u, m, z, q⟩ := t1.at_ c
      rw [if_pos c]
      exact ⟨u, m, by rw [List.getElem?_cons_succ, List.getElem?_append_left (by omega)]; exact z, q⟩
    · obtain ⟨u, m, z, q⟩ := t2.at_ (k := k - f1.q.1) (by omega)
      rw [if_neg c]
      exact ⟨u, m, by rw [List.getElem?_cons_succ, List.getElem?_append_right (by omega), e1]; exact z, q⟩
  | .cho f1 s f2 f3, v, l, k + 1, h, hk => by
    obtain ⟨v1, l1, v2, l2, v3, l3, rfl, t1, t2, t3, _⟩ := id h
    have e1 := nodes_len t1
    have e2 := nodes_len t2
    have e3 := nodes_len t3
    rw [q_cho] at hk
    unfold Fm.at
    by_cases c : k < f1.q.1
    · obtain ⟨u, m, z, q⟩ := t1.at_ c
      rw [if_pos c]
      exact ⟨u, m, by rw [List.getElem?_cons_succ, List.getElem?_append_left (by omega)]; exact z, q⟩
    · rw [if_neg c]
      by_cases c2 : k - f1.q.1 < f2.q.1
      · obtain ⟨u, m, z, q⟩ := t2.at_ c2
        rw [if_pos c2]
        exact ⟨u, m, by rw [List.getElem?_cons_succ, List.getElem?_append_right (by omega), e1, List.getElem?_append_left (by omega)]; exact z, q⟩
      · obtain ⟨u, m, z, q⟩ := t3.at_ (k := k - f1.q.1 - f2.q.1) (by omega)
        rw [if_neg c2]
        exact ⟨u, m, by rw [List.getElem?_cons_succ, List.getElem?_append_right (by omega), e1, List.getElem?_append_right (by omega), e2]; exact z, q⟩
theorem Fits.put : ∀ {f : Fm} {k : Nat} {g : Fm}, Fits (f.put k g) → k < f.q.1 → True := fun _ _ => trivial
/-! ### len -/
abbrev sLenF : Stmt := sMeth iFormula 10
def spLenF (K : PySem.W.Frag) (c : Cs) : Sp := fun vs H Q _ => ∃ (f : Fm) (v : V) (l : List V), vs = [v] ∧ FmAt K c H f v l ∧ f.q.1 ≤ 1000 ∧ ∀ H', Same H H' → Q (.int (f.q.1 : Nat)) H'
section
variable {P : Program} {w : World} {K : PySem.W.Frag} {mg : Str → Option Value} {base : Heap} {c : Cs} {f : Addr} {fd : FuncData}
theorem scLenF : FnScope ["self"] ["self"] (defScope sLenF) := ⟨rfl, rfl, rfl, by decide +kernel, rfl, by decide +kernel, by decide +kernel⟩
theorem ok_lenF (F : FunD K "__len__" "Formula.__len__" (defArgs sLenF) (defBody sLenF) (defScope sLenF) [] [] f fd) (T : Cl K c) (gLen : mg "len" = none) (gRange : mg "range" = none) : FnOk P w K mg base CX0 1 f fd ["self"] (spLenF K c) := by
  refine F.ok scLenF (fun vs H Q E h => ?_) (fun cdv A outer s H vs Q E hr h => ?_)
  · obtain ⟨g, v, l, rfl, _⟩ := h
    rfl
  · obtain ⟨g, v, l, rfl, hf, few, q⟩ := h
    refine ⟨_, PSs.nox (pss_one (ps_ret (pe_callB call_lenRng rfl gLen boot_len (pa_cons (pe_callTy cr_range1 rfl gRange (by decide +kernel) (pa_cons (pe_fld (pv 0) rfl) pa_nil)) pa_nil)))), ?_⟩
    obtain ⟨a, dx, fs, g1, p, r, rfl, el, ha, b1⟩ := id hf.obj
    walk_at "rd"
    refine ⟨a, _, dx, fs, _, rfl, ha, (T.at_ g).cl, (T.at_ g).no "_many", b1.mn, ?_⟩
    walk_at "rd"
    refine ⟨_, rfl, fun p np => ?_⟩
    walk_at "rd"
    exact ⟨p, g.q.1, rfl, upd_same, by omega, q _ (same_new np)⟩
end
/-! ### _of_parts -/
def spOf (K : PySem.W.Frag) (c : Cs) : Option (Fin 4) → Sp
  | some o => fun vs H Q _ => ∃ (v : V) (D : Addr) (f1 : Fm) (u1 : V) (l1 : List V) (f2 : Fm) (u2 : V) (l2 : List V), vs = [v, .ref D] ∧ H D = some (.lst [u1, u2]) ∧ FmAt K c H f1 u1 l1 ∧ FmAt K c H f2 u2 l2 ∧ Fits (.pair o.1 f1 f2) ∧ ∀ u H' l', New K c H H' (.pair o.1 f1 f2) u l' → Q u H'
  | none => fun vs H Q _ => ∃ (t : Fm) (s : List Nat) (a b : Fm) (v : V) (l : List V) (D : Addr) (f1 : Fm) (u1 : V) (l1 : List V) (f2 : Fm) (u2 : V) (l2 : List V) (f3 : Fm) (u3 : V) (l3 : List V), vs = [v, .ref D] ∧ FmAt K c H (.cho t s a b) v l ∧ Asc s ∧ H D = some (.lst [u1, u2, u3]) ∧
      FmAt K c H f1 u1 l1 ∧ FmAt K c H f2 u2 l2 ∧ FmAt K c H f3 u3 l3 ∧ Fits (.cho f1 s f2 f3) ∧ ∀ u H' l', New K c H H' (.cho f1 s f2 f3) u l' → Q u H'
/-- the classes whose formulas have parts -/
def ofCls (c : Cs) : Option (Fin 4) → Addr
  | none => c.cho
  | some i => c.pair i.1
section
variable {P : Program} {w : World} {K : PySem.W.Frag} {mg : Str → Option Value} {base : Heap} {c : Cs} {f : Addr} {fd : FuncData}
abbrev sOfPlus : Stmt := sMeth iPlus 3
theorem scOfPlus : FnScope ["self", "parts"] ["self", "parts"] (defScope sOfPlus) := ⟨rfl, rfl, rfl, by decide +kernel, rfl, by decide +kernel, by decide +kernel⟩
theorem ok_ofPlus (F : FunD K "_of_parts" "Plus._of_parts" (defArgs sOfPlus) (defBody sOfPlus) (defScope sOfPlus) [] [] f fd) (M : Mks P w K mg base c) : FnOk P w K mg base CX0 5 f fd ["self", "parts"] (spOf K c (some ⟨0, by decide⟩)) := by
  obtain ⟨fp, fdp, cp⟩ := M.pair 0 (by decide)
  refine F.ok scOfPlus (fun vs H Q E h => ?_) (fun cdv A outer s H vs Q E hr h => ?_)
  · obtain ⟨v, D, f1, u1, l1, f2, u2, l2, rfl, _⟩ := h
    rfl
  · obtain ⟨v, D, f1, u1, l1, f2, u2, l2, rfl, hD, h1, h2, fit, q⟩ := h
    refine ⟨_, PSs.nox (pss_one (ps_ret (pe_make cp.mkr cp.ok hr rfl cp.g cp.b .nil pass0 (pa_cons (pe_ix ix_list (pv 1) pe_int (fun _ _ => rfl)) (pa_cons (pe_ix ix_list (pv 1) pe_int (fun _ _ => rfl)) pa_nil))))), ?_⟩
    walk_at "rd"
    refine Rd.ixL (SqL.of hD) rfl ?_
    walk_at "rd"
    refine Rd.ixL (SqL.of hD) rfl ?_
    walk_at "rd"
    exact mkPair h1 h2 fit.1 fit.2 fun v H' z => q v H' _ z
abbrev sOfLeast : Stmt := sMeth iLeast 3
theorem scOfLeast : FnScope ["self", "parts"] ["self", "parts"] (defScope sOfLeast) := ⟨rfl, rfl, rfl, by decide +kernel, rfl, by decide +kernel, by decide +kernel⟩
theorem ok_ofLeast (F : FunD K "_of_parts" "Least._of_parts" (defArgs sOfLeast) (defBody sOfLeast) (defScope sOfLeast) [] [] f fd) (M : Mks P w K mg base c) : FnOk P w K mg base CX0 5 f fd ["self", "parts"] (spOf K c (some ⟨1, by decide⟩)) := by
  obtain ⟨fp, fdp, cp⟩ := M.pair 1 (by decide)
  refine F.ok scOfLeast (fun vs H Q E h => ?_) (fun cdv A outer s H vs Q E hr h => ?_)
  · obtain ⟨v, D, f1, u1, l1, f2, u2, l2, rfl, _⟩ := h
    rfl
  · obtain ⟨v, D, f1, u1, l1, f2, u2, l2, rfl, hD, h1, h2, fit, q⟩ := h
    refine ⟨_, PSs.nox (pss_one (ps_ret (pe_make cp.mkr cp.ok hr rfl cp.g cp.b .nil pass0 (pa_cons (pe_ix ix_list (pv 1) pe_int (fun _ _ => rfl)) (pa_cons (pe_ix ix_list (pv 1) pe_int (fun _ _ => rfl)) pa_nil))))), ?_⟩
    walk_at "rd"
    refine Rd.ixL (SqL.of hD) rfl ?_
    walk_at "rd"
    refine Rd.ixL (SqL.of hD) rfl ?_
    walk_at "rd"
    exact mkPair h1 h2 fit.1 fit.2 fun v H' z => q v H' _ z
abbrev sOfMost : Stmt := sMeth iMost 3
theorem scOfMost : FnScope ["self", "parts"] ["self", "parts"] (defScope sOfMost) := ⟨rfl, rfl, rfl, by decide +kernel, rfl, by decide +kernel, by decide +kernel⟩
theorem ok_ofMost (F : FunD K "_of_parts" "Most._of_parts" (defArgs sOfMost) (defBody sOfMost) (defScope sOfMost) [] [] f fd) (M : Mks P w K mg base c) : FnOk P w K mg base CX0 5 f fd ["self", "parts"] (spOf K c (some ⟨2, by decide⟩)) := by
  obtain ⟨fp, fdp, cp⟩ := M.pair 2 (by decide)
  refine F.ok scOfMost (fun vs H Q E h => ?_) (fun cdv A outer s H vs Q E hr h => ?_)
  · obtain ⟨v, D, f1, u1, l1, f2, u2, l2, rfl, _⟩ := h
    rfl
  · obtain ⟨v, D, f1, u1, l1, f2, u2, l2, rfl, hD, h1, h2, fit, q⟩ := h
    refine ⟨_, PSs.nox (pss_one (ps_ret (pe_make cp.mkr cp.ok hr rfl cp.g cp.b .nil pass0 (pa_cons (pe_ix ix_list (pv 1) pe_int (fun _ _ => rfl)) (pa_cons (pe_ix ix_list (pv 1) pe_int (fun _ _ => rfl)) pa_nil))))), ?_⟩
    walk_at "rd"
    refine Rd.ixL (SqL.of hD) rfl ?_
    walk_at "rd"
    refine Rd.ixL (SqL.of hD) rfl ?_
    walk_at "rd"
    exact mkPair h1 h2 fit.1 fit.2 fun v H' z => q v H' _ z
abbrev sOfSame : Stmt := sMeth iSame 3
theorem scOfSame : FnScope ["self", "parts"] ["self", "parts"] (defScope sOfSame) := ⟨rfl, rfl, rfl, by decide +kernel, rfl, by decide +kernel, by decide +kernel⟩
theorem ok_ofSame (F : FunD K "_of_parts" "Same._of_parts" (defArgs sOfSame) (defBody sOfSame) (defScope sOfSame) [] [] f fd) (M : Mks P w K mg base c) : FnOk P w K mg base CX0 5 f fd ["self", "parts"] (spOf K c (some ⟨3, by decide⟩)) := by
  obtain ⟨fp, fdp, cp⟩ := M.pair 3 (by decide)
  refine F.ok scOfSame (fun vs H Q E h => ?_) (fun cdv A outer s H vs Q E hr h => ?_)
  · obtain ⟨v, D, f1, u1, l1, f2, u2, l2, rfl, _⟩ := h
    rfl
  · obtain ⟨v, D, f1, u1, l1, f2, u2, l2, rfl, hD, h1, h2, fit, q⟩ := h
    refine ⟨_, PSs.nox (pss_one (ps_ret (pe_make cp.mkr cp.ok hr rfl cp.g cp.b .nil pass0 (pa_cons (pe_ix ix_list (pv 1) pe_int (fun _ _ => rfl)) (pa_cons (pe_ix ix_list (pv 1) pe_int (fun _ _ => rfl)) pa_nil))))), ?_⟩
    walk_at "rd"
    refine Rd.ixL (SqL.of hD) rfl ?_
    walk_at "rd"
    refine Rd.ixL (SqL.of hD) rfl ?_
    walk_at "rd"
    exact mkPair h1 h2 fit.1 fit.2 fun v H' z => q v H' _ z
abbrev sOfChoice : Stmt := sMeth iChoice 4
theorem scOfChoice : FnScope ["self", "parts"] ["self", "parts"] (defScope sOfChoice) := ⟨rfl, rfl, rfl, by decide +kernel, rfl, by decide +kernel, by decide +kernel⟩
theorem ok_ofChoice (F : FunD K "_of_parts" "Choice._of_parts" (defArgs sOfChoice) (defBody sOfChoice) (defScope sOfChoice) [] [] f fd) (T : Cl K c) (M : Mks P w K mg base c) : FnOk P w K mg base CX0 5 f fd ["self", "parts"] (spOf K c none) := by
  obtain ⟨fp, fdp, cp⟩ := M.cho
  refine F.ok scOfChoice (fun vs H Q E h => ?_) (fun cdv A outer s H vs Q E hr h => ?_)
  · obtain ⟨t, s, a, b, v, l, D, f1, u1, l1, f2, u2, l2, f3, u3, l3, rfl, _⟩ := h
    rfl
  · obtain ⟨t, s, a, b, v, l, D, f1, u1, l1, f2, u2, l2, f3, u3, l3, rfl, hf, asc, hD, h1, h2, h3, fit, q⟩ := h
    refine ⟨_, PSs.nox (pss_one (ps_ret (pe_make cp.mkr cp.ok hr rfl cp.g cp.b .nil pass0 (pa_cons (pe_ix ix_list (pv 1) pe_int (fun _ _ => rfl)) (pa_cons (pe_fld (pv 0) rfl) (pa_cons (pe_ix ix_list (pv 1) pe_int (fun _ _ => rfl)) (pa_cons (pe_ix ix_list (pv 1) pe_int (fun _ _ => rfl)) pa_nil))))))), ?_⟩
    obtain ⟨v1, m1, v2, m2, v3, m3, rfl, _, _, _, ad, dx, fs, g, p, tt, rfl, ha, b1, _, _, st, _, lc, _⟩ := id hf
    walk_at "rd"
    refine Rd.ixL (SqL.of hD) rfl ?_
    walk_at "rd"
    refine ⟨ad, _, dx, fs, _, rfl, ha, T.cho.cl, T.cho.no "chosen", lc, ?_⟩
    walk_at "rd"
    refine Rd.ixL (SqL.of hD) rfl ?_
    walk_at "rd"
    refine Rd.ixL (SqL.of hD) rfl ?_
    walk_at "rd"
    exact mkCho h1 h2 h3 (.inr st) asc fit.1 fit.2 fun v H' z => q v H' _ z
end
end K17

namespace K17
open PySem PySem.Spec PyProof.Rows L2
local macro_rules | `(tactic| walk_at "rd1") => `(tactic| first
  | (with_reducible refine Rd.seq ?_) | (with_reducible refine Rd.asg ?_) | (with_reducible refine Rd.ret ?_) | (with_reducible refine Rd.nxt ?_) | (with_reducible refine Rd.ifS ?_)
  | (with_reducible refine Rd.op ?_) | (with_reducible refine Rd.un ?_) | (with_reducible refine Rd.cb ?_) | (with_reducible refine Rd.cons ?_) | (with_reducible refine Rd.nil ?_) | (with_reducible refine Rd.ifx ?_)
  | (with_reducible refine Rd.test ?_) | (with_reducible refine Rd.testB ?_) | (with_reducible refine Rd.notT ?_) | (with_reducible refine Rd.isB ?_) | (with_reducible refine Rd.lst ?_) | (with_reducible refine Rd.tup ?_)
  | (with_reducible refine Rd.andV ?_) | (with_reducible refine Rd.orV ?_) | (with_reducible refine Rd.notV ?_) | (with_reducible refine Rd.andT ?_) | (with_reducible refine Rd.orT ?_) | (with_reducible refine Rd.chain ?_)
  | (with_reducible refine Rd.m0 ?_) | (with_reducible refine Rd.m1 ?_) | (with_reducible refine Rd.bm0 ?_) | (with_reducible refine Rd.bm ?_) | (with_reducible refine Rd.sl ?_) | (with_reducible refine Rd.part ?_) | (with_reducible refine Rd.part0 ?_) | (with_reducible refine Rd.isI ?_)
  | (with_reducible refine Rd.fmt ?_) | (with_reducible refine Rd.fmtRD ?_) | (with_reducible refine Rd.meth ?_) | (with_reducible refine makeG ?_) | (with_reducible refine Rd.prop ?_) | (with_reducible refine Rd.js ?_) | (with_reducible refine Rd.js0 ?_) | (with_reducible refine Rd.par ?_) | (with_reducible refine Rd.star ?_) | (with_reducible refine lcR1 ?_) | (with_reducible refine lcR2 ?_) | (with_reducible refine Rd.fld ?_) | (with_reducible refine Rd.sfld ?_) | (with_reducible refine Rd.expr ?_) | (with_reducible refine L2.isNR ?_) | (with_reducible refine L2.methI ?_) | (with_reducible refine Rd.forZ ?_)
  | (with_reducible refine Rd.forEA ?_) | (with_reducible refine Rd.forR1 ?_) | (with_reducible refine Rd.forR2 ?_) | (with_reducible refine Rd.forL ?_) | (with_reducible refine Rd.forT ?_)
  | (with_reducible refine Rd.call ?_) | (with_reducible refine Rd.asgG ?_) | (with_reducible refine Rd.gNm ?_) | (with_reducible refine Rd.gSb ?_) | (with_reducible refine Rd.gC ?_) | (with_reducible refine Rd.gN ?_)
  | ((with_reducible refine' Rd.var ?hv ?_); (case hv => exact rfl)) | (with_reducible refine Rd.c ?_) | (with_reducible refine Rd.i0 ?_) | (with_reducible refine Rd.neg ?_)
  | ((with_reducible refine' Rd.iC ?hc ?_); (case hc => first | (show (0 : Int) < _; decide) | exact ⟨by decide, by decide⟩ | exact ⟨by decide, by decide, by decide⟩ | exact .inl ⟨by decide, by decide⟩ | exact .inr ⟨by decide, by decide⟩ | exact .inl ⟨by omega, by omega⟩ | (show (0 : Int) < _; omega) | exact ⟨by omega, by omega⟩))
  | ((with_reducible refine' Rd.eqS ?hc ?_); (case hc => rfl)) | ((with_reducible refine' Rd.neS ?hc ?_); (case hc => rfl)))
local macro_rules | `(tactic| walk_at "rd") => `(tactic| repeat walk_at "rd1")
/-- a list that keeps no formula's nodes may change -/
theorem bs_list {H : Hp} {D : Addr} {us us' : List V} (hD : H D = some (.lst us)) (hu : us = [] ∨ ∃ a r C dx fs, us = .ref a :: r ∧ H a = some (.ins C dx fs) ∧ fs.lookup ("_sequence" : Str) ≠ some (.ref D)) {fs : List (Str × V)} {name : Str} {g p a C dx : Addr} {q : Nat × Nat} {r : List V}
    (ha : H a = some (.ins C dx fs)) (h : Bs H fs name g p q (.ref a :: r)) : Bs (upd H D (.lst us')) fs name g p q (.ref a :: r) := by
  refine ⟨h.nm, h.gv, h.pt, h.mn, h.dp, ?_, h.few, h.ks⟩
  obtain ⟨z, e, w⟩ := h.sq
  refine ⟨z, e, w.imp id fun ⟨b, e2, w⟩ => ⟨b, e2, ?_⟩⟩
  by_cases hb : b = D
  · subst hb
    rw [hD] at w
    have w : us = .ref a :: r := by cases w; rfl
    rcases hu with hu | ⟨a', r', C', dx', fs', hu, ha', hs⟩
    · rw [hu] at w; cases w
    · rw [hu] at w
      injection w with w1 w2
      injection w1 with w1
      subst w1
      obtain rfl := ins_inj ha ha'
      exact absurd (e.trans (congrArg some e2)) hs
  · rw [upd_ne hb]; exact w
theorem ins_list {H : Hp} {D a C dx : Addr} {fs : List (Str × V)} {us : List V} {o : HO} (hD : H D = some (.lst us)) (ha : H a = some (.ins C dx fs)) : upd H D o a = some (.ins C dx fs) := by
  rw [upd_ne (fun e => by rw [e, hD] at ha; cases ha)]
  exact ha
theorem sqt_list {K : PySem.W.Frag} {H : Hp} {D a : Addr} {us xs : List V} {o : HO} (hD : H D = some (.lst us)) (h : SqT K H a xs) : SqT K (upd H D o) a xs := by
  rcases h with (h | ⟨o, h⟩) | h
  · exact .inl (.inl (by rw [upd_ne (fun e => by rw [e, hD] at h; cases h)]; exact h))
  · exact .inl (.inr ⟨o, by rw [upd_ne (fun e => by rw [e, hD] at h; cases h)]; exact h⟩)
  · exact .inr h
theorem FmAt.list {K : PySem.W.Frag} {c : Cs} {H : Hp} {D : Addr} {us us' : List V} (hD : H D = some (.lst us)) (hu : us = [] ∨ ∃ a r C dx fs, us = .ref a :: r ∧ H a = some (.ins C dx fs) ∧ fs.lookup ("_sequence" : Str) ≠ some (.ref D)) :
    ∀ {f : Fm} {v : V} {l : List V}, FmAt K c H f v l → FmAt K c (upd H D (.lst us')) f v l
  | .num n, v, l, h => by
    obtain ⟨rfl, hn, a, dx, fs, g, p, rfl, h1, h2, h3, h4, h5⟩ := h
    exact ⟨rfl, hn, a, dx, fs, g, p, rfl, ins_list hD h1, bs_list hD hu h1 h2, sqt_list hD h3, sqt_list hD h4, h5⟩
  | .ref w x, v, l, h => by
    obtain ⟨rfl, a, dx, fs, g, p, rfl, h1, h2, h3, h4, h5⟩ := h
    exact ⟨rfl, a, dx, fs, g, p, rfl, ins_list hD h1, bs_list hD hu h1 h2, sqt_list hD h3, sqt_list hD h4, h5⟩
  | .pair o f1 f2, v, l, h => by
    obtain ⟨v1, l1, v2, l2, rfl, t1, t2, a, dx, fs, g, p, rfl, h1, h2, h3, h4, h5⟩ := h
    exact ⟨v1, l1, v2, l2, rfl, FmAt.list hD hu t1, FmAt.list hD hu t2, a, dx, fs, g, p, rfl, ins_list hD h1, bs_list hD hu h1 h2, sqt_list hD h3, sqt_list hD h4, h5⟩
  | .cho f1 s f2 f3, v, l, h => by
    obtain ⟨v1, l1, v2, l2, v3, l3, rfl, t1, t2, t3, a, dx, fs, g, p, t, rfl, h1, h2, h3, h4, h5, h6⟩ := h
    exact ⟨v1, l1, v2, l2, v3, l3, rfl, FmAt.list hD hu t1, FmAt.list hD hu t2, FmAt.list hD hu t3, a, dx, fs, g, p, t, rfl, ins_list hD h1, bs_list hD hu h1 h2, sqt_list hD h3, sqt_list hD h4, sqt_list hD h5, h6⟩
/-- the object v keeps no nodes at D -/
def NoD (H : Hp) (D : Addr) (v : V) : Prop := ∃ a C dx fs, v = .ref a ∧ H a = some (.ins C dx fs) ∧ fs.lookup ("_sequence" : Str) ≠ some (.ref D)
theorem NoD.same {H H' : Hp} {D : Addr} {v : V} (h : NoD H D v) (s : Same H H') : NoD H' D v := by
  obtain ⟨a, C, dx, fs, e, ha, n⟩ := h
  exact ⟨a, C, dx, fs, e, s _ _ ha, n⟩
theorem SqNon.noD {H : Hp} {D : Addr} {v : V} (h : SqNon H v) : NoD H D v := by
  obtain ⟨a, C, dx, fs, e, ha, n⟩ := h
  exact ⟨a, C, dx, fs, e, ha, fun z => by rw [n] at z; cases z⟩
theorem FmAt.noD {K : PySem.W.Frag} {c : Cs} {H : Hp} {D : Addr} {f : Fm} {v : V} {l : List V} (h : FmAt K c H f v l) (hD : H D = none) : NoD H D v := by
  obtain ⟨a, dx, fs, g, p, r, rfl, _, ha, b⟩ := h.obj
  refine ⟨a, _, dx, fs, rfl, ha, fun z => ?_⟩
  obtain ⟨y, e, w⟩ := b.sq
  rw [e] at z
  cases z
  rcases w with w | ⟨d, e, w⟩
  · cases w
  · cases e
    rw [hD] at w
    cases w
/-- the part that stands at this place behind the change -/
def newF (k : Nat) (g : Fm) (N : Nat) (f : Fm) : Fm := if N ≤ k ∧ k < N + f.q.1 then f.put (k - N) g else f
def newPart (ps : List Pt) (k : Nat) (g : Fm) (i : Nat) (x : Pt) : Fm := newF k g (fmN ((ps.take i).map (·.f.q))) x.f
theorem put_pair {o : Nat} {l r g : Fm} {k : Nat} (h0 : k ≠ 0) (h : k < (Fm.pair o l r).q.1) : (Fm.pair o l r).put k g = .pair o (newF k g 1 l) (newF k g (1 + l.q.1) r) := by
  rw [q_pair] at h
  cases k with
  | zero => exact absurd rfl h0
  | succ k =>
    unfold Fm.put newF
    by_cases c : k < l.q.1
    · rw [if_pos c, if_pos ⟨by omega, by omega⟩, if_neg (by omega)]
      rfl
    · rw [if_neg c, if_neg (by omega), if_pos ⟨by omega, by omega⟩]
      rw [show k + 1 - (1 + l.q.1) = k - l.q.1 by omega]
theorem put_cho {t a b g : Fm} {s : List Nat} {k : Nat} (h0 : k ≠ 0) (h : k < (Fm.cho t s a b).q.1) : (Fm.cho t s a b).put k g = .cho (newF k g 1 t) s (newF k g (1 + t.q.1) a) (newF k g (1 + t.q.1 + a.q.1) b) := by
  rw [q_cho] at h
  cases k with
  | zero => exact absurd rfl h0
  | succ k =>
    unfold Fm.put newF
    by_cases c : k < t.q.1
    · rw [if_pos c, if_pos ⟨by omega, by omega⟩, if_neg (by omega), if_neg (by omega)]
      rfl
    · rw [if_neg c, if_neg (show ¬ (1 ≤ k + 1 ∧ k + 1 < 1 + t.q.1) by omega)]
      by_cases c2 : k - t.q.1 < a.q.1
      · rw [if_pos c2, if_pos (show 1 + t.q.1 ≤ k + 1 ∧ k + 1 < 1 + t.q.1 + a.q.1 by omega), if_neg (show ¬ (1 + t.q.1 + a.q.1 ≤ k + 1 ∧ k + 1 < 1 + t.q.1 + a.q.1 + b.q.1) by omega), show k + 1 - (1 + t.q.1) = k - t.q.1 by omega]
      · rw [if_neg c2, if_neg (show ¬ (1 + t.q.1 ≤ k + 1 ∧ k + 1 < 1 + t.q.1 + a.q.1) by omega), if_pos ⟨by omega, by omega⟩, show k + 1 - (1 + t.q.1 + a.q.1) = k - t.q.1 - a.q.1 by omega]
theorem PtsAt.fits {K : PySem.W.Frag} {c : Cs} {H : Hp} {f g : Fm} {v : V} {l : List V} {p : Addr} {ps : List Pt} {k : Nat} (h : PtsAt K c H f v l p ps) (h0 : k ≠ 0) (hk : k < f.q.1) (fit : Fits (f.put k g)) {i : Nat} {x : Pt} (hx : ps[i]? = some x) : Fits (newPart ps k g i x) := by
  have sh := h.shape
  cases f with
  | num n =>
    have hk : k < 1 := hk
    omega
  | ref w y =>
    have hk : k < 1 := hk
    omega
  | pair o a b =>
    rw [put_pair h0 hk] at fit
    obtain ⟨z1, z2⟩ := fit.pair
    match ps, sh, i, hx with
    | [p1, p2], sh, 0, hx =>
      simp only [partsOf, List.map_cons, List.map_nil, List.cons.injEq, and_true] at sh
      cases hx
      rw [← sh.1] at z1
      exact z1
    | [p1, p2], sh, 1, hx =>
      simp only [partsOf, List.map_cons, List.map_nil, List.cons.injEq, and_true] at sh
      cases hx
      rw [← sh.1, ← sh.2] at z2
      exact z2
    | [p1, p2], sh, i + 2, hx => simp at hx
    | [], sh, _, _ => simp [partsOf] at sh
    | [p1], sh, _, _ => simp [partsOf] at sh
    | p1 :: p2 :: p3 :: r, sh, _, _ => simp [partsOf] at sh
  | cho t s a b =>
    rw [put_cho h0 hk] at fit
    obtain ⟨z1, z2, z3⟩ := fit.cho
    match ps, sh, i, hx with
    | [p1, p2, p3], sh, 0, hx =>
      simp only [partsOf, List.map_cons, List.map_nil, List.cons.injEq, and_true] at sh
      cases hx
      rw [← sh.1] at z1
      exact z1
    | [p1, p2, p3], sh, 1, hx =>
      simp only [partsOf, List.map_cons, List.map_nil, List.cons.injEq, and_true] at sh
      cases hx
      rw [← sh.1, ← sh.2.1] at z2
      exact z2
    | [p1, p2, p3], sh, 2, hx =>
      simp only [partsOf, List.map_cons, List.map_nil, List.cons.injEq, and_true] at sh
      cases hx
      rw [← sh.1, ← sh.2.1, ← sh.2.2] at z3
      exact z3
    | [p1, p2, p3], sh, i + 3, hx => simp at hx
    | [], sh, _, _ => simp [partsOf] at sh
    | [p1], sh, _, _ => simp [partsOf] at sh
    | [p1, p2], sh, _, _ => simp [partsOf] at sh
    | p1 :: p2 :: p3 :: p4 :: r, sh, _, _ => simp [partsOf] at sh
abbrev sWith : Stmt := sMeth iFormula 17
def spWith (K : PySem.W.Frag) (c : Cs) (n : Nat) : Sp := fun vs H Q _ => ∃ (f : Fm) (v : V) (l : List V) (k : Nat) (g : Fm) (w : V) (m : List V), vs = [v, .int (k : Nat), w] ∧ FmAt K c H f v l ∧ Okf f ∧ f.ht ≤ n ∧ FmAt K c H g w m ∧ k < f.q.1 ∧ f.q.1 ≤ 1000 ∧ Fits (f.put k g) ∧
  ∀ u H' l', Same H H' → FmAt K c H' (f.put k g) u l' → (u = w ∨ SqNon H' u) → Q u H'
theorem _root_.Rd.small' {n : Nat} (h : n < 100000) : n < sizeLine := Nat.lt_of_lt_of_le h (by decide)
section
variable {P : Program} {w : World} {K : PySem.W.Frag} {mg : Str → Option Value} {base : Heap} {c : Cs} {f : Addr} {fd : FuncData} {fO : Option (Fin 4) → Addr} {fdO : Option (Fin 4) → FuncData}
theorem scWith : FnScope ["self", "number", "formula", "parts", "first", "part", "inside"] ["self", "number", "formula"] (defScope sWith) := ⟨rfl, rfl, rfl, by decide +kernel, rfl, by decide +kernel, by decide +kernel⟩
theorem ok_with (F : FunD K "_with_node" "Formula._with_node" (defArgs sWith) (defBody sWith) (defScope sWith) [] [] f fd) (T : Cl K c) (m : ∀ g, Meth K (clsOf c g) "_with_node" f)
    (mO : ∀ i, Meth K (ofCls c i) "_of_parts" (fO i)) (GO : ∀ i, FnOk P w K mg base CX0 5 (fO i) (fdO i) ["self", "parts"] (spOf K c i)) (bO : ∀ i, Binds K (fdO i) ["self", "parts"] []) : ∀ n, FnOk P w K mg base CX0 (n + 6) f fd ["self", "number", "formula"] (spWith K c n) := by
  have bF : Binds K fd ["self", "number", "formula"] [] := F.bindsN fun _ _ _ _ _ _ us hl => match us, hl with | [_, _, _], _ => rfl
  have nd := scWith.nd
  have clO : ∀ i, Cls K (ofCls c i) := fun i => match i with
    | none => T.cho.cl
    | some i => (T.pair i.1).cl
  intro n
  induction n with
  | zero =>
    refine F.ok scWith (fun vs H Q E h => ?_) (fun cdv A outer s H vs Q E hr h => ?_)
    · obtain ⟨g, v, l, k, g2, w2, m2, rfl, _⟩ := h
      rfl
    · obtain ⟨g, v, l, k, g2, w2, m2, rfl, _, _, ht, _⟩ := h
      cases g <;> simp [Fm.ht] at ht
  | succ n ih =>
    refine F.ok scWith (fun vs H Q E h => ?_) (fun cdv A outer s H vs Q E hr h => ?_)
    · obtain ⟨g, v, l, k, g2, w2, m2, rfl, _⟩ := h
      rfl
    · obtain ⟨g, v, l, k, g2, w2, m2, rfl, hf, og, ht, hg2, hk, few, fit, q⟩ := h
      have r5 := hr.mono (show 5 ≤ n + 6 by omega)
      refine ⟨_, PSs.nox (pss_cons (ps_if (pt_cmpR op_eq (pv 1) pe_int (nomark _)) (pss_one (ps_ret (pv 2))) pss_nil)
        (pss_cons (ps_set (i := 3) nd rfl (Or.inl rfl) (pe_lst pa_nil)) (pss_cons (ps_set (i := 4) nd rfl (Or.inl rfl) pe_int)
        (pss_cons (ps_for PassesOwn.never rfl (pi_tup (pe_fld (pv 0) rfl)) (pg_name (i := 5) nd rfl (Or.inl rfl))
          (pss_cons (ps_set (i := 6) nd rfl (Or.inl rfl) (pe_chain op_le op_lt (pv 4) (pv 1) (pe_op op_add (pv 4) (pe_fld (pv 5) rfl))))
          (pss_cons (ps_expr (pe_bm PySem.F.plainAttrs_list PySem.F.slot_list_append PySem.F.type_list_append mt_append (pv 3) (pa_cons
            (pe_ifExp (pt_val (pv 6)) (pe_methI (ι := Fm) (C := clsOf c) (f := fun _ => f) (fd := fun _ => fd) (sp := fun _ => spWith K c n) (pv 5) (fun i => (T.at_ i).cl) m (fun _ => ih) hr (fun _ => bF) .nil pass0 (pa_cons (pe_op op_sub (pv 1) (pv 4)) (pa_cons (pv 2) pa_nil))) (pv 5)) pa_nil)))
          (pss_one (ps_set (i := 4) nd rfl (Or.inl rfl) (pe_op op_add (pv 4) (pe_fld (pv 5) rfl)))))))
        (pss_one (ps_ret (pe_methI (ι := Option (Fin 4)) (C := ofCls c) (f := fO) (fd := fdO) (sp := spOf K c) (pv 0) clO mO GO r5 bO .nil pass0 (pa_cons (pv 3) pa_nil)))))))), ?_⟩
      obtain ⟨a, dx, fs, g1, p, r, rfl, el, ha, b1⟩ := id hf.obj
      obtain ⟨ps, pts⟩ := hf.parts og ha b1.pt
      walk_at "rd"
      refine Rd.ifB (fun z => ?_) (fun z => ?_)
      · have z : k = 0 := by have := V.int.inj (of_decide_eq_true z); omega
        subst z
        walk_at "rd"
        have e1 : g.put 0 g2 = g2 := by cases g <;> rfl
        rw [e1] at q
        exact q _ H _ (Same.refl _) hg2 (.inl rfl)
      have kz : k ≠ 0 := fun e => of_decide_eq_false z (congrArg V.int (by omega))
      walk_at "rd"
      refine ⟨Rd.small (by show 0 ≤ 100000; decide), fun D nD => ?_⟩
      have sD := same_new (o := HO.lst ([])) nD
      have tD := upd_same (H := H) (a := D) (o := HO.lst ([]))
      generalize upd H D (HO.lst ([])) = H1 at sD tD ⊢
      walk_at "rd"
      refine ⟨a, _, dx, fs, _, rfl, sD _ _ ha, (T.at_ g).cl, (T.at_ g).no "_parts", b1.pt, p, rfl, ⟨_, pts.at_.ext sD⟩, ?_⟩
      refine for_it walk_tup (fun i σ H' => (∃ b d, σ = [some (.ref a), some (.int (k : Nat)), some w2, some (.ref D), some (.int (fmN ((ps.take i).map (·.f.q)) : Nat)), b, d]) ∧ Same H H' ∧ ∃ us, H' D = some (.lst us) ∧ us.length = min i ps.length ∧
          (∀ (j : Nat) u, us[j]? = some u → NoD H' D u ∧ ∃ x m, ps[j]? = some x ∧ FmAt K c H' (newPart ps k g2 j x) u m)) ⟨⟨_, _, rfl⟩, sD, [], tD, by simp, fun j u e => by simp at e⟩ (fun i σ H' _ z => pts.at_.ext z.2.1) (fun i v σ H2 H3 hi hy z => ?_) (fun σ H' z => ?_)
      · obtain ⟨⟨b, d, rfl⟩, s2, us, d2, ul, at_⟩ := hy
        obtain ⟨rfl, ev⟩ := z
        rw [List.getElem?_map] at ev
        cases ep : ps[i]? with
        | none => rw [ep] at ev; cases ev
        | some x =>
        rw [ep] at ev
        have ev : x.v = v := Option.some.inj ev
        subst ev
        have mx : x ∈ ps := List.mem_of_getElem? ep
        have hi2 : i < ps.length := (List.getElem?_eq_some_iff.mp ep).1
        rw [Nat.min_eq_left (Nat.le_of_lt hi2)] at ul
        obtain ⟨hx, ox, hx2⟩ := pts.all x mx
        have hx3 := hx.kp (kp_same s2)
        obtain ⟨a', dx', fs', g1', p', r', ev', _, ha', b1'⟩ := id hx3.obj
        have eN : fmN ((ps.take (i + 1)).map (·.f.q)) = fmN ((ps.take i).map (·.f.q)) + x.f.q.1 := by
          have := fmN_take (ps := ps.map (·.f.q)) (i := i) (p := x.f.q) (by rw [List.getElem?_map, ep]; rfl)
          rw [← List.map_take, ← List.map_take] at this
          exact this
        have qx := q_pos x.f
        have pf := pts.few
        have lx := nodes_len hx
        have ll := nodes_len hf
        have le : x.l.length + 1 ≤ l.length := by
          rw [pts.nodes, List.length_cons]
          have := List.Sublist.length_le (List.sublist_flatten_of_mem (List.mem_map.mpr ⟨x, mx, rfl⟩ : x.l ∈ ps.map (·.l)))
          omega
        walk_at "rd"
        have nodx : NoD H3 D x.v := (hx.noD nD).same s2
        refine Rd.ifB (fun z1 => ?_) (fun z1 => ?_)
        · have z1 := of_decide_eq_true z1
          walk_at "rd"
          refine ⟨a', _, dx', fs', _, ev', ha', (T.at_ x.f).cl, (T.at_ x.f).no "_many", b1'.mn, ?_⟩
          walk_at "rd"
          refine ⟨.inl ⟨rfl, _, SqL.of d2⟩, ?_⟩
          walk_at "rd"
          refine Rd.ifB (fun z2 => ?_) (fun z2 => ?_)
          · have z2 := of_decide_eq_true z2
            have c1 : fmN ((ps.take i).map (·.f.q)) ≤ k ∧ k < fmN ((ps.take i).map (·.f.q)) + x.f.q.1 := ⟨by omega, by omega⟩
            have eP : newPart ps k g2 i x = x.f.put (k - fmN ((ps.take i).map (·.f.q))) g2 := if_pos c1
            walk_at "rd"
            refine ⟨x.f, a', dx', fs', ev', ha', b1'.meth "_with_node", ?_⟩
            walk_at "rd"
            refine ⟨x.f, x.v, x.l, k - fmN ((ps.take i).map (·.f.q)), g2, w2, m2, by rw [List.append_nil, show ((k : Nat) : Int) - ((fmN ((ps.take i).map (·.f.q)) : Nat) : Int) = ((k - fmN ((ps.take i).map (·.f.q)) : Nat) : Int) by omega], hx3, ox, by omega, hg2.kp (kp_same s2), by omega, by omega, eP ▸ pts.fits kz hk fit ep, fun u4 H4 m4 s4 f4 z4 => ?_⟩
            have f4 : FmAt K c H4 (newPart ps k g2 i x) u4 m4 := eP ▸ f4
            have nod4 : NoD H4 D u4 := z4.elim (fun e => by rw [e]; exact ((hg2.noD nD).same s2).same s4) fun z => z.noD
            walk_at "rd"
            have d4 := s4 _ _ d2
            refine ⟨D, us, _, rfl, rfl, d4, Rd.small' (by omega), ?_⟩
            have hl : us = [] ∨ ∃ a r C dx fs, us = .ref a :: r ∧ H4 a = some (.ins C dx fs) ∧ fs.lookup ("_sequence" : Str) ≠ some (.ref D) := by
              cases us with
              | nil => exact .inl rfl
              | cons u0 r0 =>
                obtain ⟨⟨a0, C0, dx0, fs0, rfl, h0, n0⟩, _⟩ := at_ 0 u0 rfl
                exact .inr ⟨a0, r0, C0, dx0, fs0, rfl, s4 _ _ h0, n0⟩
            walk_at "rd"
            refine ⟨a', _, dx', fs', _, ev', ins_list d4 (s4 _ _ ha'), (T.at_ x.f).cl, (T.at_ x.f).no "_many", b1'.mn, ?_⟩
            walk_at "rd"
            have sE : Same H (upd H4 D (.lst (us ++ [u4]))) := fun b o e => by rw [upd_ne (ne_of_none e nD)]; exact s4 _ _ (s2 _ _ e)
            refine ⟨⟨_, _, by rw [eN, Int.natCast_add]; rfl⟩, sE, us ++ [u4], upd_same, by rw [List.length_append, ul, Nat.min_eq_left (Nat.succ_le_of_lt hi2)]; rfl, fun j u e => ?_⟩
            by_cases hj : j < us.length
            · rw [List.getElem?_append_left hj] at e
              obtain ⟨⟨a0, C0, dx0, fs0, e0, h0, n0⟩, x0, m0, ex0, f0⟩ := at_ j u e
              exact ⟨⟨a0, C0, dx0, fs0, e0, ins_list d4 (s4 _ _ h0), n0⟩, x0, m0, ex0, (f0.kp (kp_same s4)).list d4 hl⟩
            · rw [List.getElem?_append_right (by omega)] at e
              have ej : j - us.length = 0 := by
                cases q : j - us.length with
                | zero => rfl
                | succ y => rw [q] at e; simp at e
              have ej2 : j = i := by omega
              subst ej2
              rw [ej] at e
              cases e
              obtain ⟨a0, C0, dx0, fs0, e0, h0, n0⟩ := nod4
              exact ⟨⟨a0, C0, dx0, fs0, e0, ins_list d4 h0, n0⟩, x, _, ep, f4.list d4 hl⟩
          · have z2 := of_decide_eq_false z2
            have eP : newPart ps k g2 i x = x.f := if_neg (fun c => z2 (by omega))
            walk_at "rd"
            have d4 := (Same.refl H3) _ _ d2
            refine ⟨D, us, _, rfl, rfl, d4, Rd.small' (by omega), ?_⟩
            have hl : us = [] ∨ ∃ a r C dx fs, us = .ref a :: r ∧ H3 a = some (.ins C dx fs) ∧ fs.lookup ("_sequence" : Str) ≠ some (.ref D) := by
              cases us with
              | nil => exact .inl rfl
              | cons u0 r0 =>
                obtain ⟨⟨a0, C0, dx0, fs0, rfl, h0, n0⟩, _⟩ := at_ 0 u0 rfl
                exact .inr ⟨a0, r0, C0, dx0, fs0, rfl, (Same.refl H3) _ _ h0, n0⟩
            walk_at "rd"
            refine ⟨a', _, dx', fs', _, ev', ins_list d4 ((Same.refl H3) _ _ ha'), (T.at_ x.f).cl, (T.at_ x.f).no "_many", b1'.mn, ?_⟩
            walk_at "rd"
            have sE : Same H (upd H3 D (.lst (us ++ [x.v]))) := fun b o e => by rw [upd_ne (ne_of_none e nD)]; exact (Same.refl H3) _ _ (s2 _ _ e)
            refine ⟨⟨_, _, by rw [eN, Int.natCast_add]; rfl⟩, sE, us ++ [x.v], upd_same, by rw [List.length_append, ul, Nat.min_eq_left (Nat.succ_le_of_lt hi2)]; rfl, fun j u e => ?_⟩
            by_cases hj : j < us.length
            · rw [List.getElem?_append_left hj] at e
              obtain ⟨⟨a0, C0, dx0, fs0, e0, h0, n0⟩, x0, m0, ex0, f0⟩ := at_ j u e
              exact ⟨⟨a0, C0, dx0, fs0, e0, ins_list d4 ((Same.refl H3) _ _ h0), n0⟩, x0, m0, ex0, (f0.kp (kp_same (Same.refl H3))).list d4 hl⟩
            · rw [List.getElem?_append_right (by omega)] at e
              have ej : j - us.length = 0 := by
                cases q : j - us.length with
                | zero => rfl
                | succ y => rw [q] at e; simp at e
              have ej2 : j = i := by omega
              subst ej2
              rw [ej] at e
              cases e
              obtain ⟨a0, C0, dx0, fs0, e0, h0, n0⟩ := nodx
              exact ⟨⟨a0, C0, dx0, fs0, e0, ins_list d4 h0, n0⟩, x, _, ep, (eP ▸ hx3).list d4 hl⟩
        · have z1 := of_decide_eq_false z1
          have eP : newPart ps k g2 i x = x.f := if_neg (fun c => z1 (by omega))
          walk_at "rd"
          refine ⟨.inl ⟨rfl, _, SqL.of d2⟩, ?_⟩
          walk_at "rd"
          refine iteF ?_
          walk_at "rd"
          have d4 := (Same.refl H3) _ _ d2
          refine ⟨D, us, _, rfl, rfl, d4, Rd.small' (by omega), ?_⟩
          have hl : us = [] ∨ ∃ a r C dx fs, us = .ref a :: r ∧ H3 a = some (.ins C dx fs) ∧ fs.lookup ("_sequence" : Str) ≠ some (.ref D) := by
            cases us with
            | nil => exact .inl rfl
            | cons u0 r0 =>
              obtain ⟨⟨a0, C0, dx0, fs0, rfl, h0, n0⟩, _⟩ := at_ 0 u0 rfl
              exact .inr ⟨a0, r0, C0, dx0, fs0, rfl, (Same.refl H3) _ _ h0, n0⟩
          walk_at "rd"
          refine ⟨a', _, dx', fs', _, ev', ins_list d4 ((Same.refl H3) _ _ ha'), (T.at_ x.f).cl, (T.at_ x.f).no "_many", b1'.mn, ?_⟩
          walk_at "rd"
          have sE : Same H (upd H3 D (.lst (us ++ [x.v]))) := fun b o e => by rw [upd_ne (ne_of_none e nD)]; exact (Same.refl H3) _ _ (s2 _ _ e)
          refine ⟨⟨_, _, by rw [eN, Int.natCast_add]; rfl⟩, sE, us ++ [x.v], upd_same, by rw [List.length_append, ul, Nat.min_eq_left (Nat.succ_le_of_lt hi2)]; rfl, fun j u e => ?_⟩
          by_cases hj : j < us.length
          · rw [List.getElem?_append_left hj] at e
            obtain ⟨⟨a0, C0, dx0, fs0, e0, h0, n0⟩, x0, m0, ex0, f0⟩ := at_ j u e
            exact ⟨⟨a0, C0, dx0, fs0, e0, ins_list d4 ((Same.refl H3) _ _ h0), n0⟩, x0, m0, ex0, (f0.kp (kp_same (Same.refl H3))).list d4 hl⟩
          · rw [List.getElem?_append_right (by omega)] at e
            have ej : j - us.length = 0 := by
              cases q : j - us.length with
              | zero => rfl
              | succ y => rw [q] at e; simp at e
            have ej2 : j = i := by omega
            subst ej2
            rw [ej] at e
            cases e
            obtain ⟨a0, C0, dx0, fs0, e0, h0, n0⟩ := nodx
            exact ⟨⟨a0, C0, dx0, fs0, e0, ins_list d4 h0, n0⟩, x, _, ep, (eP ▸ hx3).list d4 hl⟩
      · obtain ⟨⟨b, d, rfl⟩, s2, us, d2, ul, at_⟩ := z
        rw [List.length_map, Nat.min_self] at ul
        have sh := pts.shape
        cases g with
        | num y =>
          have hk : k < 1 := hk
          omega
        | ref y z =>
          have hk : k < 1 := hk
          omega
        | pair o f1 f2 =>
          match ps, us, sh, ul with
          | [p1, p2], [u1, u2], sh, _ =>
            simp only [partsOf, List.map_cons, List.map_nil, List.cons.injEq, and_true] at sh
            obtain ⟨rfl, rfl⟩ := sh
            obtain ⟨_, x1, m1, ex1, y1⟩ := at_ 0 u1 rfl
            obtain ⟨_, x2, m2, ex2, y2⟩ := at_ 1 u2 rfl
            cases ex1
            cases ex2
            have e := put_pair (g := g2) kz hk
            rw [e] at q fit
            walk_at "rd"
            refine ⟨some ⟨o, og.1⟩, a, dx, fs, rfl, s2 _ _ ha, b1.meth "_of_parts", ?_⟩
            walk_at "rd"
            exact ⟨.ref a, D, _, u1, m1, _, u2, _, rfl, d2, y1, y2, fit, fun u H2 l2 z => q u H2 l2 (s2.trans z.same) z.at_ (.inr z.sq)⟩
        | cho t sl f1 f2 =>
          match ps, us, sh, ul with
          | [p1, p2, p3], [u1, u2, u3], sh, _ =>
            simp only [partsOf, List.map_cons, List.map_nil, List.cons.injEq, and_true] at sh
            obtain ⟨rfl, rfl, rfl⟩ := sh
            obtain ⟨_, x1, m1, ex1, y1⟩ := at_ 0 u1 rfl
            obtain ⟨_, x2, m2, ex2, y2⟩ := at_ 1 u2 rfl
            obtain ⟨_, x3, m3, ex3, y3⟩ := at_ 2 u3 rfl
            cases ex1
            cases ex2
            cases ex3
            have e := put_cho (g := g2) kz hk
            rw [e] at q fit
            walk_at "rd"
            refine ⟨none, a, dx, fs, rfl, s2 _ _ ha, b1.meth "_of_parts", ?_⟩
            walk_at "rd"
            exact ⟨_, sl, _, _, .ref a, _, D, _, u1, m1, _, u2, _, _, u3, _, rfl, hf.kp (kp_same s2), og.1, d2, y1, y2, y3, fit, fun u H2 l2 z => q u H2 l2 (s2.trans z.same) z.at_ (.inr z.sq)⟩
end
end K17

namespace K17
open PySem PySem.Spec PyProof.Rows L2
local macro_rules | `(tactic| walk_at "rd1") => `(tactic| first
  | (with_reducible refine Rd.seq ?_) | (with_reducible refine Rd.asg ?_) | (with_reducible refine Rd.ret ?_) | (with_reducible refine Rd.nxt ?_) | (with_reducible refine Rd.ifS ?_)
  | (with_reducible refine Rd.op ?_) | (with_reducible refine Rd.un ?_) | (with_reducible refine Rd.cb ?_) | (with_reducible refine Rd.cons ?_) | (with_reducible refine Rd.nil ?_) | (with_reducible refine Rd.ifx ?_)
  | (with_reducible refine Rd.test ?_) | (with_reducible refine Rd.testB ?_) | (with_reducible refine Rd.notT ?_) | (with_reducible refine Rd.isB ?_) | (with_reducible refine Rd.lst ?_) | (with_reducible refine Rd.tup ?_)
  | (with_reducible refine Rd.andV ?_) | (with_reducible refine Rd.orV ?_) | (with_reducible refine Rd.notV ?_) | (with_reducible refine Rd.andT ?_) | (with_reducible refine Rd.orT ?_) | (with_reducible refine Rd.chain ?_)
  | (with_reducible refine Rd.m0 ?_) | (with_reducible refine Rd.m1 ?_) | (with_reducible refine Rd.bm0 ?_) | (with_reducible refine Rd.bm ?_) | (with_reducible refine Rd.sl ?_) | (with_reducible refine Rd.part ?_) | (with_reducible refine Rd.part0 ?_) | (with_reducible refine Rd.isI ?_)
  | (with_reducible refine Rd.fmt ?_) | (with_reducible refine Rd.fmtRD ?_) | (with_reducible refine Rd.meth ?_) | (with_reducible refine makeG ?_) | (with_reducible refine Rd.prop ?_) | (with_reducible refine Rd.js ?_) | (with_reducible refine Rd.js0 ?_) | (with_reducible refine Rd.par ?_) | (with_reducible refine Rd.star ?_) | (with_reducible refine lcR1 ?_) | (with_reducible refine lcR2 ?_) | (with_reducible refine Rd.fld ?_) | (with_reducible refine Rd.sfld ?_) | (with_reducible refine Rd.expr ?_) | (with_reducible refine L2.isNR ?_) | (with_reducible refine L2.methI ?_) | (with_reducible refine Rd.forZ ?_)
  | (with_reducible refine Rd.forEA ?_) | (with_reducible refine Rd.forR1 ?_) | (with_reducible refine Rd.forR2 ?_) | (with_reducible refine Rd.forL ?_) | (with_reducible refine Rd.forT ?_)
  | (with_reducible refine Rd.call ?_) | (with_reducible refine Rd.asgG ?_) | (with_reducible refine Rd.gNm ?_) | (with_reducible refine Rd.gSb ?_) | (with_reducible refine Rd.gC ?_) | (with_reducible refine Rd.gN ?_)
  | ((with_reducible refine' Rd.var ?hv ?_); (case hv => exact rfl)) | (with_reducible refine Rd.c ?_) | (with_reducible refine Rd.i0 ?_) | (with_reducible refine Rd.neg ?_)
  | ((with_reducible refine' Rd.iC ?hc ?_); (case hc => first | (show (0 : Int) < _; decide) | exact ⟨by decide, by decide⟩ | exact ⟨by decide, by decide, by decide⟩ | exact .inl ⟨by decide, by decide⟩ | exact .inr ⟨by decide, by decide⟩ | exact .inl ⟨by omega, by omega⟩ | (show (0 : Int) < _; omega) | exact ⟨by omega, by omega⟩))
  | ((with_reducible refine' Rd.eqS ?hc ?_); (case hc => rfl)) | ((with_reducible refine' Rd.neS ?hc ?_); (case hc => rfl)))
local macro_rules | `(tactic| walk_at "rd") => `(tactic| repeat walk_at "rd1")
/-- all formulas stay what they are, all else that was there stays -/
structure Kf (K : PySem.W.Frag) (c : Cs) (H H' : Hp) : Prop where
  fm : ∀ {f : Fm} {v : V} {l : List V}, Okf f → FmAt K c H f v l → FmAt K c H' f v l
  oth : ∀ {b : Addr} {o : HO}, H b = some o → (∀ C dx fs, o ≠ .ins C dx fs) → H' b = some o
  free : ∀ {b : Addr}, H' b = none → H b = none
theorem Kf.refl {K : PySem.W.Frag} {c : Cs} {H : Hp} : Kf K c H H := ⟨fun _ h => h, fun h _ => h, fun h => h⟩
theorem kf_same {K : PySem.W.Frag} {c : Cs} {H H' : Hp} (s : Same H H') : Kf K c H H' := ⟨fun _ h => h.kp (kp_same s), fun h _ => s _ _ h, fun h => s.free h⟩
theorem Kf.trans {K : PySem.W.Frag} {c : Cs} {H H1 H2 : Hp} (k : Kf K c H H1) (k' : Kf K c H1 H2) : Kf K c H H2 := ⟨fun o h => k'.fm o (k.fm o h), fun h n => k'.oth (k.oth h n) n, fun h => k.free (k'.free h)⟩
theorem kf_seq {K : PySem.W.Frag} {c : Cs} {l : List V} {N : Addr → Prop} {H H' : Hp} (inj : InjT K H) (k : SeqC K c l N H H') : Kf K c H H' := ⟨fun o h => h.seq inj k o, fun h n => k.oth h n, fun h => k.free h⟩
theorem sqt_kf {K : PySem.W.Frag} {c : Cs} {H H' : Hp} {a : Addr} {xs : List V} (k : Kf K c H H') (h : SqT K H a xs) : SqT K H' a xs := by
  rcases h with (h | ⟨o, h⟩) | h
  · exact .inl (.inl (k.oth h fun _ _ _ z => by cases z))
  · exact .inl (.inr ⟨o, k.oth h fun _ _ _ z => by cases z⟩)
  · exact .inr h
theorem TpAt.kf {K : PySem.W.Frag} {c : Cs} {H H' : Hp} (k : Kf K c H H') : ∀ {f : Fm} {v : V}, TpAt K H f v → TpAt K H' f v
  | .num n, v, ⟨a, e, h⟩ => ⟨a, e, sqt_kf k h⟩
  | .ref w x, v, ⟨a, e, h⟩ => ⟨a, e, sqt_kf k h⟩
  | .pair o f1 f2, v, ⟨a, v1, v2, e, h, h1, h2⟩ => ⟨a, v1, v2, e, sqt_kf k h, TpAt.kf k h1, TpAt.kf k h2⟩
  | .cho f1 s f2 f3, v, ⟨a, v1, t, v2, v3, e, h, h1, h2, h3, h4⟩ => ⟨a, v1, t, v2, v3, e, sqt_kf k h, TpAt.kf k h1, sqt_kf k h2, TpAt.kf k h3, TpAt.kf k h4⟩
theorem at_ok : ∀ (f : Fm) (k : Nat), Okf f → Okf (f.at k)
  | f, 0, h => by
    have e : f.at 0 = f := by cases f <;> rfl
    rw [e]
    exact h
  | .num n, k + 1, h => h
  | .ref w x, k + 1, h => h
  | .pair o l r, k + 1, h => by
    unfold Fm.at
    split
    · exact at_ok l _ h.2.1
    · exact at_ok r _ h.2.2
  | .cho t s a b, k + 1, h => by
    unfold Fm.at
    split
    · exact at_ok t _ h.2.1
    · split
      · exact at_ok a _ h.2.2.1
      · exact at_ok b _ h.2.2.2
abbrev sPut : Stmt := sMeth iFormula 4
def spPut (K : PySem.W.Frag) (c : Cs) (n : Nat) : Sp := fun vs H Q _ => ∃ (f : Fm) (v : V) (l : List V) (k : Nat) (g : Fm) (w : V) (m : List V), vs = [v, .int (k : Nat), w] ∧ FmAt K c H f v l ∧ Okf f ∧ f.ht ≤ n ∧ FmAt K c H g w m ∧ Okf g ∧ k < f.q.1 ∧ f.q.1 ≤ 1000 ∧ Fits (f.put k g) ∧
  ∀ u H' l', Kf K c H H' → FmAt K c H' (f.put k g) u l' → Q u H'
section
variable {P : Program} {w : World} {K : PySem.W.Frag} {mg : Str → Option Value} {base : Heap} {c : Cs} {f fE fW fB fC : Addr} {fd fdE fdW fdB fdC : FuncData}
theorem scPut : FnScope ["self", "number", "formula", "old"] ["self", "number", "formula"] (defScope sPut) := ⟨rfl, rfl, rfl, by decide +kernel, rfl, by decide +kernel, by decide +kernel⟩
theorem ok_put {n : Nat} (F : FunD K "put" "Formula.put" (defArgs sPut) (defBody sPut) (defScope sPut) [] [] f fd) (T : Cl K c) (G : Gf mg)
    (FB : FnP K "is_between" sBetween fB fdB) (GB : FnOk P w K mg base CX0 1 fB fdB ["value", "low", "high"] spBetween) (gB : mg "is_between" = some (.ref fB))
    (FC : FnP K "_check_formula" sCheckF fC fdC) (GC : FnOk P w K mg base CX0 1 fC fdC ["value"] (spCheckF K c)) (gC : mg "_check_formula" = some (.ref fC))
    (mE : ∀ g, Meth K (clsOf c g) "_every" fE) (GE : FnOk P w K mg base CX0 (n + 1) fE fdE ["self"] (spEvery K c n)) (bE : Binds K fdE ["self"] [])
    (mW : ∀ g, Meth K (clsOf c g) "_with_node" fW) (GW : FnOk P w K mg base CX0 (n + 6) fW fdW ["self", "number", "formula"] (spWith K c n)) (bW : Binds K fdW ["self", "number", "formula"] []) :
    FnOk P w K mg base CX0 (n + 7) f fd ["self", "number", "formula"] (spPut K c n) := by
  have bB : Binds K fdB ["value", "low", "high"] [] := FB.bindsN fun _ _ _ _ _ _ us hl => match us, hl with | [_, _, _], _ => rfl
  have bC : Binds K fdC ["value"] [] := FC.bindsN fun _ _ _ _ _ _ us hl => match us, hl with | [_], _ => rfl
  obtain ⟨t1, gN⟩ := G.mn
  have nd := scPut.nd
  refine F.ok scPut (fun vs H Q E h => ?_) (fun cdv A outer s H vs Q E hr h => ?_)
  · obtain ⟨g, v, l, k, g2, w2, m2, rfl, _⟩ := h
    rfl
  · obtain ⟨g, v, l, k, g2, w2, m2, rfl, hf, og, ht, hg2, og2, hk, few, fit, q⟩ := h
    have r1 := hr.mono (show 1 ≤ n + 6 by omega)
    have rE := hr.mono (show n + 1 ≤ n + 6 by omega)
    refine ⟨_, PSs.nox (pss_inj (pss_cons (ps_if (pt_not (pt_val (pe_call GB r1 rfl gB FB.kp bB .nil pass0 (pa_cons (pv 1) (pa_cons pe_int (pa_cons (pe_op op_sub (pe_fld (pv 0) rfl) pe_int) pa_nil)))))) (pss_one ps_never) pss_nil)
      (pss_cons (ps_expr (pe_call GC r1 rfl gC FC.kp bC .nil pass0 (pa_cons (pv 2) pa_nil)))
      (pss_cons (ps_set (i := 3) nd rfl (Or.inl rfl) (pe_ix ix_list (pe_methI0 (ι := Fm) (C := clsOf c) (f := fun _ => fE) (fd := fun _ => fdE) (sp := fun _ => spEvery K c n) (pv 0) (fun i => (T.at_ i).cl) mE (fun _ => GE) rE (fun _ => bE) .nil pass0) (pv 1) (fun _ _ => rfl)))
      (pss_cons (ps_if (pt_cmpR op_gt (pe_op op_add (pe_op op_sub (pe_fld (pv 0) rfl) (pe_fld (pv 3) rfl)) (pe_fld (pv 2) rfl)) (pe_glob rfl gN (v := .int 40) ⟨_, rfl⟩) (nomark _)) (pss_one ps_never) pss_nil)
      (pss_one (ps_ret (pe_methI (ι := Fm) (C := clsOf c) (f := fun _ => fW) (fd := fun _ => fdW) (sp := fun _ => spWith K c n) (pv 0) (fun i => (T.at_ i).cl) mW (fun _ => GW) hr (fun _ => bW) .nil pass0 (pa_cons (pv 1) (pa_cons (pv 2) pa_nil)))))))))), ?_⟩
    intro inj
    obtain ⟨a, dx, fs, g1, p, r, rfl, el, ha, b1⟩ := id hf.obj
    walk_at "rd"
    refine ⟨a, _, dx, fs, _, rfl, ha, (T.at_ g).cl, (T.at_ g).no "_many", b1.mn, ?_⟩
    walk_at "rd"
    refine ⟨_, _, _, rfl, ?_⟩
    rw [decide_eq_true (show (0 : Int) ≤ (k : Nat) by omega), decide_eq_true (show ((k : Nat) : Int) ≤ ((g.q.1 : Nat) : Int) - 1 by omega)]
    walk_at "rd"
    refine iteF ?_
    walk_at "rd"
    refine ⟨g2, w2, m2, rfl, hg2, ?_⟩
    walk_at "rd"
    refine ⟨g, a, dx, fs, rfl, ha, b1.meth "_every", ?_⟩
    walk_at "rd"
    refine ⟨g, .ref a, l, rfl, hf, og, ht, few, fun H1 q1 k1 h1 => ?_⟩
    walk_at "rd"
    have kf1 := kf_seq inj k1
    obtain ⟨u, mu, eu, hu⟩ := hf.at_ hk
    refine Rd.ixL' (SqL.of h1) (by rw [Rd.at_nat (by rw [nodes_len hf]; exact hk)]; exact eu) ?_
    walk_at "rd"
    have hf1 := kf1.fm og hf
    have hu1 := kf1.fm (at_ok g k og) hu
    have hw1 := kf1.fm og2 hg2
    obtain ⟨a1, dx1, fs1, g11, p1, r1, e1, _, ha1, b11⟩ := id hf1.obj
    cases e1
    obtain ⟨a2, dx2, fs2, g12, p2, r2, rfl, _, ha2, b12⟩ := id hu1.obj
    obtain ⟨a3, dx3, fs3, g13, p3, r3, rfl, _, ha3, b13⟩ := id hw1.obj
    refine ⟨a, _, dx1, fs1, _, rfl, ha1, (T.at_ g).cl, (T.at_ g).no "_many", b11.mn, ?_⟩
    walk_at "rd"
    refine ⟨a2, _, dx2, fs2, _, rfl, ha2, (T.at_ _).cl, (T.at_ _).no "_many", b12.mn, ?_⟩
    walk_at "rd"
    refine ⟨a3, _, dx3, fs3, _, rfl, ha3, (T.at_ _).cl, (T.at_ _).no "_many", b13.mn, ?_⟩
    walk_at "rd"
    have pq := put_q g k g2 hk
    have f40 := fit.1
    refine Rd.ifB (fun z => ?_) (fun _ => ?_)
    · have := of_decide_eq_true z
      omega
    walk_at "rd"
    refine ⟨g, a, dx1, fs1, rfl, ha1, b11.meth "_with_node", ?_⟩
    walk_at "rd"
    exact ⟨g, .ref a, l, k, g2, _, _, rfl, hf1, og, ht, hw1, hk, few, fit, fun u H2 l2 s2 h2 _ => q u H2 l2 (kf1.trans (kf_same s2)) h2⟩
end
end K17

namespace K17
open PySem PySem.Spec PyProof.Rows L2
local macro_rules | `(tactic| walk_at "rd1") => `(tactic| first
  | (with_reducible refine Rd.seq ?_) | (with_reducible refine Rd.asg ?_) | (with_reducible refine Rd.ret ?_) | (with_reducible refine Rd.nxt ?_) | (with_reducible refine Rd.ifS ?_)
  | (with_reducible refine Rd.op ?_) | (with_reducible refine Rd.un ?_) | (with_reducible refine Rd.cb ?_) | (with_reducible refine Rd.cons ?_) | (with_reducible refine Rd.nil ?_) | (with_reducible refine Rd.ifx ?_)
  | (with_reducible refine Rd.test ?_) | (with_reducible refine Rd.testB ?_) | (with_reducible refine Rd.notT ?_) | (with_reducible refine Rd.isB ?_) | (with_reducible refine Rd.lst ?_) | (with_reducible refine Rd.tup ?_)
  | (with_reducible refine Rd.andV ?_) | (with_reducible refine Rd.orV ?_) | (with_reducible refine Rd.notV ?_) | (with_reducible refine Rd.andT ?_) | (with_reducible refine Rd.orT ?_) | (with_reducible refine Rd.chain ?_)
  | (with_reducible refine Rd.m0 ?_) | (with_reducible refine Rd.m1 ?_) | (with_reducible refine Rd.bm0 ?_) | (with_reducible refine Rd.bm ?_) | (with_reducible refine Rd.sl ?_) | (with_reducible refine Rd.part ?_) | (with_reducible refine Rd.part0 ?_) | (with_reducible refine Rd.isI ?_)
  | (with_reducible refine Rd.fmt ?_) | (with_reducible refine Rd.fmtRD ?_) | (with_reducible refine Rd.meth ?_) | (with_reducible refine makeG ?_) | (with_reducible refine Rd.prop ?_) | (with_reducible refine Rd.js ?_) | (with_reducible refine Rd.js0 ?_) | (with_reducible refine Rd.par ?_) | (with_reducible refine Rd.star ?_) | (with_reducible refine lcR1 ?_) | (with_reducible refine lcR2 ?_) | (with_reducible refine Rd.fld ?_) | (with_reducible refine Rd.sfld ?_) | (with_reducible refine Rd.expr ?_) | (with_reducible refine L2.isNR ?_) | (with_reducible refine L2.methI ?_) | (with_reducible refine Rd.forZ ?_)
  | (with_reducible refine Rd.forEA ?_) | (with_reducible refine Rd.forR1 ?_) | (with_reducible refine Rd.forR2 ?_) | (with_reducible refine Rd.forL ?_) | (with_reducible refine Rd.forT ?_)
  | (with_reducible refine Rd.call ?_) | (with_reducible refine Rd.asgG ?_) | (with_reducible refine Rd.gNm ?_) | (with_reducible refine Rd.gSb ?_) | (with_reducible refine Rd.gC ?_) | (with_reducible refine Rd.gN ?_)
  | ((with_reducible refine' Rd.var ?hv ?_); (case hv => exact rfl)) | (with_reducible refine Rd.c ?_) | (with_reducible refine Rd.i0 ?_) | (with_reducible refine Rd.neg ?_)
  | ((with_reducible refine' Rd.iC ?hc ?_); (case hc => first | (show (0 : Int) < _; decide) | exact ⟨by decide, by decide⟩ | exact ⟨by decide, by decide, by decide⟩ | exact .inl ⟨by decide, by decide⟩ | exact .inr ⟨by decide, by decide⟩ | exact .inl ⟨by omega, by omega⟩ | (show (0 : Int) < _; omega) | exact ⟨by omega, by omega⟩))
  | ((with_reducible refine' Rd.eqS ?hc ?_); (case hc => rfl)) | ((with_reducible refine' Rd.neS ?hc ?_); (case hc => rfl)))
local macro_rules | `(tactic| walk_at "rd") => `(tactic| repeat walk_at "rd1")
/-! ### what a formula is worth, and what it looks at -/
def jn (M o a b : Nat) : Nat := match o with
  | 0 => (a + b) % M
  | 1 => min a b
  | 2 => max a b
  | _ => if a = b then 1 else 0
def optV : Option Nat → V
  | none => .non
  | some n => natV n
abbrev RowsF := Nat → Str → Option Nat
def wv (M : Nat) (R : RowsF) : Fm → Option Nat
  | .num n => some n
  | .ref w x => R w x
  | .pair o l r => match wv M R l with
    | none => none
    | some a => match wv M R r with
      | none => none
      | some b => some (jn M o a b)
  | .cho t s a b => match wv M R t with
    | none => none
    | some x => if x ∈ s then wv M R a else wv M R b
abbrev Look := Nat × Nat × Str
def lk (M : Nat) (R : RowsF) : Fm → Nat → List Look
  | .num _, _ => []
  | .ref w x, n => [(n, w, x)]
  | .pair _ l r, n => lk M R l (n + 1) ++ match wv M R l with
    | none => []
    | some _ => lk M R r (n + 1 + l.q.1)
  | .cho t s a b, n => lk M R t (n + 1) ++ match wv M R t with
    | none => []
    | some x => if x ∈ s then lk M R a (n + 1 + t.q.1) else lk M R b (n + 1 + t.q.1 + a.q.1)
theorem lk_len {M : Nat} {R : RowsF} : ∀ {f : Fm} {n : Nat}, (lk M R f n).length ≤ f.q.1
  | .num k, n => Nat.zero_le _
  | .ref w x, n => Nat.le_refl 1
  | .pair o l r, n => by
    have h1 := lk_len (M := M) (R := R) (f := l) (n := n + 1)
    have h2 := lk_len (M := M) (R := R) (f := r) (n := n + 1 + l.q.1)
    rw [q_pair]
    simp only [lk, List.length_append]
    split
    · simp; omega
    · omega
  | .cho t s a b, n => by
    have h1 := lk_len (M := M) (R := R) (f := t) (n := n + 1)
    have h2 := lk_len (M := M) (R := R) (f := a) (n := n + 1 + t.q.1)
    have h3 := lk_len (M := M) (R := R) (f := b) (n := n + 1 + t.q.1 + a.q.1)
    rw [q_cho]
    simp only [lk, List.length_append]
    split
    · simp; omega
    · split <;> omega
/-- the looks in the list -/
def LookAt (H : Hp) (v : V) (x : Look) : Prop := ∃ t, v = .ref t ∧ H t = some (.tup [natV x.1, .str (refWhere x.2.1), .str x.2.2])
def LkAt (H : Hp) : List V → List Look → Prop
  | [], [] => True
  | v :: vs, x :: xs => LookAt H v x ∧ LkAt H vs xs
  | _, _ => False
theorem LkAt.len {H : Hp} : ∀ {vs : List V} {ls : List Look}, LkAt H vs ls → vs.length = ls.length
  | [], [], _ => rfl
  | _ :: _, _ :: _, h => congrArg (· + 1) (LkAt.len h.2)
  | [], _ :: _, h => h.elim
  | _ :: _, [], h => h.elim
theorem LkAt.snoc {H : Hp} {v : V} {x : Look} (hx : LookAt H v x) : ∀ {vs : List V} {ls : List Look}, LkAt H vs ls → LkAt H (vs ++ [v]) (ls ++ [x])
  | [], [], _ => ⟨hx, trivial⟩
  | _ :: _, _ :: _, h => ⟨h.1, LkAt.snoc hx h.2⟩
  | [], _ :: _, h => h.elim
  | _ :: _, [], h => h.elim
theorem LkAt.but {H H' : Hp} {L : Addr} {us : List V} (hL : H L = some (.lst us)) (b : But L H H') : ∀ {vs : List V} {ls : List Look}, LkAt H vs ls → LkAt H' vs ls
  | [], [], _ => trivial
  | _ :: _, _ :: _, ⟨⟨t, e, ht⟩, h⟩ => ⟨⟨t, e, b _ _ (fun z => by rw [z, hL] at ht; cases ht) ht⟩, LkAt.but hL b h⟩
  | [], _ :: _, h => h.elim
  | _ :: _, [], h => h.elim
theorem LkAt.same {H H' : Hp} (s : Same H H') : ∀ {vs : List V} {ls : List Look}, LkAt H vs ls → LkAt H' vs ls
  | [], [], _ => trivial
  | _ :: _, _ :: _, ⟨⟨t, e, ht⟩, h⟩ => ⟨⟨t, e, s _ _ ht⟩, LkAt.same s h⟩
  | [], _ :: _, h => h.elim
  | _ :: _, [], h => h.elim
/-- a list of looks keeps no formula's nodes -/
structure LL (H : Hp) (L : Addr) (lv : List V) (ls : List Look) : Prop where
  l : H L = some (.lst lv)
  at_ : LkAt H lv ls
theorem LL.head {H : Hp} {L : Addr} {lv : List V} {ls : List Look} (h : LL H L lv ls) {a : Addr} {r : List V} (e : lv = .ref a :: r) : ∃ xs, H a = some (.tup xs) := by
  subst e
  have z := h.at_
  cases ls with
  | nil => exact z.elim
  | cons x xs =>
    obtain ⟨⟨t, et, ht⟩, _⟩ := z
    cases et
    exact ⟨_, ht⟩
theorem sqt_butL {K : PySem.W.Frag} {H H' : Hp} {L a : Addr} {lv l : List V} (hL : H L = some (.lst lv)) (b : But L H H') (h : SqT K H a l) : SqT K H' a l := by
  rcases h with (h | ⟨o, h⟩) | h
  · exact .inl (.inl (b _ _ (fun z => by rw [z, hL] at h; cases h) h))
  · exact .inl (.inr ⟨o, b _ _ (fun z => by rw [z, hL] at h; cases h) h⟩)
  · exact .inr h
theorem ins_butL {H H' : Hp} {L a C dx : Addr} {lv : List V} {fs : List (Str × V)} (hL : H L = some (.lst lv)) (b : But L H H') (h : H a = some (.ins C dx fs)) : H' a = some (.ins C dx fs) :=
  b _ _ (fun z => by rw [z, hL] at h; cases h) h
theorem Bs.butL {H H' : Hp} {L a C dx : Addr} {lv r : List V} {ls : List Look} {fs : List (Str × V)} {name : Str} {g p : Addr} {q : Nat × Nat} (hL : LL H L lv ls) (b : But L H H') (ha : H a = some (.ins C dx fs)) (h : Bs H fs name g p q (.ref a :: r)) : Bs H' fs name g p q (.ref a :: r) := by
  refine ⟨h.nm, h.gv, h.pt, h.mn, h.dp, ?_, h.few, h.ks⟩
  obtain ⟨z, e, w⟩ := h.sq
  refine ⟨z, e, w.imp id fun ⟨d, e, w⟩ => ⟨d, e, b _ _ (fun z => ?_) w⟩⟩
  rw [z, hL.l] at w
  have e2 : lv = .ref a :: r := by cases w; rfl
  obtain ⟨xs, h2⟩ := hL.head e2
  rw [ha] at h2
  cases h2
theorem FmAt.butL {K : PySem.W.Frag} {c : Cs} {H H' : Hp} {L : Addr} {lv : List V} {ls : List Look} (hL : LL H L lv ls) (k : But L H H') : ∀ {f : Fm} {v : V} {l : List V}, FmAt K c H f v l → FmAt K c H' f v l
  | .num n, v, l, h => by
    obtain ⟨rfl, hn, a, dx, fs, g, p, rfl, h1, h2, h3, h4, h5⟩ := h
    exact ⟨rfl, hn, a, dx, fs, g, p, rfl, ins_butL hL.l k h1, h2.butL hL k h1, sqt_butL hL.l k h3, sqt_butL hL.l k h4, h5⟩
  | .ref w x, v, l, h => by
    obtain ⟨rfl, a, dx, fs, g, p, rfl, h1, h2, h3, h4, h5⟩ := h
    exact ⟨rfl, a, dx, fs, g, p, rfl, ins_butL hL.l k h1, h2.butL hL k h1, sqt_butL hL.l k h3, sqt_butL hL.l k h4, h5⟩
  | .pair o f1 f2, v, l, h => by
    obtain ⟨v1, l1, v2, l2, rfl, t1, t2, a, dx, fs, g, p, rfl, h1, h2, h3, h4, h5⟩ := h
    exact ⟨v1, l1, v2, l2, rfl, FmAt.butL hL k t1, FmAt.butL hL k t2, a, dx, fs, g, p, rfl, ins_butL hL.l k h1, h2.butL hL k h1, sqt_butL hL.l k h3, sqt_butL hL.l k h4, h5⟩
  | .cho f1 s f2 f3, v, l, h => by
    obtain ⟨v1, l1, v2, l2, v3, l3, rfl, t1, t2, t3, a, dx, fs, g, p, t, rfl, h1, h2, h3, h4, h5, h6⟩ := h
    exact ⟨v1, l1, v2, l2, v3, l3, rfl, FmAt.butL hL k t1, FmAt.butL hL k t2, FmAt.butL hL k t3, a, dx, fs, g, p, t, rfl, ins_butL hL.l k h1, h2.butL hL k h1, sqt_butL hL.l k h3, sqt_butL hL.l k h4, sqt_butL hL.l k h5, h6⟩
/-- the three rows -/
def RowsAt (H : Hp) (rd : Addr) (R : RowsF) : Prop := ∃ kvs, H rd = some (.dK kvs) ∧ ∀ w, w < 3 → ∃ d kw, valV kvs (.inr (refWhere w)) = some (.ref d) ∧ H d = some (.dK kw) ∧ ∀ x, (valV kw (.inr x)).getD .non = optV (R w x)
theorem RowsAt.butL {H H' : Hp} {L rd : Addr} {lv : List V} {R : RowsF} (hL : H L = some (.lst lv)) (b : But L H H') (h : RowsAt H rd R) : RowsAt H' rd R := by
  obtain ⟨kvs, e, h⟩ := h
  refine ⟨kvs, b _ _ (fun z => by rw [z, hL] at e; cases e) e, fun w hw => ?_⟩
  obtain ⟨d, kw, e1, e2, e3⟩ := h w hw
  exact ⟨d, kw, e1, b _ _ (fun z => by rw [z, hL] at e2; cases e2) e2, e3⟩
theorem RowsAt.same {H H' : Hp} {rd : Addr} {R : RowsF} (b : Same H H') (h : RowsAt H rd R) : RowsAt H' rd R := by
  obtain ⟨kvs, e, h⟩ := h
  refine ⟨kvs, b _ _ e, fun w hw => ?_⟩
  obtain ⟨d, kw, e1, e2, e3⟩ := h w hw
  exact ⟨d, kw, e1, b _ _ e2, e3⟩
/-- what stands around -/
structure Aw (K : PySem.W.Frag) (H : Hp) (ar : Addr) (M : Nat) (R : RowsF) (L : Addr) (lv : List V) (ls : List Look) : Prop where
  t : ∃ rd, SqT K H ar [natV M, .ref rd, .ref L] ∧ RowsAt H rd R
  m : 0 < M
  ll : LL H L lv ls
theorem Aw.next {K : PySem.W.Frag} {H H' : Hp} {ar : Addr} {M : Nat} {R : RowsF} {L : Addr} {lv lv' : List V} {ls ls' : List Look} (h : Aw K H ar M R L lv ls) (b : But L H H') (e : LL H' L lv' ls') : Aw K H' ar M R L lv' ls' := by
  obtain ⟨⟨rd, t, r⟩, m, ll⟩ := h
  exact ⟨⟨rd, sqt_butL ll.l b t, r.butL ll.l b⟩, m, e⟩
def kd : Fm → Fin 4
  | .num _ => 0
  | .ref _ _ => 1
  | .pair .. => 2
  | .cho .. => 3
def spW (K : PySem.W.Frag) (c : Cs) (n : Nat) (k : Fin 4) : Sp := fun vs H Q _ => ∃ (f : Fm) (v : V) (l : List V) (N : Nat) (ar : Addr) (M : Nat) (R : RowsF) (L : Addr) (lv : List V) (ls : List Look),
  vs = [v, .int (N : Nat), .ref ar] ∧ kd f = k ∧ FmAt K c H f v l ∧ Okf f ∧ f.ht ≤ n ∧ Aw K H ar M R L lv ls ∧ ls.length + f.q.1 ≤ 1000 ∧
  ∀ H' lv', But L H H' → LL H' L lv' (ls ++ lk M R f N) → Q (optV (wv M R f)) H'
def spJ (o : Fin 4) : Sp := fun vs H Q _ => ∃ (v : V) (a b M : Nat), vs = [v, natV a, natV b, natV M] ∧ 0 < M ∧ Q (natV (jn M o.val a b)) H
def sW : Fin 4 → Stmt
  | 0 => sMeth iNumber 3
  | 1 => sMeth iReference 3
  | 2 => sMeth iPair 1
  | 3 => sMeth iChoice 3
abbrev sWN : Stmt := sMeth iNumber 3
abbrev sWR : Stmt := sMeth iReference 3
abbrev sWP : Stmt := sMeth iPair 1
abbrev sWC : Stmt := sMeth iChoice 3
abbrev sJP : Stmt := sMeth iPlus 2
abbrev sJL : Stmt := sMeth iLeast 2
abbrev sJM : Stmt := sMeth iMost 2
abbrev sJS : Stmt := sMeth iSame 2
section
variable {P : Program} {w : World} {K : PySem.W.Frag} {mg : Str → Option Value} {base : Heap} {c : Cs} {f : Addr} {fd : FuncData}
abbrev psJ : List Str := ["self", "left", "right", "modulus"]
theorem scJP : FnScope psJ psJ (defScope sJP) := ⟨rfl, rfl, rfl, by decide +kernel, rfl, by decide +kernel, by decide +kernel⟩
theorem scJL : FnScope psJ psJ (defScope sJL) := ⟨rfl, rfl, rfl, by decide +kernel, rfl, by decide +kernel, by decide +kernel⟩
theorem scJM : FnScope psJ psJ (defScope sJM) := ⟨rfl, rfl, rfl, by decide +kernel, rfl, by decide +kernel, by decide +kernel⟩
theorem scJS : FnScope psJ psJ (defScope sJS) := ⟨rfl, rfl, rfl, by decide +kernel, rfl, by decide +kernel, by decide +kernel⟩
theorem ok_jP (F : FunD K "joined" "Plus.joined" (defArgs sJP) (defBody sJP) (defScope sJP) [] [] f fd) : FnOk P w K mg base CX0 1 f fd psJ (spJ 0) := by
  refine F.ok scJP (fun vs H Q E h => ?_) (fun cdv A outer s H vs Q E hr h => ?_)
  · obtain ⟨v, a, b, M, rfl, _⟩ := h
    rfl
  · obtain ⟨v, a, b, M, rfl, hM, q⟩ := h
    refine ⟨_, PSs.nox (pss_one (ps_ret (pe_op op_mod (pe_op op_add (pv 1) (pv 2)) (pv 3)))), ?_⟩
    unfold natV at q ⊢
    walk_at "rd"
    exact q
theorem ok_jL (F : FunD K "joined" "Least.joined" (defArgs sJL) (defBody sJL) (defScope sJL) [] [] f fd) (gMin : mg "min" = none) : FnOk P w K mg base CX0 1 f fd psJ (spJ 1) := by
  refine F.ok scJL (fun vs H Q E h => ?_) (fun cdv A outer s H vs Q E hr h => ?_)
  · obtain ⟨v, a, b, M, rfl, _⟩ := h
    rfl
  · obtain ⟨v, a, b, M, rfl, hM, q⟩ := h
    refine ⟨_, PSs.nox (pss_one (ps_ret (pe_callB (call_min2 rfl) rfl gMin (by decide +kernel) (pa_cons (pv 1) (pa_cons (pv 2) pa_nil))))), ?_⟩
    unfold natV at q ⊢
    walk_at "rd"
    refine ⟨_, _, rfl, ?_⟩
    have e : ((jn M 1 a b : Nat) : Int) = if (b : Int) < a then (b : Int) else a := by
      show ((min a b : Nat) : Int) = _
      split <;> omega
    rw [show ((1 : Fin 4).val) = 1 from rfl, e] at q
    exact q
theorem ok_jM (F : FunD K "joined" "Most.joined" (defArgs sJM) (defBody sJM) (defScope sJM) [] [] f fd) (gMax : mg "max" = none) : FnOk P w K mg base CX0 1 f fd psJ (spJ 2) := by
  refine F.ok scJM (fun vs H Q E h => ?_) (fun cdv A outer s H vs Q E hr h => ?_)
  · obtain ⟨v, a, b, M, rfl, _⟩ := h
    rfl
  · obtain ⟨v, a, b, M, rfl, hM, q⟩ := h
    refine ⟨_, PSs.nox (pss_one (ps_ret (pe_callB (call_max2 rfl) rfl gMax (by decide +kernel) (pa_cons (pv 1) (pa_cons (pv 2) pa_nil))))), ?_⟩
    unfold natV at q ⊢
    walk_at "rd"
    refine ⟨_, _, rfl, ?_⟩
    have e : ((jn M 2 a b : Nat) : Int) = if (b : Int) > a then (b : Int) else a := by
      show ((max a b : Nat) : Int) = _
      split <;> omega
    rw [show ((2 : Fin 4).val) = 2 from rfl, e] at q
    exact q
theorem ok_jS (F : FunD K "joined" "Same.joined" (defArgs sJS) (defBody sJS) (defScope sJS) [] [] f fd) : FnOk P w K mg base CX0 1 f fd psJ (spJ 3) := by
  refine F.ok scJS (fun vs H Q E h => ?_) (fun cdv A outer s H vs Q E hr h => ?_)
  · obtain ⟨v, a, b, M, rfl, _⟩ := h
    rfl
  · obtain ⟨v, a, b, M, rfl, hM, q⟩ := h
    refine ⟨_, PSs.nox (pss_one (ps_ret (pe_ifExp (pt_cmpR op_eq (pv 1) (pv 2) (nomark _)) pe_int pe_int))), ?_⟩
    unfold natV at q ⊢
    walk_at "rd"
    refine Rd.ifB (fun z => ?_) (fun z => ?_)
    · walk_at "rd"
      have e : a = b := Int.ofNat.inj (V.int.inj (of_decide_eq_true z))
      have e2 : jn M (3 : Fin 4).val a b = 1 := if_pos e
      rw [e2] at q
      exact q
    · walk_at "rd"
      have e2 : jn M (3 : Fin 4).val a b = 0 := if_neg fun e => of_decide_eq_false z (by rw [e])
      rw [e2] at q
      exact q
end
end K17

namespace K17
open PySem PySem.Spec PyProof.Rows L2
local macro_rules | `(tactic| walk_at "rd1") => `(tactic| first
  | (with_reducible refine Rd.seq ?_) | (with_reducible refine Rd.asg ?_) | (with_reducible refine Rd.ret ?_) | (with_reducible refine Rd.nxt ?_) | (with_reducible refine Rd.ifS ?_)
  | (with_reducible refine Rd.op ?_) | (with_reducible refine Rd.un ?_) | (with_reducible refine Rd.cb ?_) | (with_reducible refine Rd.cons ?_) | (with_reducible refine Rd.nil ?_) | (with_reducible refine Rd.ifx ?_)
  | (with_reducible refine Rd.test ?_) | (with_reducible refine Rd.testB ?_) | (with_reducible refine Rd.notT ?_) | (with_reducible refine Rd.isB ?_) | (with_reducible refine Rd.lst ?_) | (with_reducible refine Rd.tup ?_)
  | (with_reducible refine Rd.andV ?_) | (with_reducible refine Rd.orV ?_) | (with_reducible refine Rd.notV ?_) | (with_reducible refine Rd.andT ?_) | (with_reducible refine Rd.orT ?_) | (with_reducible refine Rd.chain ?_)
  | (with_reducible refine Rd.m0 ?_) | (with_reducible refine Rd.m1 ?_) | (with_reducible refine Rd.bm0 ?_) | (with_reducible refine Rd.bm ?_) | (with_reducible refine Rd.sl ?_) | (with_reducible refine Rd.part ?_) | (with_reducible refine Rd.part0 ?_) | (with_reducible refine Rd.isI ?_)
  | (with_reducible refine Rd.fmt ?_) | (with_reducible refine Rd.fmtRD ?_) | (with_reducible refine Rd.meth ?_) | (with_reducible refine makeG ?_) | (with_reducible refine Rd.prop ?_) | (with_reducible refine Rd.js ?_) | (with_reducible refine Rd.js0 ?_) | (with_reducible refine Rd.par ?_) | (with_reducible refine Rd.star ?_) | (with_reducible refine lcR1 ?_) | (with_reducible refine lcR2 ?_) | (with_reducible refine Rd.fld ?_) | (with_reducible refine Rd.sfld ?_) | (with_reducible refine Rd.expr ?_) | (with_reducible refine L2.isNR ?_) | (with_reducible refine L2.methI ?_) | (with_reducible refine Rd.forZ ?_)
  | (with_reducible refine Rd.forEA ?_) | (with_reducible refine Rd.forR1 ?_) | (with_reducible refine Rd.forR2 ?_) | (with_reducible refine Rd.forL ?_) | (with_reducible refine Rd.forT ?_)
  | (with_reducible refine Rd.call ?_) | (with_reducible refine Rd.asgG ?_) | (with_reducible refine Rd.gNm ?_) | (with_reducible refine Rd.gSb ?_) | (with_reducible refine Rd.gC ?_) | (with_reducible refine Rd.gN ?_)
  | ((with_reducible refine' Rd.var ?hv ?_); (case hv => exact rfl)) | (with_reducible refine Rd.c ?_) | (with_reducible refine Rd.i0 ?_) | (with_reducible refine Rd.neg ?_)
  | ((with_reducible refine' Rd.iC ?hc ?_); (case hc => first | (show (0 : Int) < _; decide) | exact ⟨by decide, by decide⟩ | exact ⟨by decide, by decide, by decide⟩ | exact .inl ⟨by decide, by decide⟩ | exact .inr ⟨by decide, by decide⟩ | exact .inl ⟨by omega, by omega⟩ | (show (0 : Int) < _; omega) | exact ⟨by omega, by omega⟩))
  | ((with_reducible refine' Rd.eqS ?hc ?_); (case hc => rfl)) | ((with_reducible refine' Rd.neS ?hc ?_); (case hc => rfl)))
local macro_rules | `(tactic| walk_at "rd") => `(tactic| repeat walk_at "rd1")
theorem inV_nat (m : Nat) : ∀ s : List Nat, inV (natV m) (s.map natV) = decide (m ∈ s)
  | [] => by simp [inV]
  | x :: s => by
    have ih := inV_nat m s
    unfold inV at ih ⊢
    rw [List.map_cons, List.any_cons, ih]
    show (((x : Nat) : Int) == ((m : Nat) : Int) || _) = _
    by_cases e : x = m
    · subst e; simp
    · rw [show (((x : Nat) : Int) == ((m : Nat) : Int)) = false from beq_eq_false_iff_ne.mpr fun z => e (Int.ofNat.inj z), Bool.false_or]
      by_cases h : m ∈ s
      · simp [h]
      · simp [h, Ne.symm e]
theorem butS {p : Addr} {H H1 : Hp} (e : Same H H1) : But p H H1 := fun b o _ h => e b o h
theorem dget1 {td ty : TE} {σ : L2.St} {H : Hp} {Q : VK} (h : td σ H fun x H1 => ∃ a, x = .ref a ∧ IsD H1 a ∧ ty σ H1 fun y H2 => ∃ o, DGet H2 a y o ∧ Q (o.getD .non) H2) : tDGet1 td ty σ H Q := h
theorem dget {td ty : TE} {σ : L2.St} {H : Hp} {Q : VK} (h : td σ H fun x H1 => ty σ H1 fun y H2 => ∃ a v, x = .ref a ∧ DGet H2 a y (some v) ∧ Q v H2) : tDGet td ty σ H Q := h
section
variable {P : Program} {w : World} {K : PySem.W.Frag} {mg : Str → Option Value} {base : Heap} {c : Cs} {fW fJ : Fin 4 → Addr} {fdW fdJ : Fin 4 → FuncData}
abbrev psW : List Str := ["self", "number", "around"]
theorem scWN : FnScope psW psW (defScope sWN) := ⟨rfl, rfl, rfl, by decide +kernel, rfl, by decide +kernel, by decide +kernel⟩
abbrev nmsWR : List Str := ["self", "number", "around", "_", "rows", "looks"]
theorem scWR : FnScope nmsWR psW (defScope sWR) := ⟨rfl, rfl, rfl, by decide +kernel, rfl, by decide +kernel, by decide +kernel⟩
abbrev nmsWP : List Str := ["self", "number", "around", "left", "right"]
theorem scWP : FnScope nmsWP psW (defScope sWP) := ⟨rfl, rfl, rfl, by decide +kernel, rfl, by decide +kernel, by decide +kernel⟩
abbrev nmsWC : List Str := ["self", "number", "around", "test", "behind"]
theorem scWC : FnScope nmsWC psW (defScope sWC) := ⟨rfl, rfl, rfl, by decide +kernel, rfl, by decide +kernel, by decide +kernel⟩
theorem opt_non {o : Option Nat} (h : o = none) : optV o = .non := by rw [h]; rfl
theorem opt_some {o : Option Nat} {n : Nat} (h : o = some n) : optV o = .int (n : Nat) := by rw [h]; rfl
theorem ok_worth (T : Cl K c) (FN : FunD K "_worth" "Number._worth" (defArgs sWN) (defBody sWN) (defScope sWN) [] [] (fW 0) (fdW 0)) (FR : FunD K "_worth" "Reference._worth" (defArgs sWR) (defBody sWR) (defScope sWR) [] [] (fW 1) (fdW 1))
    (FP : FunD K "_worth" "Pair._worth" (defArgs sWP) (defBody sWP) (defScope sWP) [] [] (fW 2) (fdW 2)) (FC : FunD K "_worth" "Choice._worth" (defArgs sWC) (defBody sWC) (defScope sWC) [] [] (fW 3) (fdW 3))
    (m : ∀ g, Meth K (clsOf c g) "_worth" (fW (kd g))) (mJ : ∀ o : Fin 4, Meth K (c.pair o.val) "joined" (fJ o)) (GJ : ∀ o, FnOk P w K mg base CX0 1 (fJ o) (fdJ o) psJ (spJ o)) (bJ : ∀ o, Binds K (fdJ o) psJ []) :
    ∀ n k, FnOk P w K mg base CX0 (n + 2) (fW k) (fdW k) psW (spW K c n k) := by
  have bW : ∀ k, Binds K (fdW k) psW [] := fun k => match k with
    | 0 => FN.bindsN fun _ _ _ _ _ _ us hl => match us, hl with | [_, _, _], _ => rfl
    | 1 => FR.bindsN fun _ _ _ _ _ _ us hl => match us, hl with | [_, _, _], _ => rfl
    | 2 => FP.bindsN fun _ _ _ _ _ _ us hl => match us, hl with | [_, _, _], _ => rfl
    | 3 => FC.bindsN fun _ _ _ _ _ _ us hl => match us, hl with | [_, _, _], _ => rfl
  intro n
  induction n with
  | zero =>
    intro k
    have no : ∀ vs H Q E, spW K c 0 k vs H Q E → False := fun vs H Q E ⟨g, _, _, _, _, _, _, _, _, _, _, _, _, _, ht, _⟩ => by
      cases g <;> simp [Fm.ht] at ht
    match k with
    | 0 => exact FN.ok scWN (fun vs H Q E h => (no vs H Q E h).elim) (fun cdv A outer s H vs Q E hr h => (no vs H Q E h).elim)
    | 1 => exact FR.ok scWR (fun vs H Q E h => (no vs H Q E h).elim) (fun cdv A outer s H vs Q E hr h => (no vs H Q E h).elim)
    | 2 => exact FP.ok scWP (fun vs H Q E h => (no vs H Q E h).elim) (fun cdv A outer s H vs Q E hr h => (no vs H Q E h).elim)
    | 3 => exact FC.ok scWC (fun vs H Q E h => (no vs H Q E h).elim) (fun cdv A outer s H vs Q E hr h => (no vs H Q E h).elim)
  | succ n ih =>
    intro k
    match k with
    | 0 =>
      refine FN.ok scWN (fun vs H Q E h => ?_) (fun cdv A outer s H vs Q E hr h => ?_)
      · obtain ⟨g, v, l, N, ar, M, R, L, lv, ls, rfl, _⟩ := h
        rfl
      · obtain ⟨g, v, l, N, ar, M, R, L, lv, ls, rfl, ek, hf, og, ht, aw, few, q⟩ := h
        cases g with
        | num k =>
          refine ⟨_, PSs.nox (pss_one (ps_ret (pe_fld (pv 0) rfl))), ?_⟩
          obtain ⟨rfl, hn, a, dx, fs, g, p, rfl, h1, h2, h3, h4, h5⟩ := id hf
          walk_at "rd"
          refine ⟨a, _, dx, fs, _, rfl, h1, (T.at_ (.num k)).cl, (T.at_ (.num k)).no "value", h5, ?_⟩
          have z := q H lv But.refl (by rw [show lk M R (.num k) N = [] from rfl, List.append_nil]; exact aw.ll)
          exact z
        | ref w x => cases ek
        | pair o a b => cases ek
        | cho t s a b => cases ek
    | 1 =>
      refine FR.ok scWR (fun vs H Q E h => ?_) (fun cdv A outer s H vs Q E hr h => ?_)
      · obtain ⟨g, v, l, N, ar, M, R, L, lv, ls, rfl, _⟩ := h
        rfl
      · obtain ⟨g, v, l, N, ar, M, R, L, lv, ls, rfl, ek, hf, og, ht, aw, few, q⟩ := h
        cases g with
        | ref wh x =>
          have hu := hu_of hr
          have nd := scWR.nd
          refine ⟨_, PSs.nox (pss_cons (ps_asg (pv 2) (pg_tup rfl (pgs_cons (pg_name (i := 3) nd rfl (Or.inl rfl)) (pgs_cons (pg_name (i := 4) nd rfl (Or.inl rfl)) (pgs_cons (pg_name (i := 5) nd rfl (Or.inl rfl)) pgs_nil)))))
            (pss_cons (ps_expr (pe_bm PySem.F.plainAttrs_list PySem.F.slot_list_append PySem.F.type_list_append mt_append (pv 5) (pa_cons (pe_tup (pa_cons (pv 1) (pa_cons (pe_fld (pv 0) rfl) (pa_cons (pe_fld (pv 0) rfl) pa_nil)))) pa_nil)))
            (pss_one (ps_ret (pe_dget1 hu (pe_dget hu (pv 4) (pe_fld (pv 0) rfl) (fun _ _ => rfl)) (pe_fld (pv 0) rfl) ⟨rfl, rfl, rfl, rfl⟩))))), ?_⟩
          obtain ⟨rfl, a, dx, fs, g, p, rfl, h1, h2, h3, h4, h5, h6⟩ := id hf
          obtain ⟨⟨rd, ht3, hrows⟩, hM, hL⟩ := aw
          have lt := hL.at_.len
          walk_at "rd"
          refine ⟨ar, _, rfl, ht3, rfl, ?_⟩
          walk_at "rd"
          refine ⟨.inl ⟨rfl, _, SqL.of hL.l⟩, ?_⟩
          walk_at "rd"
          refine ⟨a, _, dx, fs, _, rfl, h1, (T.at_ (.ref wh x)).cl, (T.at_ (.ref wh x)).no "where", h5, ?_⟩
          walk_at "rd"
          refine ⟨a, _, dx, fs, _, rfl, h1, (T.at_ (.ref wh x)).cl, (T.at_ (.ref wh x)).no "column", h6, ?_⟩
          walk_at "rd"
          refine ⟨Rd.small (by show 3 ≤ 100000; decide), fun p3 n3 => ?_⟩
          have s3 := same_new (o := HO.tup ([V.int (N : Nat), V.str (refWhere wh), V.str x])) n3
          have t3 := upd_same (H := H) (a := p3) (o := HO.tup ([V.int (N : Nat), V.str (refWhere wh), V.str x]))
          generalize upd H p3 (HO.tup ([V.int (N : Nat), V.str (refWhere wh), V.str x])) = H1 at s3 t3 ⊢
          walk_at "rd"
          refine ⟨L, _, _, rfl, rfl, s3 _ _ hL.l, Nat.lt_of_lt_of_le (show lv.length < 100000 by omega) (by decide), ?_⟩
          walk_at "rd"
          have b1 : But L H (upd H1 L (.lst (lv ++ [V.ref p3]))) := (butS s3).trans But.set
          have l1 : LL (upd H1 L (.lst (lv ++ [V.ref p3]))) L (lv ++ [V.ref p3]) (ls ++ [(N, wh, x)]) := ⟨upd_same, (LkAt.but (s3 _ _ hL.l) But.set ((hL.at_.same s3).snoc ⟨p3, rfl, t3⟩))⟩
          generalize upd H1 L (.lst (lv ++ [V.ref p3])) = H2 at b1 l1 ⊢
          have f2 := hf.butL hL b1
          obtain ⟨_, a', dx', fs', g', p', ea, h1', h2', h3', h4', h5', h6'⟩ := id f2
          cases ea
          obtain ⟨kvs, hk, hw3⟩ := hrows.butL hL.l b1
          obtain ⟨d, kw, e1, e2, e3⟩ := hw3 wh og.1
          walk_at "rd"
          refine dget1 (dget ?_)
          walk_at "rd"
          refine ⟨a, _, dx', fs', _, rfl, h1', (T.at_ (.ref wh x)).cl, (T.at_ (.ref wh x)).no "where", h5', ?_⟩
          refine ⟨rd, _, rfl, (by have z := DGet.k (k := .inr (refWhere wh)) hk; rw [e1] at z; exact z), ?_⟩
          refine ⟨d, rfl, .inl ⟨_, .inl e2⟩, ?_⟩
          walk_at "rd"
          refine ⟨a, _, dx', fs', _, rfl, h1', (T.at_ (.ref wh x)).cl, (T.at_ (.ref wh x)).no "column", h6', ?_⟩
          refine ⟨_, DGet.k (k := .inr x) e2, ?_⟩
          rw [e3 x]
          exact q _ _ b1 l1
        | num k => cases ek
        | pair o a b => cases ek
        | cho t s a b => cases ek
    | 2 =>
      refine FP.ok scWP (fun vs H Q E h => ?_) (fun cdv A outer s H vs Q E hr h => ?_)
      · obtain ⟨g, v, l, N, ar, M, R, L, lv, ls, rfl, _⟩ := h
        rfl
      · obtain ⟨g, v, l, N, ar, M, R, L, lv, ls, rfl, ek, hf, og, ht, aw, few, q⟩ := h
        cases g with
        | pair o f1 f2 =>
          have nd := scWP.nd
          have r1 := hr.mono (show 1 ≤ n + 2 by omega)
          refine ⟨_, PSs.nox (pss_cons (ps_set (i := 3) nd rfl (Or.inl rfl) (pe_methI (ι := Fm) (C := clsOf c) (f := fun i => fW (kd i)) (fd := fun i => fdW (kd i)) (sp := fun i => spW K c n (kd i)) (pe_fld (pv 0) rfl) (fun i => (T.at_ i).cl) m (fun i => ih (kd i)) hr (fun i => bW (kd i)) .nil pass0 (pa_cons (pe_op op_add (pv 1) pe_int) (pa_cons (pv 2) pa_nil))))
            (pss_cons (ps_if (pt_cmp (pc_isN (pv 3))) (pss_one (ps_ret pe_non)) pss_nil)
            (pss_cons (ps_set (i := 4) nd rfl (Or.inl rfl) (pe_methI (ι := Fm) (C := clsOf c) (f := fun i => fW (kd i)) (fd := fun i => fdW (kd i)) (sp := fun i => spW K c n (kd i)) (pe_fld (pv 0) rfl) (fun i => (T.at_ i).cl) m (fun i => ih (kd i)) hr (fun i => bW (kd i)) .nil pass0 (pa_cons (pe_op op_add (pe_op op_add (pv 1) pe_int) (pe_fld (pe_fld (pv 0) rfl) rfl)) (pa_cons (pv 2) pa_nil))))
            (pss_cons (ps_if (pt_cmp (pc_isN (pv 4))) (pss_one (ps_ret pe_non)) pss_nil)
            (pss_one (ps_ret (pe_methI (ι := Fin 4) (C := fun o => c.pair o.val) (f := fJ) (fd := fdJ) (sp := spJ) (pv 0) (fun o => (T.pair o.val).cl) mJ GJ r1 bJ .nil pass0 (pa_cons (pv 3) (pa_cons (pv 4) (pa_cons (pe_ix ix_tup (pv 2) pe_int (fun _ _ => rfl)) pa_nil)))))))))), ?_⟩
          obtain ⟨v1, l1, v2, l2, rfl, t1, t2, a, dx, fs, g, p, rfl, h1, h2, h3, h4, h5, h6⟩ := id hf
          obtain ⟨ho, o1, o2⟩ := og
          have ht : max f1.ht f2.ht + 1 ≤ n + 1 := ht
          have fq : (Fm.pair o f1 f2).q.1 = f1.q.1 + f2.q.1 + 1 := by rw [q_pair]; omega
          obtain ⟨a1, dx1, fs1, g1, p1, r1', rfl, _, ha1, b1⟩ := t1.obj
          walk_at "rd"
          refine ⟨a, _, dx, fs, _, rfl, h1, (T.at_ (.pair o f1 f2)).cl, (T.at_ (.pair o f1 f2)).no "left", h5, ?_⟩
          refine ⟨f1, a1, dx1, fs1, rfl, ha1, b1.meth "_worth", ?_⟩
          walk_at "rd"
          refine ⟨f1, _, l1, N + 1, ar, M, R, L, lv, ls, rfl, rfl, t1, o1, by omega, aw, by omega, fun H2 lv2 bb ll2 => ?_⟩
          walk_at "rd"
          have lkE : lk M R (.pair o f1 f2) N = lk M R f1 (N + 1) ++ (match wv M R f1 with
            | none => []
            | some _ => lk M R f2 (N + 1 + f1.q.1)) := rfl
          have wvE : wv M R (.pair o f1 f2) = (match wv M R f1 with
            | none => none
            | some a => match wv M R f2 with
              | none => none
              | some b => some (jn M o a b)) := rfl
          rw [lkE, wvE] at q
          have len1 := lk_len (M := M) (R := R) (f := f1) (n := N + 1)
          cases e1 : wv M R f1 with
          | none =>
            rw [e1] at q
            refine ifD rfl ?_
            walk_at "rd"
            exact q H2 lv2 bb (by rw [List.append_nil]; exact ll2)
          | some n1 =>
            rw [e1] at q
            refine ifN (fun z => by cases z) ?_
            walk_at "rd"
            have aw2 := aw.next bb ll2
            have hf2 := hf.butL aw.ll bb
            have t2' := t2.butL aw.ll bb
            have t1' := t1.butL aw.ll bb
            have h1' := ins_butL aw.ll.l bb h1
            obtain ⟨a2, dx2, fs2, g2, p2, r2', rfl, _, ha2, b2⟩ := t2'.obj
            have ha1' := ins_butL aw.ll.l bb ha1
            refine ⟨a, _, dx, fs, _, rfl, h1', (T.at_ (.pair o f1 f2)).cl, (T.at_ (.pair o f1 f2)).no "right", h6, ?_⟩
            refine ⟨f2, a2, dx2, fs2, rfl, ha2, b2.meth "_worth", ?_⟩
            walk_at "rd"
            refine ⟨a, _, dx, fs, _, rfl, h1', (T.at_ (.pair o f1 f2)).cl, (T.at_ (.pair o f1 f2)).no "left", h5, ?_⟩
            refine ⟨a1, _, dx1, fs1, _, rfl, ha1', (T.at_ f1).cl, (T.at_ f1).no "_many", b1.mn, ?_⟩
            walk_at "rd"
            refine ⟨f2, _, l2, N + 1 + f1.q.1, ar, M, R, L, lv2, _, rfl, rfl, t2', o2, by omega, aw2, by rw [List.length_append]; omega, fun H3 lv3 bb3 ll3 => ?_⟩
            walk_at "rd"
            cases e2 : wv M R f2 with
            | none =>
              rw [e2] at q
              refine ifD rfl ?_
              walk_at "rd"
              exact q H3 lv3 (bb.trans bb3) (by rw [← List.append_assoc]; exact ll3)
            | some n2 =>
              rw [e2] at q
              refine ifN (fun z => by cases z) ?_
              walk_at "rd"
              have h1'' := ins_butL aw2.ll.l bb3 h1'
              obtain ⟨rd, ht3, _⟩ := (aw2.next bb3 ll3).t
              refine ⟨⟨o, ho⟩, a, dx, fs, rfl, h1'', lookup_none (by decide +kernel) h2.ks, ?_⟩
              walk_at "rd"
              refine Rd.ixT ht3 (atI_nat (j := 0) rfl) ?_
              exact ⟨_, n1, n2, M, rfl, aw.m, q H3 lv3 (bb.trans bb3) (by rw [← List.append_assoc]; exact ll3)⟩
        | num k => cases ek
        | ref w x => cases ek
        | cho t s a b => cases ek
    | 3 =>
      refine FC.ok scWC (fun vs H Q E h => ?_) (fun cdv A outer s H vs Q E hr h => ?_)
      · obtain ⟨g, v, l, N, ar, M, R, L, lv, ls, rfl, _⟩ := h
        rfl
      · obtain ⟨g, v, l, N, ar, M, R, L, lv, ls, rfl, ek, hf, og, ht, aw, few, q⟩ := h
        cases g with
        | cho f1 s f2 f3 =>
          have nd := scWC.nd
          refine ⟨_, PSs.nox (pss_cons (ps_set (i := 3) nd rfl (Or.inl rfl) (pe_methI (ι := Fm) (C := clsOf c) (f := fun i => fW (kd i)) (fd := fun i => fdW (kd i)) (sp := fun i => spW K c n (kd i)) (pe_fld (pv 0) rfl) (fun i => (T.at_ i).cl) m (fun i => ih (kd i)) hr (fun i => bW (kd i)) .nil pass0 (pa_cons (pe_op op_add (pv 1) pe_int) (pa_cons (pv 2) pa_nil))))
            (pss_cons (ps_if (pt_cmp (pc_isN (pv 3))) (pss_one (ps_ret pe_non)) pss_nil)
            (pss_cons (ps_set (i := 4) nd rfl (Or.inl rfl) (pe_op op_add (pe_op op_add (pv 1) pe_int) (pe_fld (pe_fld (pv 0) rfl) rfl)))
            (pss_cons (ps_if (pt_cmpR op_in_seq (pv 3) (pe_fld (pv 0) rfl) rfl)
              (pss_one (ps_ret (pe_methI (ι := Fm) (C := clsOf c) (f := fun i => fW (kd i)) (fd := fun i => fdW (kd i)) (sp := fun i => spW K c n (kd i)) (pe_fld (pv 0) rfl) (fun i => (T.at_ i).cl) m (fun i => ih (kd i)) hr (fun i => bW (kd i)) .nil pass0 (pa_cons (pv 4) (pa_cons (pv 2) pa_nil))))) pss_nil)
            (pss_one (ps_ret (pe_methI (ι := Fm) (C := clsOf c) (f := fun i => fW (kd i)) (fd := fun i => fdW (kd i)) (sp := fun i => spW K c n (kd i)) (pe_fld (pv 0) rfl) (fun i => (T.at_ i).cl) m (fun i => ih (kd i)) hr (fun i => bW (kd i)) .nil pass0 (pa_cons (pe_op op_add (pv 4) (pe_fld (pe_fld (pv 0) rfl) rfl)) (pa_cons (pv 2) pa_nil))))))))), ?_⟩
          obtain ⟨v1, l1, v2, l2, v3, l3, rfl, t1, t2, t3, a, dx, fs, g, p, t, rfl, h1, h2, h3, h4, hS, h5, h6, h7, h8⟩ := id hf
          obtain ⟨asc, o1, o2, o3⟩ := og
          have ht : max f1.ht (max f2.ht f3.ht) + 1 ≤ n + 1 := ht
          have fq : (Fm.cho f1 s f2 f3).q.1 = f1.q.1 + f2.q.1 + f3.q.1 + 1 := by rw [q_cho]; omega
          obtain ⟨a1, dx1, fs1, g1, p1, r1', rfl, _, ha1, b1⟩ := t1.obj
          walk_at "rd"
          refine ⟨a, _, dx, fs, _, rfl, h1, (T.at_ (.cho f1 s f2 f3)).cl, (T.at_ (.cho f1 s f2 f3)).no "test", h5, ?_⟩
          refine ⟨f1, a1, dx1, fs1, rfl, ha1, b1.meth "_worth", ?_⟩
          walk_at "rd"
          refine ⟨f1, _, l1, N + 1, ar, M, R, L, lv, ls, rfl, rfl, t1, o1, by omega, aw, by omega, fun H2 lv2 bb ll2 => ?_⟩
          walk_at "rd"
          have lkE : lk M R (.cho f1 s f2 f3) N = lk M R f1 (N + 1) ++ (match wv M R f1 with
            | none => []
            | some x => if x ∈ s then lk M R f2 (N + 1 + f1.q.1) else lk M R f3 (N + 1 + f1.q.1 + f2.q.1)) := rfl
          have wvE : wv M R (.cho f1 s f2 f3) = (match wv M R f1 with
            | none => none
            | some x => if x ∈ s then wv M R f2 else wv M R f3) := rfl
          rw [lkE, wvE] at q
          have len1 := lk_len (M := M) (R := R) (f := f1) (n := N + 1)
          cases e1 : wv M R f1 with
          | none =>
            rw [e1] at q
            refine ifD rfl ?_
            walk_at "rd"
            exact q H2 lv2 bb (by rw [List.append_nil]; exact ll2)
          | some n1 =>
            rw [e1] at q
            refine ifN (fun z => by cases z) ?_
            walk_at "rd"
            have aw2 := aw.next bb ll2
            have t2' := t2.butL aw.ll bb
            have t3' := t3.butL aw.ll bb
            have h1' := ins_butL aw.ll.l bb h1
            have ha1' := ins_butL aw.ll.l bb ha1
            have hS' := sqt_butL aw.ll.l bb hS
            obtain ⟨a2, dx2, fs2, g2, p2, r2', rfl, _, ha2, b2⟩ := t2'.obj
            obtain ⟨a3, dx3, fs3, g3, p3, r3', rfl, _, ha3, b3⟩ := t3'.obj
            refine ⟨a, _, dx, fs, _, rfl, h1', (T.at_ (.cho f1 s f2 f3)).cl, (T.at_ (.cho f1 s f2 f3)).no "test", h5, ?_⟩
            refine ⟨a1, _, dx1, fs1, _, rfl, ha1', (T.at_ f1).cl, (T.at_ f1).no "_many", b1.mn, ?_⟩
            walk_at "rd"
            refine ⟨a, _, dx, fs, _, rfl, h1', (T.at_ (.cho f1 s f2 f3)).cl, (T.at_ (.cho f1 s f2 f3)).no "chosen", h6, ?_⟩
            refine ⟨t, _, rfl, .inr hS', rfl, by rw [List.all_map]; exact List.all_eq_true.mpr fun _ _ => rfl, ?_⟩
            rw [if_neg (by decide)]
            refine ⟨_, rfl, ?_⟩
            rw [show inV (optV (some n1)) (s.map natV) = decide (n1 ∈ s) from inV_nat n1 s]
            by_cases hs : n1 ∈ s
            · simp only [if_pos hs] at q
              refine ifD hs ?_
              walk_at "rd"
              refine ⟨a, _, dx, fs, _, rfl, h1', (T.at_ (.cho f1 s f2 f3)).cl, (T.at_ (.cho f1 s f2 f3)).no "then", h7, ?_⟩
              refine ⟨f2, a2, dx2, fs2, rfl, ha2, b2.meth "_worth", ?_⟩
              walk_at "rd"
              exact ⟨f2, _, l2, N + 1 + f1.q.1, ar, M, R, L, lv2, _, rfl, rfl, t2', o2, by omega, aw2, by rw [List.length_append]; omega, fun H3 lv3 bb3 ll3 => q H3 lv3 (bb.trans bb3) (by rw [← List.append_assoc]; exact ll3)⟩
            · simp only [if_neg hs] at q
              refine ifN hs ?_
              walk_at "rd"
              refine ⟨a, _, dx, fs, _, rfl, h1', (T.at_ (.cho f1 s f2 f3)).cl, (T.at_ (.cho f1 s f2 f3)).no "other", h8, ?_⟩
              refine ⟨f3, a3, dx3, fs3, rfl, ha3, b3.meth "_worth", ?_⟩
              walk_at "rd"
              refine ⟨a, _, dx, fs, _, rfl, h1', (T.at_ (.cho f1 s f2 f3)).cl, (T.at_ (.cho f1 s f2 f3)).no "then", h7, ?_⟩
              refine ⟨a2, _, dx2, fs2, _, rfl, ha2, (T.at_ f2).cl, (T.at_ f2).no "_many", b2.mn, ?_⟩
              walk_at "rd"
              exact ⟨f3, _, l3, N + 1 + f1.q.1 + f2.q.1, ar, M, R, L, lv2, _, rfl, rfl, t3', o3, by omega, aw2, by rw [List.length_append]; omega, fun H3 lv3 bb3 ll3 => q H3 lv3 (bb.trans bb3) (by rw [← List.append_assoc]; exact ll3)⟩
        | num k => cases ek
        | ref w x => cases ek
        | pair o a b => cases ek
end
end K17

namespace K17
open PySem PySem.Spec PyProof.Rows L2
local macro_rules | `(tactic| walk_at "rd1") => `(tactic| first
  | (with_reducible refine Rd.seq ?_) | (with_reducible refine Rd.asg ?_) | (with_reducible refine Rd.ret ?_) | (with_reducible refine Rd.nxt ?_) | (with_reducible refine Rd.ifS ?_)
  | (with_reducible refine Rd.op ?_) | (with_reducible refine Rd.un ?_) | (with_reducible refine Rd.cb ?_) | (with_reducible refine Rd.cons ?_) | (with_reducible refine Rd.nil ?_) | (with_reducible refine Rd.ifx ?_)
  | (with_reducible refine Rd.test ?_) | (with_reducible refine Rd.testB ?_) | (with_reducible refine Rd.notT ?_) | (with_reducible refine Rd.isB ?_) | (with_reducible refine Rd.lst ?_) | (with_reducible refine Rd.tup ?_)
  | (with_reducible refine Rd.andV ?_) | (with_reducible refine Rd.orV ?_) | (with_reducible refine Rd.notV ?_) | (with_reducible refine Rd.andT ?_) | (with_reducible refine Rd.orT ?_) | (with_reducible refine Rd.chain ?_)
  | (with_reducible refine Rd.m0 ?_) | (with_reducible refine Rd.m1 ?_) | (with_reducible refine Rd.bm0 ?_) | (with_reducible refine Rd.bm ?_) | (with_reducible refine Rd.sl ?_) | (with_reducible refine Rd.part ?_) | (with_reducible refine Rd.part0 ?_) | (with_reducible refine Rd.isI ?_)
  | (with_reducible refine Rd.fmt ?_) | (with_reducible refine Rd.fmtRD ?_) | (with_reducible refine Rd.meth ?_) | (with_reducible refine makeG ?_) | (with_reducible refine Rd.prop ?_) | (with_reducible refine Rd.js ?_) | (with_reducible refine Rd.js0 ?_) | (with_reducible refine Rd.par ?_) | (with_reducible refine Rd.star ?_) | (with_reducible refine lcR1 ?_) | (with_reducible refine lcR2 ?_) | (with_reducible refine Rd.fld ?_) | (with_reducible refine Rd.sfld ?_) | (with_reducible refine Rd.expr ?_) | (with_reducible refine L2.isNR ?_) | (with_reducible refine L2.methI ?_) | (with_reducible refine Rd.forZ ?_)
  | (with_reducible refine Rd.forEA ?_) | (with_reducible refine Rd.forR1 ?_) | (with_reducible refine Rd.forR2 ?_) | (with_reducible refine Rd.forL ?_) | (with_reducible refine Rd.forT ?_)
  | (with_reducible refine Rd.call ?_) | (with_reducible refine Rd.asgG ?_) | (with_reducible refine Rd.gNm ?_) | (with_reducible refine Rd.gSb ?_) | (with_reducible refine Rd.gC ?_) | (with_reducible refine Rd.gN ?_)
  | ((with_reducible refine' Rd.var ?hv ?_); (case hv => exact rfl)) | (with_reducible refine Rd.c ?_) | (with_reducible refine Rd.i0 ?_) | (with_reducible refine Rd.neg ?_)
  | ((with_reducible refine' Rd.iC ?hc ?_); (case hc => first | (show (0 : Int) < _; decide) | exact ⟨by decide, by decide⟩ | exact ⟨by decide, by decide, by decide⟩ | exact .inl ⟨by decide, by decide⟩ | exact .inr ⟨by decide, by decide⟩ | exact .inl ⟨by omega, by omega⟩ | (show (0 : Int) < _; omega) | exact ⟨by omega, by omega⟩))
  | ((with_reducible refine' Rd.eqS ?hc ?_); (case hc => rfl)) | ((with_reducible refine' Rd.neS ?hc ?_); (case hc => rfl)))
local macro_rules | `(tactic| walk_at "rd") => `(tactic| repeat walk_at "rd1")
def RowD (H : Hp) (d : Addr) (R : RowsF) (w : Nat) : Prop := ∃ kw, H d = some (.dK kw) ∧ ∀ x, (valV kw (.inr x)).getD .non = optV (R w x)
theorem RowD.same {H H' : Hp} {d : Addr} {R : RowsF} {w : Nat} (s : Same H H') (h : RowD H d R w) : RowD H' d R w := let ⟨kw, e, h⟩ := h; ⟨kw, s _ _ e, h⟩
def nd (M : Nat) (R : RowsF) : Fm → Option (Nat × Str)
  | .num _ => none
  | .ref w x => match R w x with
    | none => some (w, x)
    | some _ => none
  | .pair _ l r => match wv M R l with
    | none => nd M R l
    | some _ => nd M R r
  | .cho t s a b => match wv M R t with
    | none => nd M R t
    | some x => if x ∈ s then nd M R a else nd M R b
theorem nd_some {M : Nat} {R : RowsF} : ∀ {f : Fm}, (wv M R f).isSome = true → nd M R f = none
  | .num n, _ => rfl
  | .ref w x, h => by
    simp only [wv] at h
    simp only [nd]
    cases e : R w x with
    | none => rw [e] at h; cases h
    | some y => rfl
  | .pair o l r, h => by
    simp only [wv] at h
    simp only [nd]
    cases e : wv M R l with
    | none => rw [e] at h; cases h
    | some y =>
      rw [e] at h
      refine nd_some ?_
      dsimp only at h
      cases e2 : wv M R r with
      | none => rw [e2] at h; cases h
      | some z => rfl
  | .cho t s a b, h => by
    simp only [wv] at h
    simp only [nd]
    cases e : wv M R t with
    | none => rw [e] at h; cases h
    | some y =>
      rw [e] at h
      dsimp only at h ⊢
      split
      · next hs => rw [if_pos hs] at h; exact nd_some h
      · next hs => rw [if_neg hs] at h; exact nd_some h
/-- nothing, then the last look tells what was needed -/
theorem nd_last {M : Nat} {R : RowsF} : ∀ {f : Fm} {N : Nat}, wv M R f = none → ∃ n w x us, lk M R f N = us ++ [(n, w, x)] ∧ nd M R f = some (w, x)
  | .num n, N, h => by cases h
  | .ref w x, N, h => ⟨N, w, x, [], rfl, by simp only [wv] at h; simp only [nd, h]⟩
  | .pair o l r, N, h => by
    simp only [wv] at h
    simp only [nd, lk]
    cases e : wv M R l with
    | none =>
      obtain ⟨n, w, x, us, e1, e2⟩ := nd_last (f := l) (N := N + 1) e
      exact ⟨n, w, x, us, by rw [e1, List.append_nil], e2⟩
    | some y =>
      rw [e] at h
      dsimp only at h ⊢
      have h2 : wv M R r = none := by
        cases e2 : wv M R r with
        | none => rfl
        | some z => rw [e2] at h; cases h
      obtain ⟨n, w, x, us, e1, e2⟩ := nd_last (f := r) (N := N + 1 + l.q.1) h2
      exact ⟨n, w, x, _ ++ us, by rw [e1, List.append_assoc], e2⟩
  | .cho t s a b, N, h => by
    simp only [wv] at h
    simp only [nd, lk]
    cases e : wv M R t with
    | none =>
      obtain ⟨n, w, x, us, e1, e2⟩ := nd_last (f := t) (N := N + 1) e
      exact ⟨n, w, x, us, by rw [e1, List.append_nil], e2⟩
    | some y =>
      rw [e] at h
      dsimp only at h ⊢
      split
      · next hs =>
        rw [if_pos hs] at h
        obtain ⟨n, w, x, us, e1, e2⟩ := nd_last (f := a) (N := N + 1 + t.q.1) h
        exact ⟨n, w, x, _ ++ us, by rw [e1, List.append_assoc], e2⟩
      · next hs =>
        rw [if_neg hs] at h
        obtain ⟨n, w, x, us, e1, e2⟩ := nd_last (f := b) (N := N + 1 + t.q.1 + a.q.1) h
        exact ⟨n, w, x, _ ++ us, by rw [e1, List.append_assoc], e2⟩
/-- what work_out, need, met are asked with -/
structure Ask (K : PySem.W.Frag) (c : Cs) (H : Hp) (vs : List V) (f : Fm) (n M : Nat) (R : RowsF) : Prop where
  v : ∃ v l du dh dd, vs = [v, .int (M : Nat), .ref du, .ref dh, .ref dd] ∧ FmAt K c H f v l ∧ RowD H du R 1 ∧ RowD H dh R 0 ∧ RowD H dd R 2
  o : Okf f
  ht : f.ht ≤ n
  few : f.q.1 ≤ 900
  m : 0 < M
def rowK (du dh dd : Addr) : List (Key × V) := [(.inr "up", .ref du), (.inr "here", .ref dh), (.inr "down", .ref dd)]
theorem rows_of {H : Hp} {p du dh dd : Addr} {R : RowsF} (e : H p = some (.dK (mergeK [] (rowK du dh dd)))) (h1 : RowD H du R 1) (h0 : RowD H dh R 0) (h2 : RowD H dd R 2) : RowsAt H p R := by
  refine ⟨_, e, fun w hw => ?_⟩
  have : w = 0 ∨ w = 1 ∨ w = 2 := by omega
  rcases this with rfl | rfl | rfl
  · obtain ⟨kw, e1, e2⟩ := h0
    exact ⟨dh, kw, rfl, e1, e2⟩
  · obtain ⟨kw, e1, e2⟩ := h1
    exact ⟨du, kw, rfl, e1, e2⟩
  · obtain ⟨kw, e1, e2⟩ := h2
    exact ⟨dd, kw, rfl, e1, e2⟩
theorem notN {te : TE} {σ : L2.St} {H : Hp} {Q : VK} (h : te σ H fun x H1 => Q (.bl (!decide (x = .non))) H1) : tNotN te σ H Q := h
theorem LkAt.last {H : Hp} {x : Look} : ∀ {us : List Look} {vs : List V}, LkAt H vs (us ++ [x]) → ∃ ws t, vs = ws ++ [V.ref t] ∧ H t = some (.tup [natV x.1, .str (refWhere x.2.1), .str x.2.2])
  | [], [], h => h.elim
  | [], v :: vs, h => by
    obtain ⟨⟨t, e, ht⟩, h2⟩ := h
    cases vs with
    | nil => exact ⟨[], t, by rw [e]; rfl, ht⟩
    | cons _ _ => exact h2.elim
  | u :: us, [], h => h.elim
  | u :: us, v :: vs, h => by
    obtain ⟨ws, t, e, ht⟩ := LkAt.last h.2
    exact ⟨v :: ws, t, by rw [e]; rfl, ht⟩
def spLooked (K : PySem.W.Frag) (c : Cs) (n : Nat) : Sp := fun vs H Q _ => ∃ (f : Fm) (M : Nat) (R : RowsF), Ask K c H vs f n M R ∧
  ∀ H' r L lv, Same H H' → H L = none → SqT K H' r [optV (wv M R f), .ref L] → LL H' L lv (lk M R f 0) → Q (.ref r) H'
def spWO (K : PySem.W.Frag) (c : Cs) (n : Nat) : Sp := fun vs H Q _ => ∃ (f : Fm) (M : Nat) (R : RowsF), Ask K c H vs f n M R ∧ ∀ H', Same H H' → Q (optV (wv M R f)) H'
def NeedAt (K : PySem.W.Frag) (H : Hp) : Option (Nat × Str) → V → Prop
  | none, v => v = .non
  | some (w, x), v => ∃ t, v = .ref t ∧ SqT K H t [.str (refWhere w), .str x]
def spNeed (K : PySem.W.Frag) (c : Cs) (n : Nat) : Sp := fun vs H Q _ => ∃ (f : Fm) (M : Nat) (R : RowsF), Ask K c H vs f n M R ∧ ∀ H' v, Same H H' → NeedAt K H' (nd M R f) v → Q v H'
def spMet (K : PySem.W.Frag) (c : Cs) (n : Nat) : Sp := fun vs H Q _ => ∃ (f : Fm) (M : Nat) (R : RowsF), Ask K c H vs f n M R ∧ ∀ H' L lv, Same H H' → H L = none → LL H' L lv (lk M R f 0) → Q (.ref L) H'
abbrev sLooked : Stmt := sMeth iFormula 9
abbrev sWO : Stmt := sMeth iFormula 6
abbrev sNeed : Stmt := sMeth iFormula 7
abbrev sMet : Stmt := sMeth iFormula 8
section
variable {P : Program} {w : World} {K : PySem.W.Frag} {mg : Str → Option Value} {base : Heap} {c : Cs} {f fL : Addr} {fd fdL : FuncData} {fW : Fin 4 → Addr} {fdW : Fin 4 → FuncData}
abbrev psA : List Str := ["self", "modulus", "above", "own", "below"]
theorem scLooked : FnScope ["self", "modulus", "above", "own", "below", "looks", "value"] psA (defScope sLooked) := ⟨rfl, rfl, rfl, by decide +kernel, rfl, by decide +kernel, by decide +kernel⟩
theorem scWO : FnScope ["self", "modulus", "above", "own", "below", "value", "_"] psA (defScope sWO) := ⟨rfl, rfl, rfl, by decide +kernel, rfl, by decide +kernel, by decide +kernel⟩
theorem scNeed : FnScope ["self", "modulus", "above", "own", "below", "value", "looks", "_", "where", "column"] psA (defScope sNeed) := ⟨rfl, rfl, rfl, by decide +kernel, rfl, by decide +kernel, by decide +kernel⟩
theorem scMet : FnScope ["self", "modulus", "above", "own", "below", "_", "looks"] psA (defScope sMet) := ⟨rfl, rfl, rfl, by decide +kernel, rfl, by decide +kernel, by decide +kernel⟩
theorem ok_looked (F : FunD K "looked" "Formula.looked" (defArgs sLooked) (defBody sLooked) (defScope sLooked) [] [] f fd) (T : Cl K c) (m : ∀ g, Meth K (clsOf c g) "_worth" (fW (kd g))) (n : Nat) (GW : ∀ k, FnOk P w K mg base CX0 (n + 2) (fW k) (fdW k) psW (spW K c n k)) (bW : ∀ k, Binds K (fdW k) psW []) :
    FnOk P w K mg base CX0 (n + 3) f fd psA (spLooked K c n) := by
  refine F.ok scLooked (fun vs H Q E h => ?_) (fun cdv A outer s H vs Q E hr h => ?_)
  · obtain ⟨g, M, R, ⟨⟨v, l, du, dh, dd, rfl, _⟩, _⟩, _⟩ := h
    rfl
  · obtain ⟨g, M, R, ⟨⟨v, l, du, dh, dd, rfl, hf, h1, h0, h2⟩, og, ht, few, hM⟩, q⟩ := h
    have nd := scLooked.nd
    refine ⟨_, PSs.nox (pss_cons (ps_set (i := 5) nd rfl (Or.inl rfl) (pe_lst pa_nil))
      (pss_cons (ps_set (i := 6) nd rfl (Or.inl rfl) (pe_methI (ι := Fm) (C := clsOf c) (f := fun i => fW (kd i)) (fd := fun i => fdW (kd i)) (sp := fun i => spW K c n (kd i)) (pv 0) (fun i => (T.at_ i).cl) m (fun i => GW (kd i)) hr (fun i => bW (kd i)) .nil pass0
        (pa_cons pe_int (pa_cons (pe_tup (pa_cons (pv 1) (pa_cons (pe_disp (pps_cons pe_str (pv 2) (pps_cons pe_str (pv 3) (pps_cons pe_str (pv 4) pps_nil))) rfl rfl (by simp) (by decide)) (pa_cons (pv 5) pa_nil)))) pa_nil))))
      (pss_one (ps_ret (pe_tup (pa_cons (pv 6) (pa_cons (pv 5) pa_nil))))))), ?_⟩
    obtain ⟨a, dx, fs, g1, p1, r, rfl, el, ha, b1⟩ := id hf.obj
    walk_at "rd"
    refine ⟨Rd.small (by show 0 ≤ 100000; decide), fun L nL => ?_⟩
    have sL := same_new (o := HO.lst ([])) nL
    have tL := upd_same (H := H) (a := L) (o := HO.lst ([]))
    generalize upd H L (HO.lst ([])) = H1 at sL tL ⊢
    walk_at "rd"
    refine ⟨g, a, dx, fs, rfl, sL _ _ ha, b1.meth "_worth", ?_⟩
    walk_at "rd"
    intro p np
    refine Rd.c ?_
    walk_at "rd"
    refine Rd.c ?_
    walk_at "rd"
    refine Rd.c ?_
    walk_at "rd"
    refine ⟨upd_same, rowK du dh dd, rfl, by show 3 ≤ 15; decide, ?_⟩
    have s2 : Same H1 (upd (upd H1 p (.dK [])) p (.dK (mergeK [] (rowK du dh dd)))) := fun b o e => by rw [upd_ne (ne_of_none e np), upd_ne (ne_of_none e np)]; exact e
    have o2 := upd_same (H := upd H1 p (.dK [])) (a := p) (o := .dK (mergeK [] (rowK du dh dd)))
    generalize upd (upd H1 p (.dK [])) p (.dK (mergeK [] (rowK du dh dd))) = H2 at s2 o2 ⊢
    walk_at "rd"
    refine ⟨Rd.small (by show 3 ≤ 100000; decide), fun t nt => ?_⟩
    have st := same_new (o := HO.tup ([V.int (M : Nat), V.ref p, V.ref L])) nt
    have tt := upd_same (H := H2) (a := t) (o := HO.tup ([V.int (M : Nat), V.ref p, V.ref L]))
    generalize upd H2 t (HO.tup ([V.int (M : Nat), V.ref p, V.ref L])) = H3 at st tt ⊢
    walk_at "rd"
    have s03 := sL.trans (s2.trans st)
    have rows : RowsAt H3 p R := rows_of (st _ _ o2) (h1.same s03) (h0.same s03) (h2.same s03)
    refine ⟨g, _, l, 0, t, M, R, L, [], [], rfl, rfl, hf.kp (kp_same s03), og, ht, ⟨⟨p, SqT.of tt, rows⟩, hM, ⟨(s2.trans st) _ _ tL, trivial⟩⟩, by simp; omega, fun H4 lv bb ll => ?_⟩
    walk_at "rd"
    refine ⟨Rd.small (by show 2 ≤ 100000; decide), fun u nu => ?_⟩
    have su := same_new (o := HO.tup ([optV (wv M R g), V.ref L])) nu
    have tu := upd_same (H := H4) (a := u) (o := HO.tup ([optV (wv M R g), V.ref L]))
    generalize upd H4 u (HO.tup ([optV (wv M R g), V.ref L])) = H5 at su tu ⊢
    have sAll : Same H H5 := (same_but s03 nL bb).trans su
    exact q H5 u L lv sAll nL (SqT.of tu) ⟨su _ _ ll.l, (ll.at_.same su)⟩
theorem ok_wo (F : FunD K "work_out" "Formula.work_out" (defArgs sWO) (defBody sWO) (defScope sWO) [] [] f fd) (T : Cl K c) (m : ∀ g, Meth K (clsOf c g) "looked" fL) (n : Nat) (GL : FnOk P w K mg base CX0 (n + 3) fL fdL psA (spLooked K c n)) (bL : Binds K fdL psA []) :
    FnOk P w K mg base CX0 (n + 4) f fd psA (spWO K c n) := by
  refine F.ok scWO (fun vs H Q E h => ?_) (fun cdv A outer s H vs Q E hr h => ?_)
  · obtain ⟨g, M, R, ⟨⟨v, l, du, dh, dd, rfl, _⟩, _⟩, _⟩ := h
    rfl
  · obtain ⟨g, M, R, ask, q⟩ := h
    obtain ⟨v, l, du, dh, dd, rfl, hf, _⟩ := id ask.v
    have nd := scWO.nd
    refine ⟨_, PSs.nox (pss_cons (ps_asg (pe_methI (ι := Fm) (C := clsOf c) (f := fun _ => fL) (fd := fun _ => fdL) (sp := fun _ => spLooked K c n) (pv 0) (fun i => (T.at_ i).cl) m (fun _ => GL) hr (fun _ => bL) .nil pass0 (pa_cons (pv 1) (pa_cons (pv 2) (pa_cons (pv 3) (pa_cons (pv 4) pa_nil)))))
        (pg_tup rfl (pgs_cons (pg_name (i := 5) nd rfl (Or.inl rfl)) (pgs_cons (pg_name (i := 6) nd rfl (Or.inl rfl)) pgs_nil))))
      (pss_one (ps_ret (pv 5)))), ?_⟩
    obtain ⟨a, dx, fs, g1, p1, r, rfl, el, ha, b1⟩ := id hf.obj
    walk_at "rd"
    refine ⟨g, a, dx, fs, rfl, ha, b1.meth "looked", ?_⟩
    walk_at "rd"
    refine ⟨g, M, R, ask, fun H1 r L lv s1 nL hr1 ll => ?_⟩
    refine ⟨r, _, rfl, hr1, rfl, ?_⟩
    walk_at "rd"
    exact q H1 s1
theorem ok_met (F : FunD K "met" "Formula.met" (defArgs sMet) (defBody sMet) (defScope sMet) [] [] f fd) (T : Cl K c) (m : ∀ g, Meth K (clsOf c g) "looked" fL) (n : Nat) (GL : FnOk P w K mg base CX0 (n + 3) fL fdL psA (spLooked K c n)) (bL : Binds K fdL psA []) :
    FnOk P w K mg base CX0 (n + 4) f fd psA (spMet K c n) := by
  refine F.ok scMet (fun vs H Q E h => ?_) (fun cdv A outer s H vs Q E hr h => ?_)
  · obtain ⟨g, M, R, ⟨⟨v, l, du, dh, dd, rfl, _⟩, _⟩, _⟩ := h
    rfl
  · obtain ⟨g, M, R, ask, q⟩ := h
    obtain ⟨v, l, du, dh, dd, rfl, hf, _⟩ := id ask.v
    have nd := scMet.nd
    refine ⟨_, PSs.nox (pss_cons (ps_asg (pe_methI (ι := Fm) (C := clsOf c) (f := fun _ => fL) (fd := fun _ => fdL) (sp := fun _ => spLooked K c n) (pv 0) (fun i => (T.at_ i).cl) m (fun _ => GL) hr (fun _ => bL) .nil pass0 (pa_cons (pv 1) (pa_cons (pv 2) (pa_cons (pv 3) (pa_cons (pv 4) pa_nil)))))
        (pg_tup rfl (pgs_cons (pg_name (i := 5) nd rfl (Or.inl rfl)) (pgs_cons (pg_name (i := 6) nd rfl (Or.inl rfl)) pgs_nil))))
      (pss_one (ps_ret (pv 6)))), ?_⟩
    obtain ⟨a, dx, fs, g1, p1, r, rfl, el, ha, b1⟩ := id hf.obj
    walk_at "rd"
    refine ⟨g, a, dx, fs, rfl, ha, b1.meth "looked", ?_⟩
    walk_at "rd"
    refine ⟨g, M, R, ask, fun H1 r L lv s1 nL hr1 ll => ?_⟩
    refine ⟨r, _, rfl, hr1, rfl, ?_⟩
    walk_at "rd"
    exact q H1 L lv s1 nL ll
theorem ok_need (F : FunD K "need" "Formula.need" (defArgs sNeed) (defBody sNeed) (defScope sNeed) [] [] f fd) (T : Cl K c) (m : ∀ g, Meth K (clsOf c g) "looked" fL) (n : Nat) (GL : FnOk P w K mg base CX0 (n + 3) fL fdL psA (spLooked K c n)) (bL : Binds K fdL psA []) :
    FnOk P w K mg base CX0 (n + 4) f fd psA (spNeed K c n) := by
  refine F.ok scNeed (fun vs H Q E h => ?_) (fun cdv A outer s H vs Q E hr h => ?_)
  · obtain ⟨g, M, R, ⟨⟨v, l, du, dh, dd, rfl, _⟩, _⟩, _⟩ := h
    rfl
  · obtain ⟨g, M, R, ask, q⟩ := h
    obtain ⟨v, l, du, dh, dd, rfl, hf, _⟩ := id ask.v
    have nd := scNeed.nd
    refine ⟨_, PSs.nox (pss_cons (ps_asg (pe_methI (ι := Fm) (C := clsOf c) (f := fun _ => fL) (fd := fun _ => fdL) (sp := fun _ => spLooked K c n) (pv 0) (fun i => (T.at_ i).cl) m (fun _ => GL) hr (fun _ => bL) .nil pass0 (pa_cons (pv 1) (pa_cons (pv 2) (pa_cons (pv 3) (pa_cons (pv 4) pa_nil)))))
        (pg_tup rfl (pgs_cons (pg_name (i := 5) nd rfl (Or.inl rfl)) (pgs_cons (pg_name (i := 6) nd rfl (Or.inl rfl)) pgs_nil))))
      (pss_cons (ps_if (pt_cmp (pc_notN (pv 5))) (pss_one (ps_ret pe_non)) pss_nil)
      (pss_cons (ps_asg (pe_ix ix_list (pv 6) (pe_un un_neg pe_int) (fun _ _ => rfl)) (pg_tup rfl (pgs_cons (pg_name (i := 7) nd rfl (Or.inl rfl)) (pgs_cons (pg_name (i := 8) nd rfl (Or.inl rfl)) (pgs_cons (pg_name (i := 9) nd rfl (Or.inl rfl)) pgs_nil)))))
      (pss_one (ps_ret (pe_tup (pa_cons (pv 8) (pa_cons (pv 9) pa_nil)))))))), ?_⟩
    obtain ⟨a, dx, fs, g1, p1, r, rfl, el, ha, b1⟩ := id hf.obj
    walk_at "rd"
    refine ⟨g, a, dx, fs, rfl, ha, b1.meth "looked", ?_⟩
    walk_at "rd"
    refine ⟨g, M, R, ask, fun H1 r L lv s1 nL hr1 ll => ?_⟩
    refine ⟨r, _, rfl, hr1, rfl, ?_⟩
    walk_at "rd"
    cases e : wv M R g with
    | some k =>
      refine notN ?_
      walk_at "rd"
      rw [show (!decide (optV (some k) = V.non)) = true from by rw [decide_eq_false (fun z => by cases z)]; rfl]
      refine iteT ?_
      walk_at "rd"
      refine q H1 _ s1 ?_
      rw [_root_.K17.nd_some (by rw [e]; rfl)]
      rfl
    | none =>
      refine notN ?_
      walk_at "rd"
      rw [show (!decide (optV none = V.non)) = false from by rw [decide_eq_true (show optV none = V.non from rfl)]; rfl]
      refine iteF ?_
      walk_at "rd"
      obtain ⟨k, w, x, us, e1, e2⟩ := nd_last (R := R) (N := 0) e
      rw [e1] at ll
      obtain ⟨vs', t, rfl, ht⟩ := ll.at_.last
      refine Rd.ixL' (SqL.of ll.l) ((Rd.at_last (by simp)).trans (by simp; rfl)) ?_
      refine ⟨t, _, rfl, SqT.of ht, rfl, ?_⟩
      walk_at "rd"
      refine ⟨Rd.small (by show 2 ≤ 100000; decide), fun u nu => ?_⟩
      have su := same_new (o := HO.tup ([V.str (refWhere w), V.str x])) nu
      have tu := upd_same (H := H1) (a := u) (o := HO.tup ([V.str (refWhere w), V.str x]))
      generalize upd H1 u (HO.tup ([V.str (refWhere w), V.str x])) = H2 at su tu ⊢
      refine q H2 _ (s1.trans su) ?_
      rw [e2]
      exact ⟨u, rfl, SqT.of tu⟩
end
end K17

/-! for in a generator's body. -/
namespace PySem
open Sem (wp)
section
variable {M : Model} {A : Around} {R : GenEnd} {Y : Protocol} {n : Nat} {s₀ : Shared} {c : Code} {fs : List Frame} {s : Shared} {env : Env}
  {K : Flow → Sem Fin} {H : Value → Sem Fin} {gd : Bool → Bool} {lv : List Value → List Value}
theorem seg_bw {α β : Type} {m : Sem α} {k : α → Sem β} {K : β → Sem Fin}
    (h : wpAny M (A.over c fs) m (fun a s' => Seg M A R Y n s₀ c ((k a).wrap K H gd lv) fs s') (fun x s' => Seg M A R Y n s₀ c (H x) fs s') s) :
    Seg M A R Y n s₀ c ((m >>= k).wrap K H gd lv) fs s := by
  rw [Sem.bind_eq_wrap', Sem.wrap_wrap]
  exact seg_wrap h
theorem seg_For {target iter : Expr} {body orelse : List Stmt} {pos : Pos}
    (h : wpAny M (A.over c fs) (eval iter env) (fun x s1 => wpAny M (A.over c fs) (pyIter x) (fun it s2 => ∀ p, Seg M A R Y n s₀ (.forLoop target it body orelse env) (M.den (.forLoop target it body orelse env))
      (.ret (fun r => ((match r with | .ok f => (.pure f : Sem Flow) | .error e => .raise e).onRaise fun (x : Value) => do
        if (← field x 1) == Value.none then unsupported "frame.own-activation:exception-without-traceback"
        setFlight x env.frame).wrap K H gd lv) none (gd false) (lv []) c p [] :: fs) s2) (fun x s' => Seg M A R Y n s₀ c (H x) fs s') s1) (fun x s' => Seg M A R Y n s₀ c (H x) fs s') s)
    (hs : ∀ x, foldedSetIterable iter env x = pure x := by intro _; rfl) :
    Seg M A R Y n s₀ c ((exec (.For target iter body orelse pos) env).wrap K H gd lv) fs s := by
  rw [exec_For]
  refine seg_bw (wpAny_standAt (seg_bw (wpAny_mono h (fun x s1 h1 => ?_) fun _ _ z => z)))
  refine seg_bw (wpAny_of_eq (hs x) (seg_bw (wpAny_standAt (seg_bw (wpAny_holding (wpAny_mono h1 (fun it s2 h2 => ?_) fun _ _ z => z))))))
  exact seg_call h2
end
end PySem
namespace PySem
open Sem (wp)
section
variable {prog : Program} {w : World} {A : Around} {R : GenEnd} {Y : Protocol} {n : Nat} {s₀ : Shared} {fs : List Frame} {s : Shared} {env : Env}
abbrev loopErr (env : Env) (e : Value) : Sem Fin := (do noteFrame e env; theTreesLotGoes e : Sem Unit).wrap (fun _ => .raise e) .raise id id
theorem seg_forLoop {target : Expr} {it : Value} {body : List Stmt}
    (h : wpAny (model prog w) (A.over (.forLoop target it body [] env) fs) (pyNext it) (fun r s1 => match r with
        | none => Seg (model prog w) A R Y n s₀ (.forLoop target it body [] env) (.pure (.again (.block [] env))) fs s1
        | some v => wpAny (model prog w) (A.over (.forLoop target it body [] env) fs) (letOwnedTupleGo target it v) (fun _ s2 => wpAny (model prog w) (A.over (.forLoop target it body [] env) fs) (assign target env v) (fun _ s3 =>
            Seg (model prog w) A R Y n s₀ (.forLoop target it body [] env) ((execs body env).wrap (fun f => match f with
              | .next | .cont => .pure (.again (.forLoop target it body [] env))
              | .brk => .pure (.done .next)
              | .ret v => .pure (.done (.ret v))) (loopErr env) id id) fs s3) (fun x s' => Seg (model prog w) A R Y n s₀ (.forLoop target it body [] env) (loopErr env x) fs s') s2) (fun x s' => Seg (model prog w) A R Y n s₀ (.forLoop target it body [] env) (loopErr env x) fs s') s1)
      (fun x s' => Seg (model prog w) A R Y n s₀ (.forLoop target it body [] env) (loopErr env x) fs s') s) :
    Seg (model prog w) A R Y n s₀ (.forLoop target it body [] env) ((model prog w).den (.forLoop target it body [] env)) fs s := by
  show Seg _ A R Y n s₀ _ ((forTurn target it body [] env).onRaise (fun x => do noteFrame x env; theTreesLotGoes x)) fs s
  unfold forTurn
  rw [Sem.onRaise_eq_wrap]
  have eh : ∀ e, ((do noteFrame e env; theTreesLotGoes e : Sem Unit).bind fun _ => (.raise e : Sem Fin)) = loopErr env e := fun e => Sem.bind_eq_wrap _ _
  refine seg_bw (wpAny_standAt ?_)
  refine seg_bw (wpAny_onRaise (wpAny_mono h (fun r s1 h1 => ?_) fun x s' hx => wpAny_standAt ?_))
  · cases r with
    | none => exact h1
    | some v =>
      refine seg_bw (wpAny_mono h1 (fun _ s2 h2 => ?_) fun x s' hx => by rw [eh]; exact hx)
      refine seg_bw (wpAny_mono h2 (fun _ s3 h3 => ?_) fun x s' hx => by rw [eh]; exact hx)
      rw [Sem.bind_eq_wrap', Sem.wrap_wrap]
      rw [Sem.wrap_congr (execs body env) _ _ (K' := fun f => match f with
              | .next | .cont => .pure (.again (.forLoop target it body [] env))
              | .brk => .pure (.done .next)
              | .ret v => .pure (.done (.ret v))) (H' := loopErr env) (fun f => by cases f <;> rfl) (fun e => by exact eh e)]
      exact h3
  · rw [eh]
    exact hx
theorem seg_block {stmts : List Stmt} (h : Seg (model prog w) A R Y n s₀ (.block stmts env) ((execs stmts env).wrap (fun f => .pure (.done f)) (loopErr env) id id) fs s) :
    Seg (model prog w) A R Y n s₀ (.block stmts env) ((model prog w).den (.block stmts env)) fs s := by
  show Seg _ A R Y n s₀ _ ((execs stmts env).onRaise (fun x => do noteFrame x env; theTreesLotGoes x) >>= fun f => .pure (.done f)) fs s
  rw [Sem.onRaise_eq_wrap, Sem.bind_eq_wrap', Sem.wrap_wrap]
  rw [Sem.wrap_congr (execs stmts env) _ _ (K' := fun f => (.pure (.done f) : Sem Fin)) (H' := loopErr env) (fun f => by rfl) (fun e => by
    show ((do noteFrame e env; theTreesLotGoes e : Sem Unit).bind fun _ => (.raise e : Sem Flow)).wrap _ _ _ _ = _
    rw [Sem.bind_eq_wrap, Sem.wrap_wrap] <;> rfl)]
  exact h
end
end PySem
namespace L2
open PySem PySem.Spec PyProof.Rows GenW
def tGFor (wi : TI) (g : TG) (tb : TGn) : TGn := fun D ys σ H => wi σ H fun J H1 => ∃ W : Nat → Nat → List V → St → Hp → Prop, (∃ m, W 0 m ys σ H1) ∧ ∀ i m ys σ H, W i m ys σ H →
  (J.stop i H ∧ D.nx ys σ H) ∨ (J.go i H ∧ ∃ N : List V → St → Hp → Prop, (∀ ys' σ' H', N ys' σ' H' → ∃ m', m' < m ∧ W (i + 1) m' ys' σ' H') ∧ ∀ x H', J.yld i H x H' → g x σ H' fun σ2 H2 => tb { D with nx := N, ct := N, bk := D.nx } ys σ2 H2)
section
variable {X : Cx} {tg : Expr}
theorem gs_for {iter : Expr} {body : List Stmt} {wi : TI} {g : TG} {tb : TGn} {pos : Pos} (hp : PassesOwn (model X.prog X.w) X.A X.env X.xe) (hc : X.calm = true) (hi : PI X tg iter wi) (hg : PG X tg g) (hb : GSs X body tb)
    (hs : ∀ x, foldedSetIterable iter X.env x = pure x := by intro _; rfl) : GS X (.For tg iter body [] pos) (tGFor wi g tb) := by
  refine ⟨fun A S ip R n ys s₀ c fs K J gd lv s σ H D gc hn k hI ht => ?_⟩
  obtain ⟨acc, cc, r, I⟩ := hI
  refine seg_For ?_ hs
  rw [gc.over]
  refine wpAny_mono (hi.run _ s σ H _ I ht) (fun v s1 h1 => wpAny_mono h1 (fun itv s2 h2 => ?_) fun x s' hx => k.exc n s₀ x s' hx) fun x s' hx => k.exc n s₀ x s' hx
  obtain ⟨it, fp, tn, Jt, H2, e, I2, T, st2, f2, W, ⟨m0, w0⟩, turn⟩ := h2
  subst e
  intro p
  have gl := fun (kk : Result → Sem PySem.Fin) => gc_loop (k := kk) (c' := .forLoop tg (.ref it) body [] X.env) (l := lv []) (kp := []) (p := p) gc rfl rfl
  have stat : ∀ {H' : Hp} (a' : Array Value) (c' : Nat), (∀ b ∈ fp, H' b = none) → ∀ b ∈ fp, FpOk X ((S, lstObj a' c') :: ip) H' b := fun a' c' hn b hb => by
    obtain ⟨_, f1, f3, f4, f5, f6⟩ := f2 b hb
    refine ⟨hn b hb, f1, f3, f4, f5, fun q hq => ?_⟩
    rcases List.mem_append.mp hq with hq | hq
    · exact f6 q (List.mem_append_left _ hq)
    · rcases List.mem_cons.mp hq with hq | hq
      · rw [hq]
        exact f6 (S, lstObj acc cc) (List.mem_append_right _ List.mem_cons_self)
      · exact f6 q (List.mem_append_right _ (List.mem_cons_of_mem _ hq))
  have loop : ∀ (m n i : Nat) (ys : List V) (s₀ s : Shared) (σ : St) (H : Hp), n + ys.length = sizeLine → W i m ys σ H → GI X S ip ys σ H s → tn i s.heap → (∀ b ∈ fp, H b = none) →
      Seg (model X.prog X.w) A R (GY X S) n s₀ (.forLoop tg (.ref it) body [] X.env) ((model X.prog X.w).den (.forLoop tg (.ref it) body [] X.env))
        (.ret (fun r => ((match r with | .ok f => (.pure f : Sem Flow) | .error e => .raise e).onRaise (cameBack X.env)).wrap K J gd lv) none (gd false) (lv []) c p [] :: fs) s := by
    intro m
    induction m using Nat.strongRecOn with
    | ind m ih =>
      intro n i ys s₀ s σ H hn w hI st fr
      have ee : ∀ (n : Nat) (s₀ : Shared) (x : Value) (s' : Shared), X.xe x s' → Seg (model X.prog X.w) A R (GY X S) n s₀ (.forLoop tg (.ref it) body [] X.env) (loopErr X.env x)
          (.ret (fun r => ((match r with | .ok f => (.pure f : Sem Flow) | .error e => .raise e).onRaise (cameBack X.env)).wrap K J gd lv) none (gd false) (lv []) c p [] :: fs) s' := fun n s₀ x s' hx => by
        refine seg_wrap ?_
        rw [(gl _).over]
        refine wpAny_bind (wpAny_mono (hp x s' hx) (fun _ s'' hcb => wpAny_theTreesLotGoes ?_) fun y s'' hcb => ?_)
        · exact seg_leaf (.error x) (seg_cameBack gc k hcb)
        · exact seg_leaf (.error y) (seg_cameBack gc k hcb)
      refine seg_forLoop ?_
      rw [(gl _).over]
      obtain ⟨acc1, cc1, r1, I1⟩ := hI
      rcases turn i m ys σ H w with ⟨stop, qn⟩ | ⟨go, N, hN, step⟩
      · refine wpAny_mono (T.done X rfl rfl rfl hc i _ s σ H X.xe I1 (stat _ _ fr) st stop) (fun rr s4 ⟨hr, I4⟩ => ?_) fun x s' hx => ee n s₀ x s' hx
        subst hr
        exact seg_again rfl (seg_block (seg_execs_nil (seg_leaf (.ok .next) (k.ok n ys s₀ s4 .next hn ⟨σ, H, ⟨acc1, cc1, r1, I4⟩, qn⟩))))
      · refine wpAny_mono (T.item X rfl rfl rfl hc i _ s σ H X.xe I1 (stat _ _ fr) st go) (fun rr s4 ⟨u, hr, h4⟩ => ?_) fun x s' hx => ee n s₀ x s' hx
        subst hr
        refine wpAny_mono h4 (fun _ s5 ⟨x, H5, I5, r5, y5, st5, fr5⟩ => ?_) fun x s' hx => ee n s₀ x s' hx
        have I5' := I5.pinned (stat _ _ fr5) (T.obj _ _ st5)
        refine wpAny_mono (hg.run _ s5 σ H5 x u _ I5' r5 (step x H5 y5)) (fun _ s6 ⟨σ6, H6, I6, q6⟩ => ?_) fun x s' hx => ee n s₀ x s' hx
        have hip : ∀ q ∈ ip ++ pinsAt fp s5.heap, q.1 ≠ S := fun q hq => by
          rcases List.mem_append.mp hq with hq | hq
          · exact gc.ip q hq
          · obtain ⟨hb, _⟩ := of_pinsAt hq
            obtain ⟨_, _, _, _, _, f6⟩ := f2 q.1 hb
            exact Ne.symm (f6 (S, lstObj acc cc) (List.mem_append_right _ List.mem_cons_self))
        have glI : GC X S (ip ++ pinsAt fp s5.heap) A (.forLoop tg (.ref it) body [] X.env) (.ret (fun r => ((match r with | .ok f => (.pure f : Sem Flow) | .error e => .raise e).onRaise (cameBack X.env)).wrap K J gd lv) none (gd false) (lv []) c p [] :: fs) id :=
          ⟨gc.pn, hip, gc.apart, (gl _).over, (gl _).split, (gl _).guard, rfl⟩
        have un : ∀ {ys' : List V} {σ' : St} {H' : Hp} {s' : Shared}, GI X S (ip ++ pinsAt fp s5.heap) ys' σ' H' s' → GI X S ip ys' σ' H' s' ∧ tn (i + 1) s'.heap ∧ ∀ b ∈ fp, H' b = none := fun {ys' σ' H' s'} hG => by
          obtain ⟨a3, c3, r3, J3⟩ := hG
          refine ⟨⟨a3, c3, r3, Inv.unpinned (pins := (S, lstObj a3 c3) :: ip) (pl := pinsAt fp s5.heap) J3⟩, T.keep _ _ _ st5 fun b hb o e => (J3.pin (b, o) (List.mem_append_right _ (List.mem_cons_of_mem _ (List.mem_append_right _ (mem_pinsAt hb e))))).1, fun b hb => ?_⟩
          obtain ⟨o, e, d⟩ := T.obj _ _ st5 b hb
          exact (J3.pin (b, o) (List.mem_append_right _ (List.mem_cons_of_mem _ (List.mem_append_right _ (mem_pinsAt hb e))))).2.1
        refine hb.run A S (ip ++ pinsAt fp s5.heap) R n ys s₀ _ _ _ _ id id s6 σ6 H6 { D with nx := N, ct := N, bk := D.nx } glI hn ⟨fun n' ys' s₀' s3 f hn' hs => ?_, fun n' s₀' x s3 hx => ee n' s₀' x s3 hx⟩ ⟨acc1, cc1, r1, I6⟩ q6
        cases f with
        | next =>
          obtain ⟨σ3, H3, I3, n3⟩ := hs
          obtain ⟨m', hm, w3⟩ := hN ys' σ3 H3 n3
          obtain ⟨u1, u2, u3⟩ := un I3
          exact seg_again rfl (ih m' hm n' (i + 1) ys' s₀' s3 σ3 H3 hn' w3 u1 u2 u3)
        | cont =>
          obtain ⟨σ3, H3, I3, n3⟩ := hs
          obtain ⟨m', hm, w3⟩ := hN ys' σ3 H3 n3
          obtain ⟨u1, u2, u3⟩ := un I3
          exact seg_again rfl (ih m' hm n' (i + 1) ys' s₀' s3 σ3 H3 hn' w3 u1 u2 u3)
        | brk =>
          obtain ⟨σ3, H3, I3, n3⟩ := hs
          exact seg_leaf (.ok .next) (k.ok n' ys' s₀' s3 .next hn' ⟨σ3, H3, (un I3).1, n3⟩)
        | ret v =>
          obtain ⟨v3, σ3, H3, I3, r3, n3⟩ := hs
          exact seg_leaf (.ok (.ret v)) (k.ok n' ys' s₀' s3 (.ret v) hn' ⟨v3, σ3, H3, (un I3).1, r3, n3⟩)
  exact loop m0 n 0 ys s₀ s2 σ H2 hn w0 ⟨acc, cc, r, I2⟩ st2 fun b hb => (f2 b hb).1
end
end L2

namespace L2
open PySem PySem.Spec PyProof.Rows GenW
theorem gfor_it {J : It} {n : Nat} {G : Hp → Prop} {Y : Nat → Hp → V → Hp → Prop} (w : Walk J n G Y) {g : TG} {tb : TGn} {D : GEnds} {ys : List V} {σ : St} {H : Hp} (Pv : Nat → List V → St → Hp → Prop) (h0 : Pv 0 ys σ H) (hG : ∀ i ys σ H, i ≤ n → Pv i ys σ H → G H)
    (hs : ∀ i x ys σ H H', i < n → Pv i ys σ H → Y i H x H' → g x σ H' fun σ2 H2 => tb { D with nx := Pv (i + 1), ct := Pv (i + 1), bk := D.nx } ys σ2 H2) (hd : ∀ ys σ H, Pv n ys σ H → D.nx ys σ H) :
    ∃ W : Nat → Nat → List V → St → Hp → Prop, (∃ m, W 0 m ys σ H) ∧ ∀ i m ys σ H, W i m ys σ H →
      (J.stop i H ∧ D.nx ys σ H) ∨ (J.go i H ∧ ∃ N : List V → St → Hp → Prop, (∀ ys' σ' H', N ys' σ' H' → ∃ m', m' < m ∧ W (i + 1) m' ys' σ' H') ∧ ∀ x H', J.yld i H x H' → g x σ H' fun σ2 H2 => tb { D with nx := N, ct := N, bk := D.nx } ys σ2 H2) := by
  refine ⟨fun i m ys σ H => m = n - i ∧ i ≤ n ∧ Pv i ys σ H, ⟨n, by simp, Nat.zero_le _, h0⟩, ?_⟩
  rintro i m ys σ H ⟨rfl, hi, p⟩
  have q := hG i ys σ H hi p
  by_cases hlt : i < n
  · exact .inr ⟨w.goes i H hlt q, Pv (i + 1), fun ys' σ' H' p' => ⟨n - (i + 1), by omega, rfl, hlt, p'⟩, fun x H' y => hs i x ys σ H H' hlt p (w.yields i H x H' hlt q y)⟩
  · have e : i = n := by omega
    subst e
    exact .inl ⟨w.stops H q, hd ys σ H p⟩
abbrev GForG (J : It) (g : TG) (tb : TGn) (D : GEnds) (ys : List V) (σ : St) (H1 : Hp) : Prop := ∃ W : Nat → Nat → List V → St → Hp → Prop, (∃ m, W 0 m ys σ H1) ∧ ∀ i m ys σ H, W i m ys σ H →
  (J.stop i H ∧ D.nx ys σ H) ∨ (J.go i H ∧ ∃ N : List V → St → Hp → Prop, (∀ ys' σ' H', N ys' σ' H' → ∃ m', m' < m ∧ W (i + 1) m' ys' σ' H') ∧ ∀ x H', J.yld i H x H' → g x σ H' fun σ2 H2 => tb { D with nx := N, ct := N, bk := D.nx } ys σ2 H2)
theorem tg_forEA {K : PySem.W.Frag} {t : TA} {g : TG} {tb : TGn} {D : GEnds} {ys : List V} {σ : St} {H : Hp} (h : t σ H fun vs H1 => ∃ a xs, vs = [.ref a] ∧ ((SqL K H1 a xs ∧ GForG (Ite K a) g tb D ys σ H1) ∨ (SqT K H1 a xs ∧ GForG (Itet K a) g tb D ys σ H1))) : tGFor (iEnumA K t) g tb D ys σ H := h
theorem tg_then {t u : TGn} {D : GEnds} {ys : List V} {σ : St} {H : Hp} (h : t { D with nx := fun ys' σ' H' => u D ys' σ' H' } ys σ H) : tGThen t u D ys σ H := h
theorem tg_yield {te : TE} {D : GEnds} {ys : List V} {σ : St} {H : Hp} (h : ys.length < sizeLine ∧ te σ H fun x H1 => D.nx (ys ++ [x]) σ H1) : tGYield te D ys σ H := h
/-- o.m() of a generator method, the class is one of several -/
def tMethGI {ι : Type} (C : ι → Addr) (m : Str) (sp : ι → SpG) (dvs : List V) (E : XK) (ta : TE) : TGen := fun σ H cont => ta σ H fun x H1 => ∃ i a dx fs, x = .ref a ∧ H1 a = some (.ins (C i) dx fs) ∧ fs.lookup m = none ∧ sp i (x :: dvs) H1 cont E
theorem pgen_methI0 {ι : Type} {X : Cx} {C : ι → Addr} {f : ι → Addr} {fd : ι → FuncData} {ps : List Str} {sp : ι → SpG} {k : Nat} {o : Expr} {ta : TE} {m : Str} {ds : List Value} {dvs : List V} {apos pos' : Pos} {E : XK} {pl : Sem Bool} (he : PE X o ta) (c : ∀ i, Cls X.K (C i)) (hm : ∀ i, Meth X.K (C i) m (f i)) (F : ∀ i, GFn X.prog X.w X.K X.mg X.base k (f i) (fd i) ps (sp i)) (hr : Room k X.A) (hb : ∀ i, Binds X.K (fd i) ps ds) (hd : Vals dvs ds)
    (ht : eval (.Call (.Attribute o m apos) [] [] pos') X.env = (do
      let ov ← eval o X.env
      standAt apos.atName
      let (f, first) ← holding [ov] (getMethod ov m pl)
      callWith pos' f first (backTo pos' (starEach [] X.env)) (backToKw pos' (keywordEach [] X.env))) := by rfl) :
    PGen X k (.Call (.Attribute o m apos) [] [] pos') (tMethGI C m sp dvs E ta) E := by
  refine ⟨fun pins s σ H cont I h => ?_⟩
  refine PySem.W.methodCall_KW (pl := pl) (thn (he.run pins s σ H _ I h) fun u s1 ⟨x, H1, I1, rx, i, a, dx, fs, ex, ea, l, q⟩ => ?_) ht
  subst ex
  obtain rfl : u = Value.ref a := rx
  refine getmeth_ok I1 ea (c i) (hm i) l ?_
  exact PySem.W.callWith_K0 (first := [.ref a]) I1.kIn (hm i).kp (run_gfn (us := [.ref a]) (vs := [.ref a]) (F i) hr (hb i) hd I1 (.cons rfl .nil) q)
end L2
namespace K17
open PySem PySem.Spec PyProof.Rows L2
local macro_rules | `(tactic| walk_at "rd1") => `(tactic| first
  | (with_reducible refine Rd.seq ?_) | (with_reducible refine Rd.asg ?_) | (with_reducible refine Rd.ret ?_) | (with_reducible refine Rd.nxt ?_) | (with_reducible refine Rd.ifS ?_)
  | (with_reducible refine Rd.op ?_) | (with_reducible refine Rd.un ?_) | (with_reducible refine Rd.cb ?_) | (with_reducible refine Rd.cons ?_) | (with_reducible refine Rd.nil ?_) | (with_reducible refine Rd.ifx ?_)
  | (with_reducible refine Rd.test ?_) | (with_reducible refine Rd.testB ?_) | (with_reducible refine Rd.notT ?_) | (with_reducible refine Rd.isB ?_) | (with_reducible refine Rd.lst ?_) | (with_reducible refine Rd.tup ?_)
  | (with_reducible refine Rd.andV ?_) | (with_reducible refine Rd.orV ?_) | (with_reducible refine Rd.notV ?_) | (with_reducible refine Rd.andT ?_) | (with_reducible refine Rd.orT ?_) | (with_reducible refine Rd.chain ?_)
  | (with_reducible refine Rd.m0 ?_) | (with_reducible refine Rd.m1 ?_) | (with_reducible refine Rd.bm0 ?_) | (with_reducible refine Rd.bm ?_) | (with_reducible refine Rd.sl ?_) | (with_reducible refine Rd.part ?_) | (with_reducible refine Rd.part0 ?_) | (with_reducible refine Rd.isI ?_)
  | (with_reducible refine Rd.fmt ?_) | (with_reducible refine Rd.fmtRD ?_) | (with_reducible refine Rd.meth ?_) | (with_reducible refine makeG ?_) | (with_reducible refine Rd.prop ?_) | (with_reducible refine Rd.js ?_) | (with_reducible refine Rd.js0 ?_) | (with_reducible refine Rd.par ?_) | (with_reducible refine Rd.star ?_) | (with_reducible refine lcR1 ?_) | (with_reducible refine lcR2 ?_) | (with_reducible refine Rd.fld ?_) | (with_reducible refine Rd.sfld ?_) | (with_reducible refine Rd.expr ?_) | (with_reducible refine L2.isNR ?_) | (with_reducible refine L2.methI ?_) | (with_reducible refine Rd.forZ ?_)
  | (with_reducible refine Rd.forEA ?_) | (with_reducible refine Rd.forR1 ?_) | (with_reducible refine Rd.forR2 ?_) | (with_reducible refine Rd.forL ?_) | (with_reducible refine Rd.forT ?_)
  | (with_reducible refine Rd.call ?_) | (with_reducible refine Rd.asgG ?_) | (with_reducible refine Rd.gNm ?_) | (with_reducible refine Rd.gSb ?_) | (with_reducible refine Rd.gC ?_) | (with_reducible refine Rd.gN ?_)
  | ((with_reducible refine' Rd.var ?hv ?_); (case hv => exact rfl)) | (with_reducible refine Rd.c ?_) | (with_reducible refine Rd.i0 ?_) | (with_reducible refine Rd.neg ?_)
  | ((with_reducible refine' Rd.iC ?hc ?_); (case hc => first | (show (0 : Int) < _; decide) | exact ⟨by decide, by decide⟩ | exact ⟨by decide, by decide, by decide⟩ | exact .inl ⟨by decide, by decide⟩ | exact .inr ⟨by decide, by decide⟩ | exact .inl ⟨by omega, by omega⟩ | (show (0 : Int) < _; omega) | exact ⟨by omega, by omega⟩))
  | ((with_reducible refine' Rd.eqS ?hc ?_); (case hc => rfl)) | ((with_reducible refine' Rd.neS ?hc ?_); (case hc => rfl)))
local macro_rules | `(tactic| walk_at "rd") => `(tactic| repeat walk_at "rd1")
def NodeAt (H : Hp) (u : V) (i : Nat) (v : V) : Prop := ∃ t, u = .ref t ∧ H t = some (.tup [natV i, v])
/-- the nodes with their numbers, from i on -/
def NdsAt (H : Hp) : Nat → List V → List V → Prop
  | _, [], [] => True
  | i, u :: us, v :: vs => NodeAt H u i v ∧ NdsAt H (i + 1) us vs
  | _, _, _ => False
theorem NdsAt.same {H H' : Hp} (s : Same H H') : ∀ {i : Nat} {us vs : List V}, NdsAt H i us vs → NdsAt H' i us vs
  | _, [], [], _ => trivial
  | _, _ :: _, _ :: _, ⟨⟨t, e, ht⟩, h⟩ => ⟨⟨t, e, s _ _ ht⟩, NdsAt.same s h⟩
  | _, [], _ :: _, h => h.elim
  | _, _ :: _, [], h => h.elim
theorem NdsAt.snoc {H : Hp} {u v : V} : ∀ {i : Nat} {us vs : List V}, NdsAt H i us vs → NodeAt H u (i + us.length) v → NdsAt H i (us ++ [u]) (vs ++ [v])
  | _, [], [], _, h => ⟨h, trivial⟩
  | i, _ :: us, _ :: _, h, hx => ⟨h.1, NdsAt.snoc h.2 (by rw [List.length_cons] at hx; rw [show i + 1 + us.length = i + (us.length + 1) by omega]; exact hx)⟩
  | _, [], _ :: _, h, _ => h.elim
  | _, _ :: _, [], h, _ => h.elim
theorem NdsAt.len {H : Hp} : ∀ {i : Nat} {us vs : List V}, NdsAt H i us vs → us.length = vs.length
  | _, [], [], _ => rfl
  | _, _ :: _, _ :: _, h => congrArg (· + 1) (NdsAt.len h.2)
  | _, [], _ :: _, h => h.elim
  | _, _ :: _, [], h => h.elim
abbrev sNodes : Stmt := sMeth iFormula 2
def spNodes (K : PySem.W.Frag) (c : Cs) (n : Nat) : SpG := fun vs H cont _ => ∃ (f : Fm) (v : V) (l : List V), vs = [v] ∧ FmAt K c H f v l ∧ Okf f ∧ f.ht ≤ n ∧ f.q.1 ≤ 1000 ∧ ∀ us H', Kf K c H H' → NdsAt H' 0 us l → cont us H'
section
variable {P : Program} {w : World} {K : PySem.W.Frag} {mg : Str → Option Value} {base : Heap} {c : Cs} {f fE : Addr} {fd fdE : FuncData}
theorem gscNodes : GScope ["self", "number", "node"] ["self"] (defScope sNodes) := ⟨rfl, rfl, rfl, by decide +kernel, rfl, by decide +kernel, by decide +kernel⟩
theorem ok_nodes {n : Nat} (F : FunD K "nodes" "Formula.nodes" (defArgs sNodes) (defBody sNodes) (defScope sNodes) [] [] f fd) (T : Cl K c) (mE : ∀ g, Meth K (clsOf c g) "_every" fE) (GE : FnOk P w K mg base CX0 (n + 1) fE fdE ["self"] (spEvery K c n)) (bE : Binds K fdE ["self"] []) (gEn : mg "enumerate" = none) :
    GFn P w K mg base (n + 2) f fd ["self"] (spNodes K c n) := by
  obtain ⟨oc, od, dV, kV, doc, pm, an, cdv, ct, osl, rfl, lk, hcd, _, _⟩ := F.ex
  refine gfn_of lk hcd gscNodes (fun vs H Q E h => ?_) fun A outer s H vs Q E pn hr h => ?_
  · obtain ⟨g, v, l, rfl, _⟩ := h
    rfl
  · obtain ⟨g, v, l, rfl, hf, og, ht, few, q⟩ := h
    have nd := gscNodes.nd
    refine ⟨_, gss_cons (gs_for owns_gcx rfl (pi_enumA rfl gEn (pa_cons (pe_inj (pe_methI0 (ι := Fm) (C := clsOf c) (f := fun _ => fE) (fd := fun _ => fdE) (sp := fun _ => spEvery K c n) (pv 0) (fun i => (T.at_ i).cl) mE (fun _ => GE) hr (fun _ => bE) .nil pass0)) pa_nil)) (pg_tup rfl (pgs_cons (pg_name (i := 1) nd rfl (Or.inl rfl)) (pgs_cons (pg_name (i := 2) nd rfl (Or.inl rfl)) pgs_nil)))
      (gss_cons (gs_yield (pe_tup (pa_cons (pv 1) (pa_cons (pv 2) pa_nil)))) gss_nil)) gss_nil, ?_⟩
    obtain ⟨a, dx, fs, g1, p1, r, rfl, el, ha, b1⟩ := id hf.obj
    refine tg_then (tg_forEA ?_)
    refine Rd.cons ?_
    intro inj
    walk_at "rd"
    refine ⟨g, a, dx, fs, rfl, ha, b1.meth "_every", ?_⟩
    walk_at "rd"
    refine ⟨g, _, l, rfl, hf, og, ht, few, fun H1 b k1 hb => ?_⟩
    walk_at "rd"
    refine ⟨b, l, rfl, .inl ⟨SqL.of hb, ?_⟩⟩
    have ll := nodes_len hf
    have kf1 : Kf K c H H1 := kf_seq inj k1
    refine gfor_it walk_enum (fun i ys σ H' => (∃ x y, σ = [some (.ref a), x, y]) ∧ Same H1 H' ∧ NdsAt H' 0 ys (l.take i)) ⟨⟨_, _, rfl⟩, Same.refl _, trivial⟩ (fun i ys σ H' _ z => SqL.of (z.2.1 _ _ hb)) (fun i x ys σ H' H2 hi hy z => ?_) (fun ys σ H' z => ?_)
    · obtain ⟨⟨_, _, rfl⟩, s2, na⟩ := hy
      obtain ⟨t, i', v, rfl, nT, rfl, ei, ev⟩ := z
      cases ei
      refine ⟨t, _, rfl, SqT.of upd_same, rfl, ?_⟩
      walk_at "rd"
      have s3 := same_new (o := HO.tup [V.int (i : Nat), v]) nT
      have nl := na.len
      rw [List.length_take] at nl
      refine tg_then (tg_yield ⟨Nat.lt_of_lt_of_le (show ys.length < 100000 by omega) (by decide), ?_⟩)
      walk_at "rd"
      refine ⟨Rd.small (by show 2 ≤ 100000; decide), fun p np => ?_⟩
      have s4 := same_new (o := HO.tup [V.int (i : Nat), v]) np
      refine ⟨⟨_, _, rfl⟩, s2.trans (s3.trans s4), ?_⟩
      have il : i < l.length := hi
      have nl2 : ys.length = i := by omega
      have ev : l[i]? = some v := ev
      rw [List.take_add_one, ev, Option.toList_some]
      exact NdsAt.snoc ((na.same s3).same s4) ⟨p, rfl, by rw [nl2, Nat.zero_add]; exact upd_same⟩
    · obtain ⟨⟨_, _, rfl⟩, s2, na⟩ := z
      rw [List.take_length] at na
      exact q ys H' (kf1.trans (kf_same s2)) na
end
end K17

namespace K17
open PySem PySem.Spec PyProof.Rows L2
local macro_rules | `(tactic| walk_at "rd1") => `(tactic| first
  | (with_reducible refine Rd.seq ?_) | (with_reducible refine Rd.asg ?_) | (with_reducible refine Rd.ret ?_) | (with_reducible refine Rd.nxt ?_) | (with_reducible refine Rd.ifS ?_)
  | (with_reducible refine Rd.op ?_) | (with_reducible refine Rd.un ?_) | (with_reducible refine Rd.cb ?_) | (with_reducible refine Rd.cons ?_) | (with_reducible refine Rd.nil ?_) | (with_reducible refine Rd.ifx ?_)
  | (with_reducible refine Rd.test ?_) | (with_reducible refine Rd.testB ?_) | (with_reducible refine Rd.notT ?_) | (with_reducible refine Rd.isB ?_) | (with_reducible refine Rd.lst ?_) | (with_reducible refine Rd.tup ?_)
  | (with_reducible refine Rd.andV ?_) | (with_reducible refine Rd.orV ?_) | (with_reducible refine Rd.notV ?_) | (with_reducible refine Rd.andT ?_) | (with_reducible refine Rd.orT ?_) | (with_reducible refine Rd.chain ?_)
  | (with_reducible refine Rd.m0 ?_) | (with_reducible refine Rd.m1 ?_) | (with_reducible refine Rd.bm0 ?_) | (with_reducible refine Rd.bm ?_) | (with_reducible refine Rd.sl ?_) | (with_reducible refine Rd.part ?_) | (with_reducible refine Rd.part0 ?_) | (with_reducible refine Rd.isI ?_)
  | (with_reducible refine Rd.fmt ?_) | (with_reducible refine Rd.fmtRD ?_) | (with_reducible refine Rd.meth ?_) | (with_reducible refine makeG ?_) | (with_reducible refine Rd.prop ?_) | (with_reducible refine Rd.js ?_) | (with_reducible refine Rd.js0 ?_) | (with_reducible refine Rd.par ?_) | (with_reducible refine Rd.star ?_) | (with_reducible refine lcR1 ?_) | (with_reducible refine lcR2 ?_) | (with_reducible refine Rd.fld ?_) | (with_reducible refine Rd.sfld ?_) | (with_reducible refine Rd.expr ?_) | (with_reducible refine L2.isNR ?_) | (with_reducible refine L2.methI ?_) | (with_reducible refine Rd.forZ ?_)
  | (with_reducible refine Rd.forEA ?_) | (with_reducible refine Rd.forR1 ?_) | (with_reducible refine Rd.forR2 ?_) | (with_reducible refine Rd.forL ?_) | (with_reducible refine Rd.forT ?_)
  | (with_reducible refine Rd.call ?_) | (with_reducible refine Rd.asgG ?_) | (with_reducible refine Rd.gNm ?_) | (with_reducible refine Rd.gSb ?_) | (with_reducible refine Rd.gC ?_) | (with_reducible refine Rd.gN ?_)
  | ((with_reducible refine' Rd.var ?hv ?_); (case hv => exact rfl)) | (with_reducible refine Rd.c ?_) | (with_reducible refine Rd.i0 ?_) | (with_reducible refine Rd.neg ?_)
  | ((with_reducible refine' Rd.iC ?hc ?_); (case hc => first | (show (0 : Int) < _; decide) | exact ⟨by decide, by decide⟩ | exact ⟨by decide, by decide, by decide⟩ | exact .inl ⟨by decide, by decide⟩ | exact .inr ⟨by decide, by decide⟩ | exact .inl ⟨by omega, by omega⟩ | (show (0 : Int) < _; omega) | exact ⟨by omega, by omega⟩))
  | ((with_reducible refine' Rd.eqS ?hc ?_); (case hc => rfl)) | ((with_reducible refine' Rd.neS ?hc ?_); (case hc => rfl)))
local macro_rules | `(tactic| walk_at "rd") => `(tactic| repeat walk_at "rd1")
theorem notV_ {te : TE} {σ : L2.St} {H : Hp} {Q : VK} (h : te σ H fun x H1 => Q (.bl (!decide (x = .non))) H1) : tNotN te σ H Q := h
theorem din_ {ty td : TE} {σ : L2.St} {H : Hp} {Q : VK} (h : ty σ H fun y H1 => td σ H1 fun x H2 => ∃ a o, x = .ref a ∧ DGet H2 a y o ∧ Q (.bl o.isSome) H2) : tDIn ty td σ H Q := h
theorem dget2_ {td ty tx : TE} {σ : L2.St} {H : Hp} {Q : VK} (h : td σ H fun x H1 => ∃ a, x = .ref a ∧ IsD H1 a ∧ ty σ H1 fun y H2 => tx σ H2 fun z H3 => ∃ o, DGet H3 a y o ∧ Q (o.getD z) H3) : tDGet2 td ty tx σ H Q := h
/-- what is looked at, without the numbers -/
def ls (M : Nat) (R : RowsF) : Fm → List (Nat × Str)
  | .num _ => []
  | .ref w x => [(w, x)]
  | .pair _ l r => ls M R l ++ match wv M R l with
    | none => []
    | some _ => ls M R r
  | .cho t s a b => ls M R t ++ match wv M R t with
    | none => []
    | some x => if x ∈ s then ls M R a else ls M R b
theorem lk_ls {M : Nat} {R : RowsF} : ∀ {f : Fm} {N : Nat}, (lk M R f N).map (fun x => x.2) = ls M R f
  | .num n, N => rfl
  | .ref w x, N => rfl
  | .pair o l r, N => by
    simp only [lk, ls, List.map_append, lk_ls (f := l)]
    congr 1
    cases wv M R l with
    | none => rfl
    | some y => exact lk_ls (f := r)
  | .cho t s a b, N => by
    simp only [lk, ls, List.map_append, lk_ls (f := t)]
    congr 1
    cases wv M R t with
    | none => rfl
    | some y =>
      dsimp only
      split
      · exact lk_ls (f := a)
      · exact lk_ls (f := b)
theorem ls_len {M : Nat} {R : RowsF} {f : Fm} : (ls M R f).length ≤ f.q.1 := by
  rw [← lk_ls (N := 0), List.length_map]
  exact lk_len
def SpotAt (K : PySem.W.Frag) (H : Hp) (v : V) (x : Nat × Str) : Prop := ∃ t, v = .ref t ∧ SqT K H t [.str (refWhere x.1), .str x.2]
def SpotsAt (K : PySem.W.Frag) (H : Hp) : List V → List (Nat × Str) → Prop
  | [], [] => True
  | v :: vs, x :: xs => SpotAt K H v x ∧ SpotsAt K H vs xs
  | _, _ => False
theorem SpotsAt.len {K : PySem.W.Frag} {H : Hp} : ∀ {vs : List V} {xs : List (Nat × Str)}, SpotsAt K H vs xs → vs.length = xs.length
  | [], [], _ => rfl
  | _ :: _, _ :: _, h => congrArg (· + 1) (SpotsAt.len h.2)
  | [], _ :: _, h => h.elim
  | _ :: _, [], h => h.elim
theorem SpotsAt.app {K : PySem.W.Frag} {H : Hp} : ∀ {vs us : List V} {xs ys : List (Nat × Str)}, SpotsAt K H vs xs → SpotsAt K H us ys → SpotsAt K H (vs ++ us) (xs ++ ys)
  | [], _, [], _, _, h => h
  | _ :: _, _, _ :: _, _, h, h2 => ⟨h.1, SpotsAt.app h.2 h2⟩
  | [], _, _ :: _, _, h, _ => h.elim
  | _ :: _, _, [], _, h, _ => h.elim
theorem SpotsAt.same {K : PySem.W.Frag} {H H' : Hp} (s : Same H H') : ∀ {vs : List V} {xs : List (Nat × Str)}, SpotsAt K H vs xs → SpotsAt K H' vs xs
  | [], [], _ => trivial
  | _ :: _, _ :: _, ⟨⟨t, e, ht⟩, h⟩ => ⟨⟨t, e, ht.ext s⟩, SpotsAt.same s h⟩
  | [], _ :: _, h => h.elim
  | _ :: _, [], h => h.elim
theorem NeedAt.same {K : PySem.W.Frag} {H H' : Hp} (s : Same H H') {o : Option (Nat × Str)} {v : V} (h : NeedAt K H o v) : NeedAt K H' o v := by
  cases o with
  | none => exact h
  | some x => obtain ⟨t, e, h⟩ := h; exact ⟨t, e, h.ext s⟩
def LzAt (K : PySem.W.Frag) (H : Hp) (v : V) (o : Option Nat) (nd : Option (Nat × Str)) (xs : List (Nat × Str)) : Prop := ∃ t nv L lv, v = .ref t ∧ SqT K H t [optV o, nv, .ref L] ∧ NeedAt K H nd nv ∧ H L = some (.lst lv) ∧ SpotsAt K H lv xs
theorem LzAt.same {K : PySem.W.Frag} {H H' : Hp} (s : Same H H') {v : V} {o : Option Nat} {nd : Option (Nat × Str)} {xs : List (Nat × Str)} (h : LzAt K H v o nd xs) : LzAt K H' v o nd xs := by
  obtain ⟨t, nv, L, lv, e, h1, h2, h3, h4⟩ := h
  exact ⟨t, nv, L, lv, e, h1.ext s, h2.same s, s _ _ h3, h4.same s⟩
/-- the law's rows -/
structure Rws (H : Hp) (rd : Addr) (R : RowsF) (du dh dd : Addr) : Prop where
  rd : H rd = some (.dK (rowK du dh dd))
  u : RowD H du R 1
  h : RowD H dh R 0
  d : RowD H dd R 2
theorem Rws.same {H H' : Hp} {rd : Addr} {R : RowsF} {du dh dd : Addr} (s : Same H H') (h : Rws H rd R du dh dd) : Rws H' rd R du dh dd := ⟨s _ _ h.rd, h.u.same s, h.h.same s, h.d.same s⟩
theorem Rws.at_ {H : Hp} {rd : Addr} {R : RowsF} {du dh dd : Addr} (h : Rws H rd R du dh dd) {w : Nat} (hw : w < 3) : ∃ d kw, valV (rowK du dh dd) (.inr (refWhere w)) = some (.ref d) ∧ H d = some (.dK kw) ∧ ∀ x, (valV kw (.inr x)).getD .non = optV (R w x) := by
  have : w = 0 ∨ w = 1 ∨ w = 2 := by omega
  rcases this with rfl | rfl | rfl
  · obtain ⟨kw, e1, e2⟩ := h.h
    exact ⟨dh, kw, rfl, e1, e2⟩
  · obtain ⟨kw, e1, e2⟩ := h.u
    exact ⟨du, kw, rfl, e1, e2⟩
  · obtain ⟨kw, e1, e2⟩ := h.d
    exact ⟨dd, kw, rfl, e1, e2⟩
abbrev sLJ : Stmt := topA i_law_joined
abbrev sLz : Stmt := topA i_law_lazy
def spLJ : Sp := fun vs H Q _ => ∃ (M o a b : Nat), vs = [natV M, .str (pairWord o), natV a, natV b] ∧ 0 < M ∧ o < 4 ∧ Q (natV (jn M o a b)) H
def spLz (K : PySem.W.Frag) (n : Nat) : Sp := fun vs H Q _ => ∃ (f : Fm) (v : V) (M : Nat) (R : RowsF) (rd du dh dd : Addr), vs = [natV M, v, .ref rd] ∧ TpAt K H f v ∧ Okf f ∧ f.ht ≤ n ∧ f.q.1 ≤ 900 ∧ 0 < M ∧ Rws H rd R du dh dd ∧ ∀ H' v', Same H H' → LzAt K H' v' (wv M R f) (nd M R f) (ls M R f) → Q v' H'
section
variable {P : Program} {w : World} {K : PySem.W.Frag} {mg : Str → Option Value} {base : Heap} {f fJ : Addr} {fd fdJ : FuncData}
abbrev psLJ : List Str := ["_law_modulus", "_law_word", "_law_one", "_law_other"]
theorem scLJ : FnScope psLJ psLJ (defScope sLJ) := ⟨rfl, rfl, rfl, by decide +kernel, rfl, by decide +kernel, by decide +kernel⟩
theorem ok_lj (F : FnP K "_law_joined" sLJ f fd) (gInt : mg "int" = none) (gMin : mg "min" = none) (gMax : mg "max" = none) : FnOk P w K mg base CX0 1 f fd psLJ spLJ := by
  refine F.ok scLJ (fun vs H Q E h => ?_) (fun cdv A outer s H vs Q E hr h => ?_)
  · obtain ⟨M, o, a, b, rfl, _⟩ := h
    rfl
  · obtain ⟨M, o, a, b, rfl, hM, ho, q⟩ := h
    refine ⟨_, PSs.nox (pss_cons (ps_if (pt_cmpR op_eq (pv 1) pe_str (nomark _)) (pss_one (ps_ret (pe_op op_mod (pe_callTy call_int1 rfl gInt boot_int (pa_cons (pe_op op_add (pv 2) (pv 3)) pa_nil)) (pv 0)))) pss_nil)
      (pss_cons (ps_if (pt_cmpR op_eq (pv 1) pe_str (nomark _)) (pss_one (ps_ret (pe_callTy call_int1 rfl gInt boot_int (pa_cons (pe_cmpR op_eq (pv 2) (pv 3) (nomark _)) pa_nil)))) pss_nil)
      (pss_one (ps_ret (pe_ifExp (pt_cmpR op_eq (pv 1) pe_str (nomark _)) (pe_callB (call_min2 rfl) rfl gMin (by decide +kernel) (pa_cons (pv 2) (pa_cons (pv 3) pa_nil))) (pe_callB (call_max2 rfl) rfl gMax (by decide +kernel) (pa_cons (pv 2) (pa_cons (pv 3) pa_nil)))))))), ?_⟩
    unfold natV at q ⊢
    have ho : o = 0 ∨ o = 1 ∨ o = 2 ∨ o = 3 := by omega
    rcases ho with rfl | rfl | rfl | rfl
    · walk_at "rd"
      refine ifD rfl ?_
      walk_at "rd"
      refine .inl ⟨_, rfl, ?_⟩
      walk_at "rd"
      exact q
    · walk_at "rd"
      refine ifN (by decide) ?_
      walk_at "rd"
      refine ifN (by decide) ?_
      walk_at "rd"
      refine ifD rfl ?_
      walk_at "rd"
      refine ⟨_, _, rfl, ?_⟩
      have e : ((jn M 1 a b : Nat) : Int) = if (b : Int) < a then (b : Int) else a := by
        show ((min a b : Nat) : Int) = _
        split <;> omega
      rw [e] at q
      exact q
    · walk_at "rd"
      refine ifN (by decide) ?_
      walk_at "rd"
      refine ifN (by decide) ?_
      walk_at "rd"
      refine ifN (by decide) ?_
      walk_at "rd"
      refine ⟨_, _, rfl, ?_⟩
      have e : ((jn M 2 a b : Nat) : Int) = if (b : Int) > a then (b : Int) else a := by
        show ((max a b : Nat) : Int) = _
        split <;> omega
      rw [e] at q
      exact q
    · walk_at "rd"
      refine ifN (by decide) ?_
      walk_at "rd"
      refine ifD rfl ?_
      walk_at "rd"
      refine .inr ⟨_, rfl, ?_⟩
      by_cases e : a = b
      · have e2 : jn M 3 a b = 1 := if_pos e
        rw [e2] at q
        rw [show decide (V.int (a : Nat) = V.int (b : Nat)) = true from decide_eq_true (by rw [e])]
        exact q
      · have e2 : jn M 3 a b = 0 := if_neg e
        rw [e2] at q
        rw [show decide (V.int (a : Nat) = V.int (b : Nat)) = false from decide_eq_false fun z => e (Int.ofNat.inj (V.int.inj z))]
        exact q
abbrev psLz : List Str := ["_law_base", "_law_part_here", "_law_rows_here"]
abbrev nmsLz : List Str := ["_law_base", "_law_part_here", "_law_rows_here", "_law_value", "_law_first", "_law_more", "_law_rest"]
theorem scLz : FnScope nmsLz psLz (defScope sLz) := ⟨rfl, rfl, rfl, by decide +kernel, rfl, by decide +kernel, by decide +kernel⟩
theorem word_key {o : Nat} (ho : o < 4) (du dh dd : Addr) : valV (rowK du dh dd) (.inr (pairWord o)) = none ∧ valV (rowK du dh dd) (.inr "choice") = none := by
  have ho : o = 0 ∨ o = 1 ∨ o = 2 ∨ o = 3 := by omega
  rcases ho with rfl | rfl | rfl | rfl <;> exact ⟨rfl, rfl⟩
theorem word_ne {o : Nat} (ho : o < 4) : V.str (pairWord o) ≠ V.str "number" ∧ V.str (pairWord o) ≠ V.str "choice" := by
  have ho : o = 0 ∨ o = 1 ∨ o = 2 ∨ o = 3 := by omega
  rcases ho with rfl | rfl | rfl | rfl <;> exact ⟨by decide, by decide⟩
theorem where_ne {o : Nat} (ho : o < 3) : V.str (refWhere o) ≠ V.str "number" := by
  have ho : o = 0 ∨ o = 1 ∨ o = 2 := by omega
  rcases ho with rfl | rfl | rfl <;> decide
theorem ok_lz (F : FnP K "_law_lazy" sLz f fd) (gF : mg "_law_lazy" = some (.ref f)) (FJ : FnP K "_law_joined" sLJ fJ fdJ) (GJ : FnOk P w K mg base CX0 1 fJ fdJ psLJ spLJ) (gJ : mg "_law_joined" = some (.ref fJ)) : ∀ n, FnOk P w K mg base CX0 (n + 2) f fd psLz (spLz K n) := by
  have bF : Binds K fd psLz [] := F.bindsN fun _ _ _ _ _ _ us hl => match us, hl with | [_, _, _], _ => rfl
  have bJ : Binds K fdJ psLJ [] := FJ.bindsN fun _ _ _ _ _ _ us hl => match us, hl with | [_, _, _, _], _ => rfl
  intro n
  induction n with
  | zero =>
    refine F.ok scLz (fun vs H Q E h => ?_) (fun cdv A outer s H vs Q E hr h => ?_)
    · obtain ⟨g, v, M, R, rd, du, dh, dd, rfl, _⟩ := h
      rfl
    · obtain ⟨g, v, M, R, rd, du, dh, dd, rfl, _, _, ht, _⟩ := h
      cases g <;> simp [Fm.ht] at ht
  | succ n ih =>
    refine F.ok scLz (fun vs H Q E h => ?_) (fun cdv A outer s H vs Q E hr h => ?_)
    · obtain ⟨g, v, M, R, rd, du, dh, dd, rfl, _⟩ := h
      rfl
    · obtain ⟨g, v, M, R, rd, du, dh, dd, rfl, tp, og, ht, few, hM, rw_, q⟩ := h
      have hu := hu_of hr
      have nd := scLz.nd
      have r1 := hr.mono (show 1 ≤ n + 2 by omega)
      refine ⟨_, PSs.nox (pss_cons (ps_if (pt_cmpR op_eq (pe_ix ix_tup (pv 1) pe_int (fun _ _ => rfl)) pe_str (nomark _)) (pss_one (ps_ret (pe_tup (pa_cons (pe_ix ix_tup (pv 1) pe_int (fun _ _ => rfl)) (pa_cons pe_non (pa_cons (pe_lst pa_nil) pa_nil)))))) pss_nil)
        (pss_cons (ps_if (pt_cmp (pc_din hu (pe_ix ix_tup (pv 1) pe_int (fun _ _ => rfl)) (pv 2))) (pss_cons (ps_set (i := 3) nd rfl (Or.inl rfl) (pe_dget2 hu (pe_dget hu (pv 2) (pe_ix ix_tup (pv 1) pe_int (fun _ _ => rfl)) (fun _ _ => rfl)) (pe_ix ix_tup (pv 1) pe_int (fun _ _ => rfl)) pe_non ⟨rfl, rfl, rfl, rfl⟩))
        (pss_one (ps_ret (pe_tup (pa_cons (pv 3) (pa_cons (pe_ifExp (pt_cmp (pc_isN (pv 3))) (pe_tup (pa_cons (pe_ix ix_tup (pv 1) pe_int (fun _ _ => rfl)) (pa_cons (pe_ix ix_tup (pv 1) pe_int (fun _ _ => rfl)) pa_nil))) pe_non) (pa_cons (pe_lst (pa_cons (pe_tup (pa_cons (pe_ix ix_tup (pv 1) pe_int (fun _ _ => rfl)) (pa_cons (pe_ix ix_tup (pv 1) pe_int (fun _ _ => rfl)) pa_nil))) pa_nil)) pa_nil))))))) pss_nil)
        (pss_cons (ps_set (i := 4) nd rfl (Or.inl rfl) (pe_call ih hr rfl gF F.kp bF .nil pass0 (pa_cons (pv 0) (pa_cons (pe_ix ix_tup (pv 1) pe_int (fun _ _ => rfl)) (pa_cons (pv 2) pa_nil)))))
        (pss_cons (ps_if (pt_cmp (pc_isN (pe_ix ix_tup (pv 4) pe_int (fun _ _ => rfl)))) (pss_one (ps_ret (pv 4))) pss_nil)
        (pss_cons (ps_set (i := 5) nd rfl (Or.inl rfl) (pe_ix ix_tup (pv 1) pe_int (fun _ _ => rfl)))
        (pss_cons (ps_if (pt_cmpR op_eq (pe_ix ix_tup (pv 1) pe_int (fun _ _ => rfl)) pe_str (nomark _)) (pss_one (ps_set (i := 5) nd rfl (Or.inl rfl) (pe_ifExp (pt_cmpR op_in_seq (pe_ix ix_tup (pv 4) pe_int (fun _ _ => rfl)) (pe_ix ix_tup (pv 1) pe_int (fun _ _ => rfl)) rfl) (pe_ix ix_tup (pv 1) pe_int (fun _ _ => rfl)) (pe_ix ix_tup (pv 1) pe_int (fun _ _ => rfl))))) pss_nil)
        (pss_cons (ps_set (i := 6) nd rfl (Or.inl rfl) (pe_call ih hr rfl gF F.kp bF .nil pass0 (pa_cons (pv 0) (pa_cons (pv 5) (pa_cons (pv 2) pa_nil)))))
        (pss_cons (ps_set (i := 3) nd rfl (Or.inl rfl) (pe_ix ix_tup (pv 6) pe_int (fun _ _ => rfl)))
        (pss_cons (ps_if (PW.pt (pw_and (pt_cmpR op_ne (pe_ix ix_tup (pv 1) pe_int (fun _ _ => rfl)) pe_str (nomark _)) (pw_and1 (pt_cmp (pc_notN (pv 3)))))) (pss_one (ps_set (i := 3) nd rfl (Or.inl rfl) (pe_call GJ r1 rfl gJ FJ.kp bJ .nil pass0 (pa_cons (pv 0) (pa_cons (pe_ix ix_tup (pv 1) pe_int (fun _ _ => rfl)) (pa_cons (pe_ix ix_tup (pv 4) pe_int (fun _ _ => rfl)) (pa_cons (pv 3) pa_nil))))))) pss_nil)
        (pss_one (ps_ret (pe_tup (pa_cons (pv 3) (pa_cons (pe_ix ix_tup (pv 6) pe_int (fun _ _ => rfl)) (pa_cons (pe_op op_cat (pe_ix ix_tup (pv 4) pe_int (fun _ _ => rfl)) (pe_ix ix_tup (pv 6) pe_int (fun _ _ => rfl))) pa_nil))))))))))))))), ?_⟩
      cases g with
      | num k =>
        obtain ⟨a, rfl, hs⟩ := tp
        walk_at "rd"
        refine Rd.ixT hs rfl ?_
        walk_at "rd"
        refine ifD rfl ?_
        walk_at "rd"
        refine Rd.ixT hs rfl ?_
        walk_at "rd"
        refine ⟨Rd.small (by show 0 ≤ 100000; decide), fun L nL => ?_⟩
        have sL := same_new (o := HO.lst ([])) nL
        have tL := upd_same (H := H) (a := L) (o := HO.lst ([]))
        generalize upd H L (HO.lst ([])) = H1 at sL tL ⊢
        walk_at "rd"
        refine ⟨Rd.small (by show 3 ≤ 100000; decide), fun t nt => ?_⟩
        have st := same_new (o := HO.tup ([V.int (k : Nat), V.non, V.ref L])) nt
        have tt := upd_same (H := H1) (a := t) (o := HO.tup ([V.int (k : Nat), V.non, V.ref L]))
        generalize upd H1 t (HO.tup ([V.int (k : Nat), V.non, V.ref L])) = H2 at st tt ⊢
        exact q H2 _ (sL.trans st) ⟨t, .non, L, [], rfl, SqT.of tt, rfl, st _ _ tL, trivial⟩
      | ref wh x =>
        obtain ⟨a, rfl, hs⟩ := tp
        obtain ⟨hw, nx⟩ := og
        obtain ⟨d, kw, e1, e2, e3⟩ := rw_.at_ hw
        walk_at "rd"
        refine Rd.ixT hs rfl ?_
        walk_at "rd"
        refine ifN (where_ne hw) ?_
        walk_at "rd"
        refine din_ ?_
        walk_at "rd"
        refine Rd.ixT hs rfl ?_
        walk_at "rd"
        refine ⟨rd, _, rfl, DGet.k (k := .inr (refWhere wh)) rw_.rd, ?_⟩
        rw [e1]
        refine Rd.isT rfl ?_
        walk_at "rd"
        refine dget2_ (dget ?_)
        walk_at "rd"
        refine Rd.ixT hs rfl ?_
        refine ⟨rd, _, rfl, (by have z := DGet.k (k := .inr (refWhere wh)) rw_.rd; rw [e1] at z; exact z), ?_⟩
        refine ⟨d, rfl, .inl ⟨_, .inl e2⟩, ?_⟩
        walk_at "rd"
        refine Rd.ixT hs rfl ?_
        walk_at "rd"
        refine ⟨_, DGet.k (k := .inr x) e2, ?_⟩
        rw [e3 x]
        walk_at "rd"
        have q' : ∀ H' v', Same H H' → LzAt K H' v' (R wh x) (match R wh x with
          | none => some (wh, x)
          | some _ => none) [(wh, x)] → Q v' H' := q
        cases e : R wh x with
        | none =>
          rw [e] at q'
          refine ifD rfl ?_
          walk_at "rd"
          refine Rd.ixT hs rfl ?_
          walk_at "rd"
          refine Rd.ixT hs rfl ?_
          walk_at "rd"
          refine ⟨Rd.small (by show 2 ≤ 100000; decide), fun p1 n1 => ?_⟩
          have s1 := same_new (o := HO.tup ([V.str (refWhere wh), V.str x])) n1
          have t1 := upd_same (H := H) (a := p1) (o := HO.tup ([V.str (refWhere wh), V.str x]))
          generalize upd H p1 (HO.tup ([V.str (refWhere wh), V.str x])) = H1 at s1 t1 ⊢
          walk_at "rd"
          have hs := hs.ext s1
          refine Rd.ixT hs rfl ?_
          walk_at "rd"
          refine Rd.ixT hs rfl ?_
          walk_at "rd"
          refine ⟨Rd.small (by show 2 ≤ 100000; decide), fun p2 n2 => ?_⟩
          have s2 := same_new (o := HO.tup ([V.str (refWhere wh), V.str x])) n2
          have t2 := upd_same (H := H1) (a := p2) (o := HO.tup ([V.str (refWhere wh), V.str x]))
          generalize upd H1 p2 (HO.tup ([V.str (refWhere wh), V.str x])) = H2 at s2 t2 ⊢
          walk_at "rd"
          refine ⟨Rd.small (by show 1 ≤ 100000; decide), fun L n3 => ?_⟩
          have s3 := same_new (o := HO.lst ([V.ref p2])) n3
          have t3 := upd_same (H := H2) (a := L) (o := HO.lst ([V.ref p2]))
          generalize upd H2 L (HO.lst ([V.ref p2])) = H3 at s3 t3 ⊢
          walk_at "rd"
          refine ⟨Rd.small (by show 3 ≤ 100000; decide), fun t n4 => ?_⟩
          have s4 := same_new (o := HO.tup ([optV none, V.ref p1, V.ref L])) n4
          have t4 := upd_same (H := H3) (a := t) (o := HO.tup ([optV none, V.ref p1, V.ref L]))
          generalize upd H3 t (HO.tup ([optV none, V.ref p1, V.ref L])) = H4 at s4 t4 ⊢
          exact q' H4 _ (s1.trans (s2.trans (s3.trans s4))) ⟨t, .ref p1, L, [.ref p2], rfl, SqT.of t4, ⟨p1, rfl, (SqT.of t1).ext (s2.trans (s3.trans s4))⟩, s4 _ _ t3, ⟨p2, rfl, (SqT.of t2).ext (s3.trans s4)⟩, trivial⟩
        | some y =>
          rw [e] at q'
          refine ifN (fun z => by cases z) ?_
          walk_at "rd"
          refine Rd.ixT hs rfl ?_
          walk_at "rd"
          refine Rd.ixT hs rfl ?_
          walk_at "rd"
          refine ⟨Rd.small (by show 2 ≤ 100000; decide), fun p2 n2 => ?_⟩
          have s2 := same_new (o := HO.tup ([V.str (refWhere wh), V.str x])) n2
          have t2 := upd_same (H := H) (a := p2) (o := HO.tup ([V.str (refWhere wh), V.str x]))
          generalize upd H p2 (HO.tup ([V.str (refWhere wh), V.str x])) = H2 at s2 t2 ⊢
          walk_at "rd"
          refine ⟨Rd.small (by show 1 ≤ 100000; decide), fun L n3 => ?_⟩
          have s3 := same_new (o := HO.lst ([V.ref p2])) n3
          have t3 := upd_same (H := H2) (a := L) (o := HO.lst ([V.ref p2]))
          generalize upd H2 L (HO.lst ([V.ref p2])) = H3 at s3 t3 ⊢
          walk_at "rd"
          refine ⟨Rd.small (by show 3 ≤ 100000; decide), fun t n4 => ?_⟩
          have s4 := same_new (o := HO.tup ([optV (some y), V.non, V.ref L])) n4
          have t4 := upd_same (H := H3) (a := t) (o := HO.tup ([optV (some y), V.non, V.ref L]))
          generalize upd H3 t (HO.tup ([optV (some y), V.non, V.ref L])) = H4 at s4 t4 ⊢
          exact q' H4 _ (s2.trans (s3.trans s4)) ⟨t, .non, L, [.ref p2], rfl, SqT.of t4, rfl, s4 _ _ t3, ⟨p2, rfl, (SqT.of t2).ext (s3.trans s4)⟩, trivial⟩
      | pair o g1 g2 =>
        obtain ⟨a, v1, v2, rfl, hs, t1, t2⟩ := tp
        obtain ⟨ho, o1, o2⟩ := og
        have ht : max g1.ht g2.ht + 1 ≤ n + 1 := ht
        have fq : (Fm.pair o g1 g2).q.1 = g1.q.1 + g2.q.1 + 1 := by rw [q_pair]; omega
        have l1 := ls_len (M := M) (R := R) (f := g1)
        have l2 := ls_len (M := M) (R := R) (f := g2)
        walk_at "rd"
        refine Rd.ixT hs rfl ?_
        walk_at "rd"
        refine ifN (word_ne ho).1 ?_
        walk_at "rd"
        refine din_ ?_
        walk_at "rd"
        refine Rd.ixT hs rfl ?_
        walk_at "rd"
        refine ⟨rd, _, rfl, DGet.k (k := .inr (pairWord o)) rw_.rd, ?_⟩
        rw [(word_key ho du dh dd).1]
        refine Rd.isF rfl ?_
        walk_at "rd"
        refine Rd.ixT hs rfl ?_
        walk_at "rd"
        refine ⟨g1, v1, M, R, rd, du, dh, dd, rfl, t1, o1, by omega, by omega, hM, rw_, fun H1 w1 s1 z1 => ?_⟩
        walk_at "rd"
        obtain ⟨ta, nva, La, lva, rfl, ha1, ha2, ha3, ha4⟩ := z1
        refine Rd.ixT ha1 rfl ?_
        have hs := hs.ext s1
        cases e1 : wv M R g1 with
        | none =>
          refine ⟨_, rfl, ?_⟩
          refine ifD rfl ?_
          walk_at "rd"
          refine q H1 _ s1 ?_
          simp only [wv, _root_.K17.nd, ls, e1, List.append_nil]
          rw [e1] at ha1
          exact ⟨ta, nva, La, lva, rfl, ha1, ha2, ha3, ha4⟩
        | some n1 =>
          rw [e1] at ha1
          refine ⟨_, rfl, ?_⟩
          refine ifN (fun z => by cases z) ?_
          walk_at "rd"
          refine Rd.ixT hs rfl ?_
          walk_at "rd"
          refine Rd.ixT hs rfl ?_
          walk_at "rd"
          refine ifN (word_ne ho).2 ?_
          walk_at "rd"
          refine ⟨g2, v2, M, R, rd, du, dh, dd, rfl, t2.kp (kp_same s1), o2, by omega, by omega, hM, rw_.same s1, fun H2 w2 s2 z2 => ?_⟩
          walk_at "rd"
          obtain ⟨tb, nvb, Lb, lvb, rfl, hb1, hb2, hb3, hb4⟩ := z2
          have hs := hs.ext s2
          have ha1 := ha1.ext s2
          have ha3 := s2 _ _ ha3
          have ha4 := ha4.same s2
          have la := ha4.len
          have lb := hb4.len
          refine Rd.ixT hb1 rfl ?_
          walk_at "rd"
          refine Rd.ixT hs rfl ?_
          walk_at "rd"
          rw [show (!decide (V.str (pairWord o) = V.str "choice")) = true from by rw [decide_eq_false (word_ne ho).2]; rfl]
          refine iteT ?_
          walk_at "rd"
          refine notV_ ?_
          walk_at "rd"
          cases e2 : wv M R g2 with
          | none =>
            rw [show (!decide (optV none = V.non)) = false from by rw [decide_eq_true (show optV none = V.non from rfl)]; rfl]
            refine iteF ?_
            walk_at "rd"
            refine Rd.ixT hb1 rfl ?_
            walk_at "rd"
            refine Rd.ixT ha1 rfl ?_
            walk_at "rd"
            refine Rd.ixT hb1 rfl ?_
            refine ⟨La, Lb, _, _, rfl, rfl, ha3, hb3, Rd.small (by omega), fun Lc nLc => ?_⟩
            have s3 := same_new (o := HO.lst (lva ++ lvb)) nLc
            have o3 := upd_same (H := H2) (a := Lc) (o := HO.lst (lva ++ lvb))
            generalize upd H2 Lc (HO.lst (lva ++ lvb)) = H3 at s3 o3 ⊢
            walk_at "rd"
            refine ⟨Rd.small (by show 3 ≤ 100000; decide), fun t n4 => ?_⟩
            have s4 := same_new (o := HO.tup ([optV none, nvb, V.ref Lc])) n4
            have t4 := upd_same (H := H3) (a := t) (o := HO.tup ([optV none, nvb, V.ref Lc]))
            generalize upd H3 t (HO.tup ([optV none, nvb, V.ref Lc])) = H4 at s4 t4 ⊢
            refine q H4 _ (s1.trans (s2.trans (s3.trans s4))) ?_
            simp only [wv, _root_.K17.nd, ls, e1, e2]
            exact ⟨t, nvb, Lc, lva ++ lvb, rfl, SqT.of t4, hb2.same (s3.trans s4), s4 _ _ o3, (ha4.app hb4).same (s3.trans s4)⟩
          | some n2 =>
            rw [show (!decide (optV (some n2) = V.non)) = true from by rw [decide_eq_false (fun z => by cases z)]; rfl]
            refine iteT ?_
            walk_at "rd"
            refine Rd.ixT hs rfl ?_
            walk_at "rd"
            refine Rd.ixT ha1 rfl ?_
            walk_at "rd"
            refine ⟨M, o, n1, n2, rfl, hM, ho, ?_⟩
            walk_at "rd"
            refine Rd.ixT hb1 rfl ?_
            walk_at "rd"
            refine Rd.ixT ha1 rfl ?_
            walk_at "rd"
            refine Rd.ixT hb1 rfl ?_
            refine ⟨La, Lb, _, _, rfl, rfl, ha3, hb3, Rd.small (by omega), fun Lc nLc => ?_⟩
            have s3 := same_new (o := HO.lst (lva ++ lvb)) nLc
            have o3 := upd_same (H := H2) (a := Lc) (o := HO.lst (lva ++ lvb))
            generalize upd H2 Lc (HO.lst (lva ++ lvb)) = H3 at s3 o3 ⊢
            walk_at "rd"
            refine ⟨Rd.small (by show 3 ≤ 100000; decide), fun t n4 => ?_⟩
            have s4 := same_new (o := HO.tup ([natV (jn M o n1 n2), nvb, V.ref Lc])) n4
            have t4 := upd_same (H := H3) (a := t) (o := HO.tup ([natV (jn M o n1 n2), nvb, V.ref Lc]))
            generalize upd H3 t (HO.tup ([natV (jn M o n1 n2), nvb, V.ref Lc])) = H4 at s4 t4 ⊢
            refine q H4 _ (s1.trans (s2.trans (s3.trans s4))) ?_
            simp only [wv, _root_.K17.nd, ls, e1, e2]
            exact ⟨t, nvb, Lc, lva ++ lvb, rfl, SqT.of t4, hb2.same (s3.trans s4), s4 _ _ o3, (ha4.app hb4).same (s3.trans s4)⟩
      | cho g0 s g1 g2 =>
        obtain ⟨a, v1, t, v2, v3, rfl, hs, t1, hS, t2, t3⟩ := tp
        obtain ⟨asc, o1, o2, o3⟩ := og
        have ht : max g0.ht (max g1.ht g2.ht) + 1 ≤ n + 1 := ht
        have fq : (Fm.cho g0 s g1 g2).q.1 = g0.q.1 + g1.q.1 + g2.q.1 + 1 := by rw [q_cho]; omega
        have l0 := ls_len (M := M) (R := R) (f := g0)
        have l1 := ls_len (M := M) (R := R) (f := g1)
        have l2 := ls_len (M := M) (R := R) (f := g2)
        walk_at "rd"
        refine Rd.ixT hs rfl ?_
        walk_at "rd"
        refine ifN (by decide) ?_
        walk_at "rd"
        refine din_ ?_
        walk_at "rd"
        refine Rd.ixT hs rfl ?_
        walk_at "rd"
        refine ⟨rd, _, rfl, DGet.k (k := .inr "choice") rw_.rd, ?_⟩
        rw [show valV (rowK du dh dd) (.inr "choice") = none from rfl]
        refine Rd.isF rfl ?_
        walk_at "rd"
        refine Rd.ixT hs rfl ?_
        walk_at "rd"
        refine ⟨g0, v1, M, R, rd, du, dh, dd, rfl, t1, o1, by omega, by omega, hM, rw_, fun H1 w1 s1 z1 => ?_⟩
        walk_at "rd"
        obtain ⟨ta, nva, La, lva, rfl, ha1, ha2, ha3, ha4⟩ := z1
        refine Rd.ixT ha1 rfl ?_
        have hs := hs.ext s1
        cases e1 : wv M R g0 with
        | none =>
          refine ⟨_, rfl, ?_⟩
          refine ifD rfl ?_
          walk_at "rd"
          refine q H1 _ s1 ?_
          simp only [wv, _root_.K17.nd, ls, e1, List.append_nil]
          rw [e1] at ha1
          exact ⟨ta, nva, La, lva, rfl, ha1, ha2, ha3, ha4⟩
        | some n1 =>
          rw [e1] at ha1
          refine ⟨_, rfl, ?_⟩
          refine ifN (fun z => by cases z) ?_
          walk_at "rd"
          refine Rd.ixT hs rfl ?_
          walk_at "rd"
          refine Rd.ixT hs rfl ?_
          walk_at "rd"
          refine ifD rfl ?_
          walk_at "rd"
          refine Rd.ixT ha1 rfl ?_
          walk_at "rd"
          refine Rd.ixT hs rfl ?_
          refine ⟨t, _, rfl, .inr (hS.ext s1), rfl, by rw [List.all_map]; exact List.all_eq_true.mpr fun _ _ => rfl, ?_⟩
          rw [if_neg (by decide)]
          refine ⟨_, rfl, ?_⟩
          rw [show inV (optV (some n1)) (s.map natV) = decide (n1 ∈ s) from inV_nat n1 s]
          by_cases hm : n1 ∈ s
          · refine ifD hm ?_
            walk_at "rd"
            refine Rd.ixT hs rfl ?_
            walk_at "rd"
            refine ⟨g1, v2, M, R, rd, du, dh, dd, rfl, t2.kp (kp_same s1), o2, by omega, by omega, hM, rw_.same s1, fun H2 w2 s2 z2 => ?_⟩
            walk_at "rd"
            obtain ⟨tb, nvb, Lb, lvb, rfl, hb1, hb2, hb3, hb4⟩ := z2
            have hs := hs.ext s2
            have ha1 := ha1.ext s2
            have ha3 := s2 _ _ ha3
            have ha4 := ha4.same s2
            have la := ha4.len
            have lb := hb4.len
            refine Rd.ixT hb1 rfl ?_
            walk_at "rd"
            refine Rd.ixT hs rfl ?_
            walk_at "rd"
            rw [show (!decide (V.str "choice" = V.str "choice")) = false from by decide]
            refine iteF ?_
            refine iteF ?_
            walk_at "rd"
            refine Rd.ixT hb1 rfl ?_
            walk_at "rd"
            refine Rd.ixT ha1 rfl ?_
            walk_at "rd"
            refine Rd.ixT hb1 rfl ?_
            refine ⟨La, Lb, _, _, rfl, rfl, ha3, hb3, Rd.small (by omega), fun Lc nLc => ?_⟩
            have s3 := same_new (o := HO.lst (lva ++ lvb)) nLc
            have o3 := upd_same (H := H2) (a := Lc) (o := HO.lst (lva ++ lvb))
            generalize upd H2 Lc (HO.lst (lva ++ lvb)) = H3 at s3 o3 ⊢
            walk_at "rd"
            refine ⟨Rd.small (by show 3 ≤ 100000; decide), fun u n4 => ?_⟩
            have s4 := same_new (o := HO.tup ([optV (wv M R g1), nvb, V.ref Lc])) n4
            have t4 := upd_same (H := H3) (a := u) (o := HO.tup ([optV (wv M R g1), nvb, V.ref Lc]))
            generalize upd H3 u (HO.tup ([optV (wv M R g1), nvb, V.ref Lc])) = H4 at s4 t4 ⊢
            refine q H4 _ (s1.trans (s2.trans (s3.trans s4))) ?_
            simp only [wv, _root_.K17.nd, ls, e1, if_pos hm]
            exact ⟨u, nvb, Lc, lva ++ lvb, rfl, SqT.of t4, hb2.same (s3.trans s4), s4 _ _ o3, (ha4.app hb4).same (s3.trans s4)⟩
          · refine ifN hm ?_
            walk_at "rd"
            refine Rd.ixT hs rfl ?_
            walk_at "rd"
            refine ⟨g2, v3, M, R, rd, du, dh, dd, rfl, t3.kp (kp_same s1), o3, by omega, by omega, hM, rw_.same s1, fun H2 w2 s2 z2 => ?_⟩
            walk_at "rd"
            obtain ⟨tb, nvb, Lb, lvb, rfl, hb1, hb2, hb3, hb4⟩ := z2
            have hs := hs.ext s2
            have ha1 := ha1.ext s2
            have ha3 := s2 _ _ ha3
            have ha4 := ha4.same s2
            have la := ha4.len
            have lb := hb4.len
            refine Rd.ixT hb1 rfl ?_
            walk_at "rd"
            refine Rd.ixT hs rfl ?_
            walk_at "rd"
            rw [show (!decide (V.str "choice" = V.str "choice")) = false from by decide]
            refine iteF ?_
            refine iteF ?_
            walk_at "rd"
            refine Rd.ixT hb1 rfl ?_
            walk_at "rd"
            refine Rd.ixT ha1 rfl ?_
            walk_at "rd"
            refine Rd.ixT hb1 rfl ?_
            refine ⟨La, Lb, _, _, rfl, rfl, ha3, hb3, Rd.small (by omega), fun Lc nLc => ?_⟩
            have s3 := same_new (o := HO.lst (lva ++ lvb)) nLc
            have o3 := upd_same (H := H2) (a := Lc) (o := HO.lst (lva ++ lvb))
            generalize upd H2 Lc (HO.lst (lva ++ lvb)) = H3 at s3 o3 ⊢
            walk_at "rd"
            refine ⟨Rd.small (by show 3 ≤ 100000; decide), fun u n4 => ?_⟩
            have s4 := same_new (o := HO.tup ([optV (wv M R g2), nvb, V.ref Lc])) n4
            have t4 := upd_same (H := H3) (a := u) (o := HO.tup ([optV (wv M R g2), nvb, V.ref Lc]))
            generalize upd H3 u (HO.tup ([optV (wv M R g2), nvb, V.ref Lc])) = H4 at s4 t4 ⊢
            refine q H4 _ (s1.trans (s2.trans (s3.trans s4))) ?_
            simp only [wv, _root_.K17.nd, ls, e1, if_neg hm]
            exact ⟨u, nvb, Lc, lva ++ lvb, rfl, SqT.of t4, hb2.same (s3.trans s4), s4 _ _ o3, (ha4.app hb4).same (s3.trans s4)⟩
end
end K17

namespace K17
open PySem PySem.Spec PyProof.Rows L2
local macro_rules | `(tactic| walk_at "rd1") => `(tactic| first
  | (with_reducible refine Rd.seq ?_) | (with_reducible refine Rd.asg ?_) | (with_reducible refine Rd.ret ?_) | (with_reducible refine Rd.nxt ?_) | (with_reducible refine Rd.ifS ?_)
  | (with_reducible refine Rd.op ?_) | (with_reducible refine Rd.un ?_) | (with_reducible refine Rd.cb ?_) | (with_reducible refine Rd.cons ?_) | (with_reducible refine Rd.nil ?_) | (with_reducible refine Rd.ifx ?_)
  | (with_reducible refine Rd.test ?_) | (with_reducible refine Rd.testB ?_) | (with_reducible refine Rd.notT ?_) | (with_reducible refine Rd.isB ?_) | (with_reducible refine Rd.lst ?_) | (with_reducible refine Rd.tup ?_)
  | (with_reducible refine Rd.andV ?_) | (with_reducible refine Rd.orV ?_) | (with_reducible refine Rd.notV ?_) | (with_reducible refine Rd.andT ?_) | (with_reducible refine Rd.orT ?_) | (with_reducible refine Rd.chain ?_)
  | (with_reducible refine Rd.m0 ?_) | (with_reducible refine Rd.m1 ?_) | (with_reducible refine Rd.bm0 ?_) | (with_reducible refine Rd.bm ?_) | (with_reducible refine Rd.sl ?_) | (with_reducible refine Rd.part ?_) | (with_reducible refine Rd.part0 ?_) | (with_reducible refine Rd.isI ?_)
  | (with_reducible refine Rd.fmt ?_) | (with_reducible refine Rd.fmtRD ?_) | (with_reducible refine Rd.meth ?_) | (with_reducible refine makeG ?_) | (with_reducible refine Rd.prop ?_) | (with_reducible refine Rd.js ?_) | (with_reducible refine Rd.js0 ?_) | (with_reducible refine Rd.par ?_) | (with_reducible refine Rd.star ?_) | (with_reducible refine lcR1 ?_) | (with_reducible refine lcR2 ?_) | (with_reducible refine Rd.fld ?_) | (with_reducible refine Rd.sfld ?_) | (with_reducible refine Rd.expr ?_) | (with_reducible refine L2.isNR ?_) | (with_reducible refine L2.methI ?_) | (with_reducible refine Rd.forZ ?_)
  | (with_reducible refine Rd.forEA ?_) | (with_reducible refine Rd.forR1 ?_) | (with_reducible refine Rd.forR2 ?_) | (with_reducible refine Rd.forL ?_) | (with_reducible refine Rd.forT ?_)
  | (with_reducible refine Rd.call ?_) | (with_reducible refine Rd.asgG ?_) | (with_reducible refine Rd.gNm ?_) | (with_reducible refine Rd.gSb ?_) | (with_reducible refine Rd.gC ?_) | (with_reducible refine Rd.gN ?_)
  | ((with_reducible refine' Rd.var ?hv ?_); (case hv => exact rfl)) | (with_reducible refine Rd.c ?_) | (with_reducible refine Rd.i0 ?_) | (with_reducible refine Rd.neg ?_)
  | ((with_reducible refine' Rd.iC ?hc ?_); (case hc => first | (show (0 : Int) < _; decide) | exact ⟨by decide, by decide⟩ | exact ⟨by decide, by decide, by decide⟩ | exact .inl ⟨by decide, by decide⟩ | exact .inr ⟨by decide, by decide⟩ | exact .inl ⟨by omega, by omega⟩ | (show (0 : Int) < _; omega) | exact ⟨by omega, by omega⟩))
  | ((with_reducible refine' Rd.eqS ?hc ?_); (case hc => rfl)) | ((with_reducible refine' Rd.neS ?hc ?_); (case hc => rfl)))
local macro_rules | `(tactic| walk_at "rd") => `(tactic| repeat walk_at "rd1")
theorem pot_new {p q : Addr} {H : Hp} (h : PotAt H p) (n : H q = none) : q ≠ p := fun e => by
  obtain ⟨x, y, a, _⟩ := h
  rw [← e, n] at a
  cases a
theorem at_str {l : List Str} {i : Nat} (h : i < l.length) : (l.map V.str)[i]? = some (.str l[i]) := by rw [List.getElem?_map, List.getElem?_eq_getElem h]; rfl
abbrev sTaken : Stmt := topA i_law_taken
/-- so many different ones of a list that has more -/
def spTaken (K : PySem.W.Frag) : Sp := fun vs H Q _ => ∃ (p l : Addr) (xs : List Str) (n : Nat), vs = [.ref p, .ref l, .int n] ∧ PotAt H p ∧ H l = some (.lst (xs.map V.str)) ∧ l ≠ p ∧ n ≤ xs.length ∧ xs.length ≤ 100 ∧
  ∀ (r : Addr) (H' : Hp) (ys : List Str), PotAt H' p → But p H H' → H r = none → H' r = some (.lst (ys.map V.str)) → ys.length = n → (∀ y ∈ ys, y ∈ xs) → Q (.ref r) H'
theorem erase_map : ∀ (l : List Str) (j : Nat), (l.map V.str).eraseIdx j = (l.eraseIdx j).map V.str
  | [], j => by cases j <;> rfl
  | x :: l, 0 => rfl
  | x :: l, j + 1 => by
    show V.str x :: (l.map V.str).eraseIdx j = V.str x :: (l.eraseIdx j).map V.str
    rw [erase_map l j]
section
variable {P : Program} {w : World} {K : PySem.W.Frag} {mg : Str → Option Value} {base : Heap} {C f fD : Addr} {fd fdD : FuncData}
theorem scTaken : FnScope ["_law_pot_here", "_law_menu", "_law_many", "_law_left", "_law_found", "_law_turn"] ["_law_pot_here", "_law_menu", "_law_many"] (defScope sTaken) := ⟨rfl, rfl, rfl, by decide +kernel, rfl, by decide +kernel, by decide +kernel⟩
theorem ok_taken (F : FnP K "_law_taken" sTaken f fd) (FD : FnP K "_law_draw" sDraw fD fdD) (GD : FnOk P w K mg base CX0 1 fD fdD ["_law_pot_here", "_law_many"] spDraw) (gD : mg "_law_draw" = some (.ref fD)) (gLen : mg "len" = none) (gList : mg "list" = none) (gRange : mg "range" = none) :
    FnOk P w K mg base CX0 2 f fd ["_law_pot_here", "_law_menu", "_law_many"] (spTaken K) := by
  have bD : Binds K fdD ["_law_pot_here", "_law_many"] [] := FD.bindsN fun _ _ _ _ _ _ us hl => match us, hl with | [_, _], _ => rfl
  refine F.ok scTaken (fun vs H Q E h => ?_) (fun cdv A outer s H vs Q E hr h => ?_)
  · obtain ⟨p, l, xs, n, rfl, _⟩ := h
    rfl
  · obtain ⟨p, l, xs, n, rfl, hp, hl, nlp, hn, hx, q⟩ := h
    refine ⟨_, PSs.nox (pss_cons (ps_par (i := 3) (j := 4) (by rfl) scTaken.nd rfl rfl (by decide) rfl rfl (pa_cons (pe_callTy call_list_of rfl gList (by decide +kernel) (pa_cons (pv 1) pa_nil)) (pa_cons (pe_lst pa_nil) pa_nil)) (by rfl))
      (pss_cons (ps_for PassesOwn.never rfl (pi_range1 rfl gRange (pa_cons (pv 2) pa_nil)) (pg_name (i := 5) scTaken.nd rfl (Or.inl rfl))
        (pss_one (ps_expr (pe_bm PySem.F.plainAttrs_list PySem.F.slot_list_append PySem.F.type_list_append mt_append (pv 4)
          (pa_cons (pe_bm PySem.F.plainAttrs_list PySem.F.slot_list_pop PySem.F.type_list_pop mt_popAt (pv 3) (pa_cons (pe_call GD hr rfl gD FD.kp bD .nil pass0 (pa_cons (pv 0) (pa_cons (pe_callB call_len rfl gLen boot_len (pa_cons (pv 3) pa_nil)) pa_nil))) pa_nil)) pa_nil)))))
      (pss_one (ps_ret (pv 4))))), ?_⟩
    walk_at "rd"
    refine ⟨l, _, rfl, .inl (SqL.of hl), fun l1 n1 => ?_⟩
    have s1 := same_new (o := HO.lst (xs.map V.str)) n1
    have o1 := upd_same (H := H) (a := l1) (o := HO.lst (xs.map V.str))
    generalize upd H l1 (HO.lst (xs.map V.str)) = H1 at s1 o1 ⊢
    walk_at "rd"
    refine ⟨Rd.small (by show 0 ≤ 100000; decide), fun l2 n2 => ?_⟩
    have s2 := same_new (o := HO.lst []) n2
    have o2 := upd_same (H := H1) (a := l2) (o := HO.lst [])
    generalize upd H1 l2 (HO.lst []) = H2 at s2 o2 ⊢
    refine ⟨_, _, rfl, ?_⟩
    walk_at "rd"
    refine ⟨(n : Int), rfl, by omega, by omega, ?_⟩
    have p2 := pot_same hp (s1.trans s2)
    have d1 : l1 ≠ p := pot_new hp n1
    have d2 : l2 ≠ p := pot_new (pot_same hp s1) n2
    have d12 : l1 ≠ l2 := ne_of_none o1 n2
    have nl2 : H l2 = none := s1.free n2
    refine for_it walk_range (fun i σ H' => (∃ t, σ = [some (.ref p), some (.ref l), some (.int n), some (.ref l1), some (.ref l2), t]) ∧ PotAt H' p ∧ But p H H' ∧ ∃ left found : List Str, H' l1 = some (.lst (left.map V.str)) ∧ H' l2 = some (.lst (found.map V.str)) ∧ left.length = xs.length - i ∧ found.length = i ∧ (∀ y ∈ left, y ∈ xs) ∧ ∀ y ∈ found, y ∈ xs)
      ⟨⟨_, rfl⟩, p2, butS' (s1.trans s2), xs, [], s2 _ _ o1, o2, rfl, rfl, fun _ h => h, fun _ h => absurd h List.not_mem_nil⟩ (fun _ _ _ _ _ => trivial) (fun i v σ H3 H4 hi hp' hy => ?_) (fun σ H' hp' => ?_)
    · obtain ⟨⟨t, rfl⟩, pt, bt, left, found, a1, a2, z1, z2, m1, m2⟩ := hp'
      obtain ⟨rfl, rfl⟩ := hy
      rw [Int.toNat_natCast] at hi
      walk_at "rd"
      refine ⟨.inl ⟨rfl, _, SqL.of a2⟩, ?_⟩
      walk_at "rd"
      refine ⟨.inl ⟨rfl, _, SqL.of a1⟩, ?_⟩
      walk_at "rd"
      refine ⟨_, _, rfl, .inl ⟨_, SqL.of a1, rfl⟩, ?_⟩
      walk_at "rd"
      have lp : 0 < left.length := by omega
      refine ⟨p, _, rfl, pt, by rw [List.length_map]; omega, Int.lt_trans (show ((left.map V.str).length : Int) < 1000000 by rw [List.length_map]; omega) (by decide +kernel), fun d H5 d0 dl p5 b5 => ?_⟩
      obtain ⟨j, rfl⟩ := Int.eq_ofNat_of_zero_le d0
      rw [List.length_map] at dl
      have hj : j < left.length := by omega
      walk_at "rd"
      have ix : ixN (left.map V.str).length (j : Int) = some j := by
        unfold ixN
        rw [if_pos (by omega), if_pos (by rw [List.length_map]; omega), Int.toNat_natCast]
      refine ⟨l1, _, (j : Int), j, _, rfl, rfl, b5 l1 _ d1 a1, by omega, by omega, (ixN_seq ix).1, at_str hj, ?_⟩
      walk_at "rd"
      have f2 : upd H5 l1 (.lst ((left.map V.str).eraseIdx j)) l2 = some (.lst (found.map V.str)) := (upd_ne d12.symm).trans (b5 l2 _ d2 a2)
      refine ⟨l2, _, _, rfl, rfl, f2, Nat.lt_of_lt_of_le (show (found.map V.str).length < 100000 by rw [List.length_map]; omega) (by decide), ?_⟩
      walk_at "rd"
      have p6 : PotAt (upd (upd H5 l1 (.lst ((left.map V.str).eraseIdx j))) l2 (.lst (found.map V.str ++ [V.str left[j]]))) p := by
        obtain ⟨x, y, e, r⟩ := p5
        exact ⟨x, y, by rw [upd_ne d2.symm, upd_ne d1.symm]; exact e, r⟩
      refine ⟨⟨_, rfl⟩, p6, fun b o hb e => ?_, left.eraseIdx j, found ++ [left[j]], ?_, ?_, ?_, ?_, fun y hy => m1 y (List.mem_of_mem_eraseIdx hy), fun y hy => ?_⟩
      · rw [upd_ne (ne_of_none e nl2), upd_ne (ne_of_none e n1)]
        exact b5 b o hb (bt b o hb e)
      · rw [upd_ne d12, upd_same, erase_map]
      · rw [upd_same, List.map_append]
        rfl
      · rw [List.length_eraseIdx_of_lt hj]
        omega
      · rw [List.length_append, z2]
        rfl
      · rcases List.mem_append.mp hy with h | h
        · exact m2 y h
        · rw [List.mem_singleton.mp h]
          exact m1 _ (List.getElem_mem hj)
    · obtain ⟨⟨t, rfl⟩, pt, bt, left, found, a1, a2, z1, z2, m1, m2⟩ := hp'
      rw [Int.toNat_natCast] at z2
      walk_at "rd"
      exact q l2 H' found pt bt nl2 a2 z2 m2
end
end K17

namespace K17
open PySem PySem.Spec PyProof.Rows L2
local macro_rules | `(tactic| walk_at "rd1") => `(tactic| first
  | (with_reducible refine Rd.seq ?_) | (with_reducible refine Rd.asg ?_) | (with_reducible refine Rd.ret ?_) | (with_reducible refine Rd.nxt ?_) | (with_reducible refine Rd.ifS ?_)
  | (with_reducible refine Rd.op ?_) | (with_reducible refine Rd.un ?_) | (with_reducible refine Rd.cb ?_) | (with_reducible refine Rd.cons ?_) | (with_reducible refine Rd.nil ?_) | (with_reducible refine Rd.ifx ?_)
  | (with_reducible refine Rd.test ?_) | (with_reducible refine Rd.testB ?_) | (with_reducible refine Rd.notT ?_) | (with_reducible refine Rd.isB ?_) | (with_reducible refine Rd.lst ?_) | (with_reducible refine Rd.tup ?_)
  | (with_reducible refine Rd.andV ?_) | (with_reducible refine Rd.orV ?_) | (with_reducible refine Rd.notV ?_) | (with_reducible refine Rd.andT ?_) | (with_reducible refine Rd.orT ?_) | (with_reducible refine Rd.chain ?_)
  | (with_reducible refine Rd.m0 ?_) | (with_reducible refine Rd.m1 ?_) | (with_reducible refine Rd.bm0 ?_) | (with_reducible refine Rd.bm ?_) | (with_reducible refine Rd.sl ?_) | (with_reducible refine Rd.part ?_) | (with_reducible refine Rd.part0 ?_) | (with_reducible refine Rd.isI ?_)
  | (with_reducible refine Rd.fmt ?_) | (with_reducible refine Rd.fmtRD ?_) | (with_reducible refine Rd.meth ?_) | (with_reducible refine makeG ?_) | (with_reducible refine Rd.prop ?_) | (with_reducible refine Rd.js ?_) | (with_reducible refine Rd.js0 ?_) | (with_reducible refine Rd.par ?_) | (with_reducible refine Rd.star ?_) | (with_reducible refine lcR1 ?_) | (with_reducible refine lcR2 ?_) | (with_reducible refine Rd.fld ?_) | (with_reducible refine Rd.sfld ?_) | (with_reducible refine Rd.expr ?_) | (with_reducible refine L2.isNR ?_) | (with_reducible refine L2.methI ?_) | (with_reducible refine Rd.forZ ?_)
  | (with_reducible refine Rd.forEA ?_) | (with_reducible refine Rd.forR1 ?_) | (with_reducible refine Rd.forR2 ?_) | (with_reducible refine Rd.forL ?_) | (with_reducible refine Rd.forT ?_)
  | (with_reducible refine Rd.call ?_) | (with_reducible refine Rd.asgG ?_) | (with_reducible refine Rd.gNm ?_) | (with_reducible refine Rd.gSb ?_) | (with_reducible refine Rd.gC ?_) | (with_reducible refine Rd.gN ?_)
  | ((with_reducible refine' Rd.var ?hv ?_); (case hv => exact rfl)) | (with_reducible refine Rd.c ?_) | (with_reducible refine Rd.i0 ?_) | (with_reducible refine Rd.neg ?_)
  | ((with_reducible refine' Rd.iC ?hc ?_); (case hc => first | (show (0 : Int) < _; decide) | exact ⟨by decide, by decide⟩ | exact ⟨by decide, by decide, by decide⟩ | exact .inl ⟨by decide, by decide⟩ | exact .inr ⟨by decide, by decide⟩ | exact .inl ⟨by omega, by omega⟩ | (show (0 : Int) < _; omega) | exact ⟨by omega, by omega⟩))
  | ((with_reducible refine' Rd.eqS ?hc ?_); (case hc => rfl)) | ((with_reducible refine' Rd.neS ?hc ?_); (case hc => rfl)))
local macro_rules | `(tactic| walk_at "rd") => `(tactic| repeat walk_at "rd1")
abbrev sAns : Stmt := topA i_law_answer
structure AnsAt (K : PySem.W.Frag) (H : Hp) (v : V) (o : Option Nat) (nd : Option (Nat × Str)) (us : List Look) : Prop where
  ex : ∃ A nv L lv, v = .ref A ∧ H A = some (.lst [optV o, nv, .ref L]) ∧ NeedAt K H nd nv ∧ LL H L lv us
def spAns (K : PySem.W.Frag) (c : Cs) (n : Nat) : Sp := fun vs H Q _ => ∃ (f : Fm) (v : V) (l : List V) (M : Nat) (R : RowsF) (rd du dh dd : Addr), vs = [natV M, v, .ref rd] ∧ FmAt K c H f v l ∧ Okf f ∧ f.ht ≤ n ∧ f.q.1 ≤ 900 ∧ 0 < M ∧ Rws H rd R du dh dd ∧
  ∀ H' v', Same H H' → AnsAt K H' v' (wv M R f) (nd M R f) (lk M R f 0) → Q v' H'
theorem LL.same {H H' : Hp} (s : Same H H') {L : Addr} {lv : List V} {us : List Look} (h : LL H L lv us) : LL H' L lv us := ⟨s _ _ h.l, h.at_.same s⟩
theorem rows_get {H : Hp} {rd : Addr} {R : RowsF} {du dh dd : Addr} (h : Rws H rd R du dh dd) : DGet H rd (.str "up") (some (.ref du)) ∧ DGet H rd (.str "here") (some (.ref dh)) ∧ DGet H rd (.str "down") (some (.ref dd)) :=
  ⟨DGet.k (k := .inr "up") h.rd, DGet.k (k := .inr "here") h.rd, DGet.k (k := .inr "down") h.rd⟩
section
variable {P : Program} {w : World} {K : PySem.W.Frag} {mg : Str → Option Value} {base : Heap} {c : Cs} {f fO fN fM : Addr} {fd fdO fdN fdM : FuncData}
abbrev psAn : List Str := ["_law_base", "_law_made", "_law_rows_here"]
theorem scAns : FnScope ["_law_base", "_law_made", "_law_rows_here", "_law_told"] psAn (defScope sAns) := ⟨rfl, rfl, rfl, by decide +kernel, rfl, by decide +kernel, by decide +kernel⟩
theorem ok_ans (F : FnP K "_law_answer" sAns f fd) (T : Cl K c) (n : Nat) (GO : FnOk P w K mg base CX0 (n + 4) fO fdO psA (spWO K c n)) (bO : Binds K fdO psA []) (mO : ∀ g, Meth K (clsOf c g) "work_out" fO)
    (GN : FnOk P w K mg base CX0 (n + 4) fN fdN psA (spNeed K c n)) (bN : Binds K fdN psA []) (mN : ∀ g, Meth K (clsOf c g) "need" fN) (GM : FnOk P w K mg base CX0 (n + 4) fM fdM psA (spMet K c n)) (bM : Binds K fdM psA []) (mM : ∀ g, Meth K (clsOf c g) "met" fM) :
    FnOk P w K mg base CX0 (n + 5) f fd psAn (spAns K c n) := by
  refine F.ok scAns (fun vs H Q E h => ?_) (fun cdv A outer s H vs Q E hr h => ?_)
  · obtain ⟨g, v, l, M, R, rd, du, dh, dd, rfl, _⟩ := h
    rfl
  · obtain ⟨g, v, l, M, R, rd, du, dh, dd, rfl, hf, og, ht, few, hM, rw_, q⟩ := h
    have hu := hu_of hr
    have nd := scAns.nd
    refine ⟨_, PSs.nox (pss_cons (ps_set (i := 3) nd rfl (Or.inl rfl) (pe_lst (pa_cons (pe_methI (ι := Fm) (C := clsOf c) (f := fun _ => fO) (fd := fun _ => fdO) (sp := fun _ => spWO K c n) (pv 1) (fun i => (T.at_ i).cl) mO (fun _ => GO) hr (fun _ => bO) .nil pass0 (pa_cons (pv 0) (pa_cons (pe_dget hu (pv 2) pe_str (fun _ _ => rfl)) (pa_cons (pe_dget hu (pv 2) pe_str (fun _ _ => rfl)) (pa_cons (pe_dget hu (pv 2) pe_str (fun _ _ => rfl)) pa_nil))))) pa_nil)))
      (pss_cons (ps_expr (pe_bm PySem.F.plainAttrs_list PySem.F.slot_list_append PySem.F.type_list_append mt_append (pv 3) (pa_cons (pe_methI (ι := Fm) (C := clsOf c) (f := fun _ => fN) (fd := fun _ => fdN) (sp := fun _ => spNeed K c n) (pv 1) (fun i => (T.at_ i).cl) mN (fun _ => GN) hr (fun _ => bN) .nil pass0 (pa_cons (pv 0) (pa_cons (pe_dget hu (pv 2) pe_str (fun _ _ => rfl)) (pa_cons (pe_dget hu (pv 2) pe_str (fun _ _ => rfl)) (pa_cons (pe_dget hu (pv 2) pe_str (fun _ _ => rfl)) pa_nil))))) pa_nil)))
      (pss_one (ps_ret (pe_op op_cat (pv 3) (pe_lst (pa_cons (pe_methI (ι := Fm) (C := clsOf c) (f := fun _ => fM) (fd := fun _ => fdM) (sp := fun _ => spMet K c n) (pv 1) (fun i => (T.at_ i).cl) mM (fun _ => GM) hr (fun _ => bM) .nil pass0 (pa_cons (pv 0) (pa_cons (pe_dget hu (pv 2) pe_str (fun _ _ => rfl)) (pa_cons (pe_dget hu (pv 2) pe_str (fun _ _ => rfl)) (pa_cons (pe_dget hu (pv 2) pe_str (fun _ _ => rfl)) pa_nil))))) pa_nil))))))), ?_⟩
    obtain ⟨a, dx, fs, g1, p1, r, rfl, el, ha, b1⟩ := id hf.obj
    have rest : ∀ {σ : L2.St} {H0 : Hp} {Q' : VK} {x : Str} {d : Addr}, σ[2]? = some (some (V.ref rd)) → DGet H0 rd (.str x) (some (.ref d)) → Q' (.ref d) H0 → tDGet (tVar 2) (tC (.str x)) σ H0 Q' := fun {σ H0 Q' x d} e g q => ⟨_, e, rd, _, rfl, g, q⟩
    walk_at "rd"
    have ask : ∀ {H0 : Hp}, Same H H0 → Ask K c H0 [.ref a, natV M, .ref du, .ref dh, .ref dd] g n M R := fun {H0} s => ⟨⟨.ref a, l, du, dh, dd, rfl, hf.kp (kp_same s), (rw_.same s).u, (rw_.same s).h, (rw_.same s).d⟩, og, ht, few, hM⟩
    refine ⟨g, a, dx, fs, rfl, ha, b1.meth "work_out", ?_⟩
    walk_at "rd"
    obtain ⟨u1, u2, u3⟩ := rows_get rw_
    refine rest rfl u1 ?_
    refine Rd.cons ?_
    refine rest rfl u2 ?_
    refine Rd.cons ?_
    refine rest rfl u3 ?_
    walk_at "rd"
    refine ⟨g, M, R, ask (Same.refl _), fun H1 s1 => ?_⟩
    walk_at "rd"
    refine ⟨Rd.small (by show 1 ≤ 100000; decide), fun A nA => ?_⟩
    have sA := same_new (o := HO.lst ([optV (wv M R g)])) nA
    have tA := upd_same (H := H1) (a := A) (o := HO.lst ([optV (wv M R g)]))
    generalize upd H1 A (HO.lst ([optV (wv M R g)])) = H2 at sA tA ⊢
    walk_at "rd"
    refine ⟨.inl ⟨rfl, _, SqL.of tA⟩, ?_⟩
    walk_at "rd"
    have s2 := s1.trans sA
    refine ⟨g, a, dx, fs, rfl, s2 _ _ ha, b1.meth "need", ?_⟩
    walk_at "rd"
    obtain ⟨u1, u2, u3⟩ := rows_get (rw_.same s2)
    refine rest rfl u1 ?_
    refine Rd.cons ?_
    refine rest rfl u2 ?_
    refine Rd.cons ?_
    refine rest rfl u3 ?_
    walk_at "rd"
    refine ⟨g, M, R, ask s2, fun H3 nv s3 hnv => ?_⟩
    walk_at "rd"
    refine ⟨A, _, _, rfl, rfl, s3 _ _ tA, Nat.lt_of_lt_of_le (show 1 < 100000 by decide) (by decide), ?_⟩
    walk_at "rd"
    have s4 : Same H (upd H3 A (.lst ([optV (wv M R g)] ++ [nv]))) := fun b o e => by
      rw [upd_ne (ne_of_none e (s1.free nA))]
      exact s3 _ _ (s2 _ _ e)
    have b4 : But A H3 (upd H3 A (.lst ([optV (wv M R g)] ++ [nv]))) := But.set
    have t4 := upd_same (H := H3) (a := A) (o := HO.lst ([optV (wv M R g)] ++ [nv]))
    generalize upd H3 A (.lst ([optV (wv M R g)] ++ [nv])) = H4 at s4 b4 t4 ⊢
    have hnv4 : NeedAt K H4 (_root_.K17.nd M R g) nv := by
      cases e : _root_.K17.nd M R g with
      | none => rw [e] at hnv; exact hnv
      | some x =>
        rw [e] at hnv
        obtain ⟨t, e2, h⟩ := hnv
        exact ⟨t, e2, sqt_butL (s3 _ _ tA) b4 h⟩
    refine ⟨g, a, dx, fs, rfl, s4 _ _ ha, b1.meth "met", ?_⟩
    walk_at "rd"
    obtain ⟨u1, u2, u3⟩ := rows_get (rw_.same s4)
    refine rest rfl u1 ?_
    refine Rd.cons ?_
    refine rest rfl u2 ?_
    refine Rd.cons ?_
    refine rest rfl u3 ?_
    walk_at "rd"
    refine ⟨g, M, R, ask s4, fun H5 L lv s5 nL ll => ?_⟩
    walk_at "rd"
    refine ⟨Rd.small (by show 1 ≤ 100000; decide), fun B nB => ?_⟩
    have sB := same_new (o := HO.lst ([V.ref L])) nB
    have tB := upd_same (H := H5) (a := B) (o := HO.lst ([V.ref L]))
    generalize upd H5 B (HO.lst ([V.ref L])) = H6 at sB tB ⊢
    refine ⟨A, B, _, _, rfl, rfl, sB _ _ (s5 _ _ t4), tB, Rd.small (by show 3 ≤ 100000; decide), fun D nD => ?_⟩
    have s7 := same_new (o := HO.lst ([optV (wv M R g)] ++ [nv] ++ [V.ref L])) nD
    refine q _ _ (s4.trans (s5.trans (sB.trans s7))) ⟨D, nv, L, lv, rfl, upd_same, hnv4.same (s5.trans (sB.trans s7)), ll.same (sB.trans s7)⟩
end
end K17

/-! What a formula looks at where a reference is replaced by one to nothing. -/
namespace K17
open PySem PySem.Spec PyProof.Rows L2
def voidF : Fm := .ref 0 "void"
def isRef : Fm → Bool
  | .ref _ _ => true
  | _ => false
theorem lk_range {M : Nat} {R : RowsF} : ∀ {f : Fm} {N : Nat} {x : Look}, x ∈ lk M R f N → N ≤ x.1 ∧ x.1 < N + f.q.1
  | .num n, N, x, h => absurd h List.not_mem_nil
  | .ref w y, N, x, h => by
    rw [List.mem_singleton.mp h]
    exact ⟨Nat.le_refl _, Nat.lt_succ_self _⟩
  | .pair o l r, N, x, h => by
    rw [q_pair]
    rcases List.mem_append.mp h with h | h
    · have := lk_range h
      omega
    · cases e : wv M R l with
      | none => rw [e] at h; exact absurd h List.not_mem_nil
      | some y =>
        rw [e] at h
        have := lk_range h
        omega
  | .cho t s a b, N, x, h => by
    rw [q_cho]
    rcases List.mem_append.mp h with h | h
    · have := lk_range h
      omega
    · cases e : wv M R t with
      | none => rw [e] at h; exact absurd h List.not_mem_nil
      | some y =>
        rw [e] at h
        dsimp only at h
        split at h
        · have := lk_range h
          omega
        · have := lk_range h
          omega
def cutB (m : Nat) (us : List Look) : List Look := us.takeWhile fun x => x.1 != m
theorem cut_hit {m : Nat} : ∀ {us vs : List Look}, (∃ x ∈ us, x.1 = m) → cutB m (us ++ vs) = cutB m us
  | [], _, ⟨x, h, _⟩ => absurd h List.not_mem_nil
  | u :: us, vs, ⟨x, h, e⟩ => by
    unfold cutB
    rw [List.cons_append, List.takeWhile_cons, List.takeWhile_cons]
    by_cases hu : u.1 = m
    · rw [show (u.1 != m) = false from by rw [hu]; simp]
      rfl
    · rw [show (u.1 != m) = true from by simp [hu]]
      have h2 : x ∈ us := by
        rcases List.mem_cons.mp h with rfl | h
        · exact absurd e hu
        · exact h
      have z := cut_hit (vs := vs) ⟨x, h2, e⟩
      unfold cutB at z
      simp only [if_true]
      rw [z]
theorem cut_miss {m : Nat} : ∀ {us vs : List Look}, (∀ x ∈ us, x.1 ≠ m) → cutB m (us ++ vs) = us ++ cutB m vs
  | [], _, _ => rfl
  | u :: us, vs, h => by
    have hu := h u List.mem_cons_self
    have z := cut_miss (vs := vs) fun x hx => h x (List.mem_cons_of_mem _ hx)
    unfold cutB at z ⊢
    rw [List.cons_append, List.takeWhile_cons, show (u.1 != m) = true from by simp [hu]]
    simp only [if_true]
    rw [z, List.cons_append]
structure PutR (M : Nat) (R : RowsF) (f f' : Fm) (m N : Nat) : Prop where
  hit : (∃ x ∈ lk M R f N, x.1 = m) → wv M R f' = none ∧ nd M R f' = some (0, ("void" : Str)) ∧ lk M R f' N = cutB m (lk M R f N) ++ [(m, 0, ("void" : Str))]
  miss : (∀ x ∈ lk M R f N, x.1 ≠ m) → wv M R f' = wv M R f ∧ nd M R f' = nd M R f ∧ lk M R f' N = lk M R f N
theorem PutR.or {M : Nat} {R : RowsF} {f f' : Fm} {m N : Nat} (h : PutR M R f f' m N) : ((∃ x ∈ lk M R f N, x.1 = m) ∧ wv M R f' = none ∧ nd M R f' = some (0, ("void" : Str)) ∧ lk M R f' N = cutB m (lk M R f N) ++ [(m, 0, ("void" : Str))]) ∨
    ((∀ x ∈ lk M R f N, x.1 ≠ m) ∧ wv M R f' = wv M R f ∧ nd M R f' = nd M R f ∧ lk M R f' N = lk M R f N) := by
  by_cases g : ∃ x ∈ lk M R f N, x.1 = m
  · exact .inl ⟨g, h.hit g⟩
  · have g2 : ∀ x ∈ lk M R f N, x.1 ≠ m := fun x hx e => g ⟨x, hx, e⟩
    exact .inr ⟨g2, h.miss g2⟩
theorem putR_of {M : Nat} {R : RowsF} {f f' : Fm} {m N : Nat} (h : ((∃ x ∈ lk M R f N, x.1 = m) ∧ wv M R f' = none ∧ nd M R f' = some (0, ("void" : Str)) ∧ lk M R f' N = cutB m (lk M R f N) ++ [(m, 0, ("void" : Str))]) ∨
    ((∀ x ∈ lk M R f N, x.1 ≠ m) ∧ wv M R f' = wv M R f ∧ nd M R f' = nd M R f ∧ lk M R f' N = lk M R f N)) : PutR M R f f' m N := by
  rcases h with ⟨⟨x, hx, e⟩, h⟩ | ⟨h0, h⟩
  · exact ⟨fun _ => h, fun z => absurd e (z x hx)⟩
  · exact ⟨fun ⟨x, hx, e⟩ => absurd e (h0 x hx), fun _ => h⟩
theorem at_zero (f : Fm) : f.at 0 = f := by cases f <;> rfl
theorem put_q1 {l : Fm} {j : Nat} (hl : j < l.q.1) (h : isRef (l.at j) = true) : (l.put j voidF).q.1 = l.q.1 := by
  have z := put_q l j voidF hl
  have z1 : (l.at j).q.1 = 1 := by
    cases e : l.at j with
    | ref w x => rfl
    | num n => rw [e] at h; cases h
    | pair o a b => rw [e] at h; cases h
    | cho t s a b => rw [e] at h; cases h
  have z2 : voidF.q.1 = 1 := rfl
  omega
theorem put_lk {M : Nat} {R : RowsF} (hR : R 0 "void" = none) : ∀ (f : Fm) (j N : Nat), j < f.q.1 → isRef (f.at j) = true → PutR M R f (f.put j voidF) (N + j) N
  | .num n, 0, N, _, h => by cases h
  | .num n, j + 1, N, hj, _ => absurd hj (by show ¬ j + 1 < 1; omega)
  | .ref w x, 0, N, _, _ => by
    refine putR_of (.inl ⟨⟨(N, w, x), List.mem_singleton.mpr rfl, rfl⟩, hR, ?_, ?_⟩)
    · show (match R 0 "void" with
        | none => some (0, ("void" : Str))
        | some _ => none) = _
      rw [hR]
    · show [(N, 0, ("void" : Str))] = _
      unfold cutB lk
      rw [List.takeWhile_cons, show (N != N + 0) = false from by simp]
      rfl
  | .ref w x, j + 1, N, hj, _ => absurd hj (by show ¬ j + 1 < 1; omega)
  | .pair o l r, 0, N, _, h => by cases h
  | .pair o l r, j + 1, N, hj, h => by
    rw [q_pair] at hj
    have ej : N + (j + 1) = (N + 1) + j := by omega
    unfold Fm.at at h
    unfold Fm.put
    by_cases hl : j < l.q.1
    · rw [if_pos hl] at h ⊢
      have ih := put_lk (M := M) hR l j (N + 1) hl h
      rw [ej]
      refine putR_of ?_
      rcases ih.or with ⟨g, e1, e2, e3⟩ | ⟨g, e1, e2, e3⟩
      · refine .inl ⟨let ⟨x, hx, e⟩ := g; ⟨x, List.mem_append_left _ hx, e⟩, ?_, ?_, ?_⟩
        · simp only [wv, e1]
        · simp only [nd, e1, e2]
        · simp only [lk, e1, e3, List.append_nil]
          rw [cut_hit g]
      · refine .inr ⟨fun x hx => ?_, ?_, ?_, ?_⟩
        · rcases List.mem_append.mp hx with hx | hx
          · exact g x hx
          · cases e : wv M R l with
            | none => rw [e] at hx; exact absurd hx List.not_mem_nil
            | some y =>
              rw [e] at hx
              have := lk_range hx
              omega
        · simp only [wv, e1]
        · simp only [nd, e1, e2]
        · have eq := put_q1 hl h
          simp only [lk, e1, e3, eq]
    · rw [if_neg hl] at h ⊢
      have ih := put_lk (M := M) hR r (j - l.q.1) (N + 1 + l.q.1) (by omega) h
      rw [show N + 1 + l.q.1 + (j - l.q.1) = N + (j + 1) by omega] at ih
      have no : ∀ x ∈ lk M R l (N + 1), x.1 ≠ N + (j + 1) := fun x hx => by
        have := lk_range hx
        omega
      refine putR_of ?_
      cases e : wv M R l with
      | none =>
        refine .inr ⟨fun x hx => ?_, ?_, ?_, ?_⟩
        · simp only [lk, e, List.append_nil] at hx
          exact no x hx
        · simp only [wv, e]
        · simp only [nd, e]
        · simp only [lk, e]
      | some y =>
        rcases ih.or with ⟨g, e1, e2, e3⟩ | ⟨g, e1, e2, e3⟩
        · refine .inl ⟨?_, ?_, ?_, ?_⟩
          · obtain ⟨x, hx, ex⟩ := g
            exact ⟨x, by simp only [lk, e]; exact List.mem_append_right _ hx, ex⟩
          · simp only [wv, e, e1]
          · simp only [nd, e, e2]
          · simp only [lk, e, e3]
            rw [cut_miss no, List.append_assoc]
        · refine .inr ⟨fun x hx => ?_, ?_, ?_, ?_⟩
          · simp only [lk, e] at hx
            rcases List.mem_append.mp hx with hx | hx
            · exact no x hx
            · exact g x hx
          · simp only [wv, e, e1]
          · simp only [nd, e, e2]
          · simp only [lk, e, e3]
  | .cho t s a b, 0, N, _, h => by cases h
  | .cho t s a b, j + 1, N, hj, h => by
    rw [q_cho] at hj
    have ej : N + (j + 1) = (N + 1) + j := by omega
    unfold Fm.at at h
    unfold Fm.put
    by_cases hl : j < t.q.1
    · rw [if_pos hl] at h ⊢
      have ih := put_lk (M := M) hR t j (N + 1) hl h
      rw [ej]
      refine putR_of ?_
      rcases ih.or with ⟨g, e1, e2, e3⟩ | ⟨g, e1, e2, e3⟩
      · refine .inl ⟨let ⟨x, hx, e⟩ := g; ⟨x, List.mem_append_left _ hx, e⟩, ?_, ?_, ?_⟩
        · simp only [wv, e1]
        · simp only [nd, e1, e2]
        · simp only [lk, e1, e3, List.append_nil]
          rw [cut_hit g]
      · refine .inr ⟨fun x hx => ?_, ?_, ?_, ?_⟩
        · rcases List.mem_append.mp hx with hx | hx
          · exact g x hx
          · cases e : wv M R t with
            | none => rw [e] at hx; exact absurd hx List.not_mem_nil
            | some y =>
              rw [e] at hx
              dsimp only at hx
              split at hx
              · have := lk_range hx
                omega
              · have := lk_range hx
                omega
        · simp only [wv, e1]
        · simp only [nd, e1, e2]
        · have eq := put_q1 hl h
          simp only [lk, e1, e3, eq]
    · rw [if_neg hl] at h ⊢
      have no : ∀ x ∈ lk M R t (N + 1), x.1 ≠ N + (j + 1) := fun x hx => by
        have := lk_range hx
        omega
      by_cases ha : j - t.q.1 < a.q.1
      · rw [if_pos ha] at h ⊢
        have ih := put_lk (M := M) hR a (j - t.q.1) (N + 1 + t.q.1) ha h
        rw [show N + 1 + t.q.1 + (j - t.q.1) = N + (j + 1) by omega] at ih
        have eq := put_q1 ha h
        refine putR_of ?_
        cases e : wv M R t with
        | none =>
          refine .inr ⟨fun x hx => ?_, ?_, ?_, ?_⟩
          · simp only [lk, e, List.append_nil] at hx
            exact no x hx
          · simp only [wv, e]
          · simp only [nd, e]
          · simp only [lk, e]
        | some y =>
          by_cases hm : y ∈ s
          · rcases ih.or with ⟨g, e1, e2, e3⟩ | ⟨g, e1, e2, e3⟩
            · refine .inl ⟨?_, ?_, ?_, ?_⟩
              · obtain ⟨x, hx, ex⟩ := g
                exact ⟨x, by simp only [lk, e, if_pos hm]; exact List.mem_append_right _ hx, ex⟩
              · simp only [wv, e, if_pos hm, e1]
              · simp only [nd, e, if_pos hm, e2]
              · simp only [lk, e, if_pos hm, e3]
                rw [cut_miss no, List.append_assoc]
            · refine .inr ⟨fun x hx => ?_, ?_, ?_, ?_⟩
              · simp only [lk, e, if_pos hm] at hx
                rcases List.mem_append.mp hx with hx | hx
                · exact no x hx
                · exact g x hx
              · simp only [wv, e, if_pos hm, e1]
              · simp only [nd, e, if_pos hm, e2]
              · simp only [lk, e, if_pos hm, e3]
          · refine .inr ⟨fun x hx => ?_, ?_, ?_, ?_⟩
            · simp only [lk, e, if_neg hm] at hx
              rcases List.mem_append.mp hx with hx | hx
              · exact no x hx
              · have := lk_range hx
                omega
            · simp only [wv, e, if_neg hm]
            · simp only [nd, e, if_neg hm]
            · simp only [lk, e, if_neg hm, eq]
      · rw [if_neg ha] at h ⊢
        have ih := put_lk (M := M) hR b (j - t.q.1 - a.q.1) (N + 1 + t.q.1 + a.q.1) (by omega) h
        rw [show N + 1 + t.q.1 + a.q.1 + (j - t.q.1 - a.q.1) = N + (j + 1) by omega] at ih
        refine putR_of ?_
        cases e : wv M R t with
        | none =>
          refine .inr ⟨fun x hx => ?_, ?_, ?_, ?_⟩
          · simp only [lk, e, List.append_nil] at hx
            exact no x hx
          · simp only [wv, e]
          · simp only [nd, e]
          · simp only [lk, e]
        | some y =>
          by_cases hm : y ∈ s
          · refine .inr ⟨fun x hx => ?_, ?_, ?_, ?_⟩
            · simp only [lk, e, if_pos hm] at hx
              rcases List.mem_append.mp hx with hx | hx
              · exact no x hx
              · have := lk_range hx
                omega
            · simp only [wv, e, if_pos hm]
            · simp only [nd, e, if_pos hm]
            · simp only [lk, e, if_pos hm]
          · rcases ih.or with ⟨g, e1, e2, e3⟩ | ⟨g, e1, e2, e3⟩
            · refine .inl ⟨?_, ?_, ?_, ?_⟩
              · obtain ⟨x, hx, ex⟩ := g
                exact ⟨x, by simp only [lk, e, if_neg hm]; exact List.mem_append_right _ hx, ex⟩
              · simp only [wv, e, if_neg hm, e1]
              · simp only [nd, e, if_neg hm, e2]
              · simp only [lk, e, if_neg hm, e3]
                rw [cut_miss no, List.append_assoc]
            · refine .inr ⟨fun x hx => ?_, ?_, ?_, ?_⟩
              · simp only [lk, e, if_neg hm] at hx
                rcases List.mem_append.mp hx with hx | hx
                · exact no x hx
                · exact g x hx
              · simp only [wv, e, if_neg hm, e1]
              · simp only [nd, e, if_neg hm, e2]
              · simp only [lk, e, if_neg hm, e3]
end K17

namespace K17
open PySem PySem.Spec PyProof.Rows L2
local macro_rules | `(tactic| walk_at "rd1") => `(tactic| first
  | (with_reducible refine Rd.seq ?_) | (with_reducible refine Rd.asg ?_) | (with_reducible refine Rd.ret ?_) | (with_reducible refine Rd.nxt ?_) | (with_reducible refine Rd.ifS ?_)
  | (with_reducible refine Rd.op ?_) | (with_reducible refine Rd.un ?_) | (with_reducible refine Rd.cb ?_) | (with_reducible refine Rd.cons ?_) | (with_reducible refine Rd.nil ?_) | (with_reducible refine Rd.ifx ?_)
  | (with_reducible refine Rd.test ?_) | (with_reducible refine Rd.testB ?_) | (with_reducible refine Rd.notT ?_) | (with_reducible refine Rd.isB ?_) | (with_reducible refine Rd.lst ?_) | (with_reducible refine Rd.tup ?_)
  | (with_reducible refine Rd.andV ?_) | (with_reducible refine Rd.orV ?_) | (with_reducible refine Rd.notV ?_) | (with_reducible refine Rd.andT ?_) | (with_reducible refine Rd.orT ?_) | (with_reducible refine Rd.chain ?_)
  | (with_reducible refine Rd.m0 ?_) | (with_reducible refine Rd.m1 ?_) | (with_reducible refine Rd.bm0 ?_) | (with_reducible refine Rd.bm ?_) | (with_reducible refine Rd.sl ?_) | (with_reducible refine Rd.part ?_) | (with_reducible refine Rd.part0 ?_) | (with_reducible refine Rd.isI ?_)
  | (with_reducible refine Rd.fmt ?_) | (with_reducible refine Rd.fmtRD ?_) | (with_reducible refine Rd.meth ?_) | (with_reducible refine makeG ?_) | (with_reducible refine Rd.prop ?_) | (with_reducible refine Rd.js ?_) | (with_reducible refine Rd.js0 ?_) | (with_reducible refine Rd.par ?_) | (with_reducible refine Rd.star ?_) | (with_reducible refine lcR1 ?_) | (with_reducible refine lcR2 ?_) | (with_reducible refine Rd.fld ?_) | (with_reducible refine Rd.sfld ?_) | (with_reducible refine Rd.expr ?_) | (with_reducible refine L2.isNR ?_) | (with_reducible refine L2.methI ?_) | (with_reducible refine Rd.forZ ?_)
  | (with_reducible refine Rd.forEA ?_) | (with_reducible refine Rd.forR1 ?_) | (with_reducible refine Rd.forR2 ?_) | (with_reducible refine Rd.forL ?_) | (with_reducible refine Rd.forT ?_)
  | (with_reducible refine Rd.call ?_) | (with_reducible refine Rd.asgG ?_) | (with_reducible refine Rd.gNm ?_) | (with_reducible refine Rd.gSb ?_) | (with_reducible refine Rd.gC ?_) | (with_reducible refine Rd.gN ?_)
  | ((with_reducible refine' Rd.var ?hv ?_); (case hv => exact rfl)) | (with_reducible refine Rd.c ?_) | (with_reducible refine Rd.i0 ?_) | (with_reducible refine Rd.neg ?_)
  | ((with_reducible refine' Rd.iC ?hc ?_); (case hc => first | (show (0 : Int) < _; decide) | exact ⟨by decide, by decide⟩ | exact ⟨by decide, by decide, by decide⟩ | exact .inl ⟨by decide, by decide⟩ | exact .inr ⟨by decide, by decide⟩ | exact .inl ⟨by omega, by omega⟩ | (show (0 : Int) < _; omega) | exact ⟨by omega, by omega⟩))
  | ((with_reducible refine' Rd.eqS ?hc ?_); (case hc => rfl)) | ((with_reducible refine' Rd.neS ?hc ?_); (case hc => rfl)))
local macro_rules | `(tactic| walk_at "rd") => `(tactic| repeat walk_at "rd1")
theorem dep : ∀ f : Fm, 2 * f.q.2 + 1 ≤ f.q.1
  | .num _ => by show 2 * 0 + 1 ≤ 1; decide
  | .ref _ _ => by show 2 * 0 + 1 ≤ 1; decide
  | .pair o l r => by
    have h1 := dep l
    have h2 := dep r
    have e : (Fm.pair o l r).q.2 = fmD [l.q, r.q] := rfl
    rw [q_pair, e]
    unfold fmD
    simp only [List.foldl]
    split <;> split at * <;> omega
  | .cho t s a b => by
    have h1 := dep t
    have h2 := dep a
    have h3 := dep b
    have e : (Fm.cho t s a b).q.2 = fmD [t.q, a.q, b.q] := rfl
    rw [q_cho, e]
    unfold fmD
    simp only [List.foldl]
    repeat' split
    all_goals omega
theorem up_of {s : List Nat} (h : s.Pairwise (· < ·)) (lt : ∀ n ∈ s, n < 9) : Asc s := by
  have go : ∀ (i n : Nat), s[i]? = some n → i ≤ n := by
    intro i
    induction i with
    | zero => intro n _; exact Nat.zero_le _
    | succ i ih =>
      intro n e
      have hi : i + 1 < s.length := (List.getElem?_eq_some_iff.mp e).1
      have e0 : s[i]? = some s[i] := List.getElem?_eq_getElem (by omega)
      have h1 := ih _ e0
      have h2 : s[i] < s[i + 1] := List.pairwise_iff_getElem.mp h i (i + 1) (by omega) hi (by omega)
      have h3 : s[i + 1] = n := by rw [List.getElem?_eq_getElem hi] at e; exact Option.some.inj e
      omega
  refine ⟨fun i n e => ⟨?_, by have := lt n (List.mem_of_getElem? e); omega⟩, ?_⟩
  · cases i with
    | zero => exact Nat.zero_le _
    | succ i =>
      have hi : i + 1 < s.length := (List.getElem?_eq_some_iff.mp e).1
      have h2 : s[i] < s[i + 1] := List.pairwise_iff_getElem.mp h i (i + 1) (by omega) hi (by omega)
      have h3 : s[i + 1] = n := by rw [List.getElem?_eq_getElem hi] at e; exact Option.some.inj e
      show s.getD i 0 + 1 ≤ n
      rw [List.getD_eq_getElem?_getD, List.getElem?_eq_getElem (by omega)]
      show s[i] + 1 ≤ n
      omega
  · refine Nat.le_of_not_lt fun h9 => ?_
    have e : s[9]? = some s[9] := List.getElem?_eq_getElem h9
    have := go 9 _ e
    have := lt _ (List.mem_of_getElem? e)
    omega
theorem ht_le : ∀ f : Fm, f.ht ≤ f.q.1
  | .num _ => Nat.le_refl 1
  | .ref _ _ => Nat.le_refl 1
  | .pair o l r => by
    have h1 := ht_le l
    have h2 := ht_le r
    have := q_pos l
    have := q_pos r
    rw [q_pair]
    show max l.ht r.ht + 1 ≤ _
    omega
  | .cho t s a b => by
    have h1 := ht_le t
    have h2 := ht_le a
    have h3 := ht_le b
    have := q_pos t
    have := q_pos a
    have := q_pos b
    rw [q_cho]
    show max t.ht (max a.ht b.ht) + 1 ≤ _
    omega
theorem fits_of {f : Fm} (h : f.q.1 ≤ 17) : Fits f := ⟨by omega, by have := dep f; omega⟩
theorem tupRg_ {te : L2.St → Hp → (Int → Int → Hp → Prop) → Prop} {σ : L2.St} {H : Hp} {Q : VK} (h : te σ H fun a b H1 => RgOk a b ∧ ∀ q, H1 q = none → Q (.ref q) (upd H1 q (.tup (rgV a b)))) : tTupRg te σ H Q := h
theorem rg_nat (M : Nat) : rgV 0 (M : Nat) = (List.range M).map natV := by
  unfold rgV
  rw [show (((M : Nat) : Int) - 0).toNat = M by omega]
  refine List.map_congr_left fun i _ => ?_
  show V.int (0 + (i : Int)) = V.int (i : Nat)
  rw [Int.zero_add]
theorem asc_range {M : Nat} (h : M ≤ 9) : Asc (List.range M) := up_of (List.pairwise_lt_range) fun n hn => by
  have := List.mem_range.mp hn
  omega
abbrev sWrap : Stmt := topA i_law_wrapped
abbrev psWr : List Str := ["_law_pot_here", "_law_base", "_law_part_here", "_law_sure", "_law_never"]
abbrev nmsWr : List Str := ["_law_pot_here", "_law_base", "_law_part_here", "_law_sure", "_law_never", "_law_every", "_law_some"]
def spWrap (K : PySem.W.Frag) : Sp := fun vs H Q _ => ∃ (p : Addr) (M : Nat) (f : Fm) (v : V) (x y : Str), vs = [.ref p, natV M, v, .str x, .str y] ∧ PotAt H p ∧ TpAt K H f v ∧ Okf f ∧ f.q.1 ≤ 7 ∧ 0 < M ∧ M ≤ 9 ∧ Nam x ∧ Nam y ∧
  ∀ f' v' H', PotAt H' p → But p H H' → TpAt K H' f' v' → Okf f' → f'.q.1 ≤ 17 → Q v' H'
section
variable {P : Program} {w : World} {K : PySem.W.Frag} {mg : Str → Option Value} {base : Heap} {f fP : Addr} {fd fdP : FuncData}
theorem scWrap : FnScope nmsWr psWr (defScope sWrap) := ⟨rfl, rfl, rfl, by decide +kernel, rfl, by decide +kernel, by decide +kernel⟩
theorem ok_wrap (F : FnP K "_law_wrapped" sWrap f fd) (FP : FnP K "_law_pick" sPick fP fdP) (GP : FnOk P w K mg base CX0 2 fP fdP ["_law_pot_here", "_law_some"] (spPick K)) (gP : mg "_law_pick" = some (.ref fP)) (gTuple : mg "tuple" = none) (gRange : mg "range" = none) : FnOk P w K mg base CX0 3 f fd psWr (spWrap K) := by
  have bP : Binds K fdP ["_law_pot_here", "_law_some"] [] := FP.bindsN fun _ _ _ _ _ _ us hl => match us, hl with | [_, _], _ => rfl
  refine F.ok scWrap (fun vs H Q E h => ?_) (fun cdv A outer s H vs Q E hr h => ?_)
  · obtain ⟨p, M, g, v, x, y, rfl, _⟩ := h
    rfl
  · obtain ⟨p, M, g, v, x, y, rfl, hp, tp, og, few, hM, hM9, nx, ny, q⟩ := h
    have nd := scWrap.nd
    refine ⟨_, PSs.nox (pss_cons (ps_set (i := 5) nd rfl (Or.inl rfl) (pe_tupRg rfl rfl gTuple (prg_1 rfl gRange (pv 1))))
        (pss_cons (ps_set (i := 6) nd rfl (Or.inl rfl) (pe_lst (pa_cons (pv 2) (pa_cons (pe_tup (pa_cons pe_str (pa_cons (pe_tup (pa_cons pe_str (pa_cons pe_int pa_nil))) (pa_cons (pv 2) pa_nil)))) (pa_cons (pe_tup (pa_cons pe_str (pa_cons (pe_tup (pa_cons pe_str (pa_cons (pe_op op_sub (pv 1) pe_int) pa_nil))) (pa_cons (pv 2) pa_nil)))) (pa_cons (pe_tup (pa_cons pe_str (pa_cons (pv 2) (pa_cons (pv 2) pa_nil)))) pa_nil))))))
        (pss_cons (ps_set (i := 6) nd rfl (Or.inl rfl) (pe_op op_cat (pv 6) (pe_lst (pa_cons (pe_tup (pa_cons pe_str (pa_cons (pv 2) (pa_cons (pe_tup pa_nil) (pa_cons (pe_tup (pa_cons pe_str (pa_cons (pv 4) pa_nil))) (pa_cons (pe_tup (pa_cons pe_str (pa_cons pe_int pa_nil))) pa_nil)))))) (pa_cons (pe_tup (pa_cons pe_str (pa_cons (pv 2) (pa_cons (pv 5) (pa_cons (pv 2) (pa_cons (pe_tup (pa_cons pe_str (pa_cons (pv 4) pa_nil))) pa_nil)))))) pa_nil)))))
        (pss_cons (ps_set (i := 6) nd rfl (Or.inl rfl) (pe_op op_cat (pv 6) (pe_lst (pa_cons (pe_tup (pa_cons pe_str (pa_cons (pe_tup (pa_cons pe_str (pa_cons (pv 3) pa_nil))) (pa_cons (pv 5) (pa_cons (pv 2) (pa_cons (pe_tup (pa_cons pe_str (pa_cons (pv 4) pa_nil))) pa_nil)))))) pa_nil))))
        (pss_cons (ps_set (i := 6) nd rfl (Or.inl rfl) (pe_op op_cat (pv 6) (pe_lst (pa_cons (pe_tup (pa_cons pe_str (pa_cons (pe_tup (pa_cons pe_str (pa_cons (pv 3) pa_nil))) (pa_cons (pe_tup pa_nil) (pa_cons (pe_tup (pa_cons pe_str (pa_cons (pv 4) pa_nil))) (pa_cons (pv 2) pa_nil)))))) pa_nil))))
        (pss_cons (ps_expr (pe_bm PySem.F.plainAttrs_list PySem.F.slot_list_append PySem.F.type_list_append mt_append (pv 6) (pa_cons (pe_tup (pa_cons pe_str (pa_cons (pe_tup (pa_cons pe_str (pa_cons (pv 4) pa_nil))) (pa_cons (pv 5) (pa_cons (pe_tup (pa_cons pe_str (pa_cons pe_int pa_nil))) (pa_cons (pe_tup (pa_cons pe_str (pa_cons pe_int pa_nil))) pa_nil)))))) pa_nil)))
        (pss_one (ps_ret (pe_call GP hr rfl gP FP.kp bP .nil pass0 (pa_cons (pv 0) (pa_cons (pv 6) pa_nil))))))))))), ?_⟩
    walk_at "rd"
    refine tupRg_ ?_
    refine ⟨natV M, rfl, (M : Nat), rfl, RgOk.of_le (by omega) (by omega) (by omega) (by omega), fun e0 ne0 => ?_⟩
    have s0 := same_new (o := HO.tup (rgV 0 (M : Nat))) ne0
    have t0 := upd_same (H := H) (a := e0) (o := HO.tup (rgV 0 (M : Nat)))
    generalize upd H e0 (HO.tup (rgV 0 (M : Nat))) = H1 at s0 t0 ⊢
    walk_at "rd"
    refine ⟨Rd.small (by show 2 ≤ 100000; decide), fun a1 na1 => ?_⟩
    have sa1 := same_new (o := HO.tup ([V.str "number", V.int 0])) na1
    have ta1 := upd_same (H := H1) (a := a1) (o := HO.tup ([V.str "number", V.int 0]))
    generalize upd H1 a1 (HO.tup ([V.str "number", V.int 0])) = H2 at sa1 ta1 ⊢
    walk_at "rd"
    refine ⟨Rd.small (by show 3 ≤ 100000; decide), fun a2 na2 => ?_⟩
    have sa2 := same_new (o := HO.tup ([V.str "least", V.ref a1, v])) na2
    have ta2 := upd_same (H := H2) (a := a2) (o := HO.tup ([V.str "least", V.ref a1, v]))
    generalize upd H2 a2 (HO.tup ([V.str "least", V.ref a1, v])) = H3 at sa2 ta2 ⊢
    walk_at "rd"
    refine ⟨_, _, rfl, rfl, ?_⟩
    walk_at "rd"
    refine ⟨Rd.small (by show 2 ≤ 100000; decide), fun a3 na3 => ?_⟩
    have sa3 := same_new (o := HO.tup ([V.str "number", V.int ((M : Nat) - 1)])) na3
    have ta3 := upd_same (H := H3) (a := a3) (o := HO.tup ([V.str "number", V.int ((M : Nat) - 1)]))
    generalize upd H3 a3 (HO.tup ([V.str "number", V.int ((M : Nat) - 1)])) = H4 at sa3 ta3 ⊢
    walk_at "rd"
    refine ⟨Rd.small (by show 3 ≤ 100000; decide), fun a4 na4 => ?_⟩
    have sa4 := same_new (o := HO.tup ([V.str "most", V.ref a3, v])) na4
    have ta4 := upd_same (H := H4) (a := a4) (o := HO.tup ([V.str "most", V.ref a3, v]))
    generalize upd H4 a4 (HO.tup ([V.str "most", V.ref a3, v])) = H5 at sa4 ta4 ⊢
    walk_at "rd"
    refine ⟨Rd.small (by show 3 ≤ 100000; decide), fun a5 na5 => ?_⟩
    have sa5 := same_new (o := HO.tup ([V.str "same", v, v])) na5
    have ta5 := upd_same (H := H5) (a := a5) (o := HO.tup ([V.str "same", v, v]))
    generalize upd H5 a5 (HO.tup ([V.str "same", v, v])) = H6 at sa5 ta5 ⊢
    walk_at "rd"
    refine ⟨Rd.small (by show 4 ≤ 100000; decide), fun l1 nl1 => ?_⟩
    have sl1 := same_new (o := HO.lst ([v, V.ref a2, V.ref a4, V.ref a5])) nl1
    have tl1 := upd_same (H := H6) (a := l1) (o := HO.lst ([v, V.ref a2, V.ref a4, V.ref a5]))
    generalize upd H6 l1 (HO.lst ([v, V.ref a2, V.ref a4, V.ref a5])) = H7 at sl1 tl1 ⊢
    walk_at "rd"
    refine ⟨Rd.small (by show 0 ≤ 100000; decide), fun b1 nb1 => ?_⟩
    have sb1 := same_new (o := HO.tup ([])) nb1
    have tb1 := upd_same (H := H7) (a := b1) (o := HO.tup ([]))
    generalize upd H7 b1 (HO.tup ([])) = H8 at sb1 tb1 ⊢
    walk_at "rd"
    refine ⟨Rd.small (by show 2 ≤ 100000; decide), fun b2 nb2 => ?_⟩
    have sb2 := same_new (o := HO.tup ([V.str "here", V.str y])) nb2
    have tb2 := upd_same (H := H8) (a := b2) (o := HO.tup ([V.str "here", V.str y]))
    generalize upd H8 b2 (HO.tup ([V.str "here", V.str y])) = H9 at sb2 tb2 ⊢
    walk_at "rd"
    refine ⟨Rd.small (by show 2 ≤ 100000; decide), fun b3 nb3 => ?_⟩
    have sb3 := same_new (o := HO.tup ([V.str "number", V.int 0])) nb3
    have tb3 := upd_same (H := H9) (a := b3) (o := HO.tup ([V.str "number", V.int 0]))
    generalize upd H9 b3 (HO.tup ([V.str "number", V.int 0])) = H10 at sb3 tb3 ⊢
    walk_at "rd"
    refine ⟨Rd.small (by show 5 ≤ 100000; decide), fun b4 nb4 => ?_⟩
    have sb4 := same_new (o := HO.tup ([V.str "choice", v, V.ref b1, V.ref b2, V.ref b3])) nb4
    have tb4 := upd_same (H := H10) (a := b4) (o := HO.tup ([V.str "choice", v, V.ref b1, V.ref b2, V.ref b3]))
    generalize upd H10 b4 (HO.tup ([V.str "choice", v, V.ref b1, V.ref b2, V.ref b3])) = H11 at sb4 tb4 ⊢
    walk_at "rd"
    refine ⟨Rd.small (by show 2 ≤ 100000; decide), fun b5 nb5 => ?_⟩
    have sb5 := same_new (o := HO.tup ([V.str "here", V.str y])) nb5
    have tb5 := upd_same (H := H11) (a := b5) (o := HO.tup ([V.str "here", V.str y]))
    generalize upd H11 b5 (HO.tup ([V.str "here", V.str y])) = H12 at sb5 tb5 ⊢
    walk_at "rd"
    refine ⟨Rd.small (by show 5 ≤ 100000; decide), fun b6 nb6 => ?_⟩
    have sb6 := same_new (o := HO.tup ([V.str "choice", v, V.ref e0, v, V.ref b5])) nb6
    have tb6 := upd_same (H := H12) (a := b6) (o := HO.tup ([V.str "choice", v, V.ref e0, v, V.ref b5]))
    generalize upd H12 b6 (HO.tup ([V.str "choice", v, V.ref e0, v, V.ref b5])) = H13 at sb6 tb6 ⊢
    walk_at "rd"
    refine ⟨Rd.small (by show 2 ≤ 100000; decide), fun l2 nl2 => ?_⟩
    have sl2 := same_new (o := HO.lst ([V.ref b4, V.ref b6])) nl2
    have tl2 := upd_same (H := H13) (a := l2) (o := HO.lst ([V.ref b4, V.ref b6]))
    generalize upd H13 l2 (HO.lst ([V.ref b4, V.ref b6])) = H14 at sl2 tl2 ⊢
    walk_at "rd"
    refine ⟨l1, l2, _, _, rfl, rfl, (sb1.trans (sb2.trans (sb3.trans (sb4.trans (sb5.trans (sb6.trans sl2)))))) _ _ tl1, tl2, Rd.small (by show 6 ≤ 100000; decide), fun l3 nl3 => ?_⟩
    have sl3 := same_new (o := HO.lst ([v, V.ref a2, V.ref a4, V.ref a5] ++ [V.ref b4, V.ref b6])) nl3
    have tl3 := upd_same (H := H14) (a := l3) (o := HO.lst ([v, V.ref a2, V.ref a4, V.ref a5] ++ [V.ref b4, V.ref b6]))
    generalize upd H14 l3 (HO.lst ([v, V.ref a2, V.ref a4, V.ref a5] ++ [V.ref b4, V.ref b6])) = H15 at sl3 tl3 ⊢
    walk_at "rd"
    refine ⟨Rd.small (by show 2 ≤ 100000; decide), fun c1 nc1 => ?_⟩
    have sc1 := same_new (o := HO.tup ([V.str "here", V.str x])) nc1
    have tc1 := upd_same (H := H15) (a := c1) (o := HO.tup ([V.str "here", V.str x]))
    generalize upd H15 c1 (HO.tup ([V.str "here", V.str x])) = H16 at sc1 tc1 ⊢
    walk_at "rd"
    refine ⟨Rd.small (by show 2 ≤ 100000; decide), fun c2 nc2 => ?_⟩
    have sc2 := same_new (o := HO.tup ([V.str "here", V.str y])) nc2
    have tc2 := upd_same (H := H16) (a := c2) (o := HO.tup ([V.str "here", V.str y]))
    generalize upd H16 c2 (HO.tup ([V.str "here", V.str y])) = H17 at sc2 tc2 ⊢
    walk_at "rd"
    refine ⟨Rd.small (by show 5 ≤ 100000; decide), fun c3 nc3 => ?_⟩
    have sc3 := same_new (o := HO.tup ([V.str "choice", V.ref c1, V.ref e0, v, V.ref c2])) nc3
    have tc3 := upd_same (H := H17) (a := c3) (o := HO.tup ([V.str "choice", V.ref c1, V.ref e0, v, V.ref c2]))
    generalize upd H17 c3 (HO.tup ([V.str "choice", V.ref c1, V.ref e0, v, V.ref c2])) = H18 at sc3 tc3 ⊢
    walk_at "rd"
    refine ⟨Rd.small (by show 1 ≤ 100000; decide), fun l4 nl4 => ?_⟩
    have sl4 := same_new (o := HO.lst ([V.ref c3])) nl4
    have tl4 := upd_same (H := H18) (a := l4) (o := HO.lst ([V.ref c3]))
    generalize upd H18 l4 (HO.lst ([V.ref c3])) = H19 at sl4 tl4 ⊢
    walk_at "rd"
    refine ⟨l3, l4, _, _, rfl, rfl, (sc1.trans (sc2.trans (sc3.trans sl4))) _ _ tl3, tl4, Rd.small (by show 7 ≤ 100000; decide), fun l5 nl5 => ?_⟩
    have sl5 := same_new (o := HO.lst ([v, V.ref a2, V.ref a4, V.ref a5] ++ [V.ref b4, V.ref b6] ++ [V.ref c3])) nl5
    have tl5 := upd_same (H := H19) (a := l5) (o := HO.lst ([v, V.ref a2, V.ref a4, V.ref a5] ++ [V.ref b4, V.ref b6] ++ [V.ref c3]))
    generalize upd H19 l5 (HO.lst ([v, V.ref a2, V.ref a4, V.ref a5] ++ [V.ref b4, V.ref b6] ++ [V.ref c3])) = H20 at sl5 tl5 ⊢
    walk_at "rd"
    refine ⟨Rd.small (by show 2 ≤ 100000; decide), fun d1 nd1 => ?_⟩
    have sd1 := same_new (o := HO.tup ([V.str "here", V.str x])) nd1
    have td1 := upd_same (H := H20) (a := d1) (o := HO.tup ([V.str "here", V.str x]))
    generalize upd H20 d1 (HO.tup ([V.str "here", V.str x])) = H21 at sd1 td1 ⊢
    walk_at "rd"
    refine ⟨Rd.small (by show 0 ≤ 100000; decide), fun d2 nd2 => ?_⟩
    have sd2 := same_new (o := HO.tup ([])) nd2
    have td2 := upd_same (H := H21) (a := d2) (o := HO.tup ([]))
    generalize upd H21 d2 (HO.tup ([])) = H22 at sd2 td2 ⊢
    walk_at "rd"
    refine ⟨Rd.small (by show 2 ≤ 100000; decide), fun d3 nd3 => ?_⟩
    have sd3 := same_new (o := HO.tup ([V.str "here", V.str y])) nd3
    have td3 := upd_same (H := H22) (a := d3) (o := HO.tup ([V.str "here", V.str y]))
    generalize upd H22 d3 (HO.tup ([V.str "here", V.str y])) = H23 at sd3 td3 ⊢
    walk_at "rd"
    refine ⟨Rd.small (by show 5 ≤ 100000; decide), fun d4 nd4 => ?_⟩
    have sd4 := same_new (o := HO.tup ([V.str "choice", V.ref d1, V.ref d2, V.ref d3, v])) nd4
    have td4 := upd_same (H := H23) (a := d4) (o := HO.tup ([V.str "choice", V.ref d1, V.ref d2, V.ref d3, v]))
    generalize upd H23 d4 (HO.tup ([V.str "choice", V.ref d1, V.ref d2, V.ref d3, v])) = H24 at sd4 td4 ⊢
    walk_at "rd"
    refine ⟨Rd.small (by show 1 ≤ 100000; decide), fun l6 nl6 => ?_⟩
    have sl6 := same_new (o := HO.lst ([V.ref d4])) nl6
    have tl6 := upd_same (H := H24) (a := l6) (o := HO.lst ([V.ref d4]))
    generalize upd H24 l6 (HO.lst ([V.ref d4])) = H25 at sl6 tl6 ⊢
    walk_at "rd"
    refine ⟨l5, l6, _, _, rfl, rfl, (sd1.trans (sd2.trans (sd3.trans (sd4.trans sl6)))) _ _ tl5, tl6, Rd.small (by show 8 ≤ 100000; decide), fun l7 nl7 => ?_⟩
    have sl7 := same_new (o := HO.lst ([v, V.ref a2, V.ref a4, V.ref a5] ++ [V.ref b4, V.ref b6] ++ [V.ref c3] ++ [V.ref d4])) nl7
    have tl7 := upd_same (H := H25) (a := l7) (o := HO.lst ([v, V.ref a2, V.ref a4, V.ref a5] ++ [V.ref b4, V.ref b6] ++ [V.ref c3] ++ [V.ref d4]))
    generalize upd H25 l7 (HO.lst ([v, V.ref a2, V.ref a4, V.ref a5] ++ [V.ref b4, V.ref b6] ++ [V.ref c3] ++ [V.ref d4])) = H26 at sl7 tl7 ⊢
    walk_at "rd"
    refine ⟨.inl ⟨rfl, _, SqL.of tl7⟩, ?_⟩
    walk_at "rd"
    refine ⟨Rd.small (by show 2 ≤ 100000; decide), fun f1 nf1 => ?_⟩
    have sf1 := same_new (o := HO.tup ([V.str "here", V.str y])) nf1
    have tf1 := upd_same (H := H26) (a := f1) (o := HO.tup ([V.str "here", V.str y]))
    generalize upd H26 f1 (HO.tup ([V.str "here", V.str y])) = H27 at sf1 tf1 ⊢
    walk_at "rd"
    refine ⟨Rd.small (by show 2 ≤ 100000; decide), fun f2 nf2 => ?_⟩
    have sf2 := same_new (o := HO.tup ([V.str "number", V.int 0])) nf2
    have tf2 := upd_same (H := H27) (a := f2) (o := HO.tup ([V.str "number", V.int 0]))
    generalize upd H27 f2 (HO.tup ([V.str "number", V.int 0])) = H28 at sf2 tf2 ⊢
    walk_at "rd"
    refine ⟨Rd.small (by show 2 ≤ 100000; decide), fun f3 nf3 => ?_⟩
    have sf3 := same_new (o := HO.tup ([V.str "number", V.int 0])) nf3
    have tf3 := upd_same (H := H28) (a := f3) (o := HO.tup ([V.str "number", V.int 0]))
    generalize upd H28 f3 (HO.tup ([V.str "number", V.int 0])) = H29 at sf3 tf3 ⊢
    walk_at "rd"
    refine ⟨Rd.small (by show 5 ≤ 100000; decide), fun f4 nf4 => ?_⟩
    have sf4 := same_new (o := HO.tup ([V.str "choice", V.ref f1, V.ref e0, V.ref f2, V.ref f3])) nf4
    have tf4 := upd_same (H := H29) (a := f4) (o := HO.tup ([V.str "choice", V.ref f1, V.ref e0, V.ref f2, V.ref f3]))
    generalize upd H29 f4 (HO.tup ([V.str "choice", V.ref f1, V.ref e0, V.ref f2, V.ref f3])) = H30 at sf4 tf4 ⊢
    walk_at "rd"
    refine ⟨l7, _, _, rfl, rfl, (sf1.trans (sf2.trans (sf3.trans sf4))) _ _ tl7, Nat.lt_of_lt_of_le (show 8 < 100000 by decide) (by decide), ?_⟩
    have sz : Same H (upd H30 l7 (.lst ([v, V.ref a2, V.ref a4, V.ref a5] ++ [V.ref b4, V.ref b6] ++ [V.ref c3] ++ [V.ref d4] ++ [V.ref f4]))) := fun b o e => by
      rw [upd_ne (ne_of_none e ((s0.trans (sa1.trans (sa2.trans (sa3.trans (sa4.trans (sa5.trans (sl1.trans (sb1.trans (sb2.trans (sb3.trans (sb4.trans (sb5.trans (sb6.trans (sl2.trans (sl3.trans (sc1.trans (sc2.trans (sc3.trans (sl4.trans (sl5.trans (sd1.trans (sd2.trans (sd3.trans (sd4.trans sl6)))))))))))))))))))))))).free nl7))]
      exact (s0.trans (sa1.trans (sa2.trans (sa3.trans (sa4.trans (sa5.trans (sl1.trans (sb1.trans (sb2.trans (sb3.trans (sb4.trans (sb5.trans (sb6.trans (sl2.trans (sl3.trans (sc1.trans (sc2.trans (sc3.trans (sl4.trans (sl5.trans (sd1.trans (sd2.trans (sd3.trans (sd4.trans (sl6.trans (sl7.trans (sf1.trans (sf2.trans (sf3.trans sf4))))))))))))))))))))))))))))) b o e
    have bz : But l7 H30 (upd H30 l7 (.lst ([v, V.ref a2, V.ref a4, V.ref a5] ++ [V.ref b4, V.ref b6] ++ [V.ref c3] ++ [V.ref d4] ++ [V.ref f4]))) := But.set
    have tz := upd_same (H := H30) (a := l7) (o := HO.lst ([v, V.ref a2, V.ref a4, V.ref a5] ++ [V.ref b4, V.ref b6] ++ [V.ref c3] ++ [V.ref d4] ++ [V.ref f4]))
    have ll : H30 l7 = some (.lst ([v, V.ref a2, V.ref a4, V.ref a5] ++ [V.ref b4, V.ref b6] ++ [V.ref c3] ++ [V.ref d4])) := (sf1.trans (sf2.trans (sf3.trans sf4))) _ _ tl7
    generalize upd H30 l7 (.lst ([v, V.ref a2, V.ref a4, V.ref a5] ++ [V.ref b4, V.ref b6] ++ [V.ref c3] ++ [V.ref d4] ++ [V.ref f4])) = Z at sz bz tz ⊢
    walk_at "rd"
    have tpz : TpAt K Z g v := tp.kp (kp_same sz)
    have ev : SqT K Z e0 ((List.range M).map natV) := by
      have z := sqt_butL (K := K) ll bz ((SqT.of t0).ext (sa1.trans (sa2.trans (sa3.trans (sa4.trans (sa5.trans (sl1.trans (sb1.trans (sb2.trans (sb3.trans (sb4.trans (sb5.trans (sb6.trans (sl2.trans (sl3.trans (sc1.trans (sc2.trans (sc3.trans (sl4.trans (sl5.trans (sd1.trans (sd2.trans (sd3.trans (sd4.trans (sl6.trans (sl7.trans (sf1.trans (sf2.trans (sf3.trans sf4)))))))))))))))))))))))))))))
      rw [rg_nat] at z
      exact z
    have em : ∀ {a : Addr}, SqT K Z a [] → SqT K Z a (([] : List Nat).map natV) := fun h => h
    have z2 : TpAt K Z (.pair 1 (.num 0) g) (.ref a2) := ⟨a2, _, _, rfl, (sqt_butL (K := K) ll bz ((SqT.of ta2).ext (sa3.trans (sa4.trans (sa5.trans (sl1.trans (sb1.trans (sb2.trans (sb3.trans (sb4.trans (sb5.trans (sb6.trans (sl2.trans (sl3.trans (sc1.trans (sc2.trans (sc3.trans (sl4.trans (sl5.trans (sd1.trans (sd2.trans (sd3.trans (sd4.trans (sl6.trans (sl7.trans (sf1.trans (sf2.trans (sf3.trans sf4)))))))))))))))))))))))))))), (⟨a1, rfl, (sqt_butL (K := K) ll bz ((SqT.of ta1).ext (sa2.trans (sa3.trans (sa4.trans (sa5.trans (sl1.trans (sb1.trans (sb2.trans (sb3.trans (sb4.trans (sb5.trans (sb6.trans (sl2.trans (sl3.trans (sc1.trans (sc2.trans (sc3.trans (sl4.trans (sl5.trans (sd1.trans (sd2.trans (sd3.trans (sd4.trans (sl6.trans (sl7.trans (sf1.trans (sf2.trans (sf3.trans sf4)))))))))))))))))))))))))))))⟩ : TpAt K Z (.num 0) (.ref a1)), tpz⟩
    have z4 : TpAt K Z (.pair 2 (.num (M - 1)) g) (.ref a4) := ⟨a4, _, _, rfl, (sqt_butL (K := K) ll bz ((SqT.of ta4).ext (sa5.trans (sl1.trans (sb1.trans (sb2.trans (sb3.trans (sb4.trans (sb5.trans (sb6.trans (sl2.trans (sl3.trans (sc1.trans (sc2.trans (sc3.trans (sl4.trans (sl5.trans (sd1.trans (sd2.trans (sd3.trans (sd4.trans (sl6.trans (sl7.trans (sf1.trans (sf2.trans (sf3.trans sf4)))))))))))))))))))))))))), ⟨a3, rfl, by have z := (sqt_butL (K := K) ll bz ((SqT.of ta3).ext (sa4.trans (sa5.trans (sl1.trans (sb1.trans (sb2.trans (sb3.trans (sb4.trans (sb5.trans (sb6.trans (sl2.trans (sl3.trans (sc1.trans (sc2.trans (sc3.trans (sl4.trans (sl5.trans (sd1.trans (sd2.trans (sd3.trans (sd4.trans (sl6.trans (sl7.trans (sf1.trans (sf2.trans (sf3.trans sf4))))))))))))))))))))))))))); rw [show ((M : Nat) : Int) - 1 = ((M - 1 : Nat) : Int) by omega] at z; exact z⟩, tpz⟩
    have z5 : TpAt K Z (.pair 3 g g) (.ref a5) := ⟨a5, _, _, rfl, (sqt_butL (K := K) ll bz ((SqT.of ta5).ext (sl1.trans (sb1.trans (sb2.trans (sb3.trans (sb4.trans (sb5.trans (sb6.trans (sl2.trans (sl3.trans (sc1.trans (sc2.trans (sc3.trans (sl4.trans (sl5.trans (sd1.trans (sd2.trans (sd3.trans (sd4.trans (sl6.trans (sl7.trans (sf1.trans (sf2.trans (sf3.trans sf4))))))))))))))))))))))))), tpz, tpz⟩
    have y4 : TpAt K Z (.cho g [] (.ref 0 y) (.num 0)) (.ref b4) := ⟨b4, _, b1, _, _, rfl, (sqt_butL (K := K) ll bz ((SqT.of tb4).ext (sb5.trans (sb6.trans (sl2.trans (sl3.trans (sc1.trans (sc2.trans (sc3.trans (sl4.trans (sl5.trans (sd1.trans (sd2.trans (sd3.trans (sd4.trans (sl6.trans (sl7.trans (sf1.trans (sf2.trans (sf3.trans sf4)))))))))))))))))))), tpz, em (sqt_butL (K := K) ll bz ((SqT.of tb1).ext (sb2.trans (sb3.trans (sb4.trans (sb5.trans (sb6.trans (sl2.trans (sl3.trans (sc1.trans (sc2.trans (sc3.trans (sl4.trans (sl5.trans (sd1.trans (sd2.trans (sd3.trans (sd4.trans (sl6.trans (sl7.trans (sf1.trans (sf2.trans (sf3.trans sf4))))))))))))))))))))))), (⟨b2, rfl, (sqt_butL (K := K) ll bz ((SqT.of tb2).ext (sb3.trans (sb4.trans (sb5.trans (sb6.trans (sl2.trans (sl3.trans (sc1.trans (sc2.trans (sc3.trans (sl4.trans (sl5.trans (sd1.trans (sd2.trans (sd3.trans (sd4.trans (sl6.trans (sl7.trans (sf1.trans (sf2.trans (sf3.trans sf4))))))))))))))))))))))⟩ : TpAt K Z (.ref 0 y) (.ref b2)), (⟨b3, rfl, (sqt_butL (K := K) ll bz ((SqT.of tb3).ext (sb4.trans (sb5.trans (sb6.trans (sl2.trans (sl3.trans (sc1.trans (sc2.trans (sc3.trans (sl4.trans (sl5.trans (sd1.trans (sd2.trans (sd3.trans (sd4.trans (sl6.trans (sl7.trans (sf1.trans (sf2.trans (sf3.trans sf4)))))))))))))))))))))⟩ : TpAt K Z (.num 0) (.ref b3))⟩
    have y6 : TpAt K Z (.cho g (List.range M) g (.ref 0 y)) (.ref b6) := ⟨b6, _, e0, _, _, rfl, (sqt_butL (K := K) ll bz ((SqT.of tb6).ext (sl2.trans (sl3.trans (sc1.trans (sc2.trans (sc3.trans (sl4.trans (sl5.trans (sd1.trans (sd2.trans (sd3.trans (sd4.trans (sl6.trans (sl7.trans (sf1.trans (sf2.trans (sf3.trans sf4)))))))))))))))))), tpz, ev, tpz, (⟨b5, rfl, (sqt_butL (K := K) ll bz ((SqT.of tb5).ext (sb6.trans (sl2.trans (sl3.trans (sc1.trans (sc2.trans (sc3.trans (sl4.trans (sl5.trans (sd1.trans (sd2.trans (sd3.trans (sd4.trans (sl6.trans (sl7.trans (sf1.trans (sf2.trans (sf3.trans sf4)))))))))))))))))))⟩ : TpAt K Z (.ref 0 y) (.ref b5))⟩
    have x3 : TpAt K Z (.cho (.ref 0 x) (List.range M) g (.ref 0 y)) (.ref c3) := ⟨c3, _, e0, _, _, rfl, (sqt_butL (K := K) ll bz ((SqT.of tc3).ext (sl4.trans (sl5.trans (sd1.trans (sd2.trans (sd3.trans (sd4.trans (sl6.trans (sl7.trans (sf1.trans (sf2.trans (sf3.trans sf4))))))))))))), (⟨c1, rfl, (sqt_butL (K := K) ll bz ((SqT.of tc1).ext (sc2.trans (sc3.trans (sl4.trans (sl5.trans (sd1.trans (sd2.trans (sd3.trans (sd4.trans (sl6.trans (sl7.trans (sf1.trans (sf2.trans (sf3.trans sf4)))))))))))))))⟩ : TpAt K Z (.ref 0 x) (.ref c1)), ev, tpz, (⟨c2, rfl, (sqt_butL (K := K) ll bz ((SqT.of tc2).ext (sc3.trans (sl4.trans (sl5.trans (sd1.trans (sd2.trans (sd3.trans (sd4.trans (sl6.trans (sl7.trans (sf1.trans (sf2.trans (sf3.trans sf4))))))))))))))⟩ : TpAt K Z (.ref 0 y) (.ref c2))⟩
    have w4 : TpAt K Z (.cho (.ref 0 x) [] (.ref 0 y) g) (.ref d4) := ⟨d4, _, d2, _, _, rfl, (sqt_butL (K := K) ll bz ((SqT.of td4).ext (sl6.trans (sl7.trans (sf1.trans (sf2.trans (sf3.trans sf4))))))), (⟨d1, rfl, (sqt_butL (K := K) ll bz ((SqT.of td1).ext (sd2.trans (sd3.trans (sd4.trans (sl6.trans (sl7.trans (sf1.trans (sf2.trans (sf3.trans sf4))))))))))⟩ : TpAt K Z (.ref 0 x) (.ref d1)), em (sqt_butL (K := K) ll bz ((SqT.of td2).ext (sd3.trans (sd4.trans (sl6.trans (sl7.trans (sf1.trans (sf2.trans (sf3.trans sf4))))))))), (⟨d3, rfl, (sqt_butL (K := K) ll bz ((SqT.of td3).ext (sd4.trans (sl6.trans (sl7.trans (sf1.trans (sf2.trans (sf3.trans sf4))))))))⟩ : TpAt K Z (.ref 0 y) (.ref d3)), tpz⟩
    have v4 : TpAt K Z (.cho (.ref 0 y) (List.range M) (.num 0) (.num 0)) (.ref f4) := ⟨f4, _, e0, _, _, rfl, (sqt_butL (K := K) ll bz ((SqT.of tf4).ext (Same.refl _))), (⟨f1, rfl, (sqt_butL (K := K) ll bz ((SqT.of tf1).ext (sf2.trans (sf3.trans sf4))))⟩ : TpAt K Z (.ref 0 y) (.ref f1)), ev, (⟨f2, rfl, (sqt_butL (K := K) ll bz ((SqT.of tf2).ext (sf3.trans sf4)))⟩ : TpAt K Z (.num 0) (.ref f2)), (⟨f3, rfl, (sqt_butL (K := K) ll bz ((SqT.of tf3).ext sf4))⟩ : TpAt K Z (.num 0) (.ref f3))⟩
    have aM := asc_range hM9
    have a0 : Asc [] := ⟨fun i n e => (by simp at e), by decide⟩
    have ne : l7 ≠ p := pot_new (pot_same hp (s0.trans (sa1.trans (sa2.trans (sa3.trans (sa4.trans (sa5.trans (sl1.trans (sb1.trans (sb2.trans (sb3.trans (sb4.trans (sb5.trans (sb6.trans (sl2.trans (sl3.trans (sc1.trans (sc2.trans (sc3.trans (sl4.trans (sl5.trans (sd1.trans (sd2.trans (sd3.trans (sd4.trans sl6))))))))))))))))))))))))) nl7
    have o0 : (0 : Nat) ≤ 8 := by decide
    refine ⟨p, l7, _, rfl, pot_same hp sz, tz, ne, by simp, by show 9 < 1000000; decide, fun u H' hu hp2 b2 => ?_⟩
    have k2 := kp_pot (pot_same hp sz) b2
    have go : ∀ {f' : Fm} {v' : V}, TpAt K Z f' v' → Okf f' → f'.q.1 ≤ 17 → Q v' H' := fun {f' v'} t o l => q f' v' H' hp2 (But.trans (butS' sz) b2) (t.kp k2) o l
    simp only [List.mem_append, List.mem_cons, List.not_mem_nil, or_false, or_assoc] at hu
    rcases hu with rfl | rfl | rfl | rfl | rfl | rfl | rfl | rfl | rfl
    · exact go tpz og (by omega)
    · exact go z2 ⟨by decide, o0, og⟩ (by rw [q_pair]; show 1 + 1 + _ ≤ 17; omega)
    · exact go z4 ⟨by decide, (by show M - 1 ≤ 8; omega), og⟩ (by rw [q_pair]; show 1 + 1 + _ ≤ 17; omega)
    · exact go z5 ⟨by decide, og, og⟩ (by rw [q_pair]; omega)
    · exact go y4 ⟨a0, og, ⟨by decide, ny⟩, o0⟩ (by rw [q_cho]; show 1 + _ + 1 + 1 ≤ 17; omega)
    · exact go y6 ⟨aM, og, og, ⟨by decide, ny⟩⟩ (by rw [q_cho]; show 1 + _ + _ + 1 ≤ 17; omega)
    · exact go x3 ⟨aM, ⟨by decide, nx⟩, og, ⟨by decide, ny⟩⟩ (by rw [q_cho]; show 1 + 1 + _ + 1 ≤ 17; omega)
    · exact go w4 ⟨a0, ⟨by decide, nx⟩, ⟨by decide, ny⟩, og⟩ (by rw [q_cho]; show 1 + 1 + 1 + _ ≤ 17; omega)
    · exact go v4 ⟨aM, ⟨by decide, ny⟩, o0, o0⟩ (by rw [q_cho]; show 1 + 1 + 1 + 1 ≤ 17; omega)
end
end K17

namespace K17
open PySem PySem.Spec PyProof.Rows L2
local macro_rules | `(tactic| walk_at "rd1") => `(tactic| first
  | (with_reducible refine Rd.seq ?_) | (with_reducible refine Rd.asg ?_) | (with_reducible refine Rd.ret ?_) | (with_reducible refine Rd.nxt ?_) | (with_reducible refine Rd.ifS ?_)
  | (with_reducible refine Rd.op ?_) | (with_reducible refine Rd.un ?_) | (with_reducible refine Rd.cb ?_) | (with_reducible refine Rd.cons ?_) | (with_reducible refine Rd.nil ?_) | (with_reducible refine Rd.ifx ?_)
  | (with_reducible refine Rd.test ?_) | (with_reducible refine Rd.testB ?_) | (with_reducible refine Rd.notT ?_) | (with_reducible refine Rd.isB ?_) | (with_reducible refine Rd.lst ?_) | (with_reducible refine Rd.tup ?_)
  | (with_reducible refine Rd.andV ?_) | (with_reducible refine Rd.orV ?_) | (with_reducible refine Rd.notV ?_) | (with_reducible refine Rd.andT ?_) | (with_reducible refine Rd.orT ?_) | (with_reducible refine Rd.chain ?_)
  | (with_reducible refine Rd.m0 ?_) | (with_reducible refine Rd.m1 ?_) | (with_reducible refine Rd.bm0 ?_) | (with_reducible refine Rd.bm ?_) | (with_reducible refine Rd.sl ?_) | (with_reducible refine Rd.part ?_) | (with_reducible refine Rd.part0 ?_) | (with_reducible refine Rd.isI ?_)
  | (with_reducible refine Rd.fmt ?_) | (with_reducible refine Rd.fmtRD ?_) | (with_reducible refine Rd.meth ?_) | (with_reducible refine makeG ?_) | (with_reducible refine Rd.prop ?_) | (with_reducible refine Rd.js ?_) | (with_reducible refine Rd.js0 ?_) | (with_reducible refine Rd.par ?_) | (with_reducible refine Rd.star ?_) | (with_reducible refine lcR1 ?_) | (with_reducible refine lcR2 ?_) | (with_reducible refine Rd.fld ?_) | (with_reducible refine Rd.sfld ?_) | (with_reducible refine Rd.expr ?_) | (with_reducible refine L2.isNR ?_) | (with_reducible refine L2.methI ?_) | (with_reducible refine Rd.forZ ?_)
  | (with_reducible refine Rd.forEA ?_) | (with_reducible refine Rd.forR1 ?_) | (with_reducible refine Rd.forR2 ?_) | (with_reducible refine Rd.forL ?_) | (with_reducible refine Rd.forT ?_)
  | (with_reducible refine Rd.call ?_) | (with_reducible refine Rd.asgG ?_) | (with_reducible refine Rd.gNm ?_) | (with_reducible refine Rd.gSb ?_) | (with_reducible refine Rd.gC ?_) | (with_reducible refine Rd.gN ?_)
  | ((with_reducible refine' Rd.var ?hv ?_); (case hv => exact rfl)) | (with_reducible refine Rd.c ?_) | (with_reducible refine Rd.i0 ?_) | (with_reducible refine Rd.neg ?_)
  | ((with_reducible refine' Rd.iC ?hc ?_); (case hc => first | (show (0 : Int) < _; decide) | exact ⟨by decide, by decide⟩ | exact ⟨by decide, by decide, by decide⟩ | exact .inl ⟨by decide, by decide⟩ | exact .inr ⟨by decide, by decide⟩ | exact .inl ⟨by omega, by omega⟩ | (show (0 : Int) < _; omega) | exact ⟨by omega, by omega⟩))
  | ((with_reducible refine' Rd.eqS ?hc ?_); (case hc => rfl)) | ((with_reducible refine' Rd.neS ?hc ?_); (case hc => rfl)))
local macro_rules | `(tactic| walk_at "rd") => `(tactic| repeat walk_at "rd1")
def rowOf (kw : List (Key × V)) (z : Str) : Option Nat := match valV kw (.inr z) with
  | some (.int i) => some i.toNat
  | _ => none
theorem rowOf_ok {kw : List (Key × V)} (h : ∀ kv ∈ kw, ∃ o, kv.2 = optV o) (z : Str) : (valV kw (.inr z)).getD .non = optV (rowOf kw z) := by
  unfold rowOf
  cases e : valV kw (.inr z) with
  | none => rfl
  | some v =>
    unfold valV at e
    obtain ⟨kv, e1, e2⟩ := Option.map_eq_some_iff.mp e
    obtain ⟨o, ho⟩ := h kv (List.mem_of_find?_eq_some e1)
    rw [ho] at e2
    subst e2
    cases o with
    | none => rfl
    | some n => rfl
abbrev sRows : Stmt := topA i_law_rows
abbrev psRo : List Str := ["_law_pot_here", "_law_base", "_law_sure", "_law_never"]
abbrev nmsRo : List Str := ["_law_pot_here", "_law_base", "_law_sure", "_law_never", "_law_rows_here"]
def spRows (K : PySem.W.Frag) : Sp := fun vs H Q _ => ∃ (p : Addr) (M : Nat) (x y : Str), vs = [.ref p, natV M, .str x, .str y] ∧ PotAt H p ∧ 0 < M ∧ M ≤ 9 ∧ x ≠ y ∧ x ≠ "void" ∧ y ≠ "void" ∧
  ∀ H' rd R du dh dd, PotAt H' p → But p H H' → Rws H' rd R du dh dd → R 0 "void" = none → (∀ w z n, R w z = some n → n < 9) → Q (.ref rd) H'
abbrev tDr : TE := tCall spDraw [] E0 (tCons (tVar 0) (tCons (tVar 1) tNil))
theorem pot_upd {p a : Addr} {H : Hp} {o : HO} (h : PotAt H p) (n : H a = none) : PotAt (upd H a o) p := pot_same h (same_new n)
theorem big_lt {M : Nat} (h : M ≤ 9) : (M : Int) < 2 ^ 2000 := Int.lt_trans (show (M : Int) < 10 by omega) (by decide +kernel)
theorem but_disp {p a : Addr} {H H1 : Hp} {o o' : HO} (n : H a = none) (b : But p (upd H a o) H1) : But p H (upd H1 a o') := fun c u hc e => by
  rw [upd_ne (ne_of_none e n)]
  exact b c u hc (by rw [upd_ne (ne_of_none e n)]; exact e)
theorem pot_upd2 {p a : Addr} {H : Hp} {o : HO} (h : PotAt H p) (n : a ≠ p) : PotAt (upd H a o) p := by
  obtain ⟨x, y, e, r⟩ := h
  exact ⟨x, y, by rw [upd_ne n.symm]; exact e, r⟩
theorem disp_one {p : Addr} {M : Nat} {x y : Str} {c : Option V} {H : Hp} {Q : VK} (hp : PotAt H p) (hM : 0 < M) (h9 : M ≤ 9) (q : ∀ d H' n, H d = none → PotAt H' p → But p H H' → n < M → H' d = some (.dK [(.inr x, natV n)]) → Q (.ref d) H') :
    tDisp [(tVar 2, tDr)] [some (.ref p), some (natV M), some (.str x), some (.str y), c] H Q := by
  intro a na
  refine ⟨_, rfl, ?_⟩
  refine ⟨_, rfl, _, rfl, ⟨p, (M : Nat), rfl, pot_upd hp na, by omega, big_lt h9, fun d H1 d0 dl p1 b1 => ?_⟩⟩
  obtain ⟨n, rfl⟩ := Int.eq_ofNat_of_zero_le d0
  have ne := pot_new hp na
  refine ⟨b1 a _ ne upd_same, [(.inr x, natV n)], rfl, by show 1 ≤ 15; decide, ?_⟩
  exact q a _ n na (pot_upd2 p1 ne) (but_disp na b1) (by omega) upd_same
theorem disp_two {p : Addr} {M : Nat} {x y : Str} {c : Option V} {H : Hp} {Q : VK} (hxy : x ≠ y) (hp : PotAt H p) (hM : 0 < M) (h9 : M ≤ 9) (q : ∀ d H' n m, H d = none → PotAt H' p → But p H H' → n < M → m < M → H' d = some (.dK [(.inr x, natV n), (.inr y, natV m)]) → Q (.ref d) H') :
    tDisp [(tVar 2, tDr), (tVar 3, tDr)] [some (.ref p), some (natV M), some (.str x), some (.str y), c] H Q := by
  intro a na
  refine ⟨_, rfl, ?_⟩
  refine ⟨_, rfl, _, rfl, ⟨p, (M : Nat), rfl, pot_upd hp na, by omega, big_lt h9, fun d H1 d0 dl p1 b1 => ?_⟩⟩
  obtain ⟨n, rfl⟩ := Int.eq_ofNat_of_zero_le d0
  refine ⟨_, rfl, ?_⟩
  refine ⟨_, rfl, _, rfl, ⟨p, (M : Nat), rfl, p1, by omega, big_lt h9, fun d2 H2 d02 dl2 p2 b2 => ?_⟩⟩
  obtain ⟨m, rfl⟩ := Int.eq_ofNat_of_zero_le d02
  have ne := pot_new hp na
  refine ⟨b2 a _ ne (b1 a _ ne upd_same), [(.inr x, natV n), (.inr y, natV m)], rfl, by show 2 ≤ 15; decide, ?_⟩
  have e : mergeK [] [((.inr x : Key), natV n), (.inr y, natV m)] = [(.inr x, natV n), (.inr y, natV m)] := by
    simp [mergeK, putK, hxy]
  rw [e]
  exact q a _ n m na (pot_upd2 p2 ne) (but_disp na (b1.trans b2)) (by omega) (by omega) upd_same
theorem dput_ {td ty tv : TE} {D : Ends} {σ : L2.St} {H : Hp} (h : tv σ H fun v H1 => td σ H1 fun x H2 => ty σ H2 fun y H3 => ∃ a H4, x = .ref a ∧ DPut H3 a y v H4 ∧ D.nx σ H4) : sDPut td ty tv D σ H := h
theorem rowOf_lt {kw : List (Key × V)} (h : ∀ kv ∈ kw, ∃ o : Option Nat, kv.2 = optV o ∧ ∀ n, o = some n → n < 9) {z : Str} {n : Nat} (e : rowOf kw z = some n) : n < 9 := by
  unfold rowOf at e
  cases e1 : valV kw (.inr z) with
  | none => rw [e1] at e; cases e
  | some v =>
    rw [e1] at e
    unfold valV at e1
    obtain ⟨kv, e2, e3⟩ := Option.map_eq_some_iff.mp e1
    obtain ⟨o, ho, hl⟩ := h kv (List.mem_of_find?_eq_some e2)
    rw [ho] at e3
    subst e3
    cases o with
    | none => cases e
    | some m =>
      have e4 : ((m : Nat) : Int).toNat = n := Option.some.inj e
      have := hl m rfl
      omega
def Lo (kw : List (Key × V)) : Prop := ∀ kv ∈ kw, ∃ o : Option Nat, kv.2 = optV o ∧ ∀ n, o = some n → n < 9
def rws (ku kh kd : List (Key × V)) : RowsF := fun w z => match w with
  | 0 => rowOf kh z
  | 1 => rowOf ku z
  | _ => rowOf kd z
theorem rws_at {H : Hp} {a du dh dd : Addr} {ku kh kd : List (Key × V)} (e : H a = some (.dK (rowK du dh dd))) (eu : H du = some (.dK ku)) (eh : H dh = some (.dK kh)) (ed : H dd = some (.dK kd)) (lu : Lo ku) (lh : Lo kh) (ld : Lo kd) : Rws H a (rws ku kh kd) du dh dd :=
  ⟨e, ⟨ku, eu, fun z => rowOf_ok (fun kv m => (lu kv m).imp fun _ h => h.1) z⟩, ⟨kh, eh, fun z => rowOf_ok (fun kv m => (lh kv m).imp fun _ h => h.1) z⟩, ⟨kd, ed, fun z => rowOf_ok (fun kv m => (ld kv m).imp fun _ h => h.1) z⟩⟩
theorem rws_lt {ku kh kd : List (Key × V)} (lu : Lo ku) (lh : Lo kh) (ld : Lo kd) (w : Nat) (z : Str) (n : Nat) (e : rws ku kh kd w z = some n) : n < 9 := by
  unfold rws at e
  split at e
  · exact rowOf_lt lh e
  · exact rowOf_lt lu e
  · exact rowOf_lt ld e
theorem lo_one {x : Str} {o : Option Nat} (h : ∀ n, o = some n → n < 9) : Lo [(.inr x, optV o)] := fun kv m => by
  rw [List.mem_singleton.mp m]
  exact ⟨o, rfl, h⟩
theorem lo_two {x y : Str} {o o' : Option Nat} (h : ∀ n, o = some n → n < 9) (h' : ∀ n, o' = some n → n < 9) : Lo [(.inr x, optV o), (.inr y, optV o')] := fun kv m => by
  rcases List.mem_cons.mp m with rfl | m
  · exact ⟨o, rfl, h⟩
  · rw [List.mem_singleton.mp m]
    exact ⟨o', rfl, h'⟩
section
variable {P : Program} {w : World} {K : PySem.W.Frag} {mg : Str → Option Value} {base : Heap} {f fD : Addr} {fd fdD : FuncData}
theorem scRows : FnScope nmsRo psRo (defScope sRows) := ⟨rfl, rfl, rfl, by decide +kernel, rfl, by decide +kernel, by decide +kernel⟩
theorem ok_rows (F : FnP K "_law_rows" sRows f fd) (FD : FnP K "_law_draw" sDraw fD fdD) (GD : FnOk P w K mg base CX0 1 fD fdD ["_law_pot_here", "_law_many"] spDraw) (gD : mg "_law_draw" = some (.ref fD)) : FnOk P w K mg base CX0 2 f fd psRo (spRows K) := by
  have bD : Binds K fdD ["_law_pot_here", "_law_many"] [] := FD.bindsN fun _ _ _ _ _ _ us hl => match us, hl with | [_, _], _ => rfl
  refine F.ok scRows (fun vs H Q E h => ?_) (fun cdv A outer s H vs Q E hr h => ?_)
  · obtain ⟨p, M, x, y, rfl, _⟩ := h
    rfl
  · obtain ⟨p, M, x, y, rfl, hp, hM, hM9, ne, nx, ny, q⟩ := h
    have nd := scRows.nd
    have hu := hu_of hr
    refine ⟨_, PSs.nox (pss_cons (ps_set (i := 4) nd rfl (Or.inl rfl) (pe_disp (pps_cons pe_str (pe_disp (pps_cons (pv 2) (pe_call GD hr rfl gD FD.kp bD .nil pass0 (pa_cons (pv 0) (pa_cons (pv 1) pa_nil))) (pps_cons (pv 3) (pe_call GD hr rfl gD FD.kp bD .nil pass0 (pa_cons (pv 0) (pa_cons (pv 1) pa_nil))) pps_nil)) rfl rfl (by simp) (by decide)) (pps_cons pe_str (pe_disp (pps_cons (pv 2) (pe_call GD hr rfl gD FD.kp bD .nil pass0 (pa_cons (pv 0) (pa_cons (pv 1) pa_nil))) pps_nil) rfl rfl (by simp) (by decide)) pps_nil)) rfl rfl (by simp) (by decide)))
      (pss_cons (ps_dput hu (pv 4) pe_str (pe_ifExp (pt_cmpR op_eq (pe_call GD hr rfl gD FD.kp bD .nil pass0 (pa_cons (pv 0) (pa_cons pe_int pa_nil))) pe_int (nomark _)) (pe_disp (pps_cons (pv 2) pe_non pps_nil) rfl rfl (by simp) (by decide)) (pe_disp (pps_cons (pv 2) (pe_call GD hr rfl gD FD.kp bD .nil pass0 (pa_cons (pv 0) (pa_cons (pv 1) pa_nil))) pps_nil) rfl rfl (by simp) (by decide))) rfl)
      (pss_cons (ps_if (pt_cmpR op_eq (pe_call GD hr rfl gD FD.kp bD .nil pass0 (pa_cons (pv 0) (pa_cons pe_int pa_nil))) pe_int (nomark _)) (pss_one (ps_dput hu (pe_dget hu (pv 4) pe_str (fun _ _ => rfl)) (pv 3) pe_non rfl)) pss_nil)
      (pss_one (ps_ret (pv 4)))))), ?_⟩
    walk_at "rd"
    intro a na
    refine Rd.c ?_
    refine disp_two ne (pot_upd hp na) hM hM9 fun du H1 n1 m1 nu p1 b1 ln lm eu => ?_
    refine Rd.c ?_
    refine disp_one p1 hM hM9 fun dh H2 n2 nh p2 b2 l2 eh => ?_
    have nap := pot_new hp na
    have ndu : du ≠ p := pot_new (pot_upd hp na) nu
    have ndh : dh ≠ p := pot_new p1 nh
    have ea : H2 a = some (.dK []) := b2 a _ nap (b1 a _ nap upd_same)
    have eu2 := b2 _ _ ndu eu
    have dua : du ≠ a := fun e => by rw [e, ea] at eu2; cases eu2
    have dha : dh ≠ a := fun e => by rw [e, ea] at eh; cases eh
    have duh : du ≠ dh := fun e => by rw [e, nh] at eu; cases eu
    have nhH : H dh = none := by
      cases e : H dh with
      | none => rfl
      | some o =>
        have z := b1 _ _ ndh (same_new (o := HO.dK []) na _ _ e)
        rw [nh] at z
        cases z
    refine ⟨ea, [(.inr "up", .ref du), (.inr "here", .ref dh)], rfl, by show 2 ≤ 15; decide, ?_⟩
    have p3 : PotAt (upd H2 a (.dK (mergeK [] [(.inr "up", .ref du), (.inr "here", .ref dh)]))) p := pot_upd2 p2 nap
    have b3 : But p H (upd H2 a (.dK (mergeK [] [(.inr "up", .ref du), (.inr "here", .ref dh)]))) := but_disp na (b1.trans b2)
    have e3a : upd H2 a (.dK (mergeK [] [(.inr "up", .ref du), (.inr "here", .ref dh)])) a = some (.dK [(.inr "up", .ref du), (.inr "here", .ref dh)]) := upd_same
    have e3u : upd H2 a (.dK (mergeK [] [(.inr "up", .ref du), (.inr "here", .ref dh)])) du = _ := (upd_ne dua).trans eu2
    have e3h : upd H2 a (.dK (mergeK [] [(.inr "up", .ref du), (.inr "here", .ref dh)])) dh = _ := (upd_ne dha).trans eh
    generalize upd H2 a (.dK (mergeK [] [(.inr "up", .ref du), (.inr "here", .ref dh)])) = H3 at p3 b3 e3a e3u e3h ⊢
    have LU : Lo [(.inr x, natV n1), (.inr y, natV m1)] := lo_two (o := some n1) (o' := some m1) (fun n e => by cases e; omega) (fun n e => by cases e; omega)
    have LH1 : Lo [(.inr x, natV n2)] := lo_one (o := some n2) (fun n e => by cases e; omega)
    have LH2 : Lo [(.inr x, natV n2), (.inr y, optV none)] := lo_two (o := some n2) (o' := none) (fun n e => by cases e; omega) (fun n e => by cases e)
    walk_at "rd"
    refine dput_ ?_
    walk_at "rd"
    refine ⟨p, 3, rfl, p3, by decide, by decide +kernel, fun d4 H4 d40 d4l p4 b4 => ?_⟩
    walk_at "rd"
    have e4a := b4 _ _ nap e3a
    have e4u := b4 _ _ ndu e3u
    have e4h := b4 _ _ ndh e3h
    refine Rd.ifB (fun z => ?_) (fun z => ?_)
    · intro dd ndd
      refine ⟨_, rfl, ?_⟩
      refine Rd.c ?_
      have ddp := pot_new p4 ndd
      refine ⟨upd_same, [(.inr x, optV none)], rfl, by show 1 ≤ 15; decide, ?_⟩
      have p5 : PotAt (upd (upd H4 dd (.dK [])) dd (.dK (mergeK [] [(.inr x, optV none)]))) p := pot_upd2 (pot_upd2 p4 ddp) ddp
      have e5d : upd (upd H4 dd (.dK [])) dd (.dK (mergeK [] [(.inr x, optV none)])) dd = some (.dK [(.inr x, optV none)]) := upd_same
      have u5 : ∀ c o, H4 c = some o → upd (upd H4 dd (.dK [])) dd (.dK (mergeK [] [(.inr x, optV none)])) c = some o := fun c o e => by rw [upd_ne (ne_of_none e ndd), upd_ne (ne_of_none e ndd)]; exact e
      have b5 : But p H (upd (upd H4 dd (.dK [])) dd (.dK (mergeK [] [(.inr x, optV none)]))) := fun c o hc e => u5 c o ((b3.trans b4) c o hc e)
      generalize upd (upd H4 dd (.dK [])) dd (.dK (mergeK [] [(.inr x, optV none)])) = H5 at p5 e5d u5 b5 ⊢
      have dda : dd ≠ a := fun e => by rw [e, e4a] at ndd; cases ndd
      have ddh : dd ≠ dh := fun e => by rw [e, e4h] at ndd; cases ndd
      have LD : Lo [(.inr x, optV none)] := lo_one (fun n e => by cases e)
      have e6a : H5 a = some (.dK [(.inr "up", .ref du), (.inr "here", .ref dh)]) := u5 _ _ e4a
      refine ⟨_, rfl, ?_⟩
      refine Rd.c ?_
      refine ⟨a, _, rfl, DPut.k (k := .inr "down") e6a (Nat.lt_of_lt_of_le (show 2 < 100000 by decide) (by decide)), ?_⟩
      have p6 : PotAt (upd H5 a (.dK (putK [(.inr "up", .ref du), (.inr "here", .ref dh)] (.inr "down") (.ref dd)))) p := pot_upd2 p5 nap
      have t6 : upd H5 a (.dK (putK [(.inr "up", .ref du), (.inr "here", .ref dh)] (.inr "down") (.ref dd))) a = some (.dK (rowK du dh dd)) := upd_same
      have u6 : ∀ c o, c ≠ a → H5 c = some o → upd H5 a (.dK (putK [(.inr "up", .ref du), (.inr "here", .ref dh)] (.inr "down") (.ref dd))) c = some o := fun c o n e => by rw [upd_ne n]; exact e
      have b6 : But p H (upd H5 a (.dK (putK [(.inr "up", .ref du), (.inr "here", .ref dh)] (.inr "down") (.ref dd)))) := fun c o hc e => u6 c o (ne_of_none e na) (b5 c o hc e)
      generalize upd H5 a (.dK (putK [(.inr "up", .ref du), (.inr "here", .ref dh)] (.inr "down") (.ref dd))) = H6 at p6 t6 u6 b6 ⊢
      walk_at "rd"
      refine ⟨p, 2, rfl, p6, by decide, by decide +kernel, fun d7 H7 d70 d7l p7 b7 => ?_⟩
      walk_at "rd"
      have eu7 := b7 _ _ ndu (u6 _ _ dua (u5 _ _ e4u))
      have eh7 := b7 _ _ ndh (u6 _ _ dha (u5 _ _ e4h))
      have ed7 := b7 _ _ ddp (u6 _ _ dda e5d)
      have ea7 := b7 _ _ nap t6
      refine Rd.ifB (fun z => ?_) (fun z => ?_)
      · refine dput_ ?_
        refine Rd.c ?_
        refine dget ?_
        refine ⟨_, rfl, ?_⟩
        refine Rd.c ?_
        refine ⟨a, .ref dh, rfl, DGet.k (k := .inr "here") ea7, ?_⟩
        refine ⟨_, rfl, ?_⟩
        refine ⟨dh, _, rfl, DPut.k (k := .inr y) eh7 (Nat.lt_of_lt_of_le (show 1 < 100000 by decide) (by decide)), ?_⟩
        have pk : putK [((.inr x : Key), natV n2)] (.inr y) .non = [(.inr x, natV n2), (.inr y, optV none)] := by simp [putK, ne, optV]
        rw [pk]
        walk_at "rd"
        refine q _ a (rws [(.inr x, natV n1), (.inr y, natV m1)] [(.inr x, natV n2), (.inr y, optV none)] [(.inr x, optV none)]) du dh dd (pot_upd2 p7 ndh) (fun c o hc e => by rw [upd_ne (ne_of_none e nhH)]; exact (b6.trans b7) c o hc e) (rws_at (by rw [upd_ne dha.symm]; exact ea7) (by rw [upd_ne duh]; exact eu7) upd_same (by rw [upd_ne ddh]; exact ed7) LU LH2 LD) ?_ (rws_lt LU LH2 LD)
        show rowOf _ _ = none
        simp [rowOf, valV, nx, ny]
      · walk_at "rd"
        refine q H7 a (rws [(.inr x, natV n1), (.inr y, natV m1)] [(.inr x, natV n2)] [(.inr x, optV none)]) du dh dd p7 (b6.trans b7) (rws_at ea7 eu7 eh7 ed7 LU LH1 LD) ?_ (rws_lt LU LH1 LD)
        show rowOf _ _ = none
        simp [rowOf, valV, nx, ny]
    · refine disp_one p4 hM hM9 fun dd H5 n3 ndd p5 b5' l3 e5d => ?_
      have ddp := pot_new p4 ndd
      have dda : dd ≠ a := fun e => by rw [e, e4a] at ndd; cases ndd
      have ddh : dd ≠ dh := fun e => by rw [e, e4h] at ndd; cases ndd
      have b5 : But p H H5 := (b3.trans b4).trans b5'
      have LD : Lo [(.inr x, natV n3)] := lo_one (o := some n3) (fun n e => by cases e; omega)
      have e6a : H5 a = some (.dK [(.inr "up", .ref du), (.inr "here", .ref dh)]) := b5' _ _ nap e4a
      refine ⟨_, rfl, ?_⟩
      refine Rd.c ?_
      refine ⟨a, _, rfl, DPut.k (k := .inr "down") e6a (Nat.lt_of_lt_of_le (show 2 < 100000 by decide) (by decide)), ?_⟩
      have p6 : PotAt (upd H5 a (.dK (putK [(.inr "up", .ref du), (.inr "here", .ref dh)] (.inr "down") (.ref dd)))) p := pot_upd2 p5 nap
      have t6 : upd H5 a (.dK (putK [(.inr "up", .ref du), (.inr "here", .ref dh)] (.inr "down") (.ref dd))) a = some (.dK (rowK du dh dd)) := upd_same
      have u6 : ∀ c o, c ≠ a → H5 c = some o → upd H5 a (.dK (putK [(.inr "up", .ref du), (.inr "here", .ref dh)] (.inr "down") (.ref dd))) c = some o := fun c o n e => by rw [upd_ne n]; exact e
      have b6 : But p H (upd H5 a (.dK (putK [(.inr "up", .ref du), (.inr "here", .ref dh)] (.inr "down") (.ref dd)))) := fun c o hc e => u6 c o (ne_of_none e na) (b5 c o hc e)
      generalize upd H5 a (.dK (putK [(.inr "up", .ref du), (.inr "here", .ref dh)] (.inr "down") (.ref dd))) = H6 at p6 t6 u6 b6 ⊢
      walk_at "rd"
      refine ⟨p, 2, rfl, p6, by decide, by decide +kernel, fun d7 H7 d70 d7l p7 b7 => ?_⟩
      walk_at "rd"
      have eu7 := b7 _ _ ndu (u6 _ _ dua (b5' _ _ ndu e4u))
      have eh7 := b7 _ _ ndh (u6 _ _ dha (b5' _ _ ndh e4h))
      have ed7 := b7 _ _ ddp (u6 _ _ dda e5d)
      have ea7 := b7 _ _ nap t6
      refine Rd.ifB (fun z => ?_) (fun z => ?_)
      · refine dput_ ?_
        refine Rd.c ?_
        refine dget ?_
        refine ⟨_, rfl, ?_⟩
        refine Rd.c ?_
        refine ⟨a, .ref dh, rfl, DGet.k (k := .inr "here") ea7, ?_⟩
        refine ⟨_, rfl, ?_⟩
        refine ⟨dh, _, rfl, DPut.k (k := .inr y) eh7 (Nat.lt_of_lt_of_le (show 1 < 100000 by decide) (by decide)), ?_⟩
        have pk : putK [((.inr x : Key), natV n2)] (.inr y) .non = [(.inr x, natV n2), (.inr y, optV none)] := by simp [putK, ne, optV]
        rw [pk]
        walk_at "rd"
        refine q _ a (rws [(.inr x, natV n1), (.inr y, natV m1)] [(.inr x, natV n2), (.inr y, optV none)] [(.inr x, natV n3)]) du dh dd (pot_upd2 p7 ndh) (fun c o hc e => by rw [upd_ne (ne_of_none e nhH)]; exact (b6.trans b7) c o hc e) (rws_at (by rw [upd_ne dha.symm]; exact ea7) (by rw [upd_ne duh]; exact eu7) upd_same (by rw [upd_ne ddh]; exact ed7) LU LH2 LD) ?_ (rws_lt LU LH2 LD)
        show rowOf _ _ = none
        simp [rowOf, valV, nx, ny]
      · walk_at "rd"
        refine q H7 a (rws [(.inr x, natV n1), (.inr y, natV m1)] [(.inr x, natV n2)] [(.inr x, natV n3)]) du dh dd p7 (b6.trans b7) (rws_at ea7 eu7 eh7 ed7 LU LH1 LD) ?_ (rws_lt LU LH1 LD)
        show rowOf _ _ = none
        simp [rowOf, valV, nx, ny]
end
end K17

namespace K17
open PySem PySem.Spec PyProof.Rows L2
local macro_rules | `(tactic| walk_at "rd1") => `(tactic| first
  | (with_reducible refine Rd.seq ?_) | (with_reducible refine Rd.asg ?_) | (with_reducible refine Rd.ret ?_) | (with_reducible refine Rd.nxt ?_) | (with_reducible refine Rd.ifS ?_)
  | (with_reducible refine Rd.op ?_) | (with_reducible refine Rd.un ?_) | (with_reducible refine Rd.cb ?_) | (with_reducible refine Rd.cons ?_) | (with_reducible refine Rd.nil ?_) | (with_reducible refine Rd.ifx ?_)
  | (with_reducible refine Rd.test ?_) | (with_reducible refine Rd.testB ?_) | (with_reducible refine Rd.notT ?_) | (with_reducible refine Rd.isB ?_) | (with_reducible refine Rd.lst ?_) | (with_reducible refine Rd.tup ?_)
  | (with_reducible refine Rd.andV ?_) | (with_reducible refine Rd.orV ?_) | (with_reducible refine Rd.notV ?_) | (with_reducible refine Rd.andT ?_) | (with_reducible refine Rd.orT ?_) | (with_reducible refine Rd.chain ?_)
  | (with_reducible refine Rd.m0 ?_) | (with_reducible refine Rd.m1 ?_) | (with_reducible refine Rd.bm0 ?_) | (with_reducible refine Rd.bm ?_) | (with_reducible refine Rd.sl ?_) | (with_reducible refine Rd.part ?_) | (with_reducible refine Rd.part0 ?_) | (with_reducible refine Rd.isI ?_)
  | (with_reducible refine Rd.fmt ?_) | (with_reducible refine Rd.fmtRD ?_) | (with_reducible refine Rd.meth ?_) | (with_reducible refine makeG ?_) | (with_reducible refine Rd.prop ?_) | (with_reducible refine Rd.js ?_) | (with_reducible refine Rd.js0 ?_) | (with_reducible refine Rd.par ?_) | (with_reducible refine Rd.star ?_) | (with_reducible refine lcR1 ?_) | (with_reducible refine lcR2 ?_) | (with_reducible refine Rd.fld ?_) | (with_reducible refine Rd.sfld ?_) | (with_reducible refine Rd.expr ?_) | (with_reducible refine L2.isNR ?_) | (with_reducible refine L2.methI ?_) | (with_reducible refine Rd.forZ ?_)
  | (with_reducible refine Rd.forEA ?_) | (with_reducible refine Rd.forR1 ?_) | (with_reducible refine Rd.forR2 ?_) | (with_reducible refine Rd.forL ?_) | (with_reducible refine Rd.forT ?_)
  | (with_reducible refine Rd.call ?_) | (with_reducible refine Rd.asgG ?_) | (with_reducible refine Rd.gNm ?_) | (with_reducible refine Rd.gSb ?_) | (with_reducible refine Rd.gC ?_) | (with_reducible refine Rd.gN ?_)
  | ((with_reducible refine' Rd.var ?hv ?_); (case hv => exact rfl)) | (with_reducible refine Rd.c ?_) | (with_reducible refine Rd.i0 ?_) | (with_reducible refine Rd.neg ?_)
  | ((with_reducible refine' Rd.iC ?hc ?_); (case hc => first | (show (0 : Int) < _; decide) | exact ⟨by decide, by decide⟩ | exact ⟨by decide, by decide, by decide⟩ | exact .inl ⟨by decide, by decide⟩ | exact .inr ⟨by decide, by decide⟩ | exact .inl ⟨by omega, by omega⟩ | (show (0 : Int) < _; omega) | exact ⟨by omega, by omega⟩))
  | ((with_reducible refine' Rd.eqS ?hc ?_); (case hc => rfl)) | ((with_reducible refine' Rd.neS ?hc ?_); (case hc => rfl)))
local macro_rules | `(tactic| walk_at "rd") => `(tactic| repeat walk_at "rd1")
theorem passC {P : Program} {w : World} {X : Cx} : Passes (CX P w) X E0 := fun _ _ _ _ _ _ _ ⟨_, _, _, _, _, _, _, _, _, _, _, _, h⟩ => h.elim
theorem lcL_ {K : PySem.W.Frag} {tl te : TE} {g : TG} {tt : TT} {vs : List Nat} {σ : L2.St} {H : Hp} {Q : VK} (h : tl σ H fun x H1 => ∃ a, x = .ref a ∧ (∃ xs, SqL K H1 a xs) ∧ ∀ D, H1 D = none → ∃ W : Nat → Nat → Hp → Prop, (∃ m, W 0 m (upd H1 D (.lst []))) ∧ ∀ i m H, W i m H →
  ((Itl K a).stop i H ∧ Q (.ref D) H) ∨ ((Itl K a).go i H ∧ ∃ Nx : Hp → Prop, (∀ H', Nx H' → ∃ m', m' < m ∧ W (i + 1) m' H') ∧ ∀ x H', (Itl K a).yld i H x H' → g x (wipe σ vs) H' fun σ2 H2 => wipe σ2 vs = wipe σ vs ∧ tt σ2 H2 fun b H3 =>
    if b = true then te σ2 H3 fun y H4 => ∃ acc, H4 D = some (.lst acc) ∧ acc.length < sizeLine ∧ Nx (upd H4 D (.lst (acc ++ [y]))) else Nx H3)) : tLc (iList K tl) g tt te vs σ H Q := h
theorem LkAt.get {H : Hp} : ∀ {vs : List V} {us : List Look} {i : Nat} {v : V}, LkAt H vs us → vs[i]? = some v → ∃ x, us[i]? = some x ∧ LookAt H v x
  | v :: vs, x :: xs, 0, u, h, e => ⟨x, rfl, by cases e; exact h.1⟩
  | v :: vs, x :: xs, i + 1, u, h, e => LkAt.get (i := i) h.2 e
  | [], [], i, u, h, e => by cases i <;> cases e
  | [], _ :: _, _, _, h, _ => h.elim
  | _ :: _, [], _, _, h, _ => h.elim
theorem same_set {H H1 : Hp} {D : Addr} {o : HO} (n : H D = none) (s : Same H H1) : Same H (upd H1 D o) := fun b u e => by rw [upd_ne (ne_of_none e n)]; exact s _ _ e
theorem listG_ {ι : Type} {C : ι → Addr} {m : Str} {sp : ι → SpG} {dvs : List V} {E : XK} {ta : TE} {σ : L2.St} {H : Hp} {Q : VK} (h : ta σ H fun x H1 => ∃ i a dx fs, x = .ref a ∧ H1 a = some (.ins (C i) dx fs) ∧ fs.lookup m = none ∧ sp i (x :: dvs) H1 (fun out H2 => ∀ p, H2 p = none → Q (.ref p) (upd H2 p (.lst out))) E) : tListG (tMethGI C m sp dvs E ta) σ H Q := h
theorem NdsAt.get {H : Hp} : ∀ {k : Nat} {us vs : List V} {i : Nat} {u : V}, NdsAt H k us vs → us[i]? = some u → ∃ v, vs[i]? = some v ∧ NodeAt H u (k + i) v
  | k, u :: us, v :: vs, 0, x, h, e => ⟨v, rfl, by cases e; exact h.1⟩
  | k, u :: us, v :: vs, i + 1, x, h, e => by
    obtain ⟨w, e1, e2⟩ := NdsAt.get (i := i) h.2 e
    exact ⟨w, e1, by rw [show k + (i + 1) = k + 1 + i by omega]; exact e2⟩
  | _, [], [], i, u, h, e => by cases i <;> cases e
  | _, [], _ :: _, _, _, h, _ => h.elim
  | _, _ :: _, [], _, _, h, _ => h.elim
def spotsTo (f : Fm) (k : Nat) : List Nat := (List.range k).filter fun j => isRef (f.at j)
theorem spots_succ (f : Fm) (k : Nat) : spotsTo f (k + 1) = spotsTo f k ++ if isRef (f.at k) = true then [k] else [] := by
  unfold spotsTo
  rw [List.range_succ, List.filter_append]
  congr 1
  cases e : isRef (f.at k) <;> simp [e]
theorem spots_len (f : Fm) (k : Nat) : (spotsTo f k).length ≤ k := by
  unfold spotsTo
  exact Nat.le_trans (List.length_filter_le ..) (by rw [List.length_range]; exact Nat.le_refl _)
theorem Rws.kf {K : PySem.W.Frag} {c : Cs} {H H' : Hp} {rd : Addr} {R : RowsF} {du dh dd : Addr} (k : Kf K c H H') (h : Rws H rd R du dh dd) : Rws H' rd R du dh dd := by
  have kd : ∀ {d : Addr} {w : Nat}, RowD H d R w → RowD H' d R w := fun {d w} ⟨kw, e, z⟩ => ⟨kw, k.oth e (fun _ _ _ q => by cases q), z⟩
  exact ⟨k.oth h.rd (fun _ _ _ q => by cases q), kd h.u, kd h.h, kd h.d⟩
theorem LkAt.kf {K : PySem.W.Frag} {c : Cs} {H H' : Hp} (k : Kf K c H H') : ∀ {vs : List V} {ls : List Look}, LkAt H vs ls → LkAt H' vs ls
  | [], [], _ => trivial
  | _ :: _, _ :: _, ⟨⟨t, e, ht⟩, h⟩ => ⟨⟨t, e, k.oth ht (fun _ _ _ q => by cases q)⟩, LkAt.kf k h⟩
  | [], _ :: _, h => h.elim
  | _ :: _, [], h => h.elim
theorem LL.kf {K : PySem.W.Frag} {c : Cs} {H H' : Hp} (k : Kf K c H H') {L : Addr} {lv : List V} {us : List Look} (h : LL H L lv us) : LL H' L lv us := ⟨k.oth h.l (fun _ _ _ q => by cases q), h.at_.kf k⟩
theorem NeedAt.kf {K : PySem.W.Frag} {c : Cs} {H H' : Hp} (k : Kf K c H H') {o : Option (Nat × Str)} {v : V} (h : NeedAt K H o v) : NeedAt K H' o v := by
  cases o with
  | none => exact h
  | some x => obtain ⟨t, e, h⟩ := h; exact ⟨t, e, sqt_kf k h⟩
theorem AnsAt.kf {K : PySem.W.Frag} {c : Cs} {H H' : Hp} (k : Kf K c H H') {v : V} {o : Option Nat} {nd : Option (Nat × Str)} {us : List Look} (h : AnsAt K H v o nd us) : AnsAt K H' v o nd us := by
  obtain ⟨A, nv, L, lv, e, h1, h2, h3⟩ := h.ex
  exact ⟨A, nv, L, lv, e, k.oth h1 (fun _ _ _ q => by cases q), h2.kf k, h3.kf k⟩
theorem spots_mem {f : Fm} {k j : Nat} (h : j ∈ spotsTo f k) : j < k ∧ isRef (f.at j) = true := by
  unfold spotsTo at h
  obtain ⟨h1, h2⟩ := List.mem_filter.mp h
  exact ⟨List.mem_range.mp h1, h2⟩
theorem cut_len {m : Nat} : ∀ {us : List Look}, (∃ x ∈ us, x.1 = m) → ∃ y, us[(cutB m us).length]? = some y ∧ y.1 = m ∧ us.take (cutB m us).length = cutB m us ∧ ∀ i z, i < (cutB m us).length → us[i]? = some z → z.1 ≠ m
  | [], ⟨x, h, _⟩ => absurd h List.not_mem_nil
  | u :: us, ⟨x, h, e⟩ => by
    by_cases hu : u.1 = m
    · have e0 : cutB m (u :: us) = [] := by
        unfold cutB
        rw [List.takeWhile_cons, show (u.1 != m) = false from by rw [hu]; simp]
        rfl
      rw [e0]
      exact ⟨u, rfl, hu, rfl, fun i z hi => absurd hi (Nat.not_lt_zero _)⟩
    · have e0 : cutB m (u :: us) = u :: cutB m us := by
        unfold cutB
        rw [List.takeWhile_cons, show (u.1 != m) = true from by simp [hu]]
        rfl
      have h2 : x ∈ us := by
        rcases List.mem_cons.mp h with rfl | h
        · exact absurd e hu
        · exact h
      obtain ⟨y, e1, e2, e3, e4⟩ := cut_len (m := m) ⟨x, h2, e⟩
      rw [e0]
      refine ⟨y, e1, e2, ?_, fun i z hi hz => ?_⟩
      · rw [List.length_cons, List.take_succ_cons, e3]
      · cases i with
        | zero => cases hz; exact hu
        | succ i => exact e4 i z (by simpa using hi) hz
theorem LkAt.take {H : Hp} : ∀ {vs : List V} {us : List Look} (k : Nat), LkAt H vs us → LkAt H (vs.take k) (us.take k)
  | [], [], k, _ => by rw [List.take_nil, List.take_nil]; trivial
  | _ :: _, _ :: _, 0, _ => trivial
  | _ :: _, _ :: _, k + 1, h => ⟨h.1, LkAt.take k h.2⟩
  | [], _ :: _, _, h => h.elim
  | _ :: _, [], _, h => h.elim
/-! ### what the law shows -/
def optD : Option Nat → PyData
  | none => .none
  | some n => .int (n : Nat)
def needD : Option (Nat × Str) → PyData
  | none => .none
  | some x => .tuple [.str (refWhere x.1), .str x.2]
def lookD (x : Look) : PyData := .tuple [.int (x.1 : Nat), .str (refWhere x.2.1), .str x.2.2]
def ansD (o : Option Nat) (nd : Option (Nat × Str)) (us : List Look) : PyData := .list [optD o, needD nd, .list (us.map lookD)]
theorem opt_dd {K : PySem.W.Frag} {H : Hp} (o : Option Nat) : Dd K H (optV o) (optD o) := by
  cases o with
  | none => exact .non
  | some n => exact .int _
theorem need_dd {K : PySem.W.Frag} {H : Hp} {nd : Option (Nat × Str)} {v : V} (h : NeedAt K H nd v) : Dd K H v (needD nd) := by
  cases nd with
  | none => rw [show v = .non from h]; exact .non
  | some x => obtain ⟨t, rfl, h⟩ := h; exact .tup h (.cons (.str _) (.cons (.str _) .nil))
theorem looks_dds {K : PySem.W.Frag} {H : Hp} : ∀ {vs : List V} {us : List Look}, LkAt H vs us → Dds K H vs (us.map lookD)
  | [], [], _ => .nil
  | _ :: _, _ :: _, ⟨⟨t, e, ht⟩, h⟩ => by
    rw [e]
    exact .cons (.tup (SqT.of ht) (.cons (.int _) (.cons (.str _) (.cons (.str _) .nil)))) (looks_dds h)
  | [], _ :: _, h => h.elim
  | _ :: _, [], h => h.elim
structure Shw (x : PyData) : Prop where
  sw : x.showable = true
  dp : x.depth ≤ 20
  ln : x.shown.length ≤ 10000
theorem repr_ans {K : PySem.W.Frag} {H : Hp} {Q : VK} {v : V} {o : Option Nat} {nd : Option (Nat × Str)} {us : List Look} (h : AnsAt K H v o nd us) (sh : Shw (ansD o nd us)) (k : Q (.str (ansD o nd us).shown) H) : rRepr K [v] H Q := by
  obtain ⟨A, nv, L, lv, rfl, h1, h2, h3⟩ := h.ex
  exact ⟨A, ansD o nd us, rfl, .lst (SqL.of h1) (.cons (opt_dd o) (.cons (need_dd h2) (.cons (.lst (SqL.of h3.l) (looks_dds h3.at_)) .nil))), sh.sw, sh.dp, Rd.small (Nat.le_trans sh.ln (by decide)), k⟩
theorem w_int : ∀ n, n < 17 → (PyData.int (n : Nat)).weight ≤ 5 := by decide +kernel
theorem lk_ok {M : Nat} {R : RowsF} : ∀ {f : Fm} {N : Nat} {x : Look}, Okf f → x ∈ lk M R f N → x.2.1 < 3 ∧ Nam x.2.2
  | .num n, N, x, _, h => absurd h List.not_mem_nil
  | .ref w y, N, x, o, h => by
    rw [List.mem_singleton.mp h]
    exact o
  | .pair o l r, N, x, og, h => by
    rcases List.mem_append.mp h with h | h
    · exact lk_ok og.2.1 h
    · cases e : wv M R l with
      | none => rw [e] at h; exact absurd h List.not_mem_nil
      | some y => rw [e] at h; exact lk_ok og.2.2 h
  | .cho t s a b, N, x, og, h => by
    rcases List.mem_append.mp h with h | h
    · exact lk_ok og.2.1 h
    · cases e : wv M R t with
      | none => rw [e] at h; exact absurd h List.not_mem_nil
      | some y =>
        rw [e] at h
        dsimp only at h
        split at h
        · exact lk_ok og.2.2.1 h
        · exact lk_ok og.2.2.2 h
/-- a look that can be shown -/
structure Lkg (x : Look) : Prop where
  n : x.1 < 17
  w : x.2.1 < 3
  c : Nam x.2.2
theorem where_len {w : Nat} (h : w < 3) : (refWhere w).length ≤ 4 ∧ PyData.strOk (refWhere w) = true := by
  have : w = 0 ∨ w = 1 ∨ w = 2 := by omega
  rcases this with rfl | rfl | rfl <;> exact ⟨by decide +kernel, by decide +kernel⟩
theorem look_w {x : Look} (h : Lkg x) : (lookD x).weight ≤ 24 := by
  have a := w_int x.1 h.n
  have b : (refWhere x.2.1).cps.size ≤ 4 := (where_len h.w).1
  have c : x.2.2.cps.size ≤ 8 := h.c.few
  unfold lookD
  simp only [PyData.weight, PyData.weightAll] at a ⊢
  omega
theorem looks_w : ∀ us : List Look, (∀ x ∈ us, Lkg x) → PyData.weightAll (us.map lookD) ≤ 25 * us.length
  | [], _ => by simp [PyData.weightAll]
  | x :: us, h => by
    have a := look_w (h x List.mem_cons_self)
    have b := looks_w us fun y hy => h y (List.mem_cons_of_mem _ hy)
    rw [List.map_cons, PyData.weightAll, List.length_cons]
    omega
theorem look_can {x : Look} (h : Lkg x) : (lookD x).canLay0 = true ∧ (lookD x).intsShort 13 = true ∧ (lookD x).showable = true ∧ (lookD x).depth ≤ 2 := by
  have b := (where_len h.w).2
  have hn := h.n
  unfold lookD
  refine ⟨?_, ?_, ?_, ?_⟩
  · simp only [PyData.canLay0, PyData.canLayAll0, b, h.c.sok, Bool.and_self]
  · simp only [PyData.intsShort, PyData.intsShortAll, Bool.and_true]
    exact decide_eq_true (PyData.shown_int_le (by omega))
  · simp only [PyData.showable, PyData.showableAll, Bool.and_true]
    refine decide_eq_true (Nat.lt_of_le_of_lt (Nat.log2_le_self _) (by omega))
  · simp only [PyData.depth, PyData.depthAll]
    decide
theorem looks_can : ∀ us : List Look, (∀ x ∈ us, Lkg x) → PyData.canLayAll0 (us.map lookD) = true ∧ PyData.intsShortAll 13 (us.map lookD) = true ∧ PyData.showableAll (us.map lookD) = true ∧ PyData.depthAll (us.map lookD) ≤ 2
  | [], _ => ⟨rfl, rfl, rfl, by simp [PyData.depthAll]⟩
  | x :: us, h => by
    obtain ⟨a1, a2, a3, a4⟩ := look_can (h x List.mem_cons_self)
    obtain ⟨b1, b2, b3, b4⟩ := looks_can us fun y hy => h y (List.mem_cons_of_mem _ hy)
    rw [List.map_cons]
    refine ⟨?_, ?_, ?_, ?_⟩
    · rw [PyData.canLayAll0, a1, b1]; rfl
    · rw [PyData.intsShortAll, a2, b2]; rfl
    · rw [PyData.showableAll, a3, b3]; rfl
    · rw [PyData.depthAll]; omega
theorem opt_shw {o : Option Nat} (h : ∀ n, o = some n → n < 9) : (optD o).canLay0 = true ∧ (optD o).intsShort 13 = true ∧ (optD o).showable = true ∧ (optD o).depth ≤ 2 ∧ (optD o).weight ≤ 24 := by
  cases o with
  | none => exact ⟨rfl, rfl, rfl, by decide, by decide⟩
  | some n =>
    have hn := h n rfl
    have w := w_int n (by omega)
    refine ⟨rfl, decide_eq_true (PyData.shown_int_le (by omega)), decide_eq_true (Nat.lt_of_le_of_lt (Nat.log2_le_self _) (by omega)), ?_, ?_⟩
    · show (PyData.int (n : Nat)).depth ≤ 2
      simp only [PyData.depth]
      decide
    · show (PyData.int (n : Nat)).weight ≤ 24
      omega
theorem need_shw {o : Option (Nat × Str)} (h : ∀ x, o = some x → x.1 < 3 ∧ Nam x.2) : (needD o).canLay0 = true ∧ (needD o).intsShort 13 = true ∧ (needD o).showable = true ∧ (needD o).depth ≤ 2 ∧ (needD o).weight ≤ 24 := by
  cases o with
  | none => exact ⟨rfl, rfl, rfl, by decide, by decide⟩
  | some x =>
    obtain ⟨hw, hn⟩ := h x rfl
    obtain ⟨b1, b2⟩ := where_len hw
    have b1 : (refWhere x.1).cps.size ≤ 4 := b1
    have c : x.2.cps.size ≤ 8 := hn.few
    unfold needD
    refine ⟨?_, ?_, ?_, ?_, ?_⟩
    · simp only [PyData.canLay0, PyData.canLayAll0, b2, hn.sok, Bool.and_self]
    · simp only [PyData.intsShort, PyData.intsShortAll, Bool.and_self]
    · simp only [PyData.showable, PyData.showableAll, Bool.and_self]
    · simp only [PyData.depth, PyData.depthAll]
      decide
    · simp only [PyData.weight, PyData.weightAll]
      omega
theorem ans_shw {M : Nat} {R : RowsF} {f : Fm} (og : Okf f) (few : f.q.1 ≤ 17) (hv : ∀ (f : Fm), Okf f → ∀ n, wv M R f = some n → n < 9) : Shw (ansD (wv M R f) (nd M R f) (lk M R f 0)) := by
  have lkg : ∀ x ∈ lk M R f 0, Lkg x := fun x hx => ⟨by have := lk_range hx; omega, (lk_ok og hx).1, (lk_ok og hx).2⟩
  have ndg : ∀ x, nd M R f = some x → x.1 < 3 ∧ Nam x.2 := fun x e => by
    cases ew : wv M R f with
    | some y =>
      rw [nd_some (by rw [ew]; rfl)] at e
      cases e
    | none =>
      obtain ⟨n, w, z, us, e1, e2⟩ := nd_last (R := R) (N := 0) ew
      rw [e2] at e
      cases e
      exact lk_ok og (x := (n, w, z)) (by rw [e1]; exact List.mem_append_right _ (List.mem_singleton.mpr rfl))
  obtain ⟨a1, a2, a3, a4, a5⟩ := opt_shw (hv f og)
  obtain ⟨b1, b2, b3, b4, b5⟩ := need_shw ndg
  obtain ⟨c1, c2, c3, c4⟩ := looks_can _ lkg
  have c5 := looks_w _ lkg
  have ll := lk_len (M := M) (R := R) (f := f) (n := 0)
  have cl : (ansD (wv M R f) (nd M R f) (lk M R f 0)).canLay0 = true := by
    unfold ansD
    simp only [PyData.canLay0, PyData.canLayAll0, a1, b1, c1, Bool.and_self]
  have is : (ansD (wv M R f) (nd M R f) (lk M R f 0)).intsShort 13 = true := by
    unfold ansD
    simp only [PyData.intsShort, PyData.intsShortAll, a2, b2, c2, Bool.and_self]
  have wt : (ansD (wv M R f) (nd M R f) (lk M R f 0)).weight ≤ 600 := by
    unfold ansD
    simp only [PyData.weight, PyData.weightAll]
    omega
  refine ⟨?_, ?_, ?_⟩
  · unfold ansD
    simp only [PyData.showable, PyData.showableAll, a3, b3, c3, Bool.and_self]
  · unfold ansD
    simp only [PyData.depth, PyData.depthAll]
    omega
  · have z := PyData.shown_le 13 (by decide) _ (PyData.leavesShort_of_canLay0 13 _ cl is)
    omega
theorem AnsAt.same {K : PySem.W.Frag} {H H' : Hp} (s : Same H H') {v : V} {o : Option Nat} {nd : Option (Nat × Str)} {us : List Look} (h : AnsAt K H v o nd us) : AnsAt K H' v o nd us := by
  obtain ⟨A, nv, L, lv, e, h1, h2, h3⟩ := h.ex
  exact ⟨A, nv, L, lv, e, s _ _ h1, h2.same s, h3.same s⟩
theorem lk_ref {M : Nat} {R : RowsF} : ∀ {f : Fm} {N : Nat} {x : Look}, x ∈ lk M R f N → ∃ j, x.1 = N + j ∧ j < f.q.1 ∧ isRef (f.at j) = true
  | .num n, N, x, h => absurd h List.not_mem_nil
  | .ref w y, N, x, h => by
    rw [List.mem_singleton.mp h]
    exact ⟨0, rfl, Nat.one_pos, rfl⟩
  | .pair o l r, N, x, h => by
    rw [q_pair]
    rcases List.mem_append.mp h with h | h
    · obtain ⟨j, e, hj, hr⟩ := lk_ref h
      exact ⟨j + 1, by omega, by omega, by unfold Fm.at; rw [if_pos hj]; exact hr⟩
    · cases e : wv M R l with
      | none => rw [e] at h; exact absurd h List.not_mem_nil
      | some y =>
        rw [e] at h
        obtain ⟨j, e, hj, hr⟩ := lk_ref h
        exact ⟨l.q.1 + j + 1, by omega, by omega, by unfold Fm.at; rw [if_neg (by omega), show l.q.1 + j - l.q.1 = j by omega]; exact hr⟩
  | .cho t s a b, N, x, h => by
    rw [q_cho]
    rcases List.mem_append.mp h with h | h
    · obtain ⟨j, e, hj, hr⟩ := lk_ref h
      exact ⟨j + 1, by omega, by omega, by unfold Fm.at; rw [if_pos hj]; exact hr⟩
    · cases e : wv M R t with
      | none => rw [e] at h; exact absurd h List.not_mem_nil
      | some y =>
        rw [e] at h
        dsimp only at h
        split at h
        · obtain ⟨j, e, hj, hr⟩ := lk_ref h
          exact ⟨t.q.1 + j + 1, by omega, by omega, by unfold Fm.at; rw [if_neg (by omega), if_pos (by omega), show t.q.1 + j - t.q.1 = j by omega]; exact hr⟩
        · obtain ⟨j, e, hj, hr⟩ := lk_ref h
          exact ⟨t.q.1 + a.q.1 + j + 1, by omega, by omega, by unfold Fm.at; rw [if_neg (by omega), if_neg (by omega), show t.q.1 + a.q.1 + j - t.q.1 - a.q.1 = j by omega]; exact hr⟩
abbrev sPR : Stmt := topA i_law_put_right
abbrev psPR : List Str := ["_law_base", "_law_made", "_law_rows_here", "_law_told"]
abbrev nmsPR : List Str := ["_law_base", "_law_made", "_law_rows_here", "_law_told", "_law_met", "_law_spots", "_law_heard", "_law_due", "_law_ahead", "_law_number", "_law_where", "_law_column", "_law_node"]
def spPR (K : PySem.W.Frag) (c : Cs) (n : Nat) : Sp := fun vs H Q _ => ∃ (f : Fm) (v : V) (l : List V) (M : Nat) (R : RowsF) (rd du dh dd : Addr) (a : V), vs = [natV M, v, .ref rd, a] ∧ FmAt K c H f v l ∧ Okf f ∧ f.ht ≤ n ∧ f.q.1 ≤ 17 ∧ 0 < M ∧ Rws H rd R du dh dd ∧ R 0 "void" = none ∧ (∀ (f : Fm), Okf f → ∀ n, wv M R f = some n → n < 9) ∧ AnsAt K H a (wv M R f) (nd M R f) (lk M R f 0) ∧
  ∀ H', Kf K c H H' → Q (.bl true) H'
section
variable {P : Program} {w : World} {K : PySem.W.Frag} {mg : Str → Option Value} {base : Heap} {c : Cs} {CF CR f fA fP fN f0 : Addr} {fd fdA fdP fdN fd0 : FuncData}
theorem scPR : FnScope nmsPR psPR (defScope sPR) := ⟨rfl, rfl, rfl, by decide +kernel, rfl, by decide +kernel, by decide +kernel⟩
theorem ok_pr (F : FnP K "_law_put_right" sPR f fd) (T : Cl K c) (B : Fb K mg c CF) (kR : ∀ f, Okf f → PySem.W.kitOne K (.ref (clsOf c f)) (.ref CR) = some (isRef f)) (n : Nat) (FA : FnP K "_law_answer" sAns fA fdA) (GA : FnOk P w K mg base CX0 (n + 5) fA fdA psAn (spAns K c n)) (gA : mg "_law_answer" = some (.ref fA))
    (GP : FnOk P w K mg base CX0 (n + 7) fP fdP ["self", "number", "formula"] (spPut K c n)) (bP : Binds K fdP ["self", "number", "formula"] []) (mP : ∀ g, Meth K (clsOf c g) "put" fP)
    (GN : GFn P w K mg base (n + 2) fN fdN ["self"] (spNodes K c n)) (bN : Binds K fdN ["self"] []) (mN : ∀ g, Meth K (clsOf c g) "nodes" fN) (c0 : Ctor P w K mg base (refName 0) (c.ref 0) f0 fd0 ["self", "column"] (spRefW K c 0))
    (gRef : mg "Reference" = some (.ref CR)) (gIs : mg "isinstance" = none) (gList : mg "list" = none) (gRepr : mg "repr" = none) (gAll : mg "all" = none) (sm : smOk K = true) (hn : 17 ≤ n) (nV : Nam "void") :
    FnG P w K mg base CX0 (n + 10) f fd psPR (spPR K c n) := by
  have bA : Binds K fdA psAn [] := FA.bindsN fun _ _ _ _ _ _ us hl => match us, hl with | [_, _, _], _ => rfl
  refine F.okG scPR (fun vs H Q E h => ?_) (fun cdv A outer s H vs Q E hgu hr h => ?_)
  · obtain ⟨g, v, l, M, R, rd, du, dh, dd, a, rfl, _⟩ := h
    rfl
  · obtain ⟨g, v, l, M, R, rd, du, dh, dd, a, rfl, hf, og, ht, few, hM, rw_, hR, hwv, ans, q⟩ := h
    have nd := scPR.nd
    have hu := hu_of hr
    have rA := hr.mono (show n + 5 ≤ n + 9 by omega)
    have rP := hr.mono (show n + 7 ≤ n + 9 by omega)
    have rN := hr.mono (show n + 2 ≤ n + 9 by omega)
    have r4 := hr.mono (show 4 ≤ n + 9 by omega)
    refine ⟨_, PSs.nox (pss_cons (ps_setLc (i := 4) (own := [("_law_number", 9), ("_law_where", 10), ("_law_column", 11)]) (g := gTup K 3 (gCons (gName 9) (gCons (gName 10) (gCons (gName 11) gNil)))) (tt := tYes) (te := tVar 9) rfl nd rfl rfl (sw_true rfl rfl rfl (by decide +kernel)) (pi_list (pe_ix ix_list (pv 3) pe_int (fun _ _ => rfl))) (blkOk_by (N := nmsPR) (sc := defScope sPR) (by decide +kernel)) (fun _ _ _ _ _ => by exact pg_tup rfl (pgs_cons (pg_name (i := 9) nd rfl (Or.inl rfl)) (pgs_cons (pg_name (i := 10) nd rfl (Or.inl rfl)) (pgs_cons (pg_name (i := 11) nd rfl (Or.inl rfl)) pgs_nil)))) (fun _ _ _ _ _ => by exact pts_nil) (fun _ _ _ _ _ => by exact pv 9))
        (pss_cons (ps_set (i := 5) nd rfl (Or.inr rfl) (pe_lc (own := [("_law_number", 9), ("_law_node", 12)]) (g := gTup K 2 (gCons (gName 9) (gCons (gName 12) gNil))) (tt := (tB (tCB (rIsi K) (tCons (tVar 12) (tCons (tC (.ref CR)) tNil))))) (te := tVar 9) rfl nd (pi_list (pe_listG (pgen_methI0 (ι := Fm) (C := clsOf c) (f := fun _ => fN) (fd := fun _ => fdN) (sp := fun _ => spNodes K c n) (E := E0) (pv 1) (fun i => (T.at_ i).cl) mN (fun _ => GN) rN (fun _ => bN) .nil) passC (fun _ _ _ h => h.elim) rA rfl gList boot_list)) (blkOk_by (N := nmsPR) (sc := defScope sPR) (by decide +kernel)) (fun _ _ _ _ _ => by exact pg_tup rfl (pgs_cons (pg_name (i := 9) nd rfl (Or.inl rfl)) (pgs_cons (pg_name (i := 12) nd rfl (Or.inl rfl)) pgs_nil))) (fun _ _ _ _ _ => by exact pts_one (pt_val (pe_callB call_isi rfl gIs (by decide +kernel) (pa_cons (pv 12) (pa_cons (pe_glob rfl gRef (v := .ref CR) rfl) pa_nil))))) (fun _ _ _ _ _ => by exact pv 9)))
        (pss_cons (ps_for PassesOwn.never rfl (pi_list (pv 5)) (pg_name (i := 9) nd rfl (Or.inl rfl)) (pss_cons (ps_set (i := 6) nd rfl (Or.inl rfl) (pe_call GA rA rfl gA FA.kp bA .nil pass0 (pa_cons (pv 0) (pa_cons (pe_methI (ι := Fm) (C := clsOf c) (f := fun _ => fP) (fd := fun _ => fdP) (sp := fun _ => spPut K c n) (pv 1) (fun i => (T.at_ i).cl) mP (fun _ => GP) rP (fun _ => bP) .nil pass0 (pa_cons (pv 9) (pa_cons (pe_make c0.mkr c0.ok r4 rfl c0.g c0.b .nil pass0 (pa_cons pe_str pa_nil)) pa_nil))) (pa_cons (pv 2) pa_nil)))))
        (pss_cons (ps_set (i := 7) nd rfl (Or.inl rfl) (pv 3))
        (pss_cons (ps_if (pt_cmpR op_in_seq (pv 9) (pv 4) rfl) (pss_cons (ps_set (i := 8) nd rfl (Or.inl rfl) (pe_slice sl_list (pe_ix ix_list (pv 3) pe_int (fun _ _ => rfl)) po_none (po_some (pe_bm PySem.F.plainAttrs_list PySem.F.slot_list_index PySem.F.type_list_index mt_index (pv 4) (pa_cons (pv 9) pa_nil)))))
        (pss_one (ps_set (i := 7) nd rfl (Or.inl rfl) (pe_lst (pa_cons pe_non (pa_cons (pe_tup (pa_cons pe_str (pa_cons pe_str pa_nil))) (pa_cons (pe_op op_cat (pv 8) (pe_lst (pa_cons (pe_tup (pa_cons (pv 9) (pa_cons pe_str (pa_cons pe_str pa_nil)))) pa_nil))) pa_nil))))))) pss_nil)
        (pss_one (ps_if (pt_cmpR op_ne (pe_callB (call_reprD hgu hr.units sm) rfl gRepr (by decide +kernel) (pa_cons (pv 6) pa_nil)) (pe_callB (call_reprD hgu hr.units sm) rfl gRepr (by decide +kernel) (pa_cons (pv 7) pa_nil)) (nomark _)) (pss_one (ps_ret pe_bl)) pss_nil))))))
        (pss_one (ps_ret (pe_callB (cr_all rfl) rfl gAll (by decide +kernel) (pa_cons (pe_lc (own := [("_law_number", 9)]) (g := gName 9) (tt := tYes) (te := tOp (rIn K false) (tVar 9) (tVar 5)) rfl nd (pi_list (pv 4)) (blkOk_by (N := nmsPR) (sc := defScope sPR) (by decide +kernel)) (fun _ _ _ _ _ => by exact pg_name (i := 9) nd rfl (Or.inl rfl)) (fun _ _ _ _ _ => by exact pts_nil) (fun _ _ _ _ _ => by exact pe_cmpR op_in_seq (pv 9) (pv 5) rfl)) pa_nil))))))), ?_⟩
    obtain ⟨A, nv, L, lv, rfl, hA, hnv, ll⟩ := ans.ex
    have ln := ll.at_.len
    have lq := lk_len (M := M) (R := R) (f := g) (n := 0)
    walk_at "rd"
    refine lcL_ ?_
    walk_at "rd"
    refine Rd.ixL (SqL.of hA) (atI_nat (j := 2) rfl) ?_
    refine ⟨L, rfl, ⟨_, SqL.of ll.l⟩, fun D nD => ?_⟩
    refine lc_it (walk_list (xs := lv)) (fun i H' => Same H H' ∧ H' D = some (.lst (((lk M R g 0).take i).map fun x => natV x.1))) ⟨same_new nD, upd_same⟩ (fun i H' _ z => SqL.of (z.1 _ _ ll.l)) (fun i u H1 H2 hi hp hy => ?_) (fun H1 hp => ?_)
    · obtain ⟨s1, hD⟩ := hp
      obtain ⟨rfl, hx⟩ := hy
      obtain ⟨x, ex, t, rfl, ht⟩ := ll.at_.get hx
      refine ⟨t, _, rfl, SqT.of (s1 _ _ ht), rfl, ?_⟩
      walk_at "rd"
      refine ⟨rfl, ?_⟩
      dsimp only [tYes]
      refine iteT ?_
      walk_at "rd"
      refine ⟨_, hD, Nat.lt_of_lt_of_le (show _ < 100000 by rw [List.length_map, List.length_take]; omega) (by decide), same_set nD s1, ?_⟩
      rw [upd_same, List.take_add_one, ex, Option.toList_some, List.map_append]
      rfl
    obtain ⟨s1, hD⟩ := hp
    rw [ln, List.take_length] at hD
    walk_at "rd"
    refine lcL_ ?_
    refine listG_ ?_
    walk_at "rd"
    have hf1 := hf.kp (kp_same s1)
    obtain ⟨a0, dx, fs, g1, p1, r0, rfl, el, ha, b1⟩ := id hf1.obj
    refine ⟨g, a0, dx, fs, rfl, ha, b1.meth "nodes", ?_⟩
    refine ⟨g, _, l, rfl, hf1, og, ht, by omega, fun us H2 k2 nds p np => ?_⟩
    have nl := nds.len
    have ql := nodes_len hf1
    have s3 := same_new (o := HO.lst us) np
    have o3 := upd_same (H := H2) (a := p) (o := HO.lst us)
    have hf2 := k2.fm og hf1
    generalize upd H2 p (HO.lst us) = H3 at s3 o3 ⊢
    have hf3 := hf2.kp (kp_same s3)
    have nds3 := nds.same s3
    have k3 : Kf K c H H3 := (kf_same s1).trans (k2.trans (kf_same s3))
    refine ⟨p, rfl, ⟨_, SqL.of o3⟩, fun D2 nD2 => ?_⟩
    refine lc_it (walk_list (xs := us)) (fun i H' => Same H3 H' ∧ H' D2 = some (.lst ((spotsTo g i).map natV))) ⟨same_new nD2, upd_same⟩ (fun i H' _ z => SqL.of (z.1 _ _ o3)) (fun i u H4 H5 hi hp hy => ?_) (fun H4 hp => ?_)
    · obtain ⟨s4, hD2⟩ := hp
      obtain ⟨rfl, hx⟩ := hy
      obtain ⟨v, ev, t, rfl, ht2⟩ := nds3.get hx
      rw [Nat.zero_add] at ht2
      have iq : i < g.q.1 := by omega
      obtain ⟨v', mm, ev', hv⟩ := (hf3.kp (kp_same s4)).at_ iq
      obtain rfl : v = v' := Option.some.inj (ev.symm.trans ev')
      refine ⟨t, _, rfl, SqT.of (s4 _ _ ht2), rfl, ?_⟩
      walk_at "rd"
      refine ⟨rfl, ?_⟩
      walk_at "rd"
      refine ⟨v, .ref CR, .ref (clsOf c (g.at i)), .ref CR, isRef (g.at i), rfl, .own CR, fm_ty T B hv, kR _ (at_ok g i og), ?_⟩
      have sl := spots_len g i
      rw [spots_succ]
      cases e : isRef (g.at i) with
      | true =>
        refine Rd.isT rfl ?_
        walk_at "rd"
        refine ⟨_, hD2, Nat.lt_of_lt_of_le (show _ < 100000 by rw [List.length_map]; omega) (by decide), same_set nD2 s4, ?_⟩
        rw [upd_same, if_pos rfl, List.map_append]
        rfl
      | false =>
        refine Rd.isF rfl ?_
        refine ⟨s4, ?_⟩
        rw [if_neg (by decide), List.append_nil]
        exact hD2
    obtain ⟨s4, hD2⟩ := hp
    rw [nl, ql] at hD2
    walk_at "rd"
    have k4 : Kf K c H H4 := k3.trans (kf_same s4)
    have hD4 := s4 _ _ ((k2.trans (kf_same s3)).oth hD (fun _ _ _ z => by cases z))
    refine ⟨D2, rfl, ⟨_, SqL.of hD2⟩, ?_⟩
    refine for_it (walk_list (xs := (spotsTo g g.q.1).map natV)) (fun i σ H' => (∃ c6 c7 c8 c9 c10 c11 c12, σ = [some (natV M), some (.ref a0), some (.ref rd), some (.ref A), some (.ref D), some (.ref D2), c6, c7, c8, c9, c10, c11, c12]) ∧ Kf K c H4 H') ⟨⟨_, _, _, _, _, _, _, rfl⟩, Kf.refl⟩ (fun i σ H' _ z => SqL.of (z.2.oth hD2 (fun _ _ _ q => by cases q))) (fun i u σ H5 H6 hi hp hy => ?_) (fun σ H5 hp => ?_)
    · obtain ⟨⟨c6, c7, c8, c9, c10, c11, c12, rfl⟩, k5⟩ := hp
      obtain ⟨rfl, hx⟩ := hy
      rw [List.getElem?_map] at hx
      cases ek : (spotsTo g g.q.1)[i]? with
      | none => rw [ek] at hx; cases hx
      | some k =>
      rw [ek] at hx
      cases hx
      obtain ⟨hk, hrf⟩ := spots_mem (List.mem_of_getElem? ek)
      have k05 := k4.trans k5
      have hg5 := k05.fm og hf
      obtain ⟨a1, dx1, fs1, g2, p2, r1, e1, _, ha1, b2⟩ := id hg5.obj
      cases e1
      walk_at "rd"
      refine ⟨g, a0, dx1, fs1, rfl, ha1, b2.meth "put", ?_⟩
      walk_at "rd"
      refine mkRef nV fun w1 H7 m1 z1 => ?_
      walk_at "rd"
      have k57 := kf_same (K := K) (c := c) z1.same
      have pq : (g.put k voidF).q.1 = g.q.1 := put_q1 hk hrf
      have ov : Okf voidF := ⟨by decide, nV⟩
      refine ⟨g, _, l, k, voidF, w1, m1, rfl, k57.fm og hg5, og, ht, z1.at_, ov, hk, by omega, fits_of (by omega), fun u1 H8 l8 k8 hu8 => ?_⟩
      walk_at "rd"
      have k08 := k05.trans (k57.trans k8)
      have hts := ht_le (g.put k voidF)
      refine ⟨g.put k voidF, u1, l8, M, R, rd, du, dh, dd, rfl, hu8, put_ok _ _ _ og ov, by omega, by omega, hM, rw_.kf k08, fun H9 va s9 an9 => ?_⟩
      walk_at "rd"
      have k9 : Kf K c H4 H9 := k5.trans (k57.trans (k8.trans (kf_same s9)))
      have k09 := k4.trans k9
      have hD9 := k9.oth hD4 (fun _ _ _ z => by cases z)
      have hA9 := k09.oth hA (fun _ _ _ z => by cases z)
      have ll9 := ll.kf k09
      have an0 := ans.kf k09
      have eN : ((lk M R g 0).map fun x => natV x.1) = ((lk M R g 0).map (fun x => x.1)).map natV := by rw [List.map_map]; rfl
      have fl : (((lk M R g 0).map (fun x => x.1)).map natV).all flatV = true := by rw [List.all_map]; exact List.all_eq_true.mpr fun _ _ => rfl
      rw [eN] at hD9
      have pl := (put_lk (M := M) hR g k 0 hk hrf)
      rw [Nat.zero_add] at pl
      refine ⟨D, _, rfl, .inl (SqL.of hD9), rfl, fl, ?_⟩
      rw [if_neg (by decide)]
      refine ⟨_, rfl, ?_⟩
      rw [inV_nat k]
      by_cases hm : k ∈ (lk M R g 0).map (fun x => x.1)
      · refine ifD hm ?_
        obtain ⟨x0, hx0, ex0⟩ := List.mem_map.mp hm
        obtain ⟨y0, cy1, cy2, cy3, cy4⟩ := cut_len (m := k) ⟨x0, hx0, ex0⟩
        obtain ⟨w1', w2', w3'⟩ := pl.hit ⟨x0, hx0, ex0⟩
        walk_at "rd"
        refine Rd.ixL (SqL.of hA9) (atI_nat (j := 2) rfl) ?_
        walk_at "rd"
        refine ⟨.inl ⟨rfl, _, SqL.of hD9⟩, ?_⟩
        walk_at "rd"
        refine ⟨D, _, natV k, (cutB k (lk M R g 0)).length, natV k, rfl, rfl, SqL.of hD9, rfl, fl, ?_, ?_, fun m z' hm' hz' => ?_, ?_⟩
        · rw [List.getElem?_map, List.getElem?_map, cy1]
          show some (natV y0.1) = _
          rw [cy2]
        · show (((k : Nat) : Int) == ((k : Nat) : Int)) = true
          simp
        · rw [List.getElem?_map, List.getElem?_map] at hz'
          cases ez : (lk M R g 0)[m]? with
          | none => rw [ez] at hz'; cases hz'
          | some x =>
            rw [ez] at hz'
            cases hz'
            have := cy4 m x hm' ez
            show (((x.1 : Nat) : Int) == ((k : Nat) : Int)) = false
            exact beq_eq_false_iff_ne.mpr fun z => this (Int.ofNat.inj z)
        refine ⟨_, rfl, ?_⟩
        refine Rd.slL (SqL.of ll9.l) fun p1 G1 np1 t1 hp1 => ?_
        rw [Rd.cut_to] at hp1
        walk_at "rd"
        refine ⟨Rd.small (by show 2 ≤ 100000; decide), fun b1 nb1 => ?_⟩
        have sb1 := same_new (o := HO.tup ([V.str "here", V.str "void"])) nb1
        have tb1 := upd_same (H := G1) (a := b1) (o := HO.tup ([V.str "here", V.str "void"]))
        generalize upd G1 b1 (HO.tup ([V.str "here", V.str "void"])) = G2 at sb1 tb1 ⊢
        walk_at "rd"
        refine ⟨Rd.small (by show 3 ≤ 100000; decide), fun b2 nb2 => ?_⟩
        have sb2 := same_new (o := HO.tup ([natV k, V.str "here", V.str "void"])) nb2
        have tb2 := upd_same (H := G2) (a := b2) (o := HO.tup ([natV k, V.str "here", V.str "void"]))
        generalize upd G2 b2 (HO.tup ([natV k, V.str "here", V.str "void"])) = G3 at sb2 tb2 ⊢
        walk_at "rd"
        refine ⟨Rd.small (by show 1 ≤ 100000; decide), fun b3 nb3 => ?_⟩
        have sb3 := same_new (o := HO.lst ([V.ref b2])) nb3
        have tb3 := upd_same (H := G3) (a := b3) (o := HO.lst ([V.ref b2]))
        generalize upd G3 b3 (HO.lst ([V.ref b2])) = G4 at sb3 tb3 ⊢
        have lc := ll9.at_.len
        refine ⟨p1, b3, _, _, rfl, rfl, (sb1.trans (sb2.trans sb3)) _ _ hp1, tb3, Rd.small (by rw [List.length_take]; show _ + 1 ≤ 100000; omega), fun b4 nb4 => ?_⟩
        have sb4 := same_new (o := HO.lst (lv.take (cutB k (lk M R g 0)).length ++ [V.ref b2])) nb4
        have tb4 := upd_same (H := G4) (a := b4) (o := HO.lst (lv.take (cutB k (lk M R g 0)).length ++ [V.ref b2]))
        generalize upd G4 b4 (HO.lst (lv.take (cutB k (lk M R g 0)).length ++ [V.ref b2])) = G5 at sb4 tb4 ⊢
        walk_at "rd"
        refine ⟨Rd.small (by show 3 ≤ 100000; decide), fun b5 nb5 => ?_⟩
        have sb5 := same_new (o := HO.lst ([V.non, V.ref b1, V.ref b4])) nb5
        have tb5 := upd_same (H := G5) (a := b5) (o := HO.lst ([V.non, V.ref b1, V.ref b4]))
        generalize upd G5 b5 (HO.lst ([V.non, V.ref b1, V.ref b4])) = G6 at sb5 tb5 ⊢
        have sG : Same H9 G6 := t1.trans (sb1.trans (sb2.trans (sb3.trans (sb4.trans sb5))))
        have due : AnsAt K G6 (.ref b5) none (some (0, ("void" : Str))) (cutB k (lk M R g 0) ++ [(k, 0, ("void" : Str))]) := by
          refine ⟨b5, .ref b1, b4, _, rfl, tb5, ⟨b1, rfl, (SqT.of tb1).ext (sb2.trans (sb3.trans (sb4.trans sb5)))⟩, sb5 _ _ tb4, ?_⟩
          have z := (ll9.at_.same sG).take (cutB k (lk M R g 0)).length
          rw [cy3] at z
          exact z.snoc ⟨b2, rfl, (sb3.trans (sb4.trans sb5)) _ _ tb2⟩
        have hrd := an9.same sG
        have shw := ans_shw (M := M) (R := R) (f := g.put k voidF) (put_ok _ _ _ og ov) (by omega) hwv
        rw [w1', w2', w3'] at hrd shw
        walk_at "rd"
        refine repr_ans hrd shw ?_
        walk_at "rd"
        refine repr_ans due shw ?_
        walk_at "rd"
        refine Rd.ifB (fun z => ?_) (fun _ => ?_)
        · simp at z
        walk_at "rd"
        exact ⟨⟨_, _, _, _, _, _, _, rfl⟩, k9.trans (kf_same sG)⟩
      · refine ifN hm ?_
        obtain ⟨w1', w2', w3'⟩ := pl.miss fun x hx e => hm (List.mem_map.mpr ⟨x, hx, e⟩)
        have shw := ans_shw (M := M) (R := R) (f := g.put k voidF) (put_ok _ _ _ og ov) (by omega) hwv
        rw [w1', w2', w3'] at an9 shw
        walk_at "rd"
        refine repr_ans an9 shw ?_
        walk_at "rd"
        refine repr_ans an0 shw ?_
        walk_at "rd"
        refine Rd.ifB (fun z => ?_) (fun _ => ?_)
        · simp at z
        walk_at "rd"
        exact ⟨⟨_, _, _, _, _, _, _, rfl⟩, k9⟩
    · obtain ⟨⟨_, _, _, _, _, _, _, rfl⟩, k5⟩ := hp
      have hD5 := k5.oth hD4 (fun _ _ _ z => by cases z)
      have hE5 := k5.oth hD2 (fun _ _ _ z => by cases z)
      have eN : ((lk M R g 0).map fun x => natV x.1) = ((lk M R g 0).map (fun x => x.1)).map natV := by rw [List.map_map]; rfl
      rw [eN] at hD5
      walk_at "rd"
      refine lcL_ ?_
      walk_at "rd"
      refine ⟨D, rfl, ⟨_, SqL.of hD5⟩, fun D3 nD3 => ?_⟩
      refine lc_it (walk_list (xs := ((lk M R g 0).map (fun x => x.1)).map natV)) (fun i H' => Same H5 H' ∧ H' D3 = some (.lst (List.replicate i (V.bl true)))) ⟨same_new nD3, upd_same⟩ (fun i H' _ z => SqL.of (z.1 _ _ hD5)) (fun i u H6 H7 hi hp hy => ?_) (fun H6 hp => ?_)
      · obtain ⟨s6, hD6⟩ := hp
        obtain ⟨rfl, hx⟩ := hy
        rw [List.getElem?_map] at hx
        cases em : ((lk M R g 0).map (fun x => x.1))[i]? with
        | none => rw [em] at hx; cases hx
        | some m =>
        rw [em] at hx
        cases hx
        obtain ⟨x, hx, ex⟩ := List.mem_map.mp (List.mem_of_getElem? em)
        obtain ⟨j, e1, hj, hr2⟩ := lk_ref hx
        have ms : m ∈ spotsTo g g.q.1 := by
          unfold spotsTo
          rw [← ex, e1, Nat.zero_add]
          exact List.mem_filter.mpr ⟨List.mem_range.mpr hj, hr2⟩
        walk_at "rd"
        refine ⟨rfl, ?_⟩
        dsimp only [tYes]
        refine iteT ?_
        walk_at "rd"
        refine ⟨D2, _, rfl, .inl (SqL.of (s6 _ _ hE5)), rfl, by rw [List.all_map]; exact List.all_eq_true.mpr fun _ _ => rfl, ?_⟩
        rw [if_neg (by decide), inV_nat m, decide_eq_true ms]
        rw [List.length_map, List.length_map] at hi
        refine ⟨_, hD6, Nat.lt_of_lt_of_le (show _ < 100000 by rw [List.length_replicate]; omega) (by decide), same_set nD3 s6, ?_⟩
        rw [upd_same, List.replicate_succ']
      obtain ⟨s6, hD6⟩ := hp
      walk_at "rd"
      refine ⟨D3, List.replicate _ true, rfl, SqL.of (by rw [hD6, List.map_replicate]), ?_⟩
      have ea : ∀ k : Nat, (List.replicate k true).all id = true := fun k => by simp
      rw [ea]
      exact q H6 (k4.trans (k5.trans (kf_same s6)))
end
end K17

namespace K17
open PySem PySem.Spec PyProof.Rows L2
local macro_rules | `(tactic| walk_at "rd1") => `(tactic| first
  | (with_reducible refine Rd.seq ?_) | (with_reducible refine Rd.asg ?_) | (with_reducible refine Rd.ret ?_) | (with_reducible refine Rd.nxt ?_) | (with_reducible refine Rd.ifS ?_)
  | (with_reducible refine Rd.op ?_) | (with_reducible refine Rd.un ?_) | (with_reducible refine Rd.cb ?_) | (with_reducible refine Rd.cons ?_) | (with_reducible refine Rd.nil ?_) | (with_reducible refine Rd.ifx ?_)
  | (with_reducible refine Rd.test ?_) | (with_reducible refine Rd.testB ?_) | (with_reducible refine Rd.notT ?_) | (with_reducible refine Rd.isB ?_) | (with_reducible refine Rd.lst ?_) | (with_reducible refine Rd.tup ?_)
  | (with_reducible refine Rd.andV ?_) | (with_reducible refine Rd.orV ?_) | (with_reducible refine Rd.notV ?_) | (with_reducible refine Rd.andT ?_) | (with_reducible refine Rd.orT ?_) | (with_reducible refine Rd.chain ?_)
  | (with_reducible refine Rd.m0 ?_) | (with_reducible refine Rd.m1 ?_) | (with_reducible refine Rd.bm0 ?_) | (with_reducible refine Rd.bm ?_) | (with_reducible refine Rd.sl ?_) | (with_reducible refine Rd.part ?_) | (with_reducible refine Rd.part0 ?_) | (with_reducible refine Rd.isI ?_)
  | (with_reducible refine Rd.fmt ?_) | (with_reducible refine Rd.fmtRD ?_) | (with_reducible refine Rd.meth ?_) | (with_reducible refine makeG ?_) | (with_reducible refine Rd.prop ?_) | (with_reducible refine Rd.js ?_) | (with_reducible refine Rd.js0 ?_) | (with_reducible refine Rd.par ?_) | (with_reducible refine Rd.star ?_) | (with_reducible refine lcR1 ?_) | (with_reducible refine lcR2 ?_) | (with_reducible refine Rd.fld ?_) | (with_reducible refine Rd.sfld ?_) | (with_reducible refine Rd.expr ?_) | (with_reducible refine L2.isNR ?_) | (with_reducible refine L2.methI ?_) | (with_reducible refine Rd.forZ ?_)
  | (with_reducible refine Rd.forEA ?_) | (with_reducible refine Rd.forR1 ?_) | (with_reducible refine Rd.forR2 ?_) | (with_reducible refine Rd.forL ?_) | (with_reducible refine Rd.forT ?_)
  | (with_reducible refine Rd.call ?_) | (with_reducible refine Rd.asgG ?_) | (with_reducible refine Rd.gNm ?_) | (with_reducible refine Rd.gSb ?_) | (with_reducible refine Rd.gC ?_) | (with_reducible refine Rd.gN ?_)
  | ((with_reducible refine' Rd.var ?hv ?_); (case hv => exact rfl)) | (with_reducible refine Rd.c ?_) | (with_reducible refine Rd.i0 ?_) | (with_reducible refine Rd.neg ?_)
  | ((with_reducible refine' Rd.iC ?hc ?_); (case hc => first | (show (0 : Int) < _; decide) | exact ⟨by decide, by decide⟩ | exact ⟨by decide, by decide, by decide⟩ | exact .inl ⟨by decide, by decide⟩ | exact .inr ⟨by decide, by decide⟩ | exact .inl ⟨by omega, by omega⟩ | (show (0 : Int) < _; omega) | exact ⟨by omega, by omega⟩))
  | ((with_reducible refine' Rd.eqS ?hc ?_); (case hc => rfl)) | ((with_reducible refine' Rd.neS ?hc ?_); (case hc => rfl)))
local macro_rules | `(tactic| walk_at "rd") => `(tactic| repeat walk_at "rd1")
theorem erase_perm : ∀ (l : List Str) (j : Nat) (h : j < l.length), (l[j] :: l.eraseIdx j).Perm l
  | [], j, h => absurd h (Nat.not_lt_zero _)
  | x :: l, 0, _ => List.Perm.refl _
  | x :: l, j + 1, h => (List.Perm.swap x (l[j]'(by simpa using h)) (l.eraseIdx j)).trans (List.Perm.cons x (erase_perm l j (by simpa using h)))
/-- so many different ones of a list that has more -/
def spTaken2 (K : PySem.W.Frag) : Sp := fun vs H Q _ => ∃ (p l : Addr) (xs : List Str) (n : Nat), vs = [.ref p, .ref l, .int n] ∧ PotAt H p ∧ H l = some (.lst (xs.map V.str)) ∧ l ≠ p ∧ n ≤ xs.length ∧ xs.length ≤ 100 ∧ xs.Nodup ∧
  ∀ (r : Addr) (H' : Hp) (ys : List Str), PotAt H' p → But p H H' → H r = none → H' r = some (.lst (ys.map V.str)) → ys.length = n → (∀ y ∈ ys, y ∈ xs) → ys.Nodup → Q (.ref r) H'
section
variable {P : Program} {w : World} {K : PySem.W.Frag} {mg : Str → Option Value} {base : Heap} {C f fD : Addr} {fd fdD : FuncData}
theorem scTaken2 : FnScope ["_law_pot_here", "_law_menu", "_law_many", "_law_left", "_law_found", "_law_turn"] ["_law_pot_here", "_law_menu", "_law_many"] (defScope sTaken) := ⟨rfl, rfl, rfl, by decide +kernel, rfl, by decide +kernel, by decide +kernel⟩
theorem ok_taken2 (F : FnP K "_law_taken" sTaken f fd) (FD : FnP K "_law_draw" sDraw fD fdD) (GD : FnOk P w K mg base CX0 1 fD fdD ["_law_pot_here", "_law_many"] spDraw) (gD : mg "_law_draw" = some (.ref fD)) (gLen : mg "len" = none) (gList : mg "list" = none) (gRange : mg "range" = none) :
    FnOk P w K mg base CX0 2 f fd ["_law_pot_here", "_law_menu", "_law_many"] (spTaken2 K) := by
  have bD : Binds K fdD ["_law_pot_here", "_law_many"] [] := FD.bindsN fun _ _ _ _ _ _ us hl => match us, hl with | [_, _], _ => rfl
  refine F.ok scTaken2 (fun vs H Q E h => ?_) (fun cdv A outer s H vs Q E hr h => ?_)
  · obtain ⟨p, l, xs, n, rfl, _⟩ := h
    rfl
  · obtain ⟨p, l, xs, n, rfl, hp, hl, nlp, hn, hx, hnd, q⟩ := h
    refine ⟨_, PSs.nox (pss_cons (ps_par (i := 3) (j := 4) (by rfl) scTaken2.nd rfl rfl (by decide) rfl rfl (pa_cons (pe_callTy call_list_of rfl gList (by decide +kernel) (pa_cons (pv 1) pa_nil)) (pa_cons (pe_lst pa_nil) pa_nil)) (by rfl))
      (pss_cons (ps_for PassesOwn.never rfl (pi_range1 rfl gRange (pa_cons (pv 2) pa_nil)) (pg_name (i := 5) scTaken2.nd rfl (Or.inl rfl))
        (pss_one (ps_expr (pe_bm PySem.F.plainAttrs_list PySem.F.slot_list_append PySem.F.type_list_append mt_append (pv 4)
          (pa_cons (pe_bm PySem.F.plainAttrs_list PySem.F.slot_list_pop PySem.F.type_list_pop mt_popAt (pv 3) (pa_cons (pe_call GD hr rfl gD FD.kp bD .nil pass0 (pa_cons (pv 0) (pa_cons (pe_callB call_len rfl gLen boot_len (pa_cons (pv 3) pa_nil)) pa_nil))) pa_nil)) pa_nil)))))
      (pss_one (ps_ret (pv 4))))), ?_⟩
    walk_at "rd"
    refine ⟨l, _, rfl, .inl (SqL.of hl), fun l1 n1 => ?_⟩
    have s1 := same_new (o := HO.lst (xs.map V.str)) n1
    have o1 := upd_same (H := H) (a := l1) (o := HO.lst (xs.map V.str))
    generalize upd H l1 (HO.lst (xs.map V.str)) = H1 at s1 o1 ⊢
    walk_at "rd"
    refine ⟨Rd.small (by show 0 ≤ 100000; decide), fun l2 n2 => ?_⟩
    have s2 := same_new (o := HO.lst []) n2
    have o2 := upd_same (H := H1) (a := l2) (o := HO.lst [])
    generalize upd H1 l2 (HO.lst []) = H2 at s2 o2 ⊢
    refine ⟨_, _, rfl, ?_⟩
    walk_at "rd"
    refine ⟨(n : Int), rfl, by omega, by omega, ?_⟩
    have p2 := pot_same hp (s1.trans s2)
    have d1 : l1 ≠ p := pot_new hp n1
    have d2 : l2 ≠ p := pot_new (pot_same hp s1) n2
    have d12 : l1 ≠ l2 := ne_of_none o1 n2
    have nl2 : H l2 = none := s1.free n2
    refine for_it walk_range (fun i σ H' => (∃ t, σ = [some (.ref p), some (.ref l), some (.int n), some (.ref l1), some (.ref l2), t]) ∧ PotAt H' p ∧ But p H H' ∧ ∃ left found : List Str, H' l1 = some (.lst (left.map V.str)) ∧ H' l2 = some (.lst (found.map V.str)) ∧ left.length = xs.length - i ∧ found.length = i ∧ (∀ y ∈ left, y ∈ xs) ∧ (∀ y ∈ found, y ∈ xs) ∧ (found ++ left).Nodup)
      ⟨⟨_, rfl⟩, p2, butS' (s1.trans s2), xs, [], s2 _ _ o1, o2, rfl, rfl, fun _ h => h, (fun _ h => absurd h List.not_mem_nil), hnd⟩ (fun _ _ _ _ _ => trivial) (fun i v σ H3 H4 hi hp' hy => ?_) (fun σ H' hp' => ?_)
    · obtain ⟨⟨t, rfl⟩, pt, bt, left, found, a1, a2, z1, z2, m1, m2, nn⟩ := hp'
      obtain ⟨rfl, rfl⟩ := hy
      rw [Int.toNat_natCast] at hi
      walk_at "rd"
      refine ⟨.inl ⟨rfl, _, SqL.of a2⟩, ?_⟩
      walk_at "rd"
      refine ⟨.inl ⟨rfl, _, SqL.of a1⟩, ?_⟩
      walk_at "rd"
      refine ⟨_, _, rfl, .inl ⟨_, SqL.of a1, rfl⟩, ?_⟩
      walk_at "rd"
      have lp : 0 < left.length := by omega
      refine ⟨p, _, rfl, pt, by rw [List.length_map]; omega, Int.lt_trans (show ((left.map V.str).length : Int) < 1000000 by rw [List.length_map]; omega) (by decide +kernel), fun d H5 d0 dl p5 b5 => ?_⟩
      obtain ⟨j, rfl⟩ := Int.eq_ofNat_of_zero_le d0
      rw [List.length_map] at dl
      have hj : j < left.length := by omega
      walk_at "rd"
      have ix : ixN (left.map V.str).length (j : Int) = some j := by
        unfold ixN
        rw [if_pos (by omega), if_pos (by rw [List.length_map]; omega), Int.toNat_natCast]
      refine ⟨l1, _, (j : Int), j, _, rfl, rfl, b5 l1 _ d1 a1, by omega, by omega, (ixN_seq ix).1, at_str hj, ?_⟩
      walk_at "rd"
      have f2 : upd H5 l1 (.lst ((left.map V.str).eraseIdx j)) l2 = some (.lst (found.map V.str)) := (upd_ne d12.symm).trans (b5 l2 _ d2 a2)
      refine ⟨l2, _, _, rfl, rfl, f2, Nat.lt_of_lt_of_le (show (found.map V.str).length < 100000 by rw [List.length_map]; omega) (by decide), ?_⟩
      walk_at "rd"
      have p6 : PotAt (upd (upd H5 l1 (.lst ((left.map V.str).eraseIdx j))) l2 (.lst (found.map V.str ++ [V.str left[j]]))) p := by
        obtain ⟨x, y, e, r⟩ := p5
        exact ⟨x, y, by rw [upd_ne d2.symm, upd_ne d1.symm]; exact e, r⟩
      refine ⟨⟨_, rfl⟩, p6, fun b o hb e => ?_, left.eraseIdx j, found ++ [left[j]], ?_, ?_, ?_, ?_, fun y hy => m1 y (List.mem_of_mem_eraseIdx hy), fun y hy => ?_, ?_⟩
      · rw [upd_ne (ne_of_none e nl2), upd_ne (ne_of_none e n1)]
        exact b5 b o hb (bt b o hb e)
      · rw [upd_ne d12, upd_same, erase_map]
      · rw [upd_same, List.map_append]
        rfl
      · rw [List.length_eraseIdx_of_lt hj]
        omega
      · rw [List.length_append, z2]
        rfl
      · rcases List.mem_append.mp hy with h | h
        · exact m2 y h
        · rw [List.mem_singleton.mp h]
          exact m1 _ (List.getElem_mem hj)
      · refine (List.Perm.nodup_iff ?_).mpr nn
        rw [List.append_assoc]
        exact List.Perm.append_left _ (erase_perm left j hj)
    · obtain ⟨⟨t, rfl⟩, pt, bt, left, found, a1, a2, z1, z2, m1, m2, nn⟩ := hp'
      rw [Int.toNat_natCast] at z2
      walk_at "rd"
      exact q l2 H' found pt bt nl2 a2 z2 m2 (List.nodup_append.mp nn).1
end
end K17

namespace K17
open PySem PySem.Spec PyProof.Rows L2
local macro_rules | `(tactic| walk_at "rd1") => `(tactic| first
  | (with_reducible refine Rd.seq ?_) | (with_reducible refine Rd.asg ?_) | (with_reducible refine Rd.ret ?_) | (with_reducible refine Rd.nxt ?_) | (with_reducible refine Rd.ifS ?_)
  | (with_reducible refine Rd.op ?_) | (with_reducible refine Rd.un ?_) | (with_reducible refine Rd.cb ?_) | (with_reducible refine Rd.cons ?_) | (with_reducible refine Rd.nil ?_) | (with_reducible refine Rd.ifx ?_)
  | (with_reducible refine Rd.test ?_) | (with_reducible refine Rd.testB ?_) | (with_reducible refine Rd.notT ?_) | (with_reducible refine Rd.isB ?_) | (with_reducible refine Rd.lst ?_) | (with_reducible refine Rd.tup ?_)
  | (with_reducible refine Rd.andV ?_) | (with_reducible refine Rd.orV ?_) | (with_reducible refine Rd.notV ?_) | (with_reducible refine Rd.andT ?_) | (with_reducible refine Rd.orT ?_) | (with_reducible refine Rd.chain ?_)
  | (with_reducible refine Rd.m0 ?_) | (with_reducible refine Rd.m1 ?_) | (with_reducible refine Rd.bm0 ?_) | (with_reducible refine Rd.bm ?_) | (with_reducible refine Rd.sl ?_) | (with_reducible refine Rd.part ?_) | (with_reducible refine Rd.part0 ?_) | (with_reducible refine Rd.isI ?_)
  | (with_reducible refine Rd.fmt ?_) | (with_reducible refine Rd.fmtRD ?_) | (with_reducible refine Rd.meth ?_) | (with_reducible refine makeG ?_) | (with_reducible refine Rd.prop ?_) | (with_reducible refine Rd.js ?_) | (with_reducible refine Rd.js0 ?_) | (with_reducible refine Rd.par ?_) | (with_reducible refine Rd.star ?_) | (with_reducible refine lcR1 ?_) | (with_reducible refine lcR2 ?_) | (with_reducible refine Rd.fld ?_) | (with_reducible refine Rd.sfld ?_) | (with_reducible refine Rd.expr ?_) | (with_reducible refine L2.isNR ?_) | (with_reducible refine L2.methI ?_) | (with_reducible refine Rd.forZ ?_)
  | (with_reducible refine Rd.forEA ?_) | (with_reducible refine Rd.forR1 ?_) | (with_reducible refine Rd.forR2 ?_) | (with_reducible refine Rd.forL ?_) | (with_reducible refine Rd.forT ?_)
  | (with_reducible refine Rd.call ?_) | (with_reducible refine Rd.asgG ?_) | (with_reducible refine Rd.gNm ?_) | (with_reducible refine Rd.gSb ?_) | (with_reducible refine Rd.gC ?_) | (with_reducible refine Rd.gN ?_)
  | ((with_reducible refine' Rd.var ?hv ?_); (case hv => exact rfl)) | (with_reducible refine Rd.c ?_) | (with_reducible refine Rd.i0 ?_) | (with_reducible refine Rd.neg ?_)
  | ((with_reducible refine' Rd.iC ?hc ?_); (case hc => first | (show (0 : Int) < _; decide) | exact ⟨by decide, by decide⟩ | exact ⟨by decide, by decide, by decide⟩ | exact .inl ⟨by decide, by decide⟩ | exact .inr ⟨by decide, by decide⟩ | exact .inl ⟨by omega, by omega⟩ | (show (0 : Int) < _; omega) | exact ⟨by omega, by omega⟩))
  | ((with_reducible refine' Rd.eqS ?hc ?_); (case hc => rfl)) | ((with_reducible refine' Rd.neS ?hc ?_); (case hc => rfl)))
local macro_rules | `(tactic| walk_at "rd") => `(tactic| repeat walk_at "rd1")
abbrev sRight : Stmt := topA i_law_right
abbrev nmsRi : List Str := ["_law_pot_here", "_law_base", "_law_sure", "_law_never", "_law_both", "_law_part_here", "_law_made", "_law_turn", "_law_rows_here", "_law_due", "_law_told", "_law_one"]
theorem wv_lt {M : Nat} {R : RowsF} (hM : 0 < M) (h9 : M ≤ 9) (hR : ∀ w z n, R w z = some n → n < 9) : ∀ (f : Fm), Okf f → ∀ n, wv M R f = some n → n < 9
  | .num k, o, n, e => by
    cases e
    have : k ≤ 8 := o
    omega
  | .ref w x, o, n, e => hR w x n e
  | .pair op l r, og, n, e => by
    simp only [wv] at e
    cases e1 : wv M R l with
    | none => rw [e1] at e; cases e
    | some a =>
      rw [e1] at e
      dsimp only at e
      cases e2 : wv M R r with
      | none => rw [e2] at e; cases e
      | some b =>
        rw [e2] at e
        have ha := wv_lt hM h9 hR l og.2.1 a e1
        have hb := wv_lt hM h9 hR r og.2.2 b e2
        have ej : jn M op a b = n := Option.some.inj e
        rw [← ej]
        unfold jn
        split
        · have := Nat.mod_lt (a + b) hM
          omega
        · omega
        · omega
        · split <;> omega
  | .cho t s a b, og, n, e => by
    simp only [wv] at e
    cases e1 : wv M R t with
    | none => rw [e1] at e; cases e
    | some y =>
      rw [e1] at e
      dsimp only at e
      split at e
      · exact wv_lt hM h9 hR a og.2.2.1 n e
      · exact wv_lt hM h9 hR b og.2.2.2 n e
def names : List Str := ["a", "b", "n", "u", "sum", "gap", "left", "x", "total", "zz", "kind"]
theorem names_nd : names.Nodup := by decide +kernel
theorem names_void : ∀ y ∈ names, y ≠ "void" := by decide +kernel
structure Kp2 (K : PySem.W.Frag) (p : Addr) (H H' : Hp) : Prop where
  oth : ∀ {b : Addr} {o : HO}, b ≠ p → H b = some o → (∀ C dx fs, o ≠ .ins C dx fs) → H' b = some o
  free : ∀ {b : Addr}, H' b = none → H b = none
theorem kp2_of {K : PySem.W.Frag} {p : Addr} {H H' : Hp} (b : But p H H') (pt : PotAt H' p) : Kp2 K p H H' := ⟨fun hb e _ => b _ _ hb e, fun {c} n => by
  cases e : H c with
  | none => rfl
  | some o =>
    by_cases hc : c = p
    · obtain ⟨x, y, ep, _⟩ := pt
      rw [hc, ep] at n
      cases n
    · rw [b _ _ hc e] at n
      cases n⟩
theorem kp2_kf {K : PySem.W.Frag} {c : Cs} {p : Addr} {H H1 H2 : Hp} (a : Kp2 K p H H1) (k : Kf K c H1 H2) : Kp2 K p H H2 := ⟨fun hb e n => k.oth (a.oth hb e n) n, fun n => a.free (k.free n)⟩
theorem kp2_but {K : PySem.W.Frag} {p : Addr} {H H1 H2 : Hp} (a : Kp2 K p H H1) (b : But p H1 H2) (pt : PotAt H2 p) : Kp2 K p H H2 := ⟨fun hb e n => b _ _ hb (a.oth hb e n), fun n => a.free ((kp2_of (K := K) b pt).free n)⟩
def spD (x : Nat × Str) : PyData := needD (some x)
def lzD (o : Option Nat) (nd : Option (Nat × Str)) (xs : List (Nat × Str)) : PyData := .list [optD o, needD nd, .list (xs.map spD)]
theorem spots_dds {K : PySem.W.Frag} {H : Hp} : ∀ {vs : List V} {xs : List (Nat × Str)}, SpotsAt K H vs xs → Dds K H vs (xs.map spD)
  | [], [], _ => .nil
  | _ :: _, _ :: _, ⟨⟨t, e, ht⟩, h⟩ => by
    rw [e]
    exact .cons (.tup ht (.cons (.str _) (.cons (.str _) .nil))) (spots_dds h)
  | [], _ :: _, h => h.elim
  | _ :: _, [], h => h.elim
theorem SpotsAt.butL {K : PySem.W.Frag} {H H' : Hp} {L : Addr} {us : List V} (hL : H L = some (.lst us)) (b : But L H H') : ∀ {vs : List V} {xs : List (Nat × Str)}, SpotsAt K H vs xs → SpotsAt K H' vs xs
  | [], [], _ => trivial
  | _ :: _, _ :: _, ⟨⟨t, e, ht⟩, h⟩ => ⟨⟨t, e, sqt_butL hL b ht⟩, SpotsAt.butL hL b h⟩
  | [], _ :: _, h => h.elim
  | _ :: _, [], h => h.elim
theorem sps_can : ∀ us : List (Nat × Str), (∀ x ∈ us, x.1 < 3 ∧ Nam x.2) → PyData.canLayAll0 (us.map spD) = true ∧ PyData.intsShortAll 13 (us.map spD) = true ∧ PyData.showableAll (us.map spD) = true ∧ PyData.depthAll (us.map spD) ≤ 2 ∧ PyData.weightAll (us.map spD) ≤ 25 * us.length
  | [], _ => ⟨rfl, rfl, rfl, by simp [PyData.depthAll], by simp [PyData.weightAll]⟩
  | x :: us, h => by
    obtain ⟨a1, a2, a3, a4, a5⟩ := need_shw (o := some x) fun y e => by cases e; exact h x List.mem_cons_self
    obtain ⟨b1, b2, b3, b4, b5⟩ := sps_can us fun y hy => h y (List.mem_cons_of_mem _ hy)
    rw [List.map_cons]
    refine ⟨?_, ?_, ?_, ?_, ?_⟩
    · rw [PyData.canLayAll0, b1]; unfold spD; rw [a1]; rfl
    · rw [PyData.intsShortAll, b2]; unfold spD; rw [a2]; rfl
    · rw [PyData.showableAll, b3]; unfold spD; rw [a3]; rfl
    · rw [PyData.depthAll]; unfold spD at b4 ⊢; omega
    · rw [PyData.weightAll, List.length_cons]; unfold spD at b5 ⊢; omega
theorem lz_shw {M : Nat} {R : RowsF} {f : Fm} (og : Okf f) (few : f.q.1 ≤ 17) (hv : ∀ (f : Fm), Okf f → ∀ n, wv M R f = some n → n < 9) : Shw (lzD (wv M R f) (nd M R f) (ls M R f)) := by
  have spg : ∀ x ∈ ls M R f, x.1 < 3 ∧ Nam x.2 := fun x hx => by
    rw [← lk_ls (N := 0)] at hx
    obtain ⟨z, hz, e⟩ := List.mem_map.mp hx
    rw [← e]
    exact lk_ok og hz
  have ndg : ∀ x, nd M R f = some x → x.1 < 3 ∧ Nam x.2 := fun x e => by
    cases ew : wv M R f with
    | some y =>
      rw [nd_some (by rw [ew]; rfl)] at e
      cases e
    | none =>
      obtain ⟨n, w, z, us, e1, e2⟩ := nd_last (R := R) (N := 0) ew
      rw [e2] at e
      cases e
      exact lk_ok og (x := (n, w, z)) (by rw [e1]; exact List.mem_append_right _ (List.mem_singleton.mpr rfl))
  obtain ⟨a1, a2, a3, a4, a5⟩ := opt_shw (hv f og)
  obtain ⟨b1, b2, b3, b4, b5⟩ := need_shw ndg
  obtain ⟨c1, c2, c3, c4, c5⟩ := sps_can _ spg
  have ll := ls_len (M := M) (R := R) (f := f)
  have cl : (lzD (wv M R f) (nd M R f) (ls M R f)).canLay0 = true := by
    unfold lzD
    simp only [PyData.canLay0, PyData.canLayAll0, a1, b1, c1, Bool.and_self]
  have is : (lzD (wv M R f) (nd M R f) (ls M R f)).intsShort 13 = true := by
    unfold lzD
    simp only [PyData.intsShort, PyData.intsShortAll, a2, b2, c2, Bool.and_self]
  have wt : (lzD (wv M R f) (nd M R f) (ls M R f)).weight ≤ 600 := by
    unfold lzD
    simp only [PyData.weight, PyData.weightAll]
    omega
  refine ⟨?_, ?_, ?_⟩
  · unfold lzD
    simp only [PyData.showable, PyData.showableAll, a3, b3, c3, Bool.and_self]
  · unfold lzD
    simp only [PyData.depth, PyData.depthAll]
    omega
  · have z := PyData.shown_le 13 (by decide) _ (PyData.leavesShort_of_canLay0 13 _ cl is)
    omega
def spRi (K : PySem.W.Frag) : Sp := fun vs H Q _ => ∃ (p : Addr), vs = [.ref p] ∧ PotAt H p ∧ ∀ H', PotAt H' p → Kp2 K p H H' → Q (.bl true) H'
section
variable {P : Program} {w : World} {K : PySem.W.Frag} {mg : Str → Option Value} {base : Heap} {c : Cs} {f fD fT fPt fW fF fR fL fA fPR : Addr} {fd fdD fdT fdPt fdW fdF fdR fdL fdA fdPR : FuncData}
theorem scRi : FnScope nmsRi ["_law_pot_here"] (defScope sRight) := ⟨rfl, rfl, rfl, by decide +kernel, rfl, by decide +kernel, by decide +kernel⟩
theorem ok_ri (F : FnP K "_law_right" sRight f fd) (T : Cl K c)
    (FD : FnP K "_law_draw" sDraw fD fdD) (GD : FnOk P w K mg base CX0 1 fD fdD ["_law_pot_here", "_law_many"] spDraw) (gD : mg "_law_draw" = some (.ref fD))
    (FT : FnP K "_law_taken" sTaken fT fdT) (GT : FnOk P w K mg base CX0 2 fT fdT ["_law_pot_here", "_law_menu", "_law_many"] (spTaken2 K)) (gT : mg "_law_taken" = some (.ref fT))
    (FPt : FnP K "_law_part" sPart fPt fdPt) (GPt : FnOk P w K mg base CX0 40 fPt fdPt ["_law_pot_here", "_law_modulus", "_law_spots", "_law_nodes"] (spPart K 7)) (gPt : mg "_law_part" = some (.ref fPt))
    (FW : FnP K "_law_wrapped" sWrap fW fdW) (GW : FnOk P w K mg base CX0 3 fW fdW psWr (spWrap K)) (gW : mg "_law_wrapped" = some (.ref fW))
    (FF : FnP K "_law_formula" sLF fF fdF) (GF : FnOk P w K mg base CX0 40 fF fdF ["_law_part_here"] (spLF K c 17)) (gF : mg "_law_formula" = some (.ref fF))
    (FR : FnP K "_law_rows" sRows fR fdR) (GR : FnOk P w K mg base CX0 2 fR fdR psRo (spRows K)) (gR : mg "_law_rows" = some (.ref fR))
    (FL : FnP K "_law_lazy" sLz fL fdL) (GL : FnOk P w K mg base CX0 40 fL fdL psLz (spLz K 17)) (gL : mg "_law_lazy" = some (.ref fL))
    (FA : FnP K "_law_answer" sAns fA fdA) (GA : FnOk P w K mg base CX0 40 fA fdA psAn (spAns K c 17)) (gA : mg "_law_answer" = some (.ref fA))
    (FPR : FnP K "_law_put_right" sPR fPR fdPR) (GPR : FnG P w K mg base CX0 40 fPR fdPR psPR (spPR K c 17)) (gPR : mg "_law_put_right" = some (.ref fPR))
    (gRange : mg "range" = none) (gList : mg "list" = none) (gRepr : mg "repr" = none) (sm : smOk K = true) (NM : ∀ y ∈ (["a", "b", "n", "u", "sum", "gap", "left", "x", "total", "zz", "kind"] : List Str), Nam y ∧ Nam (y ++ "z")) :
    FnG P w K mg base CX0 60 f fd ["_law_pot_here"] (spRi K) := by
  have bD : Binds K fdD ["_law_pot_here", "_law_many"] [] := FD.bindsN fun _ _ _ _ _ _ us hl => match us, hl with | [_, _], _ => rfl
  have bT : Binds K fdT ["_law_pot_here", "_law_menu", "_law_many"] [] := FT.bindsN fun _ _ _ _ _ _ us hl => match us, hl with | [_, _, _], _ => rfl
  have bPt : Binds K fdPt ["_law_pot_here", "_law_modulus", "_law_spots", "_law_nodes"] [] := FPt.bindsN fun _ _ _ _ _ _ us hl => match us, hl with | [_, _, _, _], _ => rfl
  have bW : Binds K fdW psWr [] := FW.bindsN fun _ _ _ _ _ _ us hl => match us, hl with | [_, _, _, _, _], _ => rfl
  have bF : Binds K fdF ["_law_part_here"] [] := FF.bindsN fun _ _ _ _ _ _ us hl => match us, hl with | [_], _ => rfl
  have bR : Binds K fdR psRo [] := FR.bindsN fun _ _ _ _ _ _ us hl => match us, hl with | [_, _, _, _], _ => rfl
  have bL : Binds K fdL psLz [] := FL.bindsN fun _ _ _ _ _ _ us hl => match us, hl with | [_, _, _], _ => rfl
  have bA : Binds K fdA psAn [] := FA.bindsN fun _ _ _ _ _ _ us hl => match us, hl with | [_, _, _], _ => rfl
  have bPR : Binds K fdPR psPR [] := FPR.bindsN fun _ _ _ _ _ _ us hl => match us, hl with | [_, _, _, _], _ => rfl
  refine F.okG scRi (fun vs H Q E h => ?_) (fun cdv A outer s H vs Q E hgu hr h => ?_)
  · obtain ⟨p, rfl, _⟩ := h
    rfl
  · obtain ⟨p, rfl, hp, q⟩ := h
    have nd := scRi.nd
    have hu := hu_of hr
    have r1 := hr.mono (show 1 ≤ 59 by decide)
    have r2 := hr.mono (show 2 ≤ 59 by decide)
    have r3 := hr.mono (show 3 ≤ 59 by decide)
    have r40 := hr.mono (show 40 ≤ 59 by decide)
    refine ⟨_, PSs.nox (pss_cons (ps_set (i := 1) nd rfl (Or.inl rfl) (pe_op op_add pe_int (pe_call GD r1 rfl gD FD.kp bD .nil pass0 (pa_cons (pv 0) (pa_cons pe_int pa_nil)))))
        (pss_cons (ps_asg (pe_call GT r2 rfl gT FT.kp bT .nil pass0 (pa_cons (pv 0) (pa_cons (pe_lst (pa_cons pe_str (pa_cons pe_str (pa_cons pe_str (pa_cons pe_str (pa_cons pe_str (pa_cons pe_str (pa_cons pe_str (pa_cons pe_str (pa_cons pe_str (pa_cons pe_str (pa_cons pe_str pa_nil)))))))))))) (pa_cons pe_int pa_nil)))) (pg_unl rfl (pgs_cons (pg_name (i := 2) nd rfl (Or.inl rfl)) (pgs_cons (pg_name (i := 3) nd rfl (Or.inl rfl)) pgs_nil))))
        (pss_cons (ps_set (i := 4) nd rfl (Or.inl rfl) (pe_lst (pa_cons (pv 2) (pa_cons (pv 2) (pa_cons (pv 3) pa_nil)))))
        (pss_cons (ps_set (i := 5) nd rfl (Or.inl rfl) (pe_call GPt r40 rfl gPt FPt.kp bPt .nil pass0 (pa_cons (pv 0) (pa_cons (pv 1) (pa_cons (pe_tup (pa_cons (pv 4) (pa_cons (pv 4) (pa_cons (pv 4) pa_nil)))) (pa_cons (pe_op op_add pe_int (pe_call GD r1 rfl gD FD.kp bD .nil pass0 (pa_cons (pv 0) (pa_cons pe_int pa_nil)))) pa_nil))))))
        (pss_cons (ps_set (i := 5) nd rfl (Or.inl rfl) (pe_call GW r3 rfl gW FW.kp bW .nil pass0 (pa_cons (pv 0) (pa_cons (pv 1) (pa_cons (pv 5) (pa_cons (pv 2) (pa_cons (pv 3) pa_nil)))))))
        (pss_cons (ps_set (i := 6) nd rfl (Or.inl rfl) (pe_call GF r40 rfl gF FF.kp bF .nil pass0 (pa_cons (pv 5) pa_nil)))
        (pss_cons (ps_for PassesOwn.never rfl (pi_range1 rfl gRange (pa_cons pe_int pa_nil)) (pg_name (i := 7) nd rfl (Or.inl rfl)) (pss_cons (ps_set (i := 8) nd rfl (Or.inl rfl) (pe_call GR r2 rfl gR FR.kp bR .nil pass0 (pa_cons (pv 0) (pa_cons (pv 1) (pa_cons (pv 2) (pa_cons (pv 3) pa_nil))))))
        (pss_cons (ps_par (i := 9) (j := 10) (by rfl) nd rfl rfl (by decide) rfl rfl (pa_cons (pe_call GL r40 rfl gL FL.kp bL .nil pass0 (pa_cons (pv 1) (pa_cons (pv 5) (pa_cons (pv 8) pa_nil)))) (pa_cons (pe_call GA r40 rfl gA FA.kp bA .nil pass0 (pa_cons (pv 1) (pa_cons (pv 6) (pa_cons (pv 8) pa_nil)))) pa_nil)) (by rfl))
        (pss_cons (ps_if (pt_cmpR op_ne (pe_callB (call_reprD hgu hr.units sm) rfl gRepr (by decide +kernel) (pa_cons (pe_lst (pa_cons (pe_ix ix_list (pv 10) pe_int (fun _ _ => rfl)) (pa_cons (pe_ix ix_list (pv 10) pe_int (fun _ _ => rfl)) (pa_cons (pe_lc (own := [("_law_one", 11)]) (g := gName 11) (tt := tYes) (te := tSl (rSlA K) (tVar 11) (tPart (tC (.int 1))) tNoPart) rfl nd (pi_list (pe_ix ix_list (pv 10) pe_int (fun _ _ => rfl))) (blkOk_by (N := nmsRi) (sc := defScope sRight) (by decide +kernel)) (fun _ _ _ _ _ => by exact pg_name (i := 11) nd rfl (Or.inl rfl)) (fun _ _ _ _ _ => by exact pts_nil) (fun _ _ _ _ _ => by exact pe_slice sl_tupA (pv 11) (po_some pe_int) po_none)) pa_nil)))) pa_nil)) (pe_callB (call_reprD hgu hr.units sm) rfl gRepr (by decide +kernel) (pa_cons (pe_callTy call_list_of rfl gList (by decide +kernel) (pa_cons (pv 9) pa_nil)) pa_nil)) (nomark _)) (pss_one (ps_ret pe_bl)) pss_nil)
        (pss_one (ps_if (pt_not (pt_val (pe_callG GPR hgu r40 rfl gPR FPR.kp bPR pass0 (pa_cons (pv 1) (pa_cons (pv 6) (pa_cons (pv 8) (pa_cons (pv 10) pa_nil))))))) (pss_one (ps_ret pe_bl)) pss_nil))))))
        (pss_one (ps_ret pe_bl))))))))), ?_⟩
    walk_at "rd"
    refine ⟨p, 8, rfl, hp, by decide, by decide +kernel, fun d H1 d0 dl p1 b1 => ?_⟩
    obtain ⟨k, rfl⟩ := Int.eq_ofNat_of_zero_le d0
    walk_at "rd"
    have eM : (2 : Int) + (k : Int) = ((k + 2 : Nat) : Int) := by omega
    rw [eM]
    have hM : 0 < k + 2 := by omega
    have hM9 : k + 2 ≤ 9 := by omega
    generalize k + 2 = M at hM hM9 ⊢
    refine ⟨Rd.small (by show 11 ≤ 100000; decide), fun mn nmn => ?_⟩
    have smn := same_new (o := HO.lst ([V.str "a", V.str "b", V.str "n", V.str "u", V.str "sum", V.str "gap", V.str "left", V.str "x", V.str "total", V.str "zz", V.str "kind"])) nmn
    have tmn := upd_same (H := H1) (a := mn) (o := HO.lst ([V.str "a", V.str "b", V.str "n", V.str "u", V.str "sum", V.str "gap", V.str "left", V.str "x", V.str "total", V.str "zz", V.str "kind"]))
    generalize upd H1 mn (HO.lst ([V.str "a", V.str "b", V.str "n", V.str "u", V.str "sum", V.str "gap", V.str "left", V.str "x", V.str "total", V.str "zz", V.str "kind"])) = H2 at smn tmn ⊢
    walk_at "rd"
    refine ⟨p, mn, names, 2, rfl, pot_same p1 smn, tmn, pot_new p1 nmn, by decide, by decide, names_nd, fun r H3 ys p3 b3 nr hr3 ly my nn => ?_⟩
    obtain ⟨x, y, rfl⟩ : ∃ x y, ys = [x, y] := by
      match ys, ly with
      | [x, y], _ => exact ⟨x, y, rfl⟩
    have hx := my x List.mem_cons_self
    have hy' := my y (List.mem_cons_of_mem _ List.mem_cons_self)
    have hxy : x ≠ y := fun e => by rw [e] at nn; simp at nn
    refine ⟨r, [V.str x, V.str y], rfl, SqL.of hr3, rfl, ?_⟩
    walk_at "rd"
    refine ⟨Rd.small (by show 3 ≤ 100000; decide), fun bo nbo => ?_⟩
    have sbo := same_new (o := HO.lst ([V.str x, V.str x, V.str y])) nbo
    have tbo := upd_same (H := H3) (a := bo) (o := HO.lst ([V.str x, V.str x, V.str y]))
    generalize upd H3 bo (HO.lst ([V.str x, V.str x, V.str y])) = H4 at sbo tbo ⊢
    walk_at "rd"
    refine ⟨Rd.small (by show 3 ≤ 100000; decide), fun sp nsp => ?_⟩
    have ssp := same_new (o := HO.tup ([V.ref bo, V.ref bo, V.ref bo])) nsp
    have tsp := upd_same (H := H4) (a := sp) (o := HO.tup ([V.ref bo, V.ref bo, V.ref bo]))
    generalize upd H4 sp (HO.tup ([V.ref bo, V.ref bo, V.ref bo])) = H5 at ssp tsp ⊢
    walk_at "rd"
    have p5 := pot_same p3 (sbo.trans ssp)
    refine ⟨p, 7, rfl, p5, by decide, by decide +kernel, fun d6 H6 d60 d6l p6 b6 => ?_⟩
    obtain ⟨j, rfl⟩ := Int.eq_ofNat_of_zero_le d60
    walk_at "rd"
    have bop : bo ≠ p := pot_new p3 nbo
    have spot : Spots H6 p bo [x, x, y] := ⟨b6 _ _ bop (ssp _ _ tbo), bop, fun z hz => NM z (by
      rcases List.mem_cons.mp hz with rfl | hz
      · exact hx
      · rcases List.mem_cons.mp hz with rfl | hz
        · exact hx
        · rw [List.mem_singleton.mp hz]; exact hy'), by show 3 < 1000; decide⟩
    refine ⟨p, sp, bo, bo, bo, M, j + 1, [x, x, y], [x, x, y], [x, x, y], by rw [show (1 : Int) + (j : Int) = ((j + 1 : Nat) : Int) by omega]; rfl, p6, hM, hM9, ⟨sqt_kp (kp_pot p5 b6) (SqT.of tsp), spot, spot, spot⟩, by omega, by omega, by omega, fun f0 v0 H7 dr lq => ?_⟩
    walk_at "rd"
    refine ⟨p, M, f0, v0, x, y, rfl, dr.pot, dr.at_, dr.ok, by omega, hM, hM9, (NM x hx).1, (NM y hy').1, fun g v H8 p8 b8 tp og few => ?_⟩
    walk_at "rd"
    have hg := ht_le g
    refine ⟨g, v, rfl, tp, og, by omega, fits_of few, fun w1 H9 l nw => ?_⟩
    walk_at "rd"
    have bA9 : But p H H9 := b1.trans ((butS' smn).trans (b3.trans ((butS' (sbo.trans ssp)).trans (b6.trans (dr.but.trans (b8.trans (butS' nw.same)))))))
    have p9 := pot_same p8 nw.same
    refine ⟨3, rfl, by decide, by decide, ?_⟩
    rw [show (3 : Int).toNat = 3 from rfl]
    refine for_it walk_range (fun i σ H' => (∃ c7 c8 c9 c10 c11, σ = [some (.ref p), some (natV M), some (.str x), some (.str y), some (.ref bo), some v, some w1, c7, c8, c9, c10, c11]) ∧ PotAt H' p ∧ FmAt K c H' g w1 l ∧ TpAt K H' g v ∧ Kp2 K p H H') ⟨⟨_, _, _, _, _, rfl⟩, p9, nw.at_, tp.kp (kp_same nw.same), kp2_of bA9 p9⟩ (fun _ _ _ _ _ => trivial) (fun i u σ Ha Hb hi hq hy => ?_) (fun σ Ha hq => ?_)
    · obtain ⟨⟨c7, c8, c9, c10, c11, rfl⟩, pa, ga, ta, ka⟩ := hq
      obtain ⟨rfl, rfl⟩ := hy
      walk_at "rd"
      refine ⟨p, M, x, y, rfl, pa, hM, hM9, hxy, names_void x hx, names_void y hy', fun Hc rd R du dh dd pc bc rws hR hlt => ?_⟩
      have gc := ga.kp (kp_pot pa bc)
      have tc := ta.kp (kp_pot pa bc)
      have kc := kp2_but ka bc pc
      have hwv := wv_lt hM hM9 hlt
      walk_at "rd"
      refine ⟨g, v, M, R, rd, du, dh, dd, rfl, tc, og, by omega, by omega, hM, rws, fun Hd vl sd lz => ?_⟩
      walk_at "rd"
      refine ⟨g, w1, l, M, R, rd, du, dh, dd, rfl, gc.kp (kp_same sd), og, by omega, by omega, hM, rws.same sd, fun He va se an => ?_⟩
      refine ⟨_, _, rfl, ?_⟩
      walk_at "rd"
      obtain ⟨A, nv, L, lv, rfl, hA, hnv, ll⟩ := id an.ex
      obtain ⟨t2, nv2, L2, lv2, rfl, hz1, hz2, hz3, hz4⟩ := lz
      have lnl := ll.at_.len
      have lql := lk_len (M := M) (R := R) (f := g) (n := 0)
      refine Rd.ixL (SqL.of hA) (atI_nat (j := 0) rfl) ?_
      walk_at "rd"
      refine Rd.ixL (SqL.of hA) (atI_nat (j := 1) rfl) ?_
      walk_at "rd"
      refine lcL_ ?_
      walk_at "rd"
      refine Rd.ixL (SqL.of hA) (atI_nat (j := 2) rfl) ?_
      refine ⟨L, rfl, ⟨_, SqL.of ll.l⟩, fun D nD => ?_⟩
      refine lc_it (walk_list (xs := lv)) (fun i H' => Same He H' ∧ ∃ acc, H' D = some (.lst acc) ∧ acc.length = i ∧ SpotsAt K H' acc (((lk M R g 0).take i).map fun x => x.2)) ⟨same_new nD, [], upd_same, rfl, trivial⟩ (fun i H' _ z => SqL.of (z.1 _ _ ll.l)) (fun i u Hf Hg hi hq hy => ?_) (fun Hf hq => ?_)
      · obtain ⟨sf, acc, hD, al, sp2⟩ := hq
        obtain ⟨rfl, hxx⟩ := hy
        obtain ⟨z0, ez, t, rfl, htt⟩ := ll.at_.get hxx
        walk_at "rd"
        refine ⟨rfl, ?_⟩
        dsimp only [tYes]
        refine iteT ?_
        walk_at "rd"
        refine Rd.slA (SqT.of (sf _ _ htt)) fun q1 Hh sh hq1 => ?_
        rw [show (1 : Int) = ((1 : Nat) : Int) from rfl, Rd.cut_from (by show 1 ≤ 3; decide)] at hq1
        refine ⟨acc, sh _ _ hD, Nat.lt_of_lt_of_le (show _ < 100000 by omega) (by decide), same_set nD (sf.trans sh), acc ++ [.ref q1], upd_same, by rw [List.length_append, al]; rfl, ?_⟩
        rw [List.take_add_one, ez, Option.toList_some, List.map_append]
        exact (((sp2.same sh).butL (sh _ _ hD) But.set).app (us := [.ref q1]) (ys := [z0.2]) ⟨⟨q1, rfl, sqt_butL (sh _ _ hD) But.set hq1⟩, trivial⟩)
      obtain ⟨sf, acc, hD, al, sp2⟩ := hq
      rw [lnl, List.take_length, lk_ls] at sp2
      walk_at "rd"
      refine ⟨Rd.small (by show 3 ≤ 100000; decide), fun lo nlo => ?_⟩
      have slo := same_new (o := HO.lst ([optV (wv M R g), nv, V.ref D])) nlo
      have tlo := upd_same (H := Hf) (a := lo) (o := HO.lst ([optV (wv M R g), nv, V.ref D]))
      generalize upd Hf lo (HO.lst ([optV (wv M R g), nv, V.ref D])) = Hi at slo tlo ⊢
      walk_at "rd"
      have shw := lz_shw (M := M) (R := R) og few hwv
      have si := se.trans (sf.trans slo)
      refine ⟨lo, lzD (wv M R g) (_root_.K17.nd M R g) (ls M R g), rfl, .lst (SqL.of tlo) (.cons (opt_dd _) (.cons (need_dd (hnv.same (sf.trans slo))) (.cons (.lst (SqL.of (slo _ _ hD)) (spots_dds (sp2.same slo))) .nil))), shw.sw, shw.dp, Rd.small (Nat.le_trans shw.ln (by decide)), ?_⟩
      walk_at "rd"
      refine ⟨t2, _, rfl, .inr (hz1.ext si), fun l9 nl9 => ?_⟩
      have s9' := same_new (o := HO.lst [optV (wv M R g), nv2, V.ref L2]) nl9
      have t9' := upd_same (H := Hi) (a := l9) (o := HO.lst [optV (wv M R g), nv2, V.ref L2])
      generalize upd Hi l9 (HO.lst [optV (wv M R g), nv2, V.ref L2]) = Hj at s9' t9' ⊢
      have sj := si.trans s9'
      walk_at "rd"
      refine ⟨l9, lzD (wv M R g) (_root_.K17.nd M R g) (ls M R g), rfl, .lst (SqL.of t9') (.cons (opt_dd _) (.cons (need_dd (hz2.same sj)) (.cons (.lst (SqL.of (sj _ _ hz3)) (spots_dds (hz4.same sj))) .nil))), shw.sw, shw.dp, Rd.small (Nat.le_trans shw.ln (by decide)), ?_⟩
      walk_at "rd"
      refine Rd.ifB (fun z => ?_) (fun _ => ?_)
      · simp at z
      walk_at "rd"
      have sdj := sd.trans sj
      have sej := sf.trans (slo.trans s9')
      refine ⟨g, w1, l, M, R, rd, du, dh, dd, .ref A, rfl, gc.kp (kp_same sdj), og, by omega, few, hM, rws.same sdj, hR, hwv, an.same sej, fun Hk kf => ?_⟩
      walk_at "rd"
      refine iteF ?_
      walk_at "rd"
      have kfa : Kf K c Hc Hk := (kf_same sdj).trans kf
      refine ⟨⟨_, _, _, _, _, rfl⟩, ?_, kfa.fm og gc, tc.kf kfa, kp2_kf kc kfa⟩
      obtain ⟨x', y', ep, rr⟩ := pc
      exact ⟨x', y', kfa.oth ep (fun _ _ _ z => by cases z), rr⟩
    · obtain ⟨⟨c7, c8, c9, c10, c11, rfl⟩, pa, ga, ta, ka⟩ := hq
      walk_at "rd"
      exact q Ha pa ka
end
end K17

namespace K17
open PySem PySem.Spec PyProof.Rows L2
local macro_rules | `(tactic| walk_at "rd1") => `(tactic| first
  | (with_reducible refine Rd.seq ?_) | (with_reducible refine Rd.asg ?_) | (with_reducible refine Rd.ret ?_) | (with_reducible refine Rd.nxt ?_) | (with_reducible refine Rd.ifS ?_)
  | (with_reducible refine Rd.op ?_) | (with_reducible refine Rd.un ?_) | (with_reducible refine Rd.cb ?_) | (with_reducible refine Rd.cons ?_) | (with_reducible refine Rd.nil ?_) | (with_reducible refine Rd.ifx ?_)
  | (with_reducible refine Rd.test ?_) | (with_reducible refine Rd.testB ?_) | (with_reducible refine Rd.notT ?_) | (with_reducible refine Rd.isB ?_) | (with_reducible refine Rd.lst ?_) | (with_reducible refine Rd.tup ?_)
  | (with_reducible refine Rd.andV ?_) | (with_reducible refine Rd.orV ?_) | (with_reducible refine Rd.notV ?_) | (with_reducible refine Rd.andT ?_) | (with_reducible refine Rd.orT ?_) | (with_reducible refine Rd.chain ?_)
  | (with_reducible refine Rd.m0 ?_) | (with_reducible refine Rd.m1 ?_) | (with_reducible refine Rd.bm0 ?_) | (with_reducible refine Rd.bm ?_) | (with_reducible refine Rd.sl ?_) | (with_reducible refine Rd.part ?_) | (with_reducible refine Rd.part0 ?_) | (with_reducible refine Rd.isI ?_)
  | (with_reducible refine Rd.fmt ?_) | (with_reducible refine Rd.fmtRD ?_) | (with_reducible refine Rd.meth ?_) | (with_reducible refine makeG ?_) | (with_reducible refine Rd.prop ?_) | (with_reducible refine Rd.js ?_) | (with_reducible refine Rd.js0 ?_) | (with_reducible refine Rd.par ?_) | (with_reducible refine Rd.star ?_) | (with_reducible refine lcR1 ?_) | (with_reducible refine lcR2 ?_) | (with_reducible refine Rd.fld ?_) | (with_reducible refine Rd.sfld ?_) | (with_reducible refine Rd.expr ?_) | (with_reducible refine L2.isNR ?_) | (with_reducible refine L2.methI ?_) | (with_reducible refine Rd.forZ ?_)
  | (with_reducible refine Rd.forEA ?_) | (with_reducible refine Rd.forR1 ?_) | (with_reducible refine Rd.forR2 ?_) | (with_reducible refine Rd.forL ?_) | (with_reducible refine Rd.forT ?_)
  | (with_reducible refine Rd.call ?_) | (with_reducible refine Rd.asgG ?_) | (with_reducible refine Rd.gNm ?_) | (with_reducible refine Rd.gSb ?_) | (with_reducible refine Rd.gC ?_) | (with_reducible refine Rd.gN ?_)
  | ((with_reducible refine' Rd.var ?hv ?_); (case hv => exact rfl)) | (with_reducible refine Rd.c ?_) | (with_reducible refine Rd.i0 ?_) | (with_reducible refine Rd.neg ?_)
  | ((with_reducible refine' Rd.iC ?hc ?_); (case hc => first | (show (0 : Int) < _; decide) | exact ⟨by decide, by decide⟩ | exact ⟨by decide, by decide, by decide⟩ | exact .inl ⟨by decide, by decide⟩ | exact .inr ⟨by decide, by decide⟩ | exact .inl ⟨by omega, by omega⟩ | (show (0 : Int) < _; omega) | exact ⟨by omega, by omega⟩))
  | ((with_reducible refine' Rd.eqS ?hc ?_); (case hc => rfl)) | ((with_reducible refine' Rd.neS ?hc ?_); (case hc => rfl)))
local macro_rules | `(tactic| walk_at "rd") => `(tactic| repeat walk_at "rd1")
abbrev sLaw : Stmt := topA ilaw
def spLaw (K : PySem.W.Frag) : Sp := fun vs H Q _ => ∃ (a : Addr) (ns : List Int), vs = [.ref a] ∧ SqL K H a (ns.map V.int) ∧ ns.length ≤ 63 ∧ ∀ H', Q (.bl true) H'
theorem four (n : Nat) : ∃ J : Nat, J ≤ 4 ∧ (if (if (n : Int) < 4 then (n : Int) else 4) > 1 then (if (n : Int) < 4 then (n : Int) else 4) else 1) = (J : Int) := by
  by_cases h : (n : Int) < 4
  · rw [if_pos h]
    by_cases g : (n : Int) > 1
    · exact ⟨n, by omega, if_pos g⟩
    · exact ⟨1, by omega, if_neg g⟩
  · rw [if_neg h]
    exact ⟨4, by omega, rfl⟩
theorem sql_kg {K : PySem.W.Frag} {p : Addr} {H H' : Hp} {a : Addr} {xs : List V} (k : Kp2 K p H H') (ne : a ≠ p) (h : SqL K H a xs) : SqL K H' a xs := by
  rcases h with (h | ⟨o, h⟩) | h
  · exact .inl (.inl (k.oth ne h (fun _ _ _ z => by cases z)))
  · exact .inl (.inr ⟨o, k.oth ne h (fun _ _ _ z => by cases z)⟩)
  · exact .inr h
theorem sql_upd {K : PySem.W.Frag} {H : Hp} {a D : Addr} {o : HO} {xs : List V} (ne : a ≠ D) (h : SqL K H a xs) : SqL K (upd H D o) a xs := by
  rcases h with (h | ⟨o, h⟩) | h
  · exact .inl (.inl (by rw [upd_ne ne]; exact h))
  · exact .inl (.inr ⟨o, by rw [upd_ne ne]; exact h⟩)
  · exact .inr h
/-- a list that is there is not at a free place, or it stands in the text -/
theorem sql_ne {K : PySem.W.Frag} {H : Hp} {a D : Addr} {xs : List V} (h : SqL K H a xs) (hD : H D = none) : a ≠ D ∨ ∀ H' : Hp, SqL K H' a xs := by
  rcases h with (h | ⟨o, h⟩) | h
  · exact .inl (ne_of_none h hD)
  · exact .inl (ne_of_none h hD)
  · exact .inr fun H' => .inr h
abbrev nmsW : List Str := ["_law_script", "_law_k", "_law_pot_here", "_law_turn"]
section
variable {P : Program} {w : World} {K : PySem.W.Frag} {mg : Str → Option Value} {base : Heap} {f fP fR : Addr} {fd fdP fdR : FuncData}
theorem scLaw : FnScope nmsW ["_law_script"] (defScope sLaw) := ⟨rfl, rfl, rfl, by decide +kernel, rfl, by decide +kernel, by decide +kernel⟩
theorem ok_law (F : FnP K "law" sLaw f fd) (FP : FnP K "_law_pot" sPot fP fdP) (FR : FnP K "_law_right" sRight fR fdR) (GP : FnOk P w K mg base CX0 1 fP fdP ["_law_script", "_law_k"] (spPot K)) (GR : FnG P w K mg base CX0 60 fR fdR ["_law_pot_here"] (spRi K))
    (hP : mg "_law_pot" = some (.ref fP)) (hR : mg "_law_right" = some (.ref fR)) (gRange : mg "range" = none) (gMax : mg "max" = none) (gMin : mg "min" = none) (gLen : mg "len" = none) (gAll : mg "all" = none) : FnG P w K mg base CX0 61 f fd ["_law_script"] (spLaw K) := by
  have bP : Binds K fdP ["_law_script", "_law_k"] [] := FP.bindsN fun _ _ _ _ _ _ us hl => match us, hl with | [_, _], _ => rfl
  have bR : Binds K fdR ["_law_pot_here"] [] := FR.bindsN fun _ _ _ _ _ _ us hl => match us, hl with | [_], _ => rfl
  have nd := scLaw.nd
  refine F.okG scLaw (fun vs H Q E h => ?_) (fun cdv A outer s H vs Q E hgu hr h => ?_)
  · obtain ⟨a, ns, rfl, _⟩ := h
    rfl
  · obtain ⟨a, ns, rfl, hS, hl, q⟩ := h
    have r1 := hr.mono (show 1 ≤ 60 by decide)
    refine ⟨_, PSs.nox (pss_cons (ps_for PassesOwn.never rfl (pi_range1 rfl gRange (pa_cons (pe_callB (call_max2 rfl) rfl gMax boot_max (pa_cons pe_int (pa_cons (pe_callB (call_min2 rfl) rfl gMin (by decide +kernel) (pa_cons pe_int (pa_cons (pe_callB call_len rfl gLen boot_len (pa_cons (pv 0) pa_nil)) pa_nil))) pa_nil))) pa_nil)) (pg_name (i := 1) nd rfl (Or.inl rfl)) (pss_cons (ps_set (i := 2) nd rfl (Or.inr rfl) (pe_call GP r1 rfl hP FP.kp bP .nil pass0 (pa_cons (pv 0) (pa_cons (pv 1) pa_nil))))
        (pss_one (ps_if (pt_not (pt_val (pe_callB (cr_all rfl) rfl gAll (by decide +kernel) (pa_cons (pe_lc (own := [("_law_turn", 3)]) (g := gName 3) (tt := tYes) (te := tCall (spRi K) [] E0 (tCons (tVar 2) tNil)) rfl nd (pi_range1 rfl gRange (pa_cons pe_int pa_nil)) (blkOk_by (N := nmsW) (sc := defScope sLaw) (by decide +kernel)) (fun _ _ _ _ _ => by exact pg_name (i := 3) nd rfl (Or.inl rfl)) (fun _ _ _ _ _ => by exact pts_nil) (fun _ _ _ _ _ => by exact pe_callG GR hgu hr rfl hR FR.kp bR pass0 (pa_cons (pv 2) pa_nil))) pa_nil)))) (pss_one (ps_ret pe_bl)) pss_nil))))
        (pss_one (ps_ret pe_bl))), ?_⟩
    walk_at "rd"
    refine ⟨_, _, rfl, .inl ⟨_, hS, rfl⟩, ?_⟩
    walk_at "rd"
    refine ⟨_, _, rfl, ?_⟩
    walk_at "rd"
    refine ⟨_, _, rfl, ?_⟩
    walk_at "rd"
    obtain ⟨J, hJ, eJ⟩ := four (ns.map V.int).length
    refine ⟨_, rfl, by rw [eJ]; omega, by rw [eJ]; omega, ?_⟩
    rw [eJ]
    refine for_it walk_range (fun i σ H' => (∃ b e, σ = [some (V.ref a), b, e, none]) ∧ SqL K H' a (ns.map V.int)) ⟨⟨_, _, rfl⟩, hS⟩ (fun _ _ _ _ _ => trivial) (fun i x σ H' G hi h hy => ?_) (fun σ H' h => ?_)
    · obtain ⟨⟨b, e, rfl⟩, z⟩ := h
      obtain ⟨rfl, rfl⟩ := hy
      rw [Int.toNat_natCast] at hi
      walk_at "rd"
      refine ⟨a, ns, i, by show [V.ref a, V.int (0 + (i : Int))] ++ [] = _; rw [Int.zero_add]; rfl, z, hl, by omega, fun p H2 hp s2 pt2 => ?_⟩
      walk_at "rd"
      refine ⟨4, rfl, by decide, by decide, ?_⟩
      rw [show (4 : Int).toNat = 4 from rfl]
      have z2 : SqL K H2 a (ns.map V.int) := z.ext s2
      have nap := sql_ne z hp
      have keep : ∀ {H3 H4 : Hp}, SqL K H3 a (ns.map V.int) → Kp2 K p H3 H4 → SqL K H4 a (ns.map V.int) := fun h k => nap.elim (fun ne => sql_kg k ne h) fun al => al _
      have Dp : ∀ {D : Addr}, H2 D = none → D ≠ p := fun hD ep => by
        obtain ⟨_, _, hp, _⟩ := pt2
        rw [ep, hp] at hD
        cases hD
      refine lcGRa (fun D k acc H' => PotAt H' p ∧ SqL K H' a (ns.map V.int) ∧ acc = List.replicate k (V.bl true)) rfl trivial trivial (by decide) (fun D hD => ?_) (fun D k x acc H' Q' hD hk ex al hc j zz => ?_) (fun D acc H6 hD al j hc => ?_)
      · refine ⟨pot_same pt2 (same_new hD), ?_, rfl⟩
        exact (sql_ne z2 hD).elim (fun ne => sql_upd ne z2) fun al => al _
      · obtain ⟨jp, js, je⟩ := j
        walk_at "rd"
        refine ⟨p, rfl, jp, fun H3 p3 k3 => ?_⟩
        refine zz _ H3 (k3.oth (Dp hD) hc (fun _ _ _ z => by cases z)) ⟨?_, ?_, ?_⟩
        · obtain ⟨x, y, hp, w⟩ := p3
          exact ⟨x, y, by rw [upd_ne (Dp hD).symm]; exact hp, w⟩
        · exact (sql_ne z2 hD).elim (fun ne => sql_upd ne (keep js k3)) fun al => al _
        · rw [je, List.replicate_succ']
      obtain ⟨jp, js, je⟩ := j
      subst je
      walk_at "rd"
      refine ⟨D, List.replicate 4 true, rfl, SqL.of (by rw [hc]; rfl), ?_⟩
      walk_at "rd"
      refine iteF ?_
      walk_at "rd"
      exact ⟨⟨_, _, rfl⟩, js⟩
    · obtain ⟨⟨b, e, rfl⟩, z⟩ := h
      walk_at "rd"
      exact q _
end
end K17

namespace K17
open PySem PySem.Spec PyProof.Rows L2
def csK (K : PySem.W.Frag) : Cs := ⟨He.ga K "Number", fun w => He.ga K (refName w), fun o => He.ga K (pairName o), He.ga K "Choice"⟩
theorem ref_mem : ∀ w, refName w ∈ conc
  | 0 => by decide +kernel
  | 1 => by decide +kernel
  | _ + 2 => by show ("Down" : Str) ∈ conc; decide +kernel
theorem pair_mem : ∀ o, pairName o ∈ conc
  | 0 => by decide +kernel
  | 1 => by decide +kernel
  | 2 => by decide +kernel
  | _ + 3 => by show ("Same" : Str) ∈ conc; decide +kernel
theorem name_mem : ∀ f : Fm, nameOf f ∈ conc
  | .num _ => by show ("Number" : Str) ∈ conc; decide +kernel
  | .ref w _ => ref_mem w
  | .pair o _ _ => pair_mem o
  | .cho .. => by show ("Choice" : Str) ∈ conc; decide +kernel
theorem cls_name {K : PySem.W.Frag} (f : Fm) : clsOf (csK K) f = He.ga K (nameOf f) := by cases f <;> rfl
theorem ref_has : ∀ w, (["Here", "Up", "Down"] : List Str).contains (refName w) = true
  | 0 => by decide +kernel
  | 1 => by decide +kernel
  | _ + 2 => by show (["Here", "Up", "Down"] : List Str).contains "Down" = true; decide +kernel
theorem pair_has : ∀ o, (["Here", "Up", "Down"] : List Str).contains (pairName o) = false
  | 0 => by decide +kernel
  | 1 => by decide +kernel
  | 2 => by decide +kernel
  | _ + 3 => by show (["Here", "Up", "Down"] : List Str).contains "Same" = false; decide +kernel
theorem isRef_has (f : Fm) : (["Here", "Up", "Down"] : List Str).contains (nameOf f) = isRef f := by
  cases f with
  | num => show (["Here", "Up", "Down"] : List Str).contains "Number" = false; decide +kernel
  | ref w s => exact ref_has w
  | pair o a b => exact pair_has o
  | cho => show (["Here", "Up", "Down"] : List Str).contains "Choice" = false; decide +kernel
theorem own_ok {K : PySem.W.Frag} {C f : Addr} {m : Str} (h : ownB K C f m = true) : OwnM K C m f := by
  obtain ⟨h1, h2⟩ := He.ba h
  exact ⟨He.eqO_ok h1, h2⟩
/-- what the head says of one class -/
structure One (K : PySem.W.Frag) (x : Str) : Prop where
  mem : ∀ m ∈ mems, OwnM K (He.ga K x) m (mF K m)
  rf : PySem.W.kitOne K (.ref (He.ga K x)) (.ref (He.ga K "Reference")) = some ((["Here", "Up", "Down"] : List Str).contains x)
theorem one_ok {K : PySem.W.Frag} {x : Str} (h : clsB K x = true) : One K x := by
  obtain ⟨h1, h8⟩ := He.ba h
  exact ⟨fun m hm => own_ok (List.all_eq_true.mp h1 m hm), of_decide_eq_true h8⟩
abbrev baseL : List Str := ["a", "b", "n", "u", "sum", "gap", "left", "x", "total", "zz", "kind"]
abbrev nameL : List Str := ("void" : Str) :: (baseL ++ List.map (fun (y : Str) => (y ++ ("z" : Str) : Str)) baseL)
theorem nam_ok : ∀ x ∈ nameL, x.length ≤ 8 ∧ x ∉ reserved ∧ Txt.isascii x = true ∧ Txt.isalpha x = true ∧ Txt.islower x = true ∧ PyData.strOk x = true ∧ (PyData.str x).shown.length ≤ 20 ∧ PyData.strOk (PyData.str x).shown = true := by decide +kernel
theorem nam_of {x : Str} (h : x ∈ nameL) : Nam x := by
  obtain ⟨a, b, c, d, e, f, g, i⟩ := nam_ok x h
  exact ⟨a, b, c, d, e, f, g, i⟩
theorem facts {P : Program} {w : World} {K : PySem.W.Frag} {h : Heap} {mg : Str → Option Value} {f : Addr} (X : K.In h) (G : h.Ns mainGlobals mg) (hfa : mg ("law" : Str) = some (.ref f)) (c : He.SaysW xf fa fn fp ts w K) :
    ∃ fd : FuncData, (∀ (s : Shared) (v : Value), BindsTo s fd ⟨[v], []⟩ [("_law_script", v)]) ∧ ∀ base : Heap, K.In base → base.Ns mainGlobals mg → FnG P w K mg base CX0 61 f fd ["_law_script"] (spLaw K) := by
  have cx := c.x
  have cd := c.d
  obtain ⟨sm, cx⟩ := He.ba cx
  obtain ⟨gt, cx⟩ := He.ba cx
  obtain ⟨cc, cx⟩ := He.ba cx
  obtain ⟨su, cx⟩ := He.ba cx
  obtain ⟨cb, cx⟩ := He.ba cx
  obtain ⟨wb, cx⟩ := He.ba cx
  obtain ⟨jb, ob⟩ := He.ba cx
  obtain ⟨gt1, gt2⟩ := He.ba gt
  obtain ⟨dBe, FBe⟩ := cd.def_ 0 (d := dTop iis_between "is_between") rfl
  have gBe := He.glo_ok X G (cd.fact 0 (f := .glo "is_between") rfl)
  obtain ⟨dIl, FIl⟩ := cd.def_ 1 (d := dTop iis_list "is_list") rfl
  have gIl := He.glo_ok X G (cd.fact 1 (f := .glo "is_list") rfl)
  obtain ⟨dIn, FIn⟩ := cd.def_ 2 (d := dTop iis_name "is_name") rfl
  have gIn := He.glo_ok X G (cd.fact 2 (f := .glo "is_name") rfl)
  obtain ⟨dIc, FIc⟩ := cd.def_ 3 (d := dTop iis_chosen "is_chosen") rfl
  have gIc := He.glo_ok X G (cd.fact 3 (f := .glo "is_chosen") rfl)
  obtain ⟨dCf, FCf⟩ := cd.def_ 4 (d := dTop i_check_formula "_check_formula") rfl
  have gCf := He.glo_ok X G (cd.fact 4 (f := .glo "_check_formula") rfl)
  obtain ⟨dPot, FPot⟩ := cd.def_ 5 (d := dTop i_law_pot "_law_pot") rfl
  have gPot := He.glo_ok X G (cd.fact 5 (f := .glo "_law_pot") rfl)
  obtain ⟨dDraw, FDraw⟩ := cd.def_ 6 (d := dTop i_law_draw "_law_draw") rfl
  have gDraw := He.glo_ok X G (cd.fact 6 (f := .glo "_law_draw") rfl)
  obtain ⟨dPick, FPick⟩ := cd.def_ 7 (d := dTop i_law_pick "_law_pick") rfl
  have gPick := He.glo_ok X G (cd.fact 7 (f := .glo "_law_pick") rfl)
  obtain ⟨dTk, FTk⟩ := cd.def_ 8 (d := dTop i_law_taken "_law_taken") rfl
  have gTk := He.glo_ok X G (cd.fact 8 (f := .glo "_law_taken") rfl)
  obtain ⟨dLeaf, FLeaf⟩ := cd.def_ 9 (d := dTop i_law_leaf "_law_leaf") rfl
  have gLeaf := He.glo_ok X G (cd.fact 9 (f := .glo "_law_leaf") rfl)
  obtain ⟨dPart, FPart⟩ := cd.def_ 10 (d := dTop i_law_part "_law_part") rfl
  have gPart := He.glo_ok X G (cd.fact 10 (f := .glo "_law_part") rfl)
  obtain ⟨dLF, FLF⟩ := cd.def_ 11 (d := dTop i_law_formula "_law_formula") rfl
  have gLF := He.glo_ok X G (cd.fact 11 (f := .glo "_law_formula") rfl)
  obtain ⟨dLJ, FLJ⟩ := cd.def_ 12 (d := dTop i_law_joined "_law_joined") rfl
  have gLJ := He.glo_ok X G (cd.fact 12 (f := .glo "_law_joined") rfl)
  obtain ⟨dLz, FLz⟩ := cd.def_ 13 (d := dTop i_law_lazy "_law_lazy") rfl
  have gLz := He.glo_ok X G (cd.fact 13 (f := .glo "_law_lazy") rfl)
  obtain ⟨dWr, FWr⟩ := cd.def_ 14 (d := dTop i_law_wrapped "_law_wrapped") rfl
  have gWr := He.glo_ok X G (cd.fact 14 (f := .glo "_law_wrapped") rfl)
  obtain ⟨dAn, FAn⟩ := cd.def_ 15 (d := dTop i_law_answer "_law_answer") rfl
  have gAn := He.glo_ok X G (cd.fact 15 (f := .glo "_law_answer") rfl)
  obtain ⟨dPR, FPR⟩ := cd.def_ 16 (d := dTop i_law_put_right "_law_put_right") rfl
  have gPR := He.glo_ok X G (cd.fact 16 (f := .glo "_law_put_right") rfl)
  obtain ⟨dRo, FRo⟩ := cd.def_ 17 (d := dTop i_law_rows "_law_rows") rfl
  have gRo := He.glo_ok X G (cd.fact 17 (f := .glo "_law_rows") rfl)
  obtain ⟨dRi, FRi⟩ := cd.def_ 18 (d := dTop i_law_right "_law_right") rfl
  have gRi := He.glo_ok X G (cd.fact 18 (f := .glo "_law_right") rfl)
  obtain ⟨dLaw, FLaw⟩ := cd.def_ 19 (d := dTop ilaw "law") rfl
  obtain ⟨dInit, FInit⟩ := cd.def_ 20 (d := dMeth iFormula "Formula" 0 "__init__") rfl
  obtain ⟨dEv, FEv⟩ := cd.def_ 21 (d := dMeth iFormula "Formula" 15 "_every") rfl
  obtain ⟨dWi, FWi⟩ := cd.def_ 22 (d := dMeth iFormula "Formula" 17 "_with_node") rfl
  obtain ⟨dPut, FPut⟩ := cd.def_ 23 (d := dMeth iFormula "Formula" 4 "put") rfl
  obtain ⟨dNo, FNo⟩ := cd.def_ 24 (d := dMeth iFormula "Formula" 2 "nodes") rfl
  obtain ⟨dWO, FWO⟩ := cd.def_ 25 (d := dMeth iFormula "Formula" 6 "work_out") rfl
  obtain ⟨dNd, FNd⟩ := cd.def_ 26 (d := dMeth iFormula "Formula" 7 "need") rfl
  obtain ⟨dMe, FMe⟩ := cd.def_ 27 (d := dMeth iFormula "Formula" 8 "met") rfl
  obtain ⟨dLk, FLk⟩ := cd.def_ 28 (d := dMeth iFormula "Formula" 9 "looked") rfl
  obtain ⟨dOfPlus, FOfPlus⟩ := cd.def_ 29 (d := dMeth iPlus "Plus" 3 "_of_parts") rfl
  obtain ⟨dOfLeast, FOfLeast⟩ := cd.def_ 30 (d := dMeth iLeast "Least" 3 "_of_parts") rfl
  obtain ⟨dOfMost, FOfMost⟩ := cd.def_ 31 (d := dMeth iMost "Most" 3 "_of_parts") rfl
  obtain ⟨dOfSame, FOfSame⟩ := cd.def_ 32 (d := dMeth iSame "Same" 3 "_of_parts") rfl
  obtain ⟨dOfChoice, FOfChoice⟩ := cd.def_ 33 (d := dMeth iChoice "Choice" 4 "_of_parts") rfl
  obtain ⟨dWNumber, FWNumber⟩ := cd.def_ 34 (d := dMeth iNumber "Number" 3 "_worth") rfl
  obtain ⟨dWReference, FWReference⟩ := cd.def_ 35 (d := dMeth iReference "Reference" 3 "_worth") rfl
  obtain ⟨dWPair, FWPair⟩ := cd.def_ 36 (d := dMeth iPair "Pair" 1 "_worth") rfl
  obtain ⟨dWChoice, FWChoice⟩ := cd.def_ 37 (d := dMeth iChoice "Choice" 3 "_worth") rfl
  obtain ⟨dJPlus, FJPlus⟩ := cd.def_ 38 (d := dMeth iPlus "Plus" 2 "joined") rfl
  obtain ⟨dJLeast, FJLeast⟩ := cd.def_ 39 (d := dMeth iLeast "Least" 2 "joined") rfl
  obtain ⟨dJMost, FJMost⟩ := cd.def_ 40 (d := dMeth iMost "Most" 2 "joined") rfl
  obtain ⟨dJSame, FJSame⟩ := cd.def_ 41 (d := dMeth iSame "Same" 2 "joined") rfl
  obtain ⟨dSNumber, FSNumber⟩ := cd.def_ 42 (d := dMeth iNumber "Number" 0 "__init__") rfl
  obtain ⟨dSReference, FSReference⟩ := cd.def_ 43 (d := dMeth iReference "Reference" 0 "__init__") rfl
  obtain ⟨dSHere, FSHere⟩ := cd.def_ 44 (d := dMeth iHere "Here" 0 "__init__") rfl
  obtain ⟨dSUp, FSUp⟩ := cd.def_ 45 (d := dMeth iUp "Up" 0 "__init__") rfl
  obtain ⟨dSDown, FSDown⟩ := cd.def_ 46 (d := dMeth iDown "Down" 0 "__init__") rfl
  obtain ⟨dSPair, FSPair⟩ := cd.def_ 47 (d := dMeth iPair "Pair" 0 "__init__") rfl
  obtain ⟨dSPlus, FSPlus⟩ := cd.def_ 48 (d := dMeth iPlus "Plus" 0 "__init__") rfl
  obtain ⟨dSLeast, FSLeast⟩ := cd.def_ 49 (d := dMeth iLeast "Least" 0 "__init__") rfl
  obtain ⟨dSMost, FSMost⟩ := cd.def_ 50 (d := dMeth iMost "Most" 0 "__init__") rfl
  obtain ⟨dSSame, FSSame⟩ := cd.def_ 51 (d := dMeth iSame "Same" 0 "__init__") rfl
  obtain ⟨dSChoice, FSChoice⟩ := cd.def_ 52 (d := dMeth iChoice "Choice" 0 "__init__") rfl
  have gRes := He.glo_ok X G (cd.fact 20 (f := .glo "RESERVED") rfl)
  have iLn := He.int_ok X G (cd.fact 21 (f := .int "LONGEST_NAME" 8) rfl)
  have iMn := He.int_ok X G (cd.fact 22 (f := .int "MAX_NODES" 40) rfl)
  have iMd := He.int_ok X G (cd.fact 23 (f := .int "MAX_DEPTH" 8) rfl)
  have iGn := He.int_ok X G (cd.fact 24 (f := .int "GREATEST_NUMBER" 8) rfl)
  have gFormula := He.glo_ok X G (cd.fact 25 (f := .glo "Formula") rfl)
  have gReference := He.glo_ok X G (cd.fact 26 (f := .glo "Reference") rfl)
  have gPair := He.glo_ok X G (cd.fact 27 (f := .glo "Pair") rfl)
  have gNumber := He.glo_ok X G (cd.fact 28 (f := .glo "Number") rfl)
  have gHere := He.glo_ok X G (cd.fact 29 (f := .glo "Here") rfl)
  have gUp := He.glo_ok X G (cd.fact 30 (f := .glo "Up") rfl)
  have gDown := He.glo_ok X G (cd.fact 31 (f := .glo "Down") rfl)
  have gPlus := He.glo_ok X G (cd.fact 32 (f := .glo "Plus") rfl)
  have gLeast := He.glo_ok X G (cd.fact 33 (f := .glo "Least") rfl)
  have gMost := He.glo_ok X G (cd.fact 34 (f := .glo "Most") rfl)
  have gSame := He.glo_ok X G (cd.fact 35 (f := .glo "Same") rfl)
  have gChoice := He.glo_ok X G (cd.fact 36 (f := .glo "Choice") rfl)
  have clNumber := He.cls_ok (cd.fact 37 (f := .cls "Number") rfl)
  have clHere := He.cls_ok (cd.fact 38 (f := .cls "Here") rfl)
  have clUp := He.cls_ok (cd.fact 39 (f := .cls "Up") rfl)
  have clDown := He.cls_ok (cd.fact 40 (f := .cls "Down") rfl)
  have clPlus := He.cls_ok (cd.fact 41 (f := .cls "Plus") rfl)
  have clLeast := He.cls_ok (cd.fact 42 (f := .cls "Least") rfl)
  have clMost := He.cls_ok (cd.fact 43 (f := .cls "Most") rfl)
  have clSame := He.cls_ok (cd.fact 44 (f := .cls "Same") rfl)
  have clChoice := He.cls_ok (cd.fact 45 (f := .cls "Choice") rfl)
  have mkNumber := He.mkr_ok (cd.fact 46 (f := .mkr "Number") rfl)
  have mkHere := He.mkr_ok (cd.fact 47 (f := .mkr "Here") rfl)
  have mkUp := He.mkr_ok (cd.fact 48 (f := .mkr "Up") rfl)
  have mkDown := He.mkr_ok (cd.fact 49 (f := .mkr "Down") rfl)
  have mkPlus := He.mkr_ok (cd.fact 50 (f := .mkr "Plus") rfl)
  have mkLeast := He.mkr_ok (cd.fact 51 (f := .mkr "Least") rfl)
  have mkMost := He.mkr_ok (cd.fact 52 (f := .mkr "Most") rfl)
  have mkSame := He.mkr_ok (cd.fact 53 (f := .mkr "Same") rfl)
  have mkChoice := He.mkr_ok (cd.fact 54 (f := .mkr "Choice") rfl)
  have b_len : mg "len" = none := He.free_ok X G (cd.fact 55 (f := .free "len") rfl)
  have b_abs : mg "abs" = none := He.free_ok X G (cd.fact 56 (f := .free "abs") rfl)
  have b_max : mg "max" = none := He.free_ok X G (cd.fact 57 (f := .free "max") rfl)
  have b_min : mg "min" = none := He.free_ok X G (cd.fact 58 (f := .free "min") rfl)
  have b_int : mg "int" = none := He.free_ok X G (cd.fact 59 (f := .free "int") rfl)
  have b_divmod : mg "divmod" = none := He.free_ok X G (cd.fact 60 (f := .free "divmod") rfl)
  have b_isinstance : mg "isinstance" = none := He.free_ok X G (cd.fact 61 (f := .free "isinstance") rfl)
  have b_bool : mg "bool" = none := He.free_ok X G (cd.fact 62 (f := .free "bool") rfl)
  have b_list : mg "list" = none := He.free_ok X G (cd.fact 63 (f := .free "list") rfl)
  have b_tuple : mg "tuple" = none := He.free_ok X G (cd.fact 64 (f := .free "tuple") rfl)
  have b_str : mg "str" = none := He.free_ok X G (cd.fact 65 (f := .free "str") rfl)
  have b_repr : mg "repr" = none := He.free_ok X G (cd.fact 66 (f := .free "repr") rfl)
  have b_enumerate : mg "enumerate" = none := He.free_ok X G (cd.fact 67 (f := .free "enumerate") rfl)
  have b_range : mg "range" = none := He.free_ok X G (cd.fact 68 (f := .free "range") rfl)
  have b_all : mg "all" = none := He.free_ok X G (cd.fact 69 (f := .free "all") rfl)
  have b_zip : mg "zip" = none := He.free_ok X G (cd.fact 70 (f := .free "zip") rfl)
  have b_sorted : mg "sorted" = none := He.free_ok X G (cd.fact 71 (f := .free "sorted") rfl)
  have e := hfa.symm.trans (He.glo_ok X G (cd.fact 19 (f := .glo "law") rfl))
  cases e
  have cfn : ∀ x ∈ supC, CFn K (He.ga K x) "__init__" (He.ma K (He.ga K x) "__init__") := fun x hx => He.cfn_ok (List.all_eq_true.mp su x hx)
  have cF := cfn "Formula" (by decide +kernel)
  have cR := cfn "Reference" (by decide +kernel)
  have cP := cfn "Pair" (by decide +kernel)
  obtain ⟨rsD, rsM⟩ := c.tab 0 (t := (fun K => He.ga K "RESERVED", reserved)) rfl
  have one : ∀ f : Fm, One K (nameOf f) := fun f => one_ok (List.all_eq_true.mp cb _ (name_mem f))
  have fc : ∀ x ∈ conc, Cls K (He.ga K x) → Fc K (He.ga K x) := fun x hx cl => ⟨cl, fun f hf => by
    have z := (He.ba (List.all_eq_true.mp cc x hx)).1
    exact He.eqO_ok (List.all_eq_true.mp z f hf)⟩
  have ki : ∀ x ∈ conc, PySem.W.findIn K (.ref (He.ga K x)) "__class__" = some (some (.builtin "object.__class__")) ∧ PySem.W.mroIn K (He.ga K x) (.type "object") = some true ∧ PySem.W.kitOne K (.ref (He.ga K x)) (.ref (He.ga K "Formula")) = some true := fun x hx => by
    have z := (He.ba (List.all_eq_true.mp cc x hx)).2
    obtain ⟨z1, z⟩ := He.ba z
    obtain ⟨z2, z3⟩ := He.ba z
    exact ⟨He.eqO_ok z1, of_decide_eq_true z2, of_decide_eq_true z3⟩
  have T : Cl K (csK K) := ⟨fc "Number" (by decide +kernel) clNumber, fun w => match w with
    | 0 => fc "Here" (by decide +kernel) clHere
    | 1 => fc "Up" (by decide +kernel) clUp
    | _ + 2 => fc "Down" (by decide +kernel) clDown, fun o => match o with
    | 0 => fc "Plus" (by decide +kernel) clPlus
    | 1 => fc "Least" (by decide +kernel) clLeast
    | 2 => fc "Most" (by decide +kernel) clMost
    | _ + 3 => fc "Same" (by decide +kernel) clSame, fc "Choice" (by decide +kernel) clChoice⟩
  have B : Fb K mg (csK K) (He.ga K "Formula") := ⟨gFormula, He.eqO_ok gt1, of_decide_eq_true gt2, fun f => by rw [cls_name]; exact (ki _ (name_mem f)).1, fun f => by rw [cls_name]; exact (ki _ (name_mem f)).2.1, fun f => by rw [cls_name]; exact (ki _ (name_mem f)).2.2⟩
  have own : ∀ m ∈ mems, ∀ g, OwnM K (clsOf (csK K) g) m (mF K m) := fun m hm g => by rw [cls_name]; exact (one g).mem m hm
  have kR : ∀ f, Okf f → PySem.W.kitOne K (.ref (clsOf (csK K) f)) (.ref (He.ga K "Reference")) = some (isRef f) := fun f _ => by rw [cls_name, (one f).rf, isRef_has]
  have gs : Gs K w mg := ⟨⟨_, gRes, rsD, rsM⟩, iLn⟩
  have gf : Gf mg := ⟨iMn, iMd, iGn⟩
  have nV : Nam "void" := nam_of (by decide +kernel)
  have NM : ∀ y ∈ (["a", "b", "n", "u", "sum", "gap", "left", "x", "total", "zz", "kind"] : List Str), Nam y ∧ Nam (y ++ "z") := fun y hy => ⟨nam_of (.tail _ (List.mem_append_left _ hy)), nam_of (.tail _ (List.mem_append_right _ (List.mem_map_of_mem hy)))⟩
  have b := FunD.bindsA (ps := ["_law_script"]) FLaw fun _ _ _ _ _ _ us hl => match us, hl with | [_], _ => rfl
  have bNo : Binds K dNo ["self"] [] := FNo.bindsN fun _ _ _ _ _ _ us hl => match us, hl with | [_], _ => rfl
  have bWO : Binds K dWO ["self", "modulus", "above", "own", "below"] [] := FWO.bindsN fun _ _ _ _ _ _ us hl => match us, hl with | [_, _, _, _, _], _ => rfl
  have bNd : Binds K dNd ["self", "modulus", "above", "own", "below"] [] := FNd.bindsN fun _ _ _ _ _ _ us hl => match us, hl with | [_, _, _, _, _], _ => rfl
  have bMe : Binds K dMe ["self", "modulus", "above", "own", "below"] [] := FMe.bindsN fun _ _ _ _ _ _ us hl => match us, hl with | [_, _, _, _, _], _ => rfl
  have bLk : Binds K dLk ["self", "modulus", "above", "own", "below"] [] := FLk.bindsN fun _ _ _ _ _ _ us hl => match us, hl with | [_, _, _, _, _], _ => rfl
  have bJPlus : Binds K dJPlus ["self", "left", "right", "modulus"] [] := FJPlus.bindsN fun _ _ _ _ _ _ us hl => match us, hl with | [_, _, _, _], _ => rfl
  have bJLeast : Binds K dJLeast ["self", "left", "right", "modulus"] [] := FJLeast.bindsN fun _ _ _ _ _ _ us hl => match us, hl with | [_, _, _, _], _ => rfl
  have bJMost : Binds K dJMost ["self", "left", "right", "modulus"] [] := FJMost.bindsN fun _ _ _ _ _ _ us hl => match us, hl with | [_, _, _, _], _ => rfl
  have bJSame : Binds K dJSame ["self", "left", "right", "modulus"] [] := FJSame.bindsN fun _ _ _ _ _ _ us hl => match us, hl with | [_, _, _, _], _ => rfl
  have bEv : Binds K dEv ["self"] [] := FEv.bindsN fun _ _ _ _ _ _ us hl => match us, hl with | [_], _ => rfl
  have bWi : Binds K dWi ["self", "number", "formula"] [] := FWi.bindsN fun _ _ _ _ _ _ us hl => match us, hl with | [_, _, _], _ => rfl
  have bPut : Binds K dPut ["self", "number", "formula"] [] := FPut.bindsN fun _ _ _ _ _ _ us hl => match us, hl with | [_, _, _], _ => rfl
  have bOfPlus : Binds K dOfPlus ["self", "parts"] [] := FOfPlus.bindsN fun _ _ _ _ _ _ us hl => match us, hl with | [_, _], _ => rfl
  have bOfLeast : Binds K dOfLeast ["self", "parts"] [] := FOfLeast.bindsN fun _ _ _ _ _ _ us hl => match us, hl with | [_, _], _ => rfl
  have bOfMost : Binds K dOfMost ["self", "parts"] [] := FOfMost.bindsN fun _ _ _ _ _ _ us hl => match us, hl with | [_, _], _ => rfl
  have bOfSame : Binds K dOfSame ["self", "parts"] [] := FOfSame.bindsN fun _ _ _ _ _ _ us hl => match us, hl with | [_, _], _ => rfl
  have bOfChoice : Binds K dOfChoice ["self", "parts"] [] := FOfChoice.bindsN fun _ _ _ _ _ _ us hl => match us, hl with | [_, _], _ => rfl
  have bSNumber : Binds K dSNumber ["self", "value"] [] := FSNumber.bindsN fun _ _ _ _ _ _ us hl => match us, hl with | [_, _], _ => rfl
  have bSHere : Binds K dSHere ["self", "column"] [] := FSHere.bindsN fun _ _ _ _ _ _ us hl => match us, hl with | [_, _], _ => rfl
  have bSUp : Binds K dSUp ["self", "column"] [] := FSUp.bindsN fun _ _ _ _ _ _ us hl => match us, hl with | [_, _], _ => rfl
  have bSDown : Binds K dSDown ["self", "column"] [] := FSDown.bindsN fun _ _ _ _ _ _ us hl => match us, hl with | [_, _], _ => rfl
  have bSPlus : Binds K dSPlus ["self", "left", "right"] [] := FSPlus.bindsN fun _ _ _ _ _ _ us hl => match us, hl with | [_, _, _], _ => rfl
  have bSLeast : Binds K dSLeast ["self", "left", "right"] [] := FSLeast.bindsN fun _ _ _ _ _ _ us hl => match us, hl with | [_, _, _], _ => rfl
  have bSMost : Binds K dSMost ["self", "left", "right"] [] := FSMost.bindsN fun _ _ _ _ _ _ us hl => match us, hl with | [_, _, _], _ => rfl
  have bSSame : Binds K dSSame ["self", "left", "right"] [] := FSSame.bindsN fun _ _ _ _ _ _ us hl => match us, hl with | [_, _, _], _ => rfl
  have bSChoice : Binds K dSChoice ["self", "test", "chosen", "then", "other"] [] := FSChoice.bindsN fun _ _ _ _ _ _ us hl => match us, hl with | [_, _, _, _, _], _ => rfl
  refine ⟨dLaw, fun s v => b s [v] rfl, fun base _ _ => ?_⟩
  have GBe := ok_between (P := P) (w := w) (mg := mg) (base := base) FBe b_isinstance b_int b_bool
  have GIl := ok_isList (P := P) (w := w) (mg := mg) (base := base) FIl b_isinstance b_list b_tuple
  have GIn := ok_isName (P := P) (w := w) (mg := mg) (base := base) FIn gs b_isinstance b_str b_len
  have GIc := ok_chosen (P := P) (w := w) (mg := mg) (base := base) FIc FIl FBe GIl GBe gIl gBe gf
  have GCf := ok_checkF (P := P) (w := w) (mg := mg) (base := base) FCf T B b_isinstance
  have GInit := ok_initF (P := P) (w := w) (mg := mg) (base := base) FInit gf
  have GNum := ok_num (P := P) (w := w) (mg := mg) (base := base) (C := (csK K).num) FSNumber T.num gf FInit gFormula cF GInit FBe GBe gBe
  have GRefI := ok_ref (P := P) (w := w) (mg := mg) (base := base) FSReference T FInit gFormula cF GInit FIn GIn gIn
  have GHere := ok_here (P := P) (w := w) (mg := mg) (base := base) (c := csK K) FSHere FSReference gReference cR GRefI
  have GUp := ok_up (P := P) (w := w) (mg := mg) (base := base) (c := csK K) FSUp FSReference gReference cR GRefI
  have GDown := ok_down (P := P) (w := w) (mg := mg) (base := base) (c := csK K) FSDown FSReference gReference cR GRefI
  have GPairI := ok_pair (P := P) (w := w) (mg := mg) (base := base) FSPair T FInit gFormula cF GInit FCf GCf gCf
  have GPlus := ok_plus (P := P) (w := w) (mg := mg) (base := base) (c := csK K) FSPlus FSPair gPair cP GPairI
  have GLeast := ok_least (P := P) (w := w) (mg := mg) (base := base) (c := csK K) FSLeast FSPair gPair cP GPairI
  have GMost := ok_most (P := P) (w := w) (mg := mg) (base := base) (c := csK K) FSMost FSPair gPair cP GPairI
  have GSame := ok_same (P := P) (w := w) (mg := mg) (base := base) (c := csK K) FSSame FSPair gPair cP GPairI
  have GCho := ok_cho (P := P) (w := w) (mg := mg) (base := base) (c := csK K) FSChoice T FInit gFormula cF GInit FCf GCf gCf FIc GIc gIc b_tuple
  have M : Mks P w K mg base (csK K) := ⟨⟨_, _, gNumber, mkNumber, GNum.mono (by decide), bSNumber⟩, fun i hi => match i, hi with
    | 0, _ => ⟨_, _, gHere, mkHere, GHere, bSHere⟩
    | 1, _ => ⟨_, _, gUp, mkUp, GUp, bSUp⟩
    | 2, _ => ⟨_, _, gDown, mkDown, GDown, bSDown⟩, fun i hi => match i, hi with
    | 0, _ => ⟨_, _, gPlus, mkPlus, GPlus, bSPlus⟩
    | 1, _ => ⟨_, _, gLeast, mkLeast, GLeast, bSLeast⟩
    | 2, _ => ⟨_, _, gMost, mkMost, GMost, bSMost⟩
    | 3, _ => ⟨_, _, gSame, mkSame, GSame, bSSame⟩, ⟨_, _, gChoice, mkChoice, GCho, bSChoice⟩⟩
  have meth : ∀ m ∈ mems, PySem.W.keepIn K (.ref (mF K m)) = true → ∀ g, Meth K (clsOf (csK K) g) m (mF K m) := fun m hm kp g => ⟨(own m hm g).find, (own m hm g).fn, kp⟩
  have mEv := meth "_every" (by decide +kernel) FEv.kp
  have mWi := meth "_with_node" (by decide +kernel) FWi.kp
  have mPut := meth "put" (by decide +kernel) FPut.kp
  have GEv := ok_every (P := P) (w := w) (mg := mg) (base := base) FEv T mEv 17
  have ofO : ∀ x ∈ ofC, OwnM K (He.ga K x) "_of_parts" (He.ma K (He.ga K x) "_of_parts") := fun x hx => own_ok (List.all_eq_true.mp ob x hx)
  have GWi := ok_with (P := P) (w := w) (mg := mg) (base := base) FWi T mWi (fO := fun i => match i with
    | none => He.ma K (He.ga K "Choice") "_of_parts"
    | some ⟨0, _⟩ => He.ma K (He.ga K "Plus") "_of_parts"
    | some ⟨1, _⟩ => He.ma K (He.ga K "Least") "_of_parts"
    | some ⟨2, _⟩ => He.ma K (He.ga K "Most") "_of_parts"
    | some ⟨3, _⟩ => He.ma K (He.ga K "Same") "_of_parts") (fdO := fun i => match i with
    | none => dOfChoice
    | some ⟨0, _⟩ => dOfPlus
    | some ⟨1, _⟩ => dOfLeast
    | some ⟨2, _⟩ => dOfMost
    | some ⟨3, _⟩ => dOfSame) (fun i => match i with
    | none => ⟨(ofO "Choice" (by decide +kernel)).find, (ofO "Choice" (by decide +kernel)).fn, FOfChoice.kp⟩
    | some ⟨0, _⟩ => ⟨(ofO "Plus" (by decide +kernel)).find, (ofO "Plus" (by decide +kernel)).fn, FOfPlus.kp⟩
    | some ⟨1, _⟩ => ⟨(ofO "Least" (by decide +kernel)).find, (ofO "Least" (by decide +kernel)).fn, FOfLeast.kp⟩
    | some ⟨2, _⟩ => ⟨(ofO "Most" (by decide +kernel)).find, (ofO "Most" (by decide +kernel)).fn, FOfMost.kp⟩
    | some ⟨3, _⟩ => ⟨(ofO "Same" (by decide +kernel)).find, (ofO "Same" (by decide +kernel)).fn, FOfSame.kp⟩) (fun i => match i with
    | none => ok_ofChoice (P := P) (w := w) (mg := mg) (base := base) FOfChoice T M
    | some ⟨0, _⟩ => ok_ofPlus (P := P) (w := w) (mg := mg) (base := base) FOfPlus M
    | some ⟨1, _⟩ => ok_ofLeast (P := P) (w := w) (mg := mg) (base := base) FOfLeast M
    | some ⟨2, _⟩ => ok_ofMost (P := P) (w := w) (mg := mg) (base := base) FOfMost M
    | some ⟨3, _⟩ => ok_ofSame (P := P) (w := w) (mg := mg) (base := base) FOfSame M) (fun i => match i with
    | none => bOfChoice
    | some ⟨0, _⟩ => bOfPlus
    | some ⟨1, _⟩ => bOfLeast
    | some ⟨2, _⟩ => bOfMost
    | some ⟨3, _⟩ => bOfSame) 17
  have GPut := ok_put (P := P) (w := w) (mg := mg) (base := base) (n := 17) FPut T gf FBe GBe gBe FCf GCf gCf mEv GEv bEv mWi GWi bWi
  have mNo := meth "nodes" (by decide +kernel) FNo.kp
  have mWO := meth "work_out" (by decide +kernel) FWO.kp
  have mNd := meth "need" (by decide +kernel) FNd.kp
  have mMe := meth "met" (by decide +kernel) FMe.kp
  have mLk := meth "looked" (by decide +kernel) FLk.kp
  have wt : ∀ s ∈ wts, OwnM K (He.ga K s.1) "_worth" (He.ma K (He.ga K s.2) "_worth") := fun s hs => own_ok (List.all_eq_true.mp wb s hs)
  have jt : ∀ x ∈ joC, OwnM K (He.ga K x) "joined" (He.ma K (He.ga K x) "joined") := fun x hx => own_ok (List.all_eq_true.mp jb x hx)
  have mk : ∀ {C f : Addr} {m : Str}, OwnM K C m f → PySem.W.keepIn K (.ref f) = true → Meth K C m f := fun o kp => ⟨o.find, o.fn, kp⟩
  let fW : Fin 4 → Addr := fun i => match i with
    | ⟨0, _⟩ => He.ma K (He.ga K "Number") "_worth"
    | ⟨1, _⟩ => He.ma K (He.ga K "Reference") "_worth"
    | ⟨2, _⟩ => He.ma K (He.ga K "Pair") "_worth"
    | ⟨3, _⟩ => He.ma K (He.ga K "Choice") "_worth"
  let fdW : Fin 4 → FuncData := fun i => match i with
    | ⟨0, _⟩ => dWNumber
    | ⟨1, _⟩ => dWReference
    | ⟨2, _⟩ => dWPair
    | ⟨3, _⟩ => dWChoice
  let fJ : Fin 4 → Addr := fun i => match i with
    | ⟨0, _⟩ => He.ma K (He.ga K "Plus") "joined"
    | ⟨1, _⟩ => He.ma K (He.ga K "Least") "joined"
    | ⟨2, _⟩ => He.ma K (He.ga K "Most") "joined"
    | ⟨3, _⟩ => He.ma K (He.ga K "Same") "joined"
  let fdJ : Fin 4 → FuncData := fun i => match i with
    | ⟨0, _⟩ => dJPlus
    | ⟨1, _⟩ => dJLeast
    | ⟨2, _⟩ => dJMost
    | ⟨3, _⟩ => dJSame
  have mW : ∀ g, Meth K (clsOf (csK K) g) "_worth" (fW (kd g)) := fun g => match g with
    | .num _ => mk (wt ("Number", "Number") (by decide +kernel)) FWNumber.kp
    | .ref 0 _ => mk (wt ("Here", "Reference") (by decide +kernel)) FWReference.kp
    | .ref 1 _ => mk (wt ("Up", "Reference") (by decide +kernel)) FWReference.kp
    | .ref (_ + 2) _ => mk (wt ("Down", "Reference") (by decide +kernel)) FWReference.kp
    | .pair 0 _ _ => mk (wt ("Plus", "Pair") (by decide +kernel)) FWPair.kp
    | .pair 1 _ _ => mk (wt ("Least", "Pair") (by decide +kernel)) FWPair.kp
    | .pair 2 _ _ => mk (wt ("Most", "Pair") (by decide +kernel)) FWPair.kp
    | .pair (_ + 3) _ _ => mk (wt ("Same", "Pair") (by decide +kernel)) FWPair.kp
    | .cho .. => mk (wt ("Choice", "Choice") (by decide +kernel)) FWChoice.kp
  have mJ : ∀ o : Fin 4, Meth K ((csK K).pair o.val) "joined" (fJ o) := fun o => match o with
    | ⟨0, _⟩ => mk (jt "Plus" (by decide +kernel)) FJPlus.kp
    | ⟨1, _⟩ => mk (jt "Least" (by decide +kernel)) FJLeast.kp
    | ⟨2, _⟩ => mk (jt "Most" (by decide +kernel)) FJMost.kp
    | ⟨3, _⟩ => mk (jt "Same" (by decide +kernel)) FJSame.kp
  have GJ : ∀ o, FnOk P w K mg base CX0 1 (fJ o) (fdJ o) psJ (spJ o) := fun o => match o with
    | ⟨0, _⟩ => ok_jP (P := P) (w := w) (mg := mg) (base := base) FJPlus
    | ⟨1, _⟩ => ok_jL (P := P) (w := w) (mg := mg) (base := base) FJLeast b_min
    | ⟨2, _⟩ => ok_jM (P := P) (w := w) (mg := mg) (base := base) FJMost b_max
    | ⟨3, _⟩ => ok_jS (P := P) (w := w) (mg := mg) (base := base) FJSame
  have bJ : ∀ o, Binds K (fdJ o) psJ [] := fun o => match o with
    | ⟨0, _⟩ => bJPlus
    | ⟨1, _⟩ => bJLeast
    | ⟨2, _⟩ => bJMost
    | ⟨3, _⟩ => bJSame
  have bW : ∀ k, Binds K (fdW k) psW [] := fun k => match k with
    | ⟨0, _⟩ => FWNumber.bindsN fun _ _ _ _ _ _ us hl => match us, hl with | [_, _, _], _ => rfl
    | ⟨1, _⟩ => FWReference.bindsN fun _ _ _ _ _ _ us hl => match us, hl with | [_, _, _], _ => rfl
    | ⟨2, _⟩ => FWPair.bindsN fun _ _ _ _ _ _ us hl => match us, hl with | [_, _, _], _ => rfl
    | ⟨3, _⟩ => FWChoice.bindsN fun _ _ _ _ _ _ us hl => match us, hl with | [_, _, _], _ => rfl
  have GW := ok_worth (P := P) (w := w) (mg := mg) (base := base) (c := csK K) (fW := fW) (fJ := fJ) (fdW := fdW) (fdJ := fdJ) T FWNumber FWReference FWPair FWChoice mW mJ GJ bJ 17
  have GLk := ok_looked (P := P) (w := w) (mg := mg) (base := base) FLk T mW 17 GW bW
  have GWO := ok_wo (P := P) (w := w) (mg := mg) (base := base) FWO T mLk 17 GLk bLk
  have GNd := ok_need (P := P) (w := w) (mg := mg) (base := base) FNd T mLk 17 GLk bLk
  have GMe := ok_met (P := P) (w := w) (mg := mg) (base := base) FMe T mLk 17 GLk bLk
  have GNo := ok_nodes (P := P) (w := w) (mg := mg) (base := base) FNo T mEv GEv bEv b_enumerate
  have GPot := ok_pot (P := P) (w := w) (mg := mg) (base := base) FPot b_len b_abs b_max b_int
  have GDraw := ok_draw (P := P) (w := w) (mg := mg) (base := base) FDraw b_divmod b_int
  have GPick := ok_pick (P := P) (w := w) (mg := mg) (base := base) FPick FDraw gDraw b_len b_divmod b_int
  have GLeaf := ok_leaf (P := P) (w := w) (mg := mg) (base := base) FLeaf FDraw GDraw gDraw FPick GPick gPick
  have GPart := ok_part (P := P) (w := w) (mg := mg) (base := base) FPart gPart FDraw GDraw gDraw FPick GPick gPick FLeaf GLeaf gLeaf b_tuple b_range 7
  have GLF := ok_lf (P := P) (w := w) (mg := mg) (base := base) FLF M gLF 17
  have GTk := ok_taken2 (P := P) (w := w) (mg := mg) (base := base) FTk FDraw GDraw gDraw b_len b_list b_range
  have GLJ := ok_lj (P := P) (w := w) (mg := mg) (base := base) FLJ b_int b_min b_max
  have GLz := ok_lz (P := P) (w := w) (mg := mg) (base := base) FLz gLz FLJ GLJ gLJ 17
  have GWr := ok_wrap (P := P) (w := w) (mg := mg) (base := base) FWr FPick GPick gPick b_tuple b_range
  have GAn := ok_ans (P := P) (w := w) (mg := mg) (base := base) FAn T 17 GWO bWO mWO GNd bNd mNd GMe bMe mMe
  have GPR := ok_pr (P := P) (w := w) (mg := mg) (base := base) FPR T B kR 17 FAn GAn gAn GPut bPut mPut GNo bNo mNo ⟨gHere, mkHere, GHere, bSHere⟩ gReference b_isinstance b_list b_repr b_all sm (by decide) nV
  have GRo := ok_rows (P := P) (w := w) (mg := mg) (base := base) FRo FDraw GDraw gDraw
  have GRi := ok_ri (P := P) (w := w) (mg := mg) (base := base) FRi T FDraw GDraw gDraw FTk GTk gTk FPart (GPart.mono (by decide)) gPart FWr GWr gWr FLF (GLF.mono (by decide)) gLF FRo GRo gRo FLz (GLz.mono (by decide)) gLz FAn (GAn.mono (by decide)) gAn FPR (GPR.mono (by decide)) gPR b_range b_list b_repr sm NM
  exact ok_law (P := P) (w := w) (mg := mg) (base := base) FLaw FPot FRi GPot GRi gPot gRi b_range b_max b_min b_len b_all
end K17
open PySem PySem.W PySem.Calls PyProof.Rows
theorem PySem.Challenge.cw_belowneeds_k17_whole_lazy_choices_holds : PySem.Challenge.rw_belowneeds_k17_whole_lazy_choices.Holds := by
  w_on; o_law
  refine HandSHeadRun.head_any (r := OpenLaw.row PySem.Challenge.rw_belowneeds_k17_whole_lazy_choices) (q := view (OpenLaw.row PySem.Challenge.rw_belowneeds_k17_whole_lazy_choices).prog [K17.topI]) (H := K17.hk) (ob := K17.ob) (M := 12000) (loose := K17.loose)
    (d := HandSHeadRun.topDef (OpenLaw.row PySem.Challenge.rw_belowneeds_k17_whole_lazy_choices).prog K17.topI) (kwd := []) K17.ob_eq
    (by kernel_rfl) (fun s => by kernel_rfl) K17.run (by kernel_rfl) (by kernel_rfl) (by kernel_rfl) (by rfl) (by first | assumption | decide +kernel) (by decide +kernel) ⟨rfl, rfl, rfl, rfl, rfl, by decide +kernel⟩ ?hw ?hc
  case hw => w_witness2
  case hc =>
    refine L2.walk_ofG (l := PySem.Challenge.rw_belowneeds_k17_whole_lazy_choices) (n := 63) (k := 61) (x := "_law_script") (CX := L2.CX0) rfl (by decide) (by kernel_rfl) ⟨rfl, by decide, by decide⟩ ?F (fun _ _ _ _ z => z)
    intro w mg fa h Y G hmg0
    obtain ⟨K, KX, c⟩ := Y
    have hmg : mg ("law" : PySem.Str) = some (.ref fa) := by
      have e : (HandSHeadRun.topDef (OpenLaw.row PySem.Challenge.rw_belowneeds_k17_whole_lazy_choices).prog K17.topI).name = ("law" : PySem.Str) := by kernel_rfl
      rw [← e]
      exact hmg0
    obtain ⟨fd, hb, hF⟩ := K17.facts (P := (PySem.Challenge.rw_belowneeds_k17_whole_lazy_choices).prog) (w := w) KX G hmg c
    exact ⟨K, fd, K17.spLaw K, KX, hb, fun H a ns hl hS => ⟨a, ns, rfl, hS, hl, fun _ => rfl⟩, hF⟩
